/-
  Parts of the proof, one behind the other; what each proves stands at its head.
-/
import Derived.Test.YteckjkblngmenaaGreatDoorPart14
import Derived.Test.YteckjkblngmenaaGreatDoorPart15
import Derived.Test.YteckjkblngmenaaGreatDoorPart5

/-
  What oplog's Open does is proved here: it answers what the file's bytes tell ('Tl'), the file trimmed, or left.
-/
namespace Go.Proofs.YteckjkblngmenaaGreatDoor
open Go.RowKit
set_option linter.unusedVariables false
set_option maxRecDepth 100000

/-- A file's own blocks. -/
def Fb (fb : Nat) (fv : Value) (k : Nat) : Prop := k = fb ∨ fv.ownBlock = some k
def OX (B fb R : Nat) (fv : Value) (xs : List Int) (n : Nat) (w : World) (e : Ending) (w' : World) : Prop :=
  (Tl xs none ∧ e = .returned (.tuple #[.pointer none, .slice none 0 0, .int .i64 20]) ∧ Fi B w' fb fv xs n R ∧ Lx (Fb fb fv) (Fb fb fv) w w') ∨
  ∃ r Fs lb vo ve fv' l v l', Tl xs (some (r, Fs)) ∧ e = .returned (.tuple #[.pointer (some ⟨lb, 0, none⟩), v, .int .i64 0]) ∧ Lo B w' lb fb fv' vo ve r Fs (min n (10 + szF Fs)) R l ∧
    Oq (Ft lb fb fv' vo ve) w' v l' ∧ fsts l' = Fs.flatten ∧ Nn w.heap.size v l' ∧ Lx (Fb fb fv) (Ft lb fb fv' vo ve) w w'
theorem OX.no {B fb R : Nat} {fv : Value} {xs : List Int} {n : Nat} {w w' : World} (h : Tl xs none) (hf : Fi B w fb fv xs n R) (hb : Below w.heap.size w w') : OX B fb R fv xs n w (.returned (.tuple #[.pointer none, .slice none 0 0, .int .i64 20])) w' :=
  .inl ⟨h, rfl, hf.below hb, Lx.of_below hb⟩
theorem OX.no2 {B fb R : Nat} {fv : Value} {xs : List Int} {n : Nat} {w w' : World} {S' : Nat → Prop} (h : Tl xs none) (hf : Fi B w' fb fv xs n R) (x : Lx (Fb fb fv) S' w w') : OX B fb R fv xs n w (.returned (.tuple #[.pointer none, .slice none 0 0, .int .i64 20])) w' :=
  .inl ⟨h, rfl, hf, x.fr, fun k hk => .inl hk⟩

/-- A slice of the call's own bytes stays where a log is used. -/
theorem own_log {B C : Nat} {w w' : World} {lb fb : Nat} {fv vo ve : Value} {xs : List Int} {n R : Nat} {r : Int} {l : List (Opn × Value)} {es : List (Nat × Nat)} {S' : Nat → Prop} {v : Value} {ys : List Int}
    (h : Lg B w lb fb fv vo ve xs n R r l es) (hv : Ow C w v ys) (hB : B ≤ C) (hf : ∀ k, v.ownBlock = some k → fv.ownBlock ≠ some k) (x : Lx (Ft lb fb fv vo ve) S' w w') : Ow C w' v ys := by
  have hv' := hv.mono hB
  refine own_fr hv x.fr (fun k hk e => ?_)
  rcases e with rfl | rfl | e | e | e
  · exact own_far hv h.blk (by decide) hk
  · exact own_far hv h.fi.1 (by decide) hk
  · exact hf k hk e
  · exact own_two hv' h.ro (by decide) hk e
  · exact own_two hv' h.re (by decide) hk e
theorem wh_three (ys : List Int) : C.wh ys = 0 ∨ C.wh ys = 1 ∨ C.wh ys = 2 := by
  unfold C.wh
  split
  · exact .inr (.inl rfl)
  · split
    · exact .inr (.inr rfl)
    · split
      · exact .inr (.inl rfl)
      · split
        · exact .inl rfl
        · exact .inr (.inr rfl)

set_option maxHeartbeats 8000000 in
theorem open_any {B : Nat} {w : World} {fb : Nat} {fv : Value} {xs : List Int} {n R : Nat} (h : Fi B w fb fv xs n R) (hL : Lay w) (hB : B ≤ w.heap.size) (hB2 : 2 ≤ B) :
    Calls Tryz.prog 24 #[.pointer (some ⟨fb, 0, none⟩)] w fun e w' => OX B fb R fv xs n w e w' := by
  have HF := hid h
  have HL := hid hL
  have HBY := hid h.byt
  have hN : xs.length ≤ 1048576 := by have := h.nums; omega
  clear h hL
  go_enter Tryz.func24, Tryz.ntmps24
  go_wp2_with fail
  refine (bytes_any HF.out).mono ?_
  rintro e w1 ⟨v1, rfl, ho1, b1⟩
  obtain ⟨a1, c1, rfl, _⟩ := ho1.form
  have O1 := hid ho1
  have B1 := hid b1
  clear ho1 b1
  obtain ⟨N, hNN⟩ : ∃ N, xs.length = N := ⟨_, rfl⟩
  have HNN := hid hNN
  rw [hNN] at hN O1 ⊢
  clear hNN
  go_wp2_with fail
  refine (next_any _ xs 0 w1 (O1.out.bs HBY.out) (Nat.zero_le _) (by rw [HNN.out]; omega)).mono ?_
  rintro e w2 ⟨v2, rfl, hv2, b2, _⟩
  have V2 := hid hv2
  have B2 := hid (bt B1.out b2)
  have O2 := hid (own_below O1.out b2)
  obtain ⟨a2, c2, rfl⟩ := hv2.form
  obtain ⟨WH, hWH⟩ : ∃ WH, C.wh (xs.drop 0) = WH := ⟨_, rfl⟩
  have HWH := hid hWH
  obtain ⟨P0, hP0⟩ : ∃ P0, nxP xs 0 = P0 := ⟨_, rfl⟩
  have HP0 := hid hP0
  obtain ⟨b0, hb0⟩ : ∃ b0, nxV xs 0 = b0 := ⟨_, rfl⟩
  have HBB := hid hb0
  rw [hb0] at V2
  rw [hWH, hP0, hb0]
  clear hWH hP0 hb0 hv2 b2
  have hbl : Hid (b0.length ≤ 140737488355328) := hid (by
    rw [← HBB.out]; unfold nxV; split
    · unfold C.bd; rw [List.length_take, List.length_drop, List.length_drop]; have := HNN.out; omega
    · exact Nat.zero_le _)
  go_wp2_with fail
  refine (readfirst_any _ b0 w2 V2.out hbl.out).mono ?_
  rintro e w3 ⟨rfl, b3⟩
  have B3 := hid (bt B2.out b3)
  have O3 := hid (own_below O2.out b3)
  clear b3
  obtain ⟨r, hr⟩ : ∃ r, rfV b0 = r := ⟨_, rfl⟩
  have HR := hid hr
  rw [hr]
  clear hr
  cases hok : rfO b0 with
  | false =>
    have HT : Hid (Tl xs none) := hid (by
      by_cases hw : C.wh xs = 0
      · refine .inr (.inl ?_)
        have e := HBB.out
        rw [nxV, List.drop_zero, if_pos hw] at e
        rw [e, hok]
      · exact .inl hw)
    go_wp2
    go_ret3
    exact OX.no HT.out HF.out B3.out
  | true =>
    have hw : C.wh xs = 0 := by
      by_cases hw : C.wh xs = 0
      · exact hw
      · have e := HBB.out
        rw [nxV, List.drop_zero, if_neg hw] at e
        rw [← e] at hok
        exact absurd hok (by rw [rfO_nil]; decide)
    have hbd : C.bd xs = b0 := by have e := HBB.out; rwa [nxV, List.drop_zero, if_pos hw] at e
    have hf := first_of HBY.out hw (by rw [hbd]; exact hok)
    rw [hbd, HR.out] at hf
    obtain ⟨hr0, hr1, h10, hxs⟩ := hf
    have hp : P0 = 10 := by have e := HP0.out; rw [nxP, List.drop_zero, if_pos hw] at e; omega
    subst hp
    have HTL : Hid (∀ Fs t, Og (xs.drop 10) Fs t → Tl xs (if t then some (r, Fs) else none)) := hid (fun Fs t ho => by
      cases t with
      | true => exact ⟨hw, by rw [hbd]; exact hok, by rw [hbd]; exact HR.out.symm, by rw [h10]; exact ho⟩
      | false => exact .inr (.inr ⟨Fs, by rw [h10]; exact ho⟩))
    have HR0 := hid hr0
    have HR1 := hid hr1
    have HXS := hid hxs
    have h10n : Hid (10 ≤ N) := hid (by have := wh_0 hw; have := HNN.out; omega)
    clear hw hbd hr0 hr1 h10 hxs V2 hbl HBB HP0 HWH hok
    have HLG : Hid (Lg B (w3.alloc (.cells #[.pointer (some ⟨fb, 0, none⟩), .int .i64 r, .slice none 0 0, .slice none 0 0] 83 (0, 0))) w3.heap.size fb fv (.slice none 0 0) (.slice none 0 0) xs n R r [] []) :=
      hid (Lg.fresh (HF.out.below B3.out) (Nat.le_trans hB B3.out.size) r)
    have HA4 := hid (ba w3 (.cells #[.pointer (some ⟨fb, 0, none⟩), .int .i64 r, .slice none 0 0, .slice none 0 0] 83 (0, 0)))
    obtain ⟨w4, hw4⟩ : ∃ w4, w3.alloc (.cells #[.pointer (some ⟨fb, 0, none⟩), .int .i64 r, .slice none 0 0, .slice none 0 0] 83 (0, 0)) = w4 := ⟨_, rfl⟩
    obtain ⟨lb, hlb⟩ : ∃ lb, w3.heap.size = lb := ⟨_, rfl⟩
    have HLB := hid hlb
    have HW4 := hid hw4
    rw [hw4, hlb] at HLG
    rw [hw4] at HA4
    have B4 := hid (bt B3.out HA4.out)
    have O4 := hid (own_below O3.out HA4.out)
    have HFV : Hid (∀ k, Value.ownBlock (.slice a1 N c1) = some k → fv.ownBlock ≠ some k) := hid (fun k hk e => by
      have h1 := (O4.out.lt k hk).1
      have h2 := (HF.out.own.lt k e).2
      omega)
    have HX4 : Hid (Lx (Fb fb fv) (Ft lb fb fv (.slice none 0 0) (.slice none 0 0)) w w4) := hid ⟨Fr.of_below B4.out, fun k hk => by
      rcases hk with rfl | rfl | hk | hk | hk
      · exact .inr (by rw [← HLB.out]; exact B3.out.size)
      · exact .inl (.inl rfl)
      · exact .inl (.inr hk)
      · cases hk
      · cases hk⟩
    clear hlb hw4
    go_wp2
    rw [HW4.out, HLB.out]
    go_loopw [7] (fun i wr => ∃ (p : Nat) (Fs : List (List Opn)) (vo ve : Value) (l : List (Opn × Value)), i = .int .i64 p ∧ p ≤ N ∧ p = 10 + szF Fs ∧ Good Fs ∧ xs = lby r Fs ++ xs.drop p ∧ Lg B wr lb fb fv vo ve xs n R r l (endsF Fs) ∧ fsts l = Fs.flatten ∧
        Lx (Fb fb fv) (Ft lb fb fv vo ve) w wr ∧ Ow w.heap.size wr (.slice a1 N c1) xs ∧ ∀ gs t, Og (xs.drop p) gs t → Og (xs.drop 10) (Fs ++ gs) t) (fun i _ => N - (intOf i).toNat)
    case atStart => exact ⟨10, [], _, _, [], rfl, h10n.out, rfl, Good.nil, HXS.out, HLG.out, rfl, HX4.out, O4.out, fun gs t h => h⟩
    case round =>
      obtain ⟨p, Fs, vo, ve, l, rfl, hpN, hp, hgood, hxs, hlg, hfl, hx, how, hog⟩ := hrel
      have HP := hid hp
      have HGD := hid hgood
      have HXS5 := hid hxs
      have HLG5 := hid hlg
      have HFL := hid hfl
      have X5 := hid hx
      have O5 := hid how
      have HOG := hid hog
      have HSZ := hid (Nat.le_trans hB hx.size)
      clear hp hgood hxs hlg hfl hx how hog HLG HA4 B4 O4 HX4
      have HLY : Hid (Lay wr) := hid (HL.out.low (X5.out.fr.below (fun k hk e => by
        rcases e with rfl | e
        · have := HF.out.2.1; omega
        · have := (HF.out.own.lt k e).1; omega) hB) hB2)
      go_wp2_with fail
      refine (next_any _ xs p wr (O5.out.bs HBY.out) (by rw [HNN.out]; exact hpN) (by rw [HNN.out]; omega)).mono ?_
      rintro e w6 ⟨v6, rfl, hv6, b6, _⟩
      have V6 := hid hv6
      have B6 := hid b6
      have O6 := hid (own_below O5.out b6)
      have L6 := hid (HLG5.out.below b6)
      have LY6 := hid (HLY.out.low b6 (by have := HSZ.out; omega))
      have X6 := hid (X5.out.trans (Lx.of_below b6))
      obtain ⟨a6, c6, rfl⟩ := hv6.form
      clear hv6 b6
      rcases wh_three (xs.drop p) with hw | hw | hw
      · -- a frame
        have e1 : nxP xs p = p + 8 + C.wd (xs.drop p) := by rw [nxP, if_pos hw]
        have e2 : nxV xs p = C.bd (xs.drop p) := by rw [nxV, if_pos hw]
        rw [e2] at V6
        rw [e1, e2, hw]
        have hw0 := wh_0 hw
        have HW := hid hw
        have hyb : Byt (xs.drop p) := fun x hx => HBY.out x (List.mem_of_mem_drop hx)
        obtain ⟨b7, hb7⟩ : ∃ b7, C.bd (xs.drop p) = b7 := ⟨_, rfl⟩
        have hb7l : b7.length ≤ 65536 := by rw [← hb7]; omega
        have HB7 := hid hb7
        rw [hb7] at V6 ⊢
        obtain ⟨q7, hq7⟩ : ∃ q7, p + 8 + C.wd (xs.drop p) = q7 := ⟨_, rfl⟩
        have hq7N : q7 ≤ N := by rw [List.length_drop, HNN.out] at hw0; omega
        have hpq : p < q7 := by omega
        have HQ7 := hid hq7
        rw [hq7]
        have HYB := hid hyb
        clear e1 e2 hw hw0 hb7 hq7 hyb
        go_wp2_with fail
        refine (decodeall_new _ b7 w6 LY6.out V6.out (by omega)).mono ?_
        rintro e w8 ⟨v8, l8, rfl, o8, f8, b8, n8⟩
        obtain ⟨⟨D1, D2⟩, hD⟩ : ∃ z, decA mOwn b7 = z := ⟨_, rfl⟩
        rw [hD] at f8 ⊢
        dsimp only at f8 ⊢
        have HD := hid hD
        clear hD
        have O8 := hid (own_below O6.out b8)
        have L8 := hid (L6.out.below b8)
        have X8 := hid (X6.out.trans (Lx.of_below b8))
        have V8 := hid o8
        have F8 := hid f8
        have N8 := hid n8
        have B8 := hid b8
        obtain ⟨a8, c8, rfl, _, _⟩ := Sl.form o8.1
        clear o8 f8 b8 n8
        cases D2 with
        | false =>
          have HT := hid (HTL.out _ _ (HOG.out [] false (Og.wrong HW.out (.inl (by rw [HB7.out, HD.out])))))
          go_wp2
          go_ret3
          exact OX.no2 HT.out L8.out.fi X8.out
        | true =>
          have HDD : Hid (decA mOwn b7 = (fsts l8, true)) := hid (by rw [F8.out, HD.out])
          by_cases hz : l8.length = 0
          · have hl8 : l8 = [] := List.length_eq_zero_iff.1 hz
            have HT := hid (HTL.out _ _ (HOG.out [] false (Og.wrong HW.out (.inr (by rw [HB7.out, HDD.out, hl8]; rfl)))))
            rw [hz]
            clear hl8
            go_wp2
            go_ret3
            exact OX.no2 HT.out L8.out.fi X8.out
          · have hz1 : ((l8.length : Int) == 0) = false := by simpa using hz
            have hne : fsts l8 ≠ [] := fun e => hz (by have := congrArg List.length e; simpa [fsts] using this)
            obtain ⟨hg9, hx9, hl9⟩ := og_step HYB.out HGD.out HW.out (by rw [HB7.out]; exact HDD.out) hne
            have HG9 := hid hg9
            have hq : q7 = 10 + szF (Fs ++ [fsts l8]) := by
              rw [szF_append, szF_one, hl9]
              have h1 := HQ7.out
              have h2 := HP.out
              omega
            have HQ := hid hq
            have HX9 : Hid (xs = lby r (Fs ++ [fsts l8]) ++ xs.drop q7) := hid (by
              have h1 := HXS5.out
              rw [hx9, List.drop_drop] at h1
              have h2 : p + (8 + C.wd (xs.drop p)) = q7 := by have := HQ7.out; omega
              rw [h2] at h1
              exact h1)
            have HOG9 : Hid (∀ gs t, Og (xs.drop q7) gs t → Og (xs.drop 10) (Fs ++ [fsts l8] ++ gs) t) := hid (fun gs t ho => by
              rw [List.append_assoc, List.singleton_append]
              refine HOG.out _ _ (Og.more HW.out (by rw [HB7.out]; exact HDD.out) hne ?_)
              rw [List.drop_drop]
              have h2 : p + (8 + C.wd (xs.drop p)) = q7 := by have := HQ7.out; omega
              rw [h2]
              exact ho)
            have hbl : l8.length ≤ 65536 := by
              have h1 := encA_pos (fsts l8)
              have h2 := hl9
              have h3 := HQ7.out
              have h4 : (fsts l8).length = l8.length := by simp [fsts]
              have h5 := (wh_0 HW.out).2.2.1
              have h6 := HB7.out
              have h7 := (wh_0 HW.out).2.2.2.2
              omega
            have hll : l.length = Fs.flatten.length := by rw [← HFL.out]; simp [fsts]
            have hsz := szF_pos Fs
            have hz2 : l.length + l8.length ≤ 10000000 := by have := HP.out; omega
            have hz3 : (endsF Fs).length ≤ 10000000 := by rw [endsF_len]; have := HP.out; omega
            have HIN : Hid (∀ q ∈ endsF Fs, q.1 ≤ p) := hid (fun q hq => by have h1 := endsF_mem hq; have h2 := HP.out; omega)
            have HOP : Hid (opsAt (endsF Fs) (endsF Fs).length = l.length) := hid (by rw [opsAt_all, hll])
            have HCQ : Hid (Cq (Ft lb fb fv vo ve) w8 l8) := hid (fun q hq => ⟨V8.out.2 q hq, .inr (fun k hk e => by
              have h1 := N8.out q hq k hk
              have h2 := (L6.out.inside e).2
              omega)⟩)
            have HB9 := hid (Nat.le_trans HSZ.out (Nat.le_trans B6.out.size B8.out.size))
            clear hg9 hx9 hl9 hq hne hll hsz
            go_wp2_with fail
            refine (add_any L8.out HB9.out V8.out HCQ.out p q7 (endsF_sorted Fs) HIN.out HOP.out hz2 hz3).mono ?_
            rintro e w9 ⟨rfl, vo9, ve9, hl9, hx9⟩
            have L9 := hid hl9
            have X9 := hid (X8.out.trans hx9)
            have O9 := hid (own_log L8.out O8.out hB HFV.out hx9)
            clear hl9 hx9
            go_wp2_with fail
            go_roundw
            case rel =>
              have hfl9 : fsts (l ++ l8) = (Fs ++ [fsts l8]).flatten := by
                have e1 := HFL.out
                unfold fsts at e1 ⊢
                rw [List.map_append, e1, List.flatten_append]
                simp
              refine ⟨q7, Fs ++ [fsts l8], vo9, ve9, l ++ l8, rfl, hq7N, HQ.out, HG9.out, HX9.out, ?_, hfl9, X9.out, O9.out, HOG9.out⟩
              have h9 := L9.out
              have hlen : (l ++ l8).length = (Fs ++ [fsts l8]).flatten.length := by rw [← hfl9]; simp [fsts]
              rw [endsF_snoc, ← hlen, ← HQ.out]
              exact h9
            case measure => simp [intOf]; omega
      · -- a cut
        have e1 : nxP xs p = p := by rw [nxP, if_neg (by omega)]
        have e2 : nxV xs p = [] := by rw [nxV, if_neg (by omega)]
        rw [e1, e2, hw]
        have HT : Hid (Tl xs (some (r, Fs))) := hid (by
          have := HTL.out _ _ (HOG.out [] true (Og.cut hw))
          simpa using this)
        have hlen := lby_len HR0.out HR1.out Fs
        have htr : trimS (p : Int) xs n = (0, lby r Fs, min n (10 + szF Fs)) := by
          unfold trimS
          rw [if_pos (by have := HNN.out; omega)]
          have h1 : xs.take p = lby r Fs := by
            have h2 := HXS5.out
            have h3 : (lby r Fs).length = p := by have := HP.out; omega
            calc xs.take p = (lby r Fs ++ xs.drop p).take p := by rw [← h2]
              _ = lby r Fs := by rw [← h3, List.take_left]
          rw [Int.toNat_natCast, h1, ← HP.out]
        have HTR := hid htr
        clear e1 e2 hw hlen htr
        go_wp2_with fail
        refine (ftrim_any L6.out.fi (p : Int)).mono ?_
        rintro e w7 ⟨he, ho⟩
        have he' := he.out HTR.out
        obtain ⟨fv', hfi, hfx⟩ := ho.out HTR.out
        subst he'
        obtain ⟨hl7, hx7⟩ := L6.out.file hfi hfx
        have HLO : Hid (Lo B w7 lb fb fv' vo ve r Fs (min n (10 + szF Fs)) R l) := hid ⟨hl7, HFL.out, HGD.out, HR0.out, HR1.out, by rw [lby_len HR0.out HR1.out]; omega⟩
        have X7 := hid (X6.out.trans hx7)
        clear he ho hfi hfx hl7 hx7
        go_wp2_with fail
        refine (lo_ops HLO.out).mono ?_
        rintro e w8 ⟨v8, rfl, l8, ho8, hf8, hn8, b8⟩
        have HLO8 := hid (HLO.out.below b8)
        have HO8 := hid ho8
        have HF8 := hid hf8
        have HN8 := hid hn8
        have X8 := hid (X7.out.trans (Lx.of_below b8))
        have HIN : Hid (∀ k, Ft lb fb fv' vo ve k → k < w7.heap.size) := hid (fun k hk => (HLO.out.lg.inside hk).2)
        have HW7 : Hid (w.heap.size ≤ w7.heap.size) := hid X7.out.size
        clear ho8 hf8 hn8 b8
        go_wp2
        go_ret3
        refine .inr ⟨r, Fs, lb, vo, ve, fv', l, v8, l8, HT.out, rfl, HLO8.out, ⟨HO8.out, .inr (fun k hk e => ?_), fun q hq => ⟨HO8.out.2 q hq, .inr (fun k hk e => ?_)⟩⟩, HF8.out, ⟨fun k hk => Nat.le_trans HW7.out (HN8.out.1 k hk), fun q hq k hk => Nat.le_trans HW7.out (HN8.out.2 q hq k hk)⟩, X8.out⟩
        · have h1 := HIN.out k e
          have h2 := HN8.out.1 k hk
          omega
        · have h1 := HIN.out k e
          have h2 := HN8.out.2 q hq k hk
          omega
      · -- a bad one
        have e1 : nxP xs p = p := by rw [nxP, if_neg (by omega)]
        have e2 : nxV xs p = [] := by rw [nxV, if_neg (by omega)]
        rw [e2] at V6
        rw [e1, e2, hw]
        have HT := hid (HTL.out _ _ (HOG.out [] false (Og.bad hw)))
        clear e1 e2 hw
        go_wp2_with fail
        refine (decodeall_new _ [] w6 LY6.out V6.out (by decide)).mono ?_
        rintro e w8 ⟨v8, l8, rfl, o8, f8, b8, n8⟩
        obtain ⟨⟨D1, D2⟩, hD⟩ : ∃ z, decA mOwn [] = z := ⟨_, rfl⟩
        rw [hD] at f8 ⊢
        dsimp only at f8 ⊢
        have L8 := hid (L6.out.below b8)
        have X8 := hid (X6.out.trans (Lx.of_below b8))
        obtain ⟨a8, c8, rfl, _, _⟩ := Sl.form o8.1
        clear o8 f8 b8 n8 hD
        go_wp2
        go_ret3
        exact OX.no2 HT.out L8.out.fi X8.out
end Go.Proofs.YteckjkblngmenaaGreatDoor

/-
  What oplog's Format does is proved here.
-/
namespace Go.Proofs.YteckjkblngmenaaGreatDoor
open Go.RowKit
set_option linter.unusedVariables false
set_option maxRecDepth 100000

/-- What Format answers for a right replica. -/
def FX (B fb R : Nat) (fv : Value) (xs : List Int) (n : Nat) (r : Int) (w : World) (e : Ending) (w' : World) : Prop :=
  (R < 10 ∧ e = .returned (.tuple #[.pointer none, .int .i64 14]) ∧ ∃ fv', Fi B w' fb fv' xs n R ∧ Lx (Fb fb fv) (Fb fb fv') w w') ∨
  (10 ≤ R ∧ ∃ lb fv', e = .returned (.tuple #[.pointer (some ⟨lb, 0, none⟩), .int .i64 0]) ∧ Lo B w' lb fb fv' (.slice none 0 0) (.slice none 0 0) r [] 10 R [] ∧ Lx (Fb fb fv) (Ft lb fb fv' (.slice none 0 0) (.slice none 0 0)) w w')

theorem lx_file {B : Nat} {w w' : World} {fb : Nat} {fv fv' : Value} (hx : Fx fb fv fv' w w') : Lx (Fb fb fv) (Fb fb fv') w w' := by
  refine ⟨hx.1.mono (fun k hk => hk), fun k hk => ?_⟩
  rcases hk with rfl | hk
  · exact .inl (.inl rfl)
  · exact (hx.2 k hk).imp .inr id

set_option maxHeartbeats 4000000 in
theorem format_any {B : Nat} {w : World} {fb : Nat} {fv : Value} {xs : List Int} {n R : Nat} (h : Fi B w fb fv xs n R) (hL : Lay w) (hB : B ≤ w.heap.size) (r : Int) (h0 : 0 ≤ r) (h1 : r ≤ 15) :
    Calls Tryz.prog 9 #[.pointer (some ⟨fb, 0, none⟩), .int .i64 r] w fun e w' => FX B fb R fv xs n r w e w' := by
  have HF := hid h
  have HE := hid (firstframe_any r w hL h0 h1)
  have HBY := hid (show Byt (C.frame (fb0 r)) from C.frame_bytes (fb0_byt h0 h1))
  have hl : (C.frame (fb0 r)).length = 10 := by rw [C.frame_length, fb0_len h0 h1]
  have hlby : lby r [] = C.frame (fb0 r) := by rw [lby_cons]; simp [C.cat]
  have HLB := hid hlby
  obtain ⟨ff, hff⟩ : ∃ ff, C.frame (fb0 r) = ff := ⟨_, rfl⟩
  have hc1 : ¬ r < 0 := by omega
  have hc2 : ¬ 16 ≤ r := by omega
  have HR0 := hid h0
  have HR1 := hid h1
  rw [hff] at HE HBY hl HLB
  have HLL := hid hl
  clear h hL hlby hff hl h1
  go_enter Tryz.func9, Tryz.ntmps9
  go_wp2_with fail
  refine HE.out.mono ?_
  rintro e w1 ⟨v1, rfl, o1, b1⟩
  have V1 := hid (o1.bs HBY.out)
  obtain ⟨a1, c1, rfl, _⟩ := o1.form
  have B1 := hid b1
  have F1 := hid (HF.out.below b1)
  have S1 := hid (Nat.le_trans hB b1.size)
  clear o1 b1 HE
  by_cases hR : 10 ≤ R
  · have hrep : repS R ff xs n = (0, ff, 10) := by unfold repS; rw [if_pos (by rw [HLL.out]; exact hR), HLL.out]
    have HRP := hid hrep
    clear hrep
    go_wp2_with fail
    refine (freplace_any S1.out F1.out _ ff V1.out).mono ?_
    rintro e w2 ⟨he, ho⟩
    have he' := he.out HRP.out
    obtain ⟨fv', hfi, hfx⟩ := ho.out HRP.out
    subst he'
    have F2 := hid hfi
    have X2 : Hid (Lx (Fb fb fv) (Fb fb fv') w w2) := hid ((Lx.of_below B1.out).trans (lx_file (B := B) hfx))
    have S2 := hid (Nat.le_trans S1.out hfx.size)
    clear he ho hfi hfx
    have HLG : Hid (Lg B (w2.alloc (.cells #[.pointer (some ⟨fb, 0, none⟩), .int .i64 r, .slice none 0 0, .slice none 0 0] 83 (0, 0))) w2.heap.size fb fv' (.slice none 0 0) (.slice none 0 0) ff 10 R r [] []) := hid (Lg.fresh F2.out S2.out r)
    have HA := hid (ba w2 (.cells #[.pointer (some ⟨fb, 0, none⟩), .int .i64 r, .slice none 0 0, .slice none 0 0] 83 (0, 0)))
    go_wp2
    go_ret2
    refine .inr ⟨hR, w2.heap.size, fv', rfl, ⟨?_, rfl, Good.nil, HR0.out, HR1.out, by rw [HLB.out, HLL.out]; exact Nat.le_refl _⟩, X2.out.trans ⟨(Lx.of_below HA.out (S := Fb fb fv')).fr, fun k hk => ?_⟩⟩
    · rw [HLB.out]
      exact HLG.out
    · rcases hk with rfl | rfl | hk | hk | hk
      · exact .inr (Nat.le_refl _)
      · exact .inl (.inl rfl)
      · exact .inl (.inr hk)
      · cases hk
      · cases hk
  · have hrep : repS R ff xs n = (14, xs, n) := by unfold repS; rw [if_neg (by rw [HLL.out]; exact hR)]
    have HRP := hid hrep
    clear hrep
    go_wp2_with fail
    refine (freplace_any S1.out F1.out _ ff V1.out).mono ?_
    rintro e w2 ⟨he, ho⟩
    have he' := he.out HRP.out
    obtain ⟨fv', hfi, hfx⟩ := ho.out HRP.out
    subst he'
    have F2 := hid hfi
    have X2 : Hid (Lx (Fb fb fv) (Fb fb fv') w w2) := hid ((Lx.of_below B1.out).trans (lx_file (B := B) hfx))
    clear he ho hfi hfx
    go_wp2
    go_ret2
    exact .inl ⟨by omega, rfl, fv', F2.out, X2.out⟩
end Go.Proofs.YteckjkblngmenaaGreatDoor

/-
  The op that the law fixes: what fold answers, its bytes.
-/
namespace Go.Proofs.YteckjkblngmenaaGreatDoor
open Go.RowKit
set_option linter.unusedVariables false
set_option maxRecDepth 100000

def foldN (n : Int) : Opn := ⟨6, 1, n, 3, 0, 1, 0, 0, ⟨#[]⟩, 0, 0, 0, 0, 0, 0, 0, 0, ⟨#[]⟩, [], true⟩
theorem foldN_len1 : (encA [foldN 1]).length = 9 := by decide +kernel
theorem foldN_len2 : (encA [foldN 2]).length = 9 := by decide +kernel
theorem foldN_fr1 : frE [foldN 1] = 0 := by
  have h : [foldN 1].all rightO = true := by decide
  unfold frE
  rw [h, foldN_len1]
  decide
theorem foldN_fr2 : frE [foldN 2] = 0 := by
  have h : [foldN 2].all rightO = true := by decide
  unfold frE
  rw [h, foldN_len2]
  decide
theorem foldN_fine (n : Int) : (foldN n).fine ∧ (foldN n).cuts.length ≤ 100000 := ⟨⟨by show 0 ≤ _; decide, by show 0 ≤ _; decide⟩, by show 0 ≤ _; decide⟩
abbrev foldnc (n : Int) : Array Value := #[.int .i64 6,.int .i64 1,.int .i64 n,.int .i64 3,.int .i64 0,.int .i64 1,.int .i64 0,.int .i64 0,.string ⟨#[]⟩,.int .i64 0,.int .i64 0,.int .i64 0,.int .i64 0,.int .i64 0,.int .i64 0,.int .i64 0,.int .i64 0,.string ⟨#[]⟩,.slice none 0 0,.bool true]
theorem built_foldn (n : Int) : Tryz.prog.built 77 [(0, .int .i64 6), (1, idv 1 n), (2, .int .i64 3), (3, idv 0 1), (11, .bool true)] = some (foldnc n) := by kernel_rfl
theorem wpList_build_foldn {ops : Array Oper} {rest : List Oper} {p : Oper} {a : Act} {w : World} {Q : Exit → Act → World → Prop} (hgd : p.guard = none) (x y z u v : Operand) (ho : p.op = .build 77 #[(0, x), (1, y), (2, z), (3, u), (11, v)]) (n : Int)
    (h0 : a.eval x = .int .i64 6) (h1 : a.eval y = idv 1 n) (h2 : a.eval z = .int .i64 3) (h3 : a.eval u = idv 0 1) (h4 : a.eval v = .bool true)
    (hk : wpList Tryz.prog ops Q rest (a.put p.dst (.agg (foldnc n))) w) : wpList Tryz.prog ops Q (p :: rest) a w := by
  have e : (Array.map (fun ((i, x) : Nat × Operand) => (i, a.eval x)) #[(0, x), (1, y), (2, z), (3, u), (11, v)]).toList = [(0, .int .i64 6), (1, idv 1 n), (2, .int .i64 3), (3, idv 0 1), (11, .bool true)] := by simp [h0, h1, h2, h3, h4]
  refine wpList_build hgd 77 #[(0, x), (1, y), (2, z), (3, u), (11, v)] ho ?_ ?_
  · rw [e, built_foldn]; rfl
  · rw [e, built_foldn]; exact hk
theorem wpList_store_foldn {ops : Array Oper} {rest : List Oper} {p : Oper} {a : Act} {W : World} {Q : Exit → Act → World → Prop} (hgd : p.guard = none) (x y : Operand) (ho : p.op = .store 77 x y) (k0 n : Int)
    (hx : a.eval x = .pointer (some ⟨W.heap.size, 0, none⟩)) (hy : a.eval y = .agg (foldnc n))
    (hk : wpList Tryz.prog ops Q rest (a.put p.dst undef) (W.alloc (.cells (foldnc n) 77))) : wpList Tryz.prog ops Q (p :: rest) a (W.alloc (.cells (zopc k0) 77)) :=
  wpList_store_opn hgd x y ho (zopc k0) (foldnc n) hx hy rfl rfl (by simp [Value.oneCell']) hk

theorem foldn_any (n : Int) (w : World) : Calls Tryz.prog 39 #[.int .i64 n] w fun e w' => e = .returned (opv (foldN n) (.slice none 0 0)) ∧ Below w.heap.size w w' := by
  go_enter Tryz.func39, Tryz.ntmps39
  go_wp2_with (first | (refine wpList_build_foldn rfl _ _ _ _ _ rfl n rfl rfl rfl rfl rfl ?_) | (refine wpList_store_foldn rfl _ _ rfl 0 n rfl rfl ?_))
  refine bodyPost_ret (results_cell_row rfl _ _ w.heap.size 77 (foldnc n) (0, 0) _ rfl (heap_alloc_new w _) Tryz.underlying77 rfl (by kernel_rfl)) rfl ?_
  exact ⟨rfl, ba _ _⟩

/-- A row of one op that is laid beside a log. -/
theorem Oq.one {B : Nat} {w : World} {lb fb : Nat} {fv vo ve : Value} {xs : List Int} {n R : Nat} {r : Int} {l : List (Opn × Value)} {es : List (Nat × Nat)} (h : Lg B w lb fb fv vo ve xs n R r l es) (o : Opn) (v : Value) (hc : o.cuts = []) (hv : Cs w v []) :
    Oq (Ft lb fb fv vo ve) (w.alloc (opo o v)) (.slice (some ⟨w.heap.size, 0, none⟩) 1 1) [(o, v)] := by
  have ho := Os.one w o v (by rw [hc]; exact hv)
  refine ⟨ho, .inr (fun k hk e => ?_), fun p hp => ⟨ho.2 p hp, .inl ?_⟩⟩
  · simp [Value.ownBlock] at hk
    have := (h.inside e).2
    omega
  · rw [List.mem_singleton.1 hp]; exact hc
end Go.Proofs.YteckjkblngmenaaGreatDoor
