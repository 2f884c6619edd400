/-
  Parts of the proof, one behind the other; what each proves stands at its head.
-/
import Derived.Test.YtniecbblhphbdaaDoorPart14
import Derived.Test.YtniecbblhphbdaaDoorPart22
import Derived.Test.YtniecbblhphbdaaDoorPart12
import Derived.Test.YtniecbblhphbdaaDoorPart15
import Derived.Test.YtniecbblhphbdaaDoorCards
import Derived.Test.YtniecbblhphbdaaDoorTie
import Derived.Test.YtniecbblhphbdaaDoorPart11
import Derived.Test.YtniecbblhphbdaaDoorPart5
import Derived.Deep.SlicePairs
import Derived.LaidMore
import Derived.Deep.DeepWitnessRowRef
import Derived.SevenTiedAt

/-
  What the reference's DecodeAll returns is proved here, for all bytes (of at most 2^40).
-/
namespace Go.Proofs.YtniecbblhphbdaaDoor
open Go.RowKit
set_option linter.unusedVariables false
set_option maxRecDepth 100000

set_option maxHeartbeats 4000000 in
theorem xdecodeall_any (vb : Value) (xs : List Int) (w : World) (h : Bs w vb xs) (hn : xs.length ≤ 1099511627776) :
    Calls Tryd.prog 12 #[vb] w fun e w' => DA (decA mRef xs) w e w' := by
  have HB := hid h
  have HLN := hid hn
  have HBY := hid h.range
  have hrv := rn_val (m := 1048576) (s := (xs, false)) h.range
  obtain ⟨N0, s1, hrn⟩ : ∃ N0 s1, rn 1048576 (xs, false) = (N0, s1) := ⟨_, _, rfl⟩
  rw [hrn] at hrv
  obtain ⟨n, rfl⟩ : ∃ n : Nat, N0 = n := ⟨N0.toNat, by have := hrv.1; simp at this; omega⟩
  have hn20 : n ≤ 1048576 := by have := hrv.2.2 (by decide); simp at this; omega
  have HRN := hid hrn
  have HD := hid (decA_eq (m := mRef) hrn)
  obtain ⟨D, hD⟩ : ∃ D, decA mRef xs = D := ⟨_, rfl⟩
  rw [hD] at HD ⊢
  clear h hn hrv hrn hD
  go_enter Tryd.func12, Tryd.ntmps12
  go_wp2_with fail
  refine (copy_own vb xs w HB.out (by have := HLN.out; omega)).mono ?_
  rintro e w2 ⟨g, cap, rfl, hown, b2⟩
  have hbs := Bs.of_own hown HBY.out
  have HA3 := ba w2 (.cells #[.slice (some ⟨g, 0, none⟩) xs.length cap, .bool false] 66)
  have HX : Hid (Cx (w2.alloc (.cells #[.slice (some ⟨g, 0, none⟩) xs.length cap, .bool false] 66)) w2.heap.size (xs, false)) := hid ⟨⟨_, heap_alloc_new w2 _, hbs.below HA3⟩, ⟨HBY.out, fun e => by cases e⟩, HLN.out⟩
  have BB := hid (bt b2 HA3)
  have hcB : w.heap.size ≤ w2.heap.size := b2.size
  clear hown b2 HA3 hbs
  go_wp2_with fail
  refine (xnum_s w2.heap.size (xs, false) 1048576 _ HX.out).mono ?_
  rintro e w4 ⟨rfl, hx, hg⟩
  obtain ⟨c, hc⟩ : ∃ c, w2.heap.size = c := ⟨_, rfl⟩
  rw [hc] at hx hg hcB ⊢
  rw [HRN.out] at hx ⊢
  have B4 := hid (below_fr BB.out (Fr.grown hg) hcB)
  have X4 := hid (Cx.below hx (ba w4 (.cells #[] 30)))
  have hs4 : w.heap.size ≤ w4.heap.size := B4.out.size
  have R4 := hid (Rw.made (w := w4) hs4)
  have BB4 := hid (bt B4.out (ba w4 (.cells #[] 30)))
  clear hx hg hc HX BB
  go_wp2
  go_loopw [6, 7] (fun r i wr => ∃ (j : Nat) (l : List (Opn × Value)) (q : St), j ≤ n ∧ i = .int .i64 j ∧ (∃ ra rc, r = .slice ra j rc) ∧ l.length = j ∧ rdA mRef j s1 = some (fsts l, q) ∧ Cx wr c q ∧ Rw w.heap.size wr r l ∧ Below w.heap.size w wr) (fun _ i _ => n - (intOf i).toNat)
  case atStart => exact ⟨0, [], s1, Nat.zero_le _, rfl, ⟨_, _, rfl⟩, rfl, rfl, X4.out, R4.out, BB4.out⟩
  case round =>
    obtain ⟨j, l, q, hj, rfl, ⟨ra, rc, rfl⟩, hll, hrd, hx, hr, hb⟩ := hrel
    have HX := hid hx
    have HR := hid hr
    have BB := hid hb
    have HRD := hid hrd
    have HLL := hid hll
    clear hr hb hrd hll
    obtain ⟨qs, qb⟩ := q
    obtain ⟨⟨cv, hcv, hcb⟩, hvl, hql⟩ := hx
    have hql' : qs.length ≤ 1099511627776 := hql
    clear hql
    have HVL := hid hvl
    obtain ⟨ca, cc, rfl⟩ := hcb.form
    have k0 := cell_of_row wr c 0 _ _ _ hcv
    have k1 := cell_of_row wr c 1 _ _ _ hcv
    simp only [List.getElem?_toArray, List.getElem?_cons_zero, List.getElem?_cons_succ] at k0 k1
    have HCV := hid hcv
    clear hcv hcb hvl
    by_cases hlt : j < n
    · have b1' : (j : Int) < (n : Int) := by omega
      cases qb with
      | true =>
        have hq : qs = [] := HVL.out.2 rfl
        subst hq
        have hd : D = ([], false) := by
          have h1 := HD.out
          rw [rdA_none mRef (j + 1) n s1 (rdA_lost HRD.out rfl) (by omega)] at h1
          exact h1
        have HDD := hid hd
        clear hd
        go_wp2
        go_ret2
        exact DA.no HDD.out BB.out
      | false =>
        obtain ⟨t, q2, ht⟩ : ∃ t q2, rt (mRef (qs, false)) (qs, false) = (t, q2) := ⟨_, _, rfl⟩
        have hst := rdA_step mRef j s1 (qs, false) (fsts l) HRD.out
        have hsh := (rt_short (mRef (qs, false)) (qs, false) HVL.out.1).1
        rw [ht] at hst hsh
        have htb : K.Byt (tx t) := fun x hx => M.ofStr_byte _ x hx
        have NT := hid (xtext_s c (qs, false) 281474976710656 wr HX.out)
        have ht' : rt 281474976710656 (qs, false) = (t, q2) := ht
        rw [ht'] at NT
        have HT := hid ht
        have HST := hid hst
        have HLE : Hid (l.length ≤ 1048576) := by show _ ≤ _; rw [HLL.out]; omega
        have HSH : Hid (t.size ≤ 1099511627776) := by show _ ≤ _; simp at hsh; omega
        have HTB := hid htb
        clear ht hst hsh htb ht'
        go_wp2_with fail
        refine NT.out.mono ?_
        rintro e w5 ⟨rfl, hx5, hg5⟩
        have HBS := hid (BB.out.size)
        have R5 := hid (HR.out.cur HX.out.1 (by decide) hg5)
        have B5 := hid (below_fr BB.out (Fr.grown hg5) hcB)
        have X5 := hid hx5
        clear hx5 hg5 k0 k1 NT
        obtain ⟨u6, w6, hrun, hb6, hB6⟩ := tobytes t w5 HSH.out
        have hb6l := hb6.len
        have X6 := hid (X5.out.below hB6)
        have R6 := hid (R5.out.below hB6)
        have B6 := hid (bt B5.out hB6)
        have U6 := hid hb6
        have hs6 := B6.out.size
        obtain ⟨ua, uc, rfl⟩ := hb6.form
        clear hb6 hB6 hb6l X5 R5 B5
        go_wp2_with fail
        refine (xdecode_any _ (tx t) w6 U6.out (by rw [tx_length]; exact HSH.out)).mono ?_
        rintro e w7 ⟨vo, rfl, hcs, b7, hnew⟩
        rw [decO_same ref_ok own_ok HTB.out] at hcs ⊢
        obtain ⟨⟨oo, ok⟩, hoo⟩ : ∃ z, decO Bnd.own (tx t) = z := ⟨_, rfl⟩
        rw [hoo] at hcs ⊢
        have hst := HST.out
        rw [hoo] at hst
        have HST := hid hst
        have X7 := hid (X6.out.below b7)
        have R7 := hid (R6.out.below b7)
        have B7 := hid (bt B6.out b7)
        have C7 := hid hcs
        have AW7 : Hid (Aw (.slice ra j rc) (oo, vo)) := .inr (fun k hk e => by
          have h1 := hnew k e
          have h2 := (R6.out.1.lt k hk).2
          omega)
        obtain ⟨va, vc, rfl, _⟩ := hcs.form
        clear hcs b7 hnew hst hoo X6 R6 B6 U6 hrun
        cases ok with
        | false =>
          have hd : D = ([], false) := by
            have h1 := HD.out
            rw [rdA_none mRef (j + 1) n s1 (by rw [HST.out]; rfl) (by omega)] at h1
            exact h1
          have HDD := hid hd
          clear hd
          go_wp2_with (first
            | (refine wpList_al_op rfl rfl ?_; intro w8 ho8 hb8 hlt8; have HO8 := hid ho8; have B8 := hid (bt B7.out hb8); have hp8 : w.heap.size ≤ w7.heap.size := B7.out.size; clear ho8 hb8 hlt8)
            | (refine wpList_st_op rfl rfl rfl rfl ⟨_, _, _, rfl⟩ HO8.out ?_; intro w9 ho9 hf9; have B9 := hid (below_fr B8.out hf9 hp8); clear ho9 hf9))
          go_ret2
          exact DA.no HDD.out B9.out
        | true =>
          have HRB : Hid (w.heap.size ≤ w7.heap.size) := B7.out.size
          go_wp2_with (first
            | (refine wpList_al_op rfl rfl ?_; intro w8 ho8 hb8 hlt8; have HO8 := hid ho8; have HB8 := hid hb8; clear ho8 hb8 hlt8)
            | (refine wpList_st_op rfl rfl rfl rfl ⟨_, _, _, rfl⟩ HO8.out ?_; intro w9 ho9 hf9; have HO9 := hid ho9; have b79 := below_fr HB8.out hf9 (Nat.le_refl _); have X9 := hid (X7.out.below b79); have R9 := hid (R7.out.below b79); have C9 := hid (C7.out.below b79); have B9 := hid (bt B7.out b79); clear ho9 hf9 b79)
            | (refine wpList_load_op rfl _ rfl _ rfl _ _ HO9.out ?_)
            | (refine wpList_ops1 rfl _ rfl oo _ rfl ?_; have X10 := hid (X9.out.below (ba w9 (opo oo (.slice va oo.cuts.length vc)))); have R10 := hid (R9.out.below (ba w9 (opo oo (.slice va oo.cuts.length vc)))); have O10 := hid (Os.one w9 oo _ C9.out); have B10 := hid (bt B9.out (ba w9 (opo oo (.slice va oo.cuts.length vc)))); have HS10 : Hid (w.heap.size ≤ (w9.alloc (opo oo (.slice va oo.cuts.length vc))).heap.size) := B10.out.size)
            | (at_builtin; refine wpList_append_op rfl _ _ rfl w.heap.size (.slice ra j rc) l rfl R10.out _ (oo, .slice va oo.cuts.length vc) rfl O10.out AW7.out HLE.out HS10.out ?_; intro v11 w11 hR11 hf11 hv11; have R11 := hid hR11; have HF11 := hid hf11; obtain ⟨a11, c11, rfl⟩ := hR11.form; clear hR11 hf11 hv11))
          have X11 : Cx w11 c q2 := X10.out.fr HF11.out (fun e => by
            obtain ⟨⟨u, hu, _⟩, _⟩ := X10.out
            exact own_far R10.out.1 hu (by decide) e) (fun k hk => R10.out.2.1 k hk)
          have B11 : Below w.heap.size w w11 := B10.out.trans (HF11.out.below (fun k hk e => by have := (R10.out.1.lt k e).1; omega) HS10.out)
          have hl1 : (l ++ [(oo, Value.slice va oo.cuts.length vc)]).length = l.length + 1 := by simp
          have hR := R11.out
          rw [hl1] at hR
          have hlj := HLL.out
          refine ⟨⟨j + 1, l ++ [(oo, Value.slice va oo.cuts.length vc)], q2, by omega, by go_num, ⟨a11, c11, by rw [hlj]⟩, by rw [hl1, hlj], ?_, X11, hR, B11⟩, by simp [intOf]; omega⟩
          rw [HST.out, if_pos trivial]
          simp [fsts]
    · obtain rfl : j = n := by omega
      have b1' : decide ((j : Int) < (j : Int)) = false := by simp
      have hd0 := HD.out
      rw [HRD.out] at hd0
      cases qb with
      | true =>
        have hd : D = ([], false) := hd0
        have HDD := hid hd
        clear hd hd0
        go_wp2
        go_ret2
        exact DA.no HDD.out BB.out
      | false =>
        by_cases hq : 0 < qs.length
        · have hd : D = ([], false) := by
            rw [hd0]
            cases qs with
            | nil => simp at hq
            | cons x r => rfl
          have HDD := hid hd
          have hq' : (0 : Int) < (qs.length : Int) := by omega
          clear hd hd0
          obtain ⟨Z, hZ⟩ : ∃ Z, qs.length = Z := ⟨_, rfl⟩
          rw [hZ] at hq hq' k0
          clear hZ
          go_wp2
          go_ret2
          exact DA.no HDD.out BB.out
        · obtain rfl : qs = [] := List.eq_nil_of_length_eq_zero (by omega)
          have hd : D = (fsts l, true) := hd0
          have HDD := hid hd
          clear hd hd0
          simp only [List.length_nil] at k0
          go_wp2
          go_ret2
          exact DA.yes HDD.out HR.out.os BB.out
end Go.Proofs.YtniecbblhphbdaaDoor

/-
  OpDecodes returns true for all bytes: its walk.
-/
namespace Go.Proofs.YtniecbblhphbdaaDoor
open Go.RowKit
set_option linter.unusedVariables false
set_option maxRecDepth 100000

theorem Os.under {w w' : World} {v : Value} {l : List (Opn × Value)} (h : Os w v l) (hb : Below w.heap.size w w') : Os w' v l := ⟨Sl.below h.1 hb, fun p hp => (h.2 p hp).below hb⟩

set_option maxHeartbeats 8000000 in
theorem decodes_walk (vb : Value) (xs : List Int) (w : World) (hB : Bs w vb xs) (hL : Lay w) :
    Calls Tryd.prog 3 #[vb] w fun e w' => e = .returned (.bool true) ∧ Below w.heap.size w w' := by
  have l1 := hB.len
  unfold maxLen at l1
  have HB := hid hB
  have HL := hid hL
  have HBY := hid hB.range
  obtain ⟨ba0, bc0, rfl⟩ := hB.form
  obtain ⟨N, hN⟩ : ∃ N, xs.length = N := ⟨_, rfl⟩
  have HN := hid hN
  rw [hN] at HB l1 ⊢
  clear hB hL hN
  go_enter Tryd.func3, Tryd.ntmps3
  go_wp2_with fail
  refine (alive_any w HL.out).mono ?_
  rintro e w1 ⟨rfl, b1⟩
  have B1 := hid b1
  clear b1
  by_cases hg : (3000 : Int) < N
  · go_wp2
    go_ret
    exact ⟨rfl, B1.out⟩
  · have hg' : ¬ (3000 : Int) < N := hg
    have HNL : Hid (xs.length ≤ 1099511627776) := by show _ ≤ _; rw [HN.out]; omega
    go_wp2_with fail
    refine (decode_any _ xs w1 (HL.out.below B1.out) (HB.out.below B1.out) HNL.out).mono ?_
    rintro e w2 ⟨v2, rfl, c2, b2, -⟩
    obtain ⟨⟨oo, ok⟩, hoo⟩ : ∃ z, decO Bnd.own xs = z := ⟨_, rfl⟩
    rw [hoo] at c2 ⊢
    have HOO := hid hoo
    have C2 := hid c2
    have B2 := hid (bt B1.out b2)
    obtain ⟨a2, k2, rfl, _⟩ := c2.form
    clear c2 b2 hoo
    go_wp2_with (first
      | (refine wpList_al_op rfl rfl ?_; intro w3 ho3 hb3 hlt3; have HO3 := hid ho3; have HB3 := hid hb3; clear ho3 hb3 hlt3)
      | (refine wpList_st_op rfl rfl rfl rfl ⟨_, _, _, rfl⟩ HO3.out ?_; intro w4 ho4 hf4; have HO4 := hid ho4; have HB4 := hid (below_fr HB3.out hf4 (Nat.le_refl _)); clear ho4 hf4))
    have B4 := hid (bt B2.out HB4.out)
    have C4 := hid (C2.out.below HB4.out)
    clear HO3 HB3 HB4 C2
    refine (xdecode_any _ xs w4 (HB.out.below B4.out) HNL.out).mono ?_
    rintro e w5 ⟨v5, rfl, c5, b5, -⟩
    rw [decO_same ref_ok own_ok HBY.out, HOO.out] at c5 ⊢
    have C5 := hid c5
    have B5 := hid (bt B4.out b5)
    have D5 := hid (C4.out.below b5)
    have HO5 := hid (HO4.out.below b5)
    obtain ⟨a5, k5, rfl, _⟩ := c5.form
    clear c5 b5
    go_wp2_with (first
      | (refine wpList_al_op rfl rfl ?_; intro w6 ho6 hb6 hlt6; have HO6 := hid ho6; have HB6 := hid hb6; clear ho6 hb6 hlt6)
      | (refine wpList_st_op rfl rfl rfl rfl ⟨_, _, _, rfl⟩ HO6.out ?_; intro w7 ho7 hf7; have HO7 := hid ho7; have HB7 := hid (below_fr HB6.out hf7 (Nat.le_refl _)); clear ho7 hf7))
    have B7 := hid (bt B5.out HB7.out)
    have C7 := hid (C5.out.below HB7.out)
    have D7 := hid (D5.out.below HB7.out)
    have HP7 := hid (HO5.out.below HB7.out)
    clear HO6 HB6 HB7 C5 D5 HO5 HO4 C4
    refine (decodeall_any _ xs w7 (HL.out.below B7.out) (HB.out.below B7.out) HNL.out).mono ?_
    rintro e w8 ⟨v8, l8, rfl, o8, f8, b8⟩
    rw [decA_same HBY.out HNL.out] at f8 ⊢
    have O8 := hid o8
    have F8 := hid f8
    have B8 := hid (bt B7.out b8)
    have C8 := hid (C7.out.below b8)
    have D8 := hid (D7.out.below b8)
    have HO8 := hid (HO7.out.below b8)
    have HP8 := hid (HP7.out.below b8)
    obtain ⟨a8, k8, rfl, _⟩ := (Sl.form o8.1)
    clear o8 f8 b8 C7 D7 HO7 HP7
    go_wp2_with fail
    refine (xdecodeall_any _ xs w8 (HB.out.below B8.out) HNL.out).mono ?_
    rintro e w9 ⟨v9, l9, rfl, o9, f9, b9⟩
    have O9 := hid o9
    have F9 := hid f9
    have P9 := hid (Os.under O8.out b9)
    have B9 := hid (bt B8.out b9)
    have C9 := hid (C8.out.below b9)
    have D9 := hid (D8.out.below b9)
    have HO9 := hid (HO8.out.below b9)
    have HP9 := hid (HP8.out.below b9)
    obtain ⟨a9, k9, rfl, _⟩ := (Sl.form o9.1)
    clear o9 f9 b9 C8 D8 HO8 HP8 O8
    obtain ⟨⟨dl, db⟩, hD⟩ : ∃ D, decA mRef xs = D := ⟨_, rfl⟩
    rw [hD] at F8 F9 ⊢
    clear hD
    go_wp2_with (first
      | (refine wpList_load_op rfl _ rfl _ rfl _ _ HP9.out ?_)
      | (refine wpList_load_op rfl _ rfl _ rfl _ _ HO9.out ?_))
    refine (sameop_any oo oo _ _ w9 D9.out C9.out).mono ?_
    rintro e w10 ⟨r, rfl, hr, b10⟩
    obtain rfl : r = true := hr.2 rfl
    have O10 := hid (Os.under O9.out b10)
    have P10 := hid (Os.under P9.out b10)
    have B10 := hid (bt B9.out b10)
    clear hr b10
    have hkk : (ok == ok) = true := by simp
    have hdd : (db == db) = true := by simp
    go_wp2_with fail
    refine (sameops_any _ _ l8 l9 w10 P10.out O10.out).mono ?_
    rintro e w11 ⟨r, rfl, hr, b11⟩
    obtain rfl : r = true := hr.2 (by rw [F8.out, F9.out])
    have B11 := hid (bt B10.out b11)
    clear hr b11
    go_wp2
    go_ret
    exact ⟨rfl, B11.out⟩
end Go.Proofs.YtniecbblhphbdaaDoor

/-
  From a walk to the given statement: what the arguments' readings give (ops, rows of ops, bytes), and a world for the witness.
-/
namespace Go.Proofs.YtniecbblhphbdaaDoor
open Go.RowKit Go.ChangeShapes Go.WideShapes Go.ChangeAt
set_option linter.unusedVariables false
set_option maxRecDepth 100000

theorem own : ownKnob Tryd.prog.godebug = none := by kernel_rfl
theorem laidOut : laidOutB Tryd.prog = true := by kernel_rfl

theorem Sl.of_rows {sz : Nat} {W : World} {x : Addr} {len cap : Nat} (hs : 0 < sz) (hl : len ≤ cap) (hm : cap ≤ maxLen) (R : Nat → List Value)
    (h : ∀ i, i < len → (R i).length = sz ∧ ∀ j u, (R i)[j]? = some u → W.cell? (x.add (i * sz + j)) = some u) : Sl sz W (.slice (some x) len cap) len ((List.range len).flatMap R) := by
  have hlen : ∀ n, n ≤ len → ((List.range n).flatMap R).length = n * sz := by
    intro n
    induction n with
    | zero => intro _; simp
    | succ n ih => intro hn; rw [List.range_succ, List.flatMap_append, List.length_append, ih (by omega)]; simp [(h n (by omega)).1, Nat.add_mul]
  have hat : ∀ n, n ≤ len → ∀ j u, ((List.range n).flatMap R)[j]? = some u → W.cell? (x.add j) = some u := by
    intro n
    induction n with
    | zero => intro _ j u hj; simp at hj
    | succ n ih =>
      intro hn j u hj
      rw [List.range_succ, List.flatMap_append] at hj
      by_cases hjl : j < n * sz
      · rw [List.getElem?_append_left (by rw [hlen n (by omega)]; exact hjl)] at hj
        exact ih (by omega) j u hj
      · rw [List.getElem?_append_right (by rw [hlen n (by omega)]; omega), hlen n (by omega)] at hj
        simp at hj
        have := (h n (by omega)).2 _ u hj
        rw [show n * sz + (j - n * sz) = j from by omega] at this
        exact this
  refine ⟨hlen len (Nat.le_refl _), some x, cap, rfl, hl, hm, fun h => (by cases h), fun j u hu => ?_⟩
  have h1 := hat len (Nat.le_refl _) j u hu
  have hpos : 0 < len := by
    rcases Nat.eq_zero_or_pos len with e | e
    · subst e; simp at hu
    · exact e
  obtain ⟨b, off, spot⟩ := x
  have hs0 : spot = none := by
    obtain ⟨h0, h0'⟩ := h 0 hpos
    obtain ⟨u0, hu0⟩ : ∃ u0, (R 0)[0]? = some u0 := ⟨_, List.getElem?_eq_getElem (by omega)⟩
    have := World.cell?_spot (h0' 0 u0 hu0)
    simpa [Addr.add] using this
  subst hs0
  rw [Addr.add_lit] at h1
  exact ⟨b, off, rfl, h1⟩

theorem cells_cut : Tryd.prog.cellsOf 71 = 4 := by kernel_rfl
theorem cells_id : Tryd.prog.cellsOf 25 = 2 := by kernel_rfl
theorem cells_char : Tryd.prog.cellsOf 27 = 3 := by kernel_rfl
theorem cells_int : Tryd.prog.cellsOf 3 = 1 := by kernel_rfl
theorem cells_str : Tryd.prog.cellsOf 9 = 1 := by kernel_rfl
theorem cells_bool : Tryd.prog.cellsOf 4 = 1 := by kernel_rfl
theorem cells_cuts : Tryd.prog.cellsOf 28 = 1 := by kernel_rfl
theorem cells_op : Tryd.prog.cellsOf 30 = 20 := by kernel_rfl

theorem list_3 {α : Type} {l : List α} (h : l.length = 3) : ∃ a b c, l = [a, b, c] := by
  match l, h with
  | [a, b, c], _ => exact ⟨a, b, c, rfl⟩
theorem list_4 {α : Type} {l : List α} (h : l.length = 4) : ∃ a b c d, l = [a, b, c, d] := by
  match l, h with
  | [a, b, c, d], _ => exact ⟨a, b, c, d, rfl⟩
theorem list_20 {α : Type} {l : List α} (h : l.length = 20) : ∃ a b c d e f g h i j k m n o p q r s t u, l = [a, b, c, d, e, f, g, h, i, j, k, m, n, o, p, q, r, s, t, u] := by
  match l, h with
  | [a, b, c, d, e, f, g, h, i, j, k, m, n, o, p, q, r, s, t, u], _ => exact ⟨a, b, c, d, e, f, g, h, i, j, k, m, n, o, p, q, r, s, t, u, rfl⟩

section
variable {H : Type} {enc : TypeId × Value → H} {W : World} {held : Bool}
theorem trod_id {n : Nat} {a b : Value} {x : DataW H × List MemPlace} (h : DataW.trod enc Tryd.prog W 0 (fun _ => true) held n 25 [a, b] = some x) : ∃ r m, a = .int .i64 r ∧ b = .int .i64 m := by
  obtain ⟨y0, y1, n, _, hl, h0, h1⟩ := trod_struct2 Tryd.underlying25 h
  simp [cells_int] at h0 h1
  obtain ⟨r, e0, _⟩ := DataW.trod_int Tryd.underlying3 h0
  obtain ⟨m, e1, _⟩ := DataW.trod_int Tryd.underlying3 h1
  simp at e0 e1
  exact ⟨r, m, e0, e1⟩
theorem trod_char {n : Nat} {a b c : Value} {x : DataW H × List MemPlace} (h : DataW.trod enc Tryd.prog W 0 (fun _ => true) held n 27 [a, b, c] = some x) : ∃ r m i, a = .int .i64 r ∧ b = .int .i64 m ∧ c = .int .i64 i := by
  obtain ⟨y0, y1, n, _, hl, h0, h1⟩ := trod_struct2 Tryd.underlying27 h
  simp [cells_int, cells_id] at h0 h1
  obtain ⟨r, m, e0, e1⟩ := trod_id h0
  obtain ⟨i, e2, _⟩ := DataW.trod_int Tryd.underlying3 h1
  simp at e2
  exact ⟨r, m, i, e0, e1, e2⟩
theorem trod_cut {n : Nat} {cs : List Value} {x : DataW H × List MemPlace} (h : DataW.trod enc Tryd.prog W 0 (fun _ => true) held n 71 cs = some x) : ∃ c : Ct, cs = cutc c := by
  obtain ⟨xs, k, hk, hxy, hlen, hxl, hfl⟩ := DataW.trod_struct Tryd.underlying71 h
  rw [cells_cut] at hlen
  obtain ⟨y0, y1, y2, rfl⟩ := list_3 hxl
  obtain ⟨v0, v1, v2, v3, rfl⟩ := list_4 hlen
  have g0 := hfl 0 _ rfl
  have g1 := hfl 1 _ rfl
  have g2 := hfl 2 _ rfl
  simp [cells_int, cells_id] at g0 g1 g2
  obtain ⟨r, m, rfl, rfl⟩ := trod_id g0
  obtain ⟨f, e1, _⟩ := DataW.trod_int Tryd.underlying3 g1
  obtain ⟨t, e2, _⟩ := DataW.trod_int Tryd.underlying3 g2
  simp at e1 e2
  subst e1; subst e2
  exact ⟨⟨r, m, f, t⟩, rfl⟩
theorem trod_cuts {n : Nat} {v : Value} {x : DataW H × List MemPlace} (h : DataW.trod enc Tryd.prog W 0 (fun _ => true) held n 28 [v] = some x) : ∃ l, Cs W v l := by
  rcases Go.Deep.open_slice Tryd.underlying28 h with ⟨hcs, _⟩ | ⟨x, len, c, m, n, D, Pl, hcs, _, hl, hm, hmm, _, hx⟩
  · simp at hcs
    subst hcs
    exact ⟨[], Cs.nil W⟩
  · simp at hcs
    subst hcs
    simp at hmm
    subst hmm
    rw [cells_cut] at hx
    have each : ∀ i, i < len → ∃ q : Ct, W.cells? 0 (x.add (i * 4)) 4 = some (cutc q) := fun i hi => by
      obtain ⟨cs', h1, h2⟩ := hx i (by omega)
      obtain ⟨q, rfl⟩ := trod_cut h2
      exact ⟨q, h1⟩
    have hinh : Inhabited Ct := ⟨Ct.zero⟩
    obtain ⟨q, hq⟩ := Go.Deep.choose_lt each
    refine ⟨(List.range len).map q, ?_⟩
    have := Sl.of_rows (sz := 4) (W := W) (x := x) (by decide) hl hm (fun i => cutc (q i)) (fun i hi => ⟨rfl, fun j u hu => by
      obtain ⟨_, _, hcell⟩ := World.cells?_some (hq i hi)
      have hj : j < 4 := (List.getElem?_eq_some_iff.1 hu).1
      have := hcell j hj
      rw [Go.Deep.add_add] at this
      rw [this, hu]⟩)
    unfold Cs
    rw [List.length_map, List.length_range, List.flatMap_map]
    exact this
theorem trod_op {n : Nat} {cs : List Value} {x : DataW H × List MemPlace} (h : DataW.trod enc Tryd.prog W 0 (fun _ => true) held n 30 cs = some x) : ∃ o v, cs = opc (o, v) ∧ Cs W v o.cuts := by
  obtain ⟨xs, k, hk, hxy, hlen, hxl, hfl⟩ := DataW.trod_struct Tryd.underlying30 h
  rw [cells_op] at hlen
  obtain ⟨v0, v1, v2, v3, v4, v5, v6, v7, v8, v9, v10, v11, v12, v13, v14, v15, v16, v17, v18, v19, rfl⟩ := list_20 hlen
  have hsz : xs.length = 12 := hxl
  have hat : ∀ i, i < 12 → ∃ y, xs[i]? = some y := fun i hi => ⟨_, List.getElem?_eq_getElem (by omega)⟩
  obtain ⟨z0, k0⟩ := hat 0 (by decide)
  obtain ⟨z1, k1⟩ := hat 1 (by decide)
  obtain ⟨z2, k2⟩ := hat 2 (by decide)
  obtain ⟨z3, k3⟩ := hat 3 (by decide)
  obtain ⟨z4, k4⟩ := hat 4 (by decide)
  obtain ⟨z5, k5⟩ := hat 5 (by decide)
  obtain ⟨z6, k6⟩ := hat 6 (by decide)
  obtain ⟨z7, k7⟩ := hat 7 (by decide)
  obtain ⟨z8, k8⟩ := hat 8 (by decide)
  obtain ⟨z9, k9⟩ := hat 9 (by decide)
  obtain ⟨z10, k10⟩ := hat 10 (by decide)
  obtain ⟨z11, k11⟩ := hat 11 (by decide)
  have g0 := (hfl 0 _ rfl).trans k0
  have g1 := (hfl 1 _ rfl).trans k1
  have g2 := (hfl 2 _ rfl).trans k2
  have g3 := (hfl 3 _ rfl).trans k3
  have g4 := (hfl 4 _ rfl).trans k4
  have g5 := (hfl 5 _ rfl).trans k5
  have g6 := (hfl 6 _ rfl).trans k6
  have g7 := (hfl 7 _ rfl).trans k7
  have g8 := (hfl 8 _ rfl).trans k8
  have g9 := (hfl 9 _ rfl).trans k9
  have g10 := (hfl 10 _ rfl).trans k10
  have g11 := (hfl 11 _ rfl).trans k11
  simp [cells_int] at g0
  simp [cells_id] at g1
  simp [cells_int] at g2
  simp [cells_id] at g3
  simp [cells_id] at g4
  simp [cells_str] at g5
  simp [cells_id] at g6
  simp [cells_char] at g7
  simp [cells_char] at g8
  simp [cells_str] at g9
  simp [cells_cuts] at g10
  simp [cells_bool] at g11
  obtain ⟨a0, e0, _⟩ := DataW.trod_int Tryd.underlying3 g0
  obtain ⟨a1, a2, rfl, rfl⟩ := trod_id g1
  obtain ⟨a3, e3, _⟩ := DataW.trod_int Tryd.underlying3 g2
  obtain ⟨a4, a5, rfl, rfl⟩ := trod_id g3
  obtain ⟨a6, a7, rfl, rfl⟩ := trod_id g4
  obtain ⟨a8, e8, _⟩ := DataW.trod_string Tryd.underlying9 g5
  obtain ⟨a9, a10, rfl, rfl⟩ := trod_id g6
  obtain ⟨a11, a12, a13, rfl, rfl, rfl⟩ := trod_char g7
  obtain ⟨a14, a15, a16, rfl, rfl, rfl⟩ := trod_char g8
  obtain ⟨a17, e17, _⟩ := DataW.trod_string Tryd.underlying9 g9
  obtain ⟨l, hl⟩ := trod_cuts g10
  obtain ⟨a19, e19, _⟩ := DataW.trod_bool Tryd.underlying4 g11
  obtain rfl : v0 = _ := by simpa using e0
  obtain rfl : v3 = _ := by simpa using e3
  obtain rfl : v8 = _ := by simpa using e8
  obtain rfl : v17 = _ := by simpa using e17
  obtain rfl : v19 = _ := by simpa using e19
  exact ⟨⟨a0, a1, a2, a3, a4, a5, a6, a7, a8, a9, a10, a11, a12, a13, a14, a15, a16, a17, l, a19⟩, v18, rfl, hl⟩
theorem open_op {b0 : Nat} {v : Value} {d : DataW H} {p : List MemPlace} (hv : Value.okWide Tryd.prog W .any b0 30 v) (h : DataW.Trod enc Tryd.prog W 0 (fun _ => true) held 30 v d p) : ∃ o u, v = opv o u ∧ Cs W u o.cuts := by
  obtain ⟨cs, rfl, hsz⟩ := okWide_struct Tryd.underlying30 hv
  obtain ⟨fuel, hf⟩ := h
  obtain ⟨o, u, e, hc⟩ := trod_op hf
  refine ⟨o, u, ?_, hc⟩
  obtain ⟨l⟩ := cs
  have e' : l = opc (o, u) := by simpa [Value.cells] using e
  rw [e']
theorem open_ops {b0 : Nat} {v : Value} {d : DataW H} {p : List MemPlace} (hv : Value.okWide Tryd.prog W .any b0 33 v) (h : DataW.Trod enc Tryd.prog W 0 (fun _ => true) held 33 v d p) : ∃ l, Os W v l := by
  obtain ⟨a, len, cap, rfl⟩ := okWide_slice Tryd.underlying33 hv
  obtain ⟨fuel, hf⟩ := h
  rcases Go.Deep.open_slice Tryd.underlying33 hf with ⟨hcs, _⟩ | ⟨x, l, c, m, n, D, Pl, hcs, _, hl, hm, hmm, _, hx⟩
  · simp [Value.cells] at hcs
    obtain ⟨rfl, rfl, rfl⟩ := hcs
    exact ⟨[], Sl.nil 20 W, fun p hp => by cases hp⟩
  · simp [Value.cells] at hcs
    obtain ⟨rfl, rfl, rfl⟩ := hcs
    simp at hmm
    subst hmm
    rw [cells_op] at hx
    have each : ∀ i, i < len → ∃ q : Opn × Value, W.cells? 0 (x.add (i * 20)) 20 = some (opc q) ∧ Cs W q.2 q.1.cuts := fun i hi => by
      obtain ⟨cs', h1, h2⟩ := hx i (by omega)
      obtain ⟨o, u, rfl, hc⟩ := trod_op h2
      exact ⟨(o, u), h1, hc⟩
    have hinh : Inhabited (Opn × Value) := ⟨(Opn.zero, .slice none 0 0)⟩
    obtain ⟨q, hq⟩ := Go.Deep.choose_lt each
    refine ⟨(List.range len).map q, ?_, fun p hp => ?_⟩
    · have := Sl.of_rows (sz := 20) (W := W) (x := x) (by decide) hl hm (fun i => opc (q i)) (fun i hi => ⟨rfl, fun j u hu => by
        obtain ⟨_, _, hcell⟩ := World.cells?_some (hq i hi).1
        have hj : j < 20 := (List.getElem?_eq_some_iff.1 hu).1
        have := hcell j hj
        rw [Go.Deep.add_add] at this
        rw [this, hu]⟩)
      rw [List.length_map, List.length_range, List.flatMap_map]
      exact this
    · obtain ⟨i, hi, rfl⟩ := List.mem_map.1 hp
      exact (hq i (List.mem_range.1 hi)).2
theorem open_u8s {b0 : Nat} {v : Value} {d : DataW H} {p : List MemPlace} (hv : Value.okWide Tryd.prog W .any b0 22 v) (h : DataW.Trod enc Tryd.prog W 0 (fun _ => true) held 22 v d p) : ∃ xs, Bs W v xs := by
  obtain ⟨a, len, cap, rfl⟩ := okWide_slice Tryd.underlying22 hv
  obtain ⟨fuel, hf⟩ := h
  rcases open_ints Tryd.underlying22 Tryd.underlying5 (by kernel_rfl) hf with ⟨hcs, _⟩ | ⟨x, l, c, zs, hcs, _, hl, hm, hz, _, hcell, hwz⟩
  · simp [Value.cells] at hcs
    obtain ⟨rfl, rfl, rfl⟩ := hcs
    exact ⟨[], Bs.nil W⟩
  · simp [Value.cells] at hcs
    obtain ⟨rfl, rfl, rfl⟩ := hcs
    exact ⟨zs.take len, Bs.of_row hl hm (by simpa using hz) hcell hwz⟩
theorem open_byte {b0 : Nat} {v : Value} {d : DataW H} {p : List MemPlace} (hv : Value.okWide Tryd.prog W .any b0 5 v) (h : DataW.Trod enc Tryd.prog W 0 (fun _ => true) held 5 v d p) : ∃ x, v = .int .u8 x ∧ 0 ≤ x ∧ x < 256 := by
  obtain ⟨a, rfl, _, _, hw⟩ := open_int Tryd.underlying5 hv h
  refine ⟨a, rfl, ?_⟩
  simp [Lit.wf, IntKind.min, IntKind.max, IntKind.signed, IntKind.bits] at hw
  omega
end

/-- The heap that the program's own text lays meets the list. -/
theorem door_met (os : Go.Os) (args : Array Value) : laidMetH Tryd.prog Rows.opBackRow.laid ((World.doorLaid Tryd.prog 72 os).forCall (fun _ _ => 0) ⟨#[], args, []⟩).memory := by
  rw [MakeChecks.laidMetH_plain _ _ _ (by kernel_rfl)]
  exact laidMet_of_run' 8 (by kernel_rfl) (by kernel_rfl)

end Go.Proofs.YtniecbblhphbdaaDoor
