/-
  Parts of the proof, one behind the other; what each proves stands at its head.
-/
import Derived.Test.YteckjkblngmenaaGreatDoorPart10
import Derived.Test.YteckjkblngmenaaGreatDoorPart24
import Derived.Test.YteckjkblngmenaaGreatDoorPart11
import Derived.Test.YteckjkblngmenaaGreatDoorPart15
import Derived.Test.YteckjkblngmenaaGreatDoorPart9
import Derived.Deep.QuietTactic
import Derived.BigQuiet
import Derived.Test.YteckjkblngmenaaGreatDoorPart1
import Derived.Test.YteckjkblngmenaaGreatDoorPart14
import Derived.Deep.Matrix
import Derived.SizedLaws
import Derived.Maps.AppendAt

/-
  What the reference's DecodeAll returns is proved here once more: it is new memory.
-/
namespace Go.Proofs.YteckjkblngmenaaGreatDoor
open Go.RowKit
set_option linter.unusedVariables false
set_option maxRecDepth 100000

def DB (D : List Opn × Bool) (w : World) (e : Ending) (w' : World) : Prop := ∃ v l, e = .returned (.tuple #[v, .bool D.2]) ∧ Os w' v l ∧ fsts l = D.1 ∧ Below w.heap.size w w' ∧ Nn w.heap.size v l
theorem DB.no {D : List Opn × Bool} {w w' : World} (hd : D = ([], false)) (hb : Below w.heap.size w w') : DB D w (.returned (.tuple #[.slice none 0 0, .bool false])) w' := by
  subst hd
  exact ⟨_, [], rfl, ⟨Sl.nil _ _, fun p hp => by cases hp⟩, rfl, hb, fun k hk => by (cases hk), Nw.nil _⟩
theorem DB.yes {D : List Opn × Bool} {w w' : World} {v : Value} {l : List (Opn × Value)} (hd : D = (fsts l, true)) (ho : Rw w.heap.size w' v l) (hn : Nw w.heap.size l) (hb : Below w.heap.size w w') : DB D w (.returned (.tuple #[v, .bool true])) w' := by
  subst hd
  exact ⟨v, l, rfl, ho.os, rfl, hb, fun k hk => (ho.1.lt k hk).1, hn⟩
set_option maxHeartbeats 4000000 in
theorem xdecall_new (vb : Value) (xs : List Int) (w : World) (h : Bs w vb xs) (hn : xs.length ≤ 1099511627776) :
    Calls Tryz.prog 67 #[vb] w fun e w' => DB (decA mRef xs) w e w' := by
  have HB := hid h
  have HLN := hid hn
  have HBY := hid h.range
  have hrv := rn_val (m := 1048576) (s := (xs, false)) h.range
  obtain ⟨N0, s1, hrn⟩ : ∃ N0 s1, rn 1048576 (xs, false) = (N0, s1) := ⟨_, _, rfl⟩
  rw [hrn] at hrv
  obtain ⟨n, rfl⟩ : ∃ n : Nat, N0 = n := ⟨N0.toNat, by have := hrv.1; simp at this; omega⟩
  have hn20 : n ≤ 1048576 := by have := hrv.2.2 (by decide); simp at this; omega
  have HRN := hid hrn
  have HD := hid (decA_eq (m := mRef) hrn)
  obtain ⟨D, hD⟩ : ∃ D, decA mRef xs = D := ⟨_, rfl⟩
  rw [hD] at HD ⊢
  clear h hn hrv hrn hD
  go_enter Tryz.func67, Tryz.ntmps67
  go_wp2_with fail
  refine (copy_own vb xs w HB.out (by have := HLN.out; omega)).mono ?_
  rintro e w2 ⟨g, cap, rfl, hown, b2⟩
  have hbs := Bs.of_own hown HBY.out
  have HA3 := ba w2 (.cells #[.slice (some ⟨g, 0, none⟩) xs.length cap, .bool false] 111)
  have HX : Hid (Cx (w2.alloc (.cells #[.slice (some ⟨g, 0, none⟩) xs.length cap, .bool false] 111)) w2.heap.size (xs, false)) := hid ⟨⟨_, heap_alloc_new w2 _, hbs.below HA3⟩, ⟨HBY.out, fun e => by cases e⟩, HLN.out⟩
  have BB := hid (bt b2 HA3)
  have hcB : w.heap.size ≤ w2.heap.size := b2.size
  clear hown b2 HA3 hbs
  go_wp2_with fail
  refine (xnum_s w2.heap.size (xs, false) 1048576 _ HX.out).mono ?_
  rintro e w4 ⟨rfl, hx, hg⟩
  obtain ⟨c, hc⟩ : ∃ c, w2.heap.size = c := ⟨_, rfl⟩
  rw [hc] at hx hg hcB ⊢
  rw [HRN.out] at hx ⊢
  have B4 := hid (below_fr BB.out (Fr.grown hg) hcB)
  have X4 := hid (Cx.below hx (ba w4 (.cells #[] 77)))
  have hs4 : w.heap.size ≤ w4.heap.size := B4.out.size
  have R4 := hid (Rw.made (w := w4) hs4)
  have BB4 := hid (bt B4.out (ba w4 (.cells #[] 77)))
  clear hx hg hc HX BB
  go_wp2
  go_loopw [6,7] (fun r i wr => ∃ (j : Nat) (l : List (Opn × Value)) (q : St),j ≤ n ∧ i = .int .i64 j ∧ (∃ ra rc,r = .slice ra j rc) ∧ l.length = j ∧ rdA mRef j s1 = some (fsts l,q) ∧ Cx wr c q ∧ Rw w.heap.size wr r l ∧ Nw w.heap.size l ∧ Below w.heap.size w wr) (fun _ i _ => n - (intOf i).toNat)
  case atStart => exact ⟨0, [], s1, Nat.zero_le _, rfl, ⟨_, _, rfl⟩, rfl, rfl, X4.out, R4.out, Nw.nil _, BB4.out⟩
  case round =>
    obtain ⟨j, l, q, hj, rfl, ⟨ra, rc, rfl⟩, hll, hrd, hx, hr, hnw, hb⟩ := hrel
    have HNW := hid hnw
    have HX := hid hx
    have HR := hid hr
    have BB := hid hb
    have HRD := hid hrd
    have HLL := hid hll
    clear hr hb hrd hll hnw
    obtain ⟨qs, qb⟩ := q
    obtain ⟨⟨cv, hcv, hcb⟩, hvl, hql⟩ := hx
    have hql' : qs.length ≤ 1099511627776 := hql
    clear hql
    have HVL := hid hvl
    obtain ⟨ca, cc, rfl⟩ := hcb.form
    have k0 := cell_of_row wr c 0 _ _ _ hcv
    have k1 := cell_of_row wr c 1 _ _ _ hcv
    simp only [List.getElem?_toArray, List.getElem?_cons_zero, List.getElem?_cons_succ] at k0 k1
    have HCV := hid hcv
    clear hcv hcb hvl
    by_cases hlt : j < n
    · have b1' : (j : Int) < (n : Int) := by omega
      cases qb with
      | true =>
        have hq : qs = [] := HVL.out.2 rfl
        subst hq
        have hd : D = ([], false) := by
          have h1 := HD.out
          rw [rdA_none mRef (j + 1) n s1 (rdA_lost HRD.out rfl) (by omega)] at h1
          exact h1
        have HDD := hid hd
        clear hd
        go_wp2
        go_ret2
        exact DB.no HDD.out BB.out
      | false =>
        obtain ⟨t, q2, ht⟩ : ∃ t q2, rt (mRef (qs, false)) (qs, false) = (t, q2) := ⟨_, _, rfl⟩
        have hst := rdA_step mRef j s1 (qs, false) (fsts l) HRD.out
        have hsh := (rt_short (mRef (qs, false)) (qs, false) HVL.out.1).1
        rw [ht] at hst hsh
        have htb : K.Byt (tx t) := fun x hx => M.ofStr_byte _ x hx
        have NT := hid (xtext_s c (qs, false) 281474976710656 wr HX.out)
        have ht' : rt 281474976710656 (qs, false) = (t, q2) := ht
        rw [ht'] at NT
        have HT := hid ht
        have HST := hid hst
        have HLE : Hid (l.length ≤ 1048576) := by show _ ≤ _; rw [HLL.out]; omega
        have HSH : Hid (t.size ≤ 1099511627776) := by show _ ≤ _; simp at hsh; omega
        have HTB := hid htb
        clear ht hst hsh htb ht'
        go_wp2_with fail
        refine NT.out.mono ?_
        rintro e w5 ⟨rfl, hx5, hg5⟩
        have HBS := hid (BB.out.size)
        have R5 := hid (HR.out.cur HX.out.1 (by decide) hg5)
        have B5 := hid (below_fr BB.out (Fr.grown hg5) hcB)
        have X5 := hid hx5
        clear hx5 hg5 k0 k1 NT
        obtain ⟨u6, w6, hrun, hb6, hB6⟩ := tobytes t w5 HSH.out
        have hb6l := hb6.len
        have X6 := hid (X5.out.below hB6)
        have R6 := hid (R5.out.below hB6)
        have B6 := hid (bt B5.out hB6)
        have U6 := hid hb6
        have hs6 := B6.out.size
        obtain ⟨ua, uc, rfl⟩ := hb6.form
        clear hb6 hB6 hb6l X5 R5 B5
        go_wp2_with fail
        refine (xdecode_any _ (tx t) w6 U6.out (by rw [tx_length]; exact HSH.out)).mono ?_
        rintro e w7 ⟨vo, rfl, hcs, b7, hnew⟩
        rw [decO_same ref_ok own_ok HTB.out] at hcs ⊢
        obtain ⟨⟨oo, ok⟩, hoo⟩ : ∃ z, decO Bnd.own (tx t) = z := ⟨_, rfl⟩
        rw [hoo] at hcs ⊢
        have hst := HST.out
        rw [hoo] at hst
        have HST := hid hst
        have X7 := hid (X6.out.below b7)
        have R7 := hid (R6.out.below b7)
        have B7 := hid (bt B6.out b7)
        have C7 := hid hcs
        have AW7 : Hid (Aw (.slice ra j rc) (oo, vo)) := .inr (fun k hk e => by
          have h1 := hnew k e
          have h2 := (R6.out.1.lt k hk).2
          omega)
        have NU7 : Hid (∀ k, vo.ownBlock = some k → w.heap.size ≤ k) := hid (fun k hk => Nat.le_trans B6.out.size (hnew k hk))
        obtain ⟨va, vc, rfl, _⟩ := hcs.form
        clear hcs b7 hnew hst hoo X6 R6 B6 U6 hrun
        cases ok with
        | false =>
          have hd : D = ([], false) := by
            have h1 := HD.out
            rw [rdA_none mRef (j + 1) n s1 (by rw [HST.out]; rfl) (by omega)] at h1
            exact h1
          have HDD := hid hd
          clear hd
          go_wp2_with (first
            | (refine wpList_al_op rfl rfl ?_; intro w8 ho8 hb8 hlt8; have HO8 := hid ho8; have B8 := hid (bt B7.out hb8); have hp8 : w.heap.size ≤ w7.heap.size := B7.out.size; clear ho8 hb8 hlt8)
            | (refine wpList_st_op rfl rfl rfl rfl ⟨_, _, _, rfl⟩ HO8.out ?_; intro w9 ho9 hf9; have B9 := hid (below_fr B8.out hf9 hp8); clear ho9 hf9))
          go_ret2
          exact DB.no HDD.out B9.out
        | true =>
          have HRB : Hid (w.heap.size ≤ w7.heap.size) := B7.out.size
          go_wp2_with (first
            | (refine wpList_al_op rfl rfl ?_; intro w8 ho8 hb8 hlt8; have HO8 := hid ho8; have HB8 := hid hb8; clear ho8 hb8 hlt8)
            | (refine wpList_st_op rfl rfl rfl rfl ⟨_,_,_,rfl⟩ HO8.out ?_; intro w9 ho9 hf9; have HO9 := hid ho9; have b79 := below_fr HB8.out hf9 (Nat.le_refl _); have X9 := hid (X7.out.below b79); have R9 := hid (R7.out.below b79); have C9 := hid (C7.out.below b79); have B9 := hid (bt B7.out b79); clear ho9 hf9 b79)
            | (refine wpList_load_op rfl _ rfl _ rfl _ _ HO9.out ?_)
            | (refine wpList_ops1 rfl _ rfl oo _ rfl ?_; have X10 := hid (X9.out.below (ba w9 (opo oo (.slice va oo.cuts.length vc)))); have R10 := hid (R9.out.below (ba w9 (opo oo (.slice va oo.cuts.length vc)))); have O10 := hid (Os.one w9 oo _ C9.out); have B10 := hid (bt B9.out (ba w9 (opo oo (.slice va oo.cuts.length vc)))); have HS10 : Hid (w.heap.size ≤ (w9.alloc (opo oo (.slice va oo.cuts.length vc))).heap.size) := B10.out.size)
            | (at_builtin; refine wpList_append_op rfl _ _ rfl w.heap.size (.slice ra j rc) l rfl R10.out _ (oo,.slice va oo.cuts.length vc) rfl O10.out AW7.out HLE.out HS10.out ?_; intro v11 w11 hR11 hf11 hv11; have R11 := hid hR11; have HF11 := hid hf11; obtain ⟨a11,c11,rfl⟩ := hR11.form; clear hR11 hf11 hv11))
          have X11 : Cx w11 c q2 := X10.out.fr HF11.out (fun e => by
            obtain ⟨⟨u, hu, _⟩, _⟩ := X10.out
            exact own_far R10.out.1 hu (by decide) e) (fun k hk => R10.out.2.1 k hk)
          have B11 : Below w.heap.size w w11 := B10.out.trans (HF11.out.below (fun k hk e => by have := (R10.out.1.lt k e).1; omega) HS10.out)
          have hl1 : (l ++ [(oo, Value.slice va oo.cuts.length vc)]).length = l.length + 1 := by simp
          have hR := R11.out
          rw [hl1] at hR
          have hlj := HLL.out
          refine ⟨⟨j + 1, l ++ [(oo, Value.slice va oo.cuts.length vc)], q2, by omega, by go_num, ⟨a11, c11, by rw [hlj]⟩, by rw [hl1, hlj], ?_, X11, hR, HNW.out.snoc NU7.out, B11⟩, by simp [intOf]; omega⟩
          rw [HST.out, if_pos trivial]
          simp [fsts]
    · obtain rfl : j = n := by omega
      have b1' : decide ((j : Int) < (j : Int)) = false := by simp
      have hd0 := HD.out
      rw [HRD.out] at hd0
      cases qb with
      | true =>
        have hd : D = ([], false) := hd0
        have HDD := hid hd
        clear hd hd0
        go_wp2
        go_ret2
        exact DB.no HDD.out BB.out
      | false =>
        by_cases hq : 0 < qs.length
        · have hd : D = ([], false) := by
            rw [hd0]
            cases qs with
            | nil => simp at hq
            | cons x r => rfl
          have HDD := hid hd
          have hq' : (0 : Int) < (qs.length : Int) := by omega
          clear hd hd0
          obtain ⟨Z, hZ⟩ : ∃ Z, qs.length = Z := ⟨_, rfl⟩
          rw [hZ] at hq hq' k0
          clear hZ
          go_wp2
          go_ret2
          exact DB.no HDD.out BB.out
        · obtain rfl : qs = [] := List.eq_nil_of_length_eq_zero (by omega)
          have hd : D = (fsts l, true) := hd0
          have HDD := hid hd
          clear hd hd0
          simp only [List.length_nil] at k0
          go_wp2
          go_ret2
          exact DB.yes HDD.out HR.out HNW.out BB.out
end Go.Proofs.YteckjkblngmenaaGreatDoor

/-
  What the reference's Sum and number return is proved here, for all slices that read as bytes.
-/
namespace Go.Proofs.YteckjkblngmenaaGreatDoor
open Go.RowKit
set_option linter.unusedVariables false
set_option maxRecDepth 100000

theorem step_odd {s : Nat} (h : s % 2 = 1) (hs : s < 4294967296) : bits .xor .i64 ((s : Int) / 2) 3988292384 = ((C.step s : Nat) : Int) := by
  have := xor_i64 (s / 2) 3988292384 (by omega) (by decide)
  rw [show C.step s = (s / 2) ^^^ 3988292384 by unfold C.step; rw [if_pos h]]
  rw [← this]
  rfl
theorem step_even' {s : Nat} (h : ¬ s % 2 = 1) : ((s : Int) / 2) = ((C.step s : Nat) : Int) := by
  rw [show C.step s = s / 2 by unfold C.step; rw [if_neg h]]
  rfl

set_option maxHeartbeats 1000000 in
theorem refsum_any (v : Value) (xs : List Int) (w : World) (h : Bs w v xs) :
    Calls Tryz.prog 75 #[v] w fun e w' => e = .returned (.int .i64 (C.sum xs : Nat)) ∧ w = w' := by
  have hr : C.Bytes xs := h.range
  have hl := h.len
  unfold maxLen at hl
  have hB := hid h
  have hv : ∃ a c, v = .slice a xs.length c := by
    obtain ⟨a, c, e, _⟩ := h
    exact ⟨a, c, e⟩
  obtain ⟨a, c, rfl⟩ := hv
  clear h
  have HR := hid hr
  clear hr
  obtain ⟨n, hn⟩ : ∃ n, xs.length = n := ⟨_, rfl⟩
  rw [hn] at hl hB ⊢
  have HN := hid hn
  clear hn
  go_enter Tryz.func75, Tryz.ntmps75
  go_wp2
  go_loop [3, 4] (fun s i => ∃ k : Nat, k ≤ n ∧ i = .int .i64 k ∧ s = .int .i64 (C.run 4294967295 (xs.take k) : Nat)) (fun _ i => n - (intOf i).toNat)
  case atStart => exact ⟨0, Nat.zero_le _, rfl, rfl⟩
  case round =>
    obtain ⟨k, hk, rfl, rfl⟩ := hrel
    have hN := C.run_lt (n := 4294967295) (l := xs.take k) (by decide) (C.Bytes.take HR.out k)
    by_cases hlt : k < n
    · have hlt' : (k : Int) < (n : Int) := by omega
      have hst := run_take_succ (xs := xs) (k := k) (by rw [HN.out]; exact hlt) 4294967295
      have hx := C.getD_byte HR.out k
      obtain ⟨b, off, c', e1, _, _, hc⟩ := hB.out.inv (by rw [HN.out]; omega)
      simp only [Value.slice.injEq] at e1
      obtain ⟨rfl, -, rfl⟩ := e1
      have hck := hc k (by rw [HN.out]; exact hlt)
      clear hc
      obtain ⟨N, hN'⟩ : ∃ N, C.run 4294967295 (xs.take k) = N := ⟨_, rfl⟩
      rw [hN'] at hN hst ⊢
      obtain ⟨x, hx'⟩ : ∃ x, xs.getD k 0 = x := ⟨_, rfl⟩
      rw [hx'] at hx hst hck
      obtain ⟨y, rfl⟩ := Int.eq_ofNat_of_zero_le hx.1
      have hy : y < 256 := by omega
      have hxor := xor_i64 N y hN (by omega)
      have hM := C.xor_lt hN (show y < 4294967296 by omega)
      obtain ⟨M, hM'⟩ : ∃ M, N ^^^ y = M := ⟨_, rfl⟩
      rw [hM'] at hxor hM
      have HST := hid hst
      have HM := hid hM'
      clear hst hM' hN' hx' hx
      go_wp2
      go_loop [3, 5] (fun s j => ∃ m : Nat, m ≤ 8 ∧ j = .int .i64 m ∧ s = .int .i64 (C.steps m M : Nat)) (fun _ j => 8 - (intOf j).toNat)
      case atStart => exact ⟨0, by omega, rfl, rfl⟩
      case round =>
        obtain ⟨m, hm, rfl, rfl⟩ := hrel
        have hs := C.steps_lt m hM
        have hsn := C.steps_snoc m M
        obtain ⟨s, hs'⟩ : ∃ s, C.steps m M = s := ⟨_, rfl⟩
        rw [hs'] at hs hsn ⊢
        by_cases hm8 : m < 8
        · have hm8' : (m : Int) < 8 := by omega
          have HS := hid hsn
          clear hsn hs'
          by_cases ho : s % 2 = 1
          · have ho' : ((s : Int) % 2 == 1) = true := by simp; omega
            have hx2 := step_odd ho hs
            clear ho
            go_wp2
            go_round
            case rel => exact ⟨m + 1, by omega, by go_num, by rw [HS.out]⟩
            case measure => simp [intOf]; omega
          · have ho' : ((s : Int) % 2 == 1) = false := by simp; omega
            have hx2 := hid (step_even' ho)
            clear ho
            go_wp2
            go_round
            case rel => exact ⟨m + 1, by omega, by go_num, by rw [HS.out, ← hx2.out]⟩
            case measure => simp [intOf]; omega
        · obtain rfl : m = 8 := by omega
          have HS := hid hs'
          clear hs' hsn
          go_wp2
          go_round
          case rel => exact ⟨k + 1, by omega, by go_num, by rw [HST.out, ← HS.out, C.eat, Int.toNat_natCast, HM.out]⟩
          case measure => simp [intOf]; omega
    · obtain rfl : k = n := by omega
      have hs : C.sum xs = C.run 4294967295 (xs.take k) ^^^ 4294967295 := by
        rw [List.take_of_length_le (by rw [HN.out]; exact Nat.le_refl _)]; rfl
      obtain ⟨N, hN'⟩ : ∃ N, C.run 4294967295 (xs.take k) = N := ⟨_, rfl⟩
      rw [hN'] at hN hs ⊢
      have hx := xor_i64 N 4294967295 hN (by decide)
      rw [← hs] at hx
      have hx2 : bits .xor .i64 (N : Int) 4294967295 = ((C.sum xs : Nat) : Int) := hx
      clear hN' hs hx
      go_wp2
      go_ret
      exact ⟨rfl, rfl⟩

set_option maxHeartbeats 1000000 in
theorem number_any (v : Value) (xs : List Int) (w : World) (h : Bs w v xs) (h4 : 4 ≤ xs.length) :
    Calls Tryz.prog 122 #[v] w fun e w' => e = .returned (.int .i64 (C.wi xs)) ∧ ∃ n, w' = w.drewN n := by
  have hr : C.Bytes xs := h.range
  have hl := h.len
  unfold maxLen at hl
  obtain ⟨b, off, c, rfl, _, _, hc⟩ := h.inv (by omega)
  have g0 := hc 0 (by omega)
  rw [Nat.add_zero] at g0
  have g1 := hc 1 (by omega)
  have g2 := hc 2 (by omega)
  have g3 := hc 3 (by omega)
  have r0 := C.getD_byte hr 0
  have r1 := C.getD_byte hr 1
  have r2 := C.getD_byte hr 2
  have r3 := C.getD_byte hr 3
  have hw := hid (show C.wi xs = xs.getD 0 0 + 256 * xs.getD 1 0 + 65536 * xs.getD 2 0 + 16777216 * xs.getD 3 0 from rfl)
  obtain ⟨x0, e0⟩ : ∃ x, xs.getD 0 0 = x := ⟨_, rfl⟩
  obtain ⟨x1, e1⟩ : ∃ x, xs.getD 1 0 = x := ⟨_, rfl⟩
  obtain ⟨x2, e2⟩ : ∃ x, xs.getD 2 0 = x := ⟨_, rfl⟩
  obtain ⟨x3, e3⟩ : ∃ x, xs.getD 3 0 = x := ⟨_, rfl⟩
  rw [e0] at g0 r0
  rw [e1] at g1 r1
  rw [e2] at g2 r2
  rw [e3] at g3 r3
  rw [e0, e1, e2, e3] at hw
  clear e0 e1 e2 e3 hc h hr
  obtain ⟨n, hn⟩ : ∃ n, xs.length = n := ⟨_, rfl⟩
  rw [hn] at hl h4 ⊢
  clear hn
  obtain ⟨r00, r01⟩ := r0
  obtain ⟨r10, r11⟩ := r1
  obtain ⟨r20, r21⟩ := r2
  obtain ⟨r30, r31⟩ := r3
  have l0 : (0 : Int) < (n : Int) := by omega
  have l0n : 0 < n := by omega
  have l1 : (1 : Int) < (n : Int) := by omega
  have l2 : (2 : Int) < (n : Int) := by omega
  have l3 : (3 : Int) < (n : Int) := by omega
  rw [hw.out]
  go_enter Tryz.func122, Tryz.ntmps122
  go_wp2
  go_quiet (fail)
  go_wp2
  go_ret
  exact ⟨rfl, _, rfl⟩

end Go.Proofs.YteckjkblngmenaaGreatDoor

/-
  What the reference's four and Frame, and offshootref00.CopyBytes, return is proved here, for all slices that read as bytes (of at most 2^47, to be copied).
-/
namespace Go.Proofs.YteckjkblngmenaaGreatDoor
open Go.RowKit
set_option linter.unusedVariables false
set_option maxRecDepth 100000

end Go.Proofs.YteckjkblngmenaaGreatDoor

/-
  What the reference's Next returns is proved here, for all slices that read as bytes, of at most 2^47 of them, and every place.
-/
namespace Go.Proofs.YteckjkblngmenaaGreatDoor
open Go.RowKit
set_option linter.unusedVariables false
set_option maxRecDepth 100000

set_option maxHeartbeats 400000 in
theorem refnext_wrong (v : Value) (xs : List Int) (n : Int) (w : World) (h : Bs w v xs) (hn : n < 0 ∨ (xs.length : Int) < n) :
    Calls Tryz.prog 97 #[v, .int .i64 n] w fun e w' => e = .returned (.tuple #[.slice none 0 0, .int .i64 0, .int .i64 2]) ∧ w = w' := by
  have hl := h.len
  unfold maxLen at hl
  obtain ⟨a, c, rfl, _⟩ := h
  by_cases h0 : n < 0
  · clear hn
    go_enter Tryz.func97, Tryz.ntmps97
    go_wp2
    go_ret3
    exact ⟨rfl, rfl⟩
  · have h1 : (xs.length : Int) < n := by omega
    have h0' : decide (n < 0) = false := by simpa using h0
    clear hn
    go_enter Tryz.func97, Tryz.ntmps97
    go_wp2
    go_ret3
    exact ⟨rfl, rfl⟩

set_option maxHeartbeats 1000000 in
theorem refnext_any (v : Value) (xs : List Int) (p : Nat) (w : World) (h : Bs w v xs) (hp : p ≤ xs.length) (hl : xs.length ≤ 140737488355328) :
    Calls Tryz.prog 97 #[v, .int .i64 p] w fun e w' => ∃ v', e = .returned (.tuple #[v', .int .i64 (nxP xs p), .int .i64 (C.wh (xs.drop p) : Nat)]) ∧ Bs w' v' (nxV xs p) ∧ Below w.heap.size w w' ∧ Fresh w.heap.size v' := by
  have hB := hid h
  have hv : ∃ a c, v = .slice a xs.length c ∧ xs.length ≤ c := by
    obtain ⟨a, c, e, h2, _⟩ := h
    exact ⟨a, c, e, h2⟩
  obtain ⟨a, c, rfl, hlc⟩ := hv
  have hD := hid (Bs.drop h p hp)
  have hp0 : decide ((p : Int) < 0) = false := by simp
  have hpn : ¬ (xs.length : Int) < (p : Int) := by omega
  have hpc : (p : Int) ≤ (c : Int) := by omega
  have hpl : (p : Int) ≤ (xs.length : Int) := by omega
  have hV := hid (show nxV xs p = if C.wh (xs.drop p) = 0 then C.bd (xs.drop p) else [] from rfl)
  have hP := hid (show nxP xs p = if C.wh (xs.drop p) = 0 then p + 8 + C.wd (xs.drop p) else p from rfl)
  have hnil : ∀ B : Nat, Fresh B (.slice none 0 0) := fun B x n c e => by cases e
  by_cases h8 : xs.length - p < 8
  · have hw : C.wh (xs.drop p) = 1 := by unfold C.wh; rw [List.length_drop, if_pos h8]
    rw [hw, if_neg (by decide)] at hV hP
    rw [hw]
    have h8' : ((xs.length - p : Nat) : Int) < 8 := by omega
    clear hw h hD hB
    by_cases hcp : c = p
    · subst hcp
      have hxc : xs.length = c := by omega
      rw [hxc] at hpn hpl hl ⊢
      clear hxc h8 h8'
      go_enter Tryz.func97, Tryz.ntmps97
      go_wp2
      go_ret3
      rw [hP.out, hV.out]
      exact ⟨_, rfl, Bs.nil _, Below.refl _ _, hnil _⟩
    · go_enter Tryz.func97, Tryz.ntmps97
      go_wp2
      go_ret3
      rw [hP.out, hV.out]
      exact ⟨_, rfl, Bs.nil _, Below.refl _ _, hnil _⟩
  · have hcp : ¬ c = p := by omega
    rw [if_neg hcp] at hD
    obtain ⟨b, off, c', e, _, _, _⟩ := h.inv (by omega)
    simp only [Value.slice.injEq] at e
    obtain ⟨rfl, -, rfl⟩ := e
    have eadd : Option.map (fun x => x.add p) (some ⟨b, off, none⟩ : Option Addr) = some ⟨b, off + p, none⟩ := by
      simp only [Option.map_some, Addr.add_lit]
    rw [eadd] at hD
    have hlen := hid (show (xs.drop p).length = xs.length - p from List.length_drop)
    obtain ⟨ys, hys⟩ : ∃ ys, xs.drop p = ys := ⟨_, rfl⟩
    rw [hys] at hV hP hD hlen ⊢
    clear hys h hB
    have hr : C.Bytes ys := hD.out.range
    have hwd := C.wd_cast hr
    obtain ⟨k, hk⟩ : ∃ k, C.wd ys = k := ⟨_, rfl⟩
    have hkr : k < 4294967296 := by have := C.wi_range hr; omega
    have hdef : C.wh ys = if 65536 < k then 2 else if xs.length - p - 8 < k then 1 else if C.sum (C.bd ys) = C.wd (ys.drop 4) then 0 else 2 := by
      conv => lhs; unfold C.wh
      rw [hlen.out, if_neg h8, hk]
    have HD := hid hdef
    have HK := hid hk
    have HWD := hid hwd
    have HR := hid hr
    clear hdef hwd hk hr eadd
    have h8' : ¬ ((xs.length - p : Nat) : Int) < 8 := by omega
    go_enter Tryz.func97, Tryz.ntmps97
    go_wp2_with fail
    refine (number_any _ ys _ hD.out (by rw [hlen.out]; omega)).mono ?_
    rintro e w1 ⟨rfl, q1, rfl⟩
    rw [← HWD.out, HK.out]
    obtain ⟨R, hR⟩ : ∃ R, xs.length - p = R := ⟨_, rfl⟩
    obtain ⟨Q, hQ⟩ : ∃ Q, c - p = Q := ⟨_, rfl⟩
    have hRQ : R ≤ Q := by omega
    have hRb : R ≤ 140737488355328 := by omega
    have h8R : 8 ≤ R := by omega
    rw [hR] at hD hlen HD h8' ⊢
    rw [hQ] at hD ⊢
    clear hR hQ h8
    by_cases h2 : 65536 < k
    · have h2' : (65536 : Int) < (k : Int) := by omega
      rw [if_pos h2] at HD
      rw [HD.out, if_neg (by decide)] at hV hP
      go_wp2
      go_ret3
      rw [hP.out, hV.out, HD.out]
      exact ⟨_, rfl, Bs.nil _, bd _ _, hnil _⟩
    · have h2' : ¬ (65536 : Int) < (k : Int) := by omega
      rw [if_neg h2] at HD
      by_cases h3 : R - 8 < k
      · have h3' : (R : Int) - 8 < (k : Int) := by omega
        rw [if_pos h3] at HD
        rw [HD.out, if_neg (by decide)] at hV hP
        go_wp2
        go_ret3
        rw [hP.out, hV.out, HD.out]
        exact ⟨_, rfl, Bs.nil _, bd _ _, hnil _⟩
      · have h3' : ¬ (R : Int) - 8 < (k : Int) := by omega
        rw [if_neg h3] at HD
        have hkQ : (8 : Int) + (k : Int) ≤ (Q : Int) := by omega
        have hD8 := Bs.drop hD.out 8 h8R
        have hD4 := Bs.drop hD.out 4 (by omega)
        have hbl : (C.bd ys).length = k := by rw [C.bd, HK.out, List.length_take, List.length_drop, hlen.out]; omega
        have g4 : (4 : Int) ≤ (R : Int) := by omega
        have g4Q : (4 : Int) ≤ (Q : Int) := by omega
        have n4 : ¬ Q = 4 := by omega
        rw [if_neg n4] at hD4
        have e4 : Option.map (fun x => x.add 4) (some ⟨b, off + p, none⟩ : Option Addr) = some ⟨b, off + p + 4, none⟩ := by
          simp only [Option.map_some, Addr.add_lit]
        rw [e4] at hD4
        have HD4 := hid hD4
        clear hD4 e4
        by_cases q8 : Q = 8
        · subst q8
          have hk0 : k = 0 := by omega
          subst hk0
          rw [if_pos rfl] at hD8
          have hR8 : R = 8 := by omega
          subst hR8
          have HT := hid (Bs.take hD8 0 (by omega))
          clear hD8
          have HB : Hid (Bs w (.slice (some ⟨b, off + p, none⟩) 0 0) (C.bd ys)) := by
            have := HT.out
            rw [C.bd, HK.out]
            exact this
          have hb1 : Below w.heap.size w ((w.drewN q1).alloc (.cells #[] 5)) := (bd w q1).alloc (Nat.le_refl _) _
          have hown0 : ((w.drewN q1).alloc (.cells #[] 5)).ownsRow w.heap.size 5 1 (.slice (some ⟨w.heap.size, 0, none⟩) 0 0) 0 (cs []) := World.ownsRow_made (w.drewN q1) #[] 0 (Nat.le_refl _) (Nat.zero_le _) rfl
          have hsb := hid (fun w' v' (h' : Bs w' v' (C.bd ys)) => refsum_any v' (C.bd ys) w' h')
          have hnb := hid (fun w' v' (h' : Bs w' v' (ys.drop 4)) => number_any v' (ys.drop 4) w' h' (by rw [List.length_drop, hlen.out]; omega))
          have h4w := C.wd_cast (C.Bytes.drop HR.out 4)
          obtain ⟨V, hVV⟩ : ∃ V, C.wi (ys.drop 4) = V := ⟨_, rfl⟩
          obtain ⟨S, hSS⟩ : ∃ S, C.sum (C.bd ys) = S := ⟨_, rfl⟩
          rw [hVV] at h4w hnb
          rw [hSS] at HD hsb
          have H4 := hid h4w
          clear h4w hVV hSS HT
          go_wp2_with (at_builtin; refine wpList_append_bs rfl (.tmp 37) (.tmp 41) rfl w.heap.size _ _ [] rfl hown0 _ (C.bd ys) rfl (HB.out.below hb1) (by rw [hbl]; omega) hb1.size ?_; intro v3 w3 hown3 hgrow3 hat3; rw [Nat.zero_add,hbl,List.nil_append] at hown3; obtain ⟨a3,c3,rfl,_⟩ := own_form hown3)
          have b3 : Below w.heap.size w w3 := hb1.grown hgrow3 hb1.size (fun k hk => (hown0.lt k hk).1)
          have hB3 := hid (Bs.of_own hown3 (C.Bytes.take (C.Bytes.drop HR.out 8) _))
          have hF3 := hid (Fresh.of_own hown3)
          have hR3 := hid (HD4.out.below b3)
          clear hown3 hgrow3 hat3 hown0 hb1 HB
          by_cases h5 : S = C.wd (ys.drop 4)
          · have h5' : ((S : Int) != V) = false := by have := H4.out; simp; omega
            rw [if_pos h5] at HD
            rw [HD.out, if_pos rfl] at hV hP
            clear h5
            go_quiet ((first
              | (go_at_call 75; exact Calls.quiet_of_same ((hsb.out _ _ (hB3.out.drewN _)).mono fun _ _ h => ⟨h.1, h.2.symm⟩))
              | (go_at_call 122; exact Calls.quiet_of (hnb.out _ _ (hR3.out.drewN _)))))
            go_wp2
            go_ret3
            rw [hP.out, hV.out, HD.out]
            refine ⟨_, ret3_eq ?_, hB3.out.drewN _, bt b3 (bd _ _), hF3.out⟩
            rw [HK.out]
            omega
          · have h5' : ((S : Int) != V) = true := by have := H4.out; simp; omega
            rw [if_neg h5] at HD
            rw [HD.out, if_neg (by decide)] at hV hP
            clear h5
            go_quiet ((first
              | (go_at_call 75; exact Calls.quiet_of_same ((hsb.out _ _ (hB3.out.drewN _)).mono fun _ _ h => ⟨h.1, h.2.symm⟩))
              | (go_at_call 122; exact Calls.quiet_of (hnb.out _ _ (hR3.out.drewN _)))))
            go_wp2
            go_ret3
            rw [hP.out, hV.out, HD.out]
            exact ⟨_, rfl, Bs.nil _, bt b3 (bd _ _), hnil _⟩
        · rw [if_neg q8] at hD8
          have e8 : Option.map (fun x => x.add 8) (some ⟨b, off + p, none⟩ : Option Addr) = some ⟨b, off + p + 8, none⟩ := by
            simp only [Option.map_some, Addr.add_lit]
          rw [e8] at hD8
          have HT := hid (Bs.take hD8 k (by omega))
          clear hD8 e8
          have HB : Hid (Bs w (.slice (some ⟨b, off + p + 8, none⟩) (8 + k - 8) (Q - 8)) (C.bd ys)) := by
            have := HT.out
            rw [C.bd, HK.out, Nat.add_sub_cancel_left]
            exact this
          have hb1 : Below w.heap.size w ((w.drewN q1).alloc (.cells #[] 5)) := (bd w q1).alloc (Nat.le_refl _) _
          have hown0 : ((w.drewN q1).alloc (.cells #[] 5)).ownsRow w.heap.size 5 1 (.slice (some ⟨w.heap.size, 0, none⟩) 0 0) 0 (cs []) := World.ownsRow_made (w.drewN q1) #[] 0 (Nat.le_refl _) (Nat.zero_le _) rfl
          have hsb := hid (fun w' v' (h' : Bs w' v' (C.bd ys)) => refsum_any v' (C.bd ys) w' h')
          have hnb := hid (fun w' v' (h' : Bs w' v' (ys.drop 4)) => number_any v' (ys.drop 4) w' h' (by rw [List.length_drop, hlen.out]; omega))
          have h4w := C.wd_cast (C.Bytes.drop HR.out 4)
          obtain ⟨V, hVV⟩ : ∃ V, C.wi (ys.drop 4) = V := ⟨_, rfl⟩
          obtain ⟨S, hSS⟩ : ∃ S, C.sum (C.bd ys) = S := ⟨_, rfl⟩
          rw [hVV] at h4w hnb
          rw [hSS] at HD hsb
          have H4 := hid h4w
          clear h4w hVV hSS HT
          go_wp2_with (at_builtin; refine wpList_append_bs rfl (.tmp 37) (.tmp 41) rfl w.heap.size _ _ [] rfl hown0 _ (C.bd ys) rfl (HB.out.below hb1) (by rw [hbl]; omega) hb1.size ?_; intro v3 w3 hown3 hgrow3 hat3; rw [Nat.zero_add,hbl,List.nil_append] at hown3; obtain ⟨a3,c3,rfl,_⟩ := own_form hown3)
          have b3 : Below w.heap.size w w3 := hb1.grown hgrow3 hb1.size (fun k hk => (hown0.lt k hk).1)
          have hB3 := hid (Bs.of_own hown3 (C.Bytes.take (C.Bytes.drop HR.out 8) _))
          have hF3 := hid (Fresh.of_own hown3)
          have hR3 := hid (HD4.out.below b3)
          clear hown3 hgrow3 hat3 hown0 hb1 HB
          by_cases h5 : S = C.wd (ys.drop 4)
          · have h5' : ((S : Int) != V) = false := by have := H4.out; simp; omega
            rw [if_pos h5] at HD
            rw [HD.out, if_pos rfl] at hV hP
            clear h5
            go_quiet ((first
              | (go_at_call 75; exact Calls.quiet_of_same ((hsb.out _ _ (hB3.out.drewN _)).mono fun _ _ h => ⟨h.1, h.2.symm⟩))
              | (go_at_call 122; exact Calls.quiet_of (hnb.out _ _ (hR3.out.drewN _)))))
            go_wp2
            go_ret3
            rw [hP.out, hV.out, HD.out]
            refine ⟨_, ret3_eq ?_, hB3.out.drewN _, bt b3 (bd _ _), hF3.out⟩
            rw [HK.out]
            omega
          · have h5' : ((S : Int) != V) = true := by have := H4.out; simp; omega
            rw [if_neg h5] at HD
            rw [HD.out, if_neg (by decide)] at hV hP
            clear h5
            go_quiet ((first
              | (go_at_call 75; exact Calls.quiet_of_same ((hsb.out _ _ (hB3.out.drewN _)).mono fun _ _ h => ⟨h.1, h.2.symm⟩))
              | (go_at_call 122; exact Calls.quiet_of (hnb.out _ _ (hR3.out.drewN _)))))
            go_wp2
            go_ret3
            rw [hP.out, hV.out, HD.out]
            exact ⟨_, rfl, Bs.nil _, bt b3 (bd _ _), hnil _⟩

end Go.Proofs.YteckjkblngmenaaGreatDoor

/-
  Rows of bytes in memory: 'Ls w v xss': the slice v reads as the lists of bytes xss; rows that came in, rows that a call made.
-/
namespace Go.Proofs.YteckjkblngmenaaGreatDoor
open Go.RowKit
set_option linter.unusedVariables false
set_option maxRecDepth 100000

def Ls (w : World) (v : Value) (xss : List (List Int)) : Prop :=
  ∃ a c, v = .slice a xss.length c ∧ xss.length ≤ c ∧ c ≤ maxLen ∧ (a = none → c = 0) ∧
    ∀ i, i < xss.length → ∃ b off u, a = some ⟨b, off, none⟩ ∧ w.cell? ⟨b, off + i, none⟩ = some u ∧ Bs w u (xss.getD i [])

theorem Ls.nil (w : World) : Ls w (.slice none 0 0) [] := ⟨none, 0, rfl, Nat.le_refl _, Nat.zero_le _, fun _ => rfl, fun i hi => absurd hi (Nat.not_lt_zero _)⟩
theorem Ls.form {w : World} {v : Value} {xs : List (List Int)} (h : Ls w v xs) : ∃ a c, v = .slice a xs.length c := by
  obtain ⟨a, c, e, _⟩ := h
  exact ⟨a, c, e⟩
theorem Ls.inv_nil {w : World} {v : Value} (h : Ls w v []) : ∃ a c, v = .slice a 0 c ∧ c ≤ maxLen ∧ (a = none → c = 0) := by
  obtain ⟨a, c, h1, _, h3, h4, _⟩ := h
  exact ⟨a, c, h1, h3, h4⟩
theorem Ls.inv {w : World} {v : Value} {xss : List (List Int)} (h : Ls w v xss) (hx : 0 < xss.length) :
    ∃ b off c, v = .slice (some ⟨b, off, none⟩) xss.length c ∧ xss.length ≤ c ∧ c ≤ maxLen ∧ ∀ i, i < xss.length → ∃ u, w.cell? ⟨b, off + i, none⟩ = some u ∧ Bs w u (xss.getD i []) := by
  obtain ⟨a, c, h1, h2, h3, _, h5⟩ := h
  obtain ⟨b, off, u, e1, _⟩ := h5 0 hx
  refine ⟨b, off, c, by rw [h1, e1], h2, h3, fun i hi => ?_⟩
  obtain ⟨b', off', u', e2, e3, e4⟩ := h5 i hi
  rw [e1] at e2
  simp only [Option.some.injEq, Addr.mk.injEq, and_true] at e2
  obtain ⟨rfl, rfl⟩ := e2
  exact ⟨u', e3, e4⟩
end Go.Proofs.YteckjkblngmenaaGreatDoor

/-
  Rows of bytes that a call makes: 'OL w B v fs': the slice v, a row of the call's own from block B on, reads as the lists of bytes fs, none of which lies in that row; what an append to it comes to.
-/
namespace Go.Proofs.YteckjkblngmenaaGreatDoor
open Go.RowKit
set_option linter.unusedVariables false
set_option maxRecDepth 100000

theorem info_u8s : (Tryz.prog.info? 36).map (fun i => (i.zero, i.size, i.bytes)) = some (some (.slice none 0 0), 1, 24) := by kernel_rfl

/-- A slice that lies in no block 'row'. -/
def Far (row : Option Nat) (u : Value) (l : List Int) : Prop := l ≠ [] → ∀ x n c, u = .slice (some x) n c → some x.block ≠ row

theorem Bs.cell_lt {w : World} {u : Value} {l : List Int} (h : Bs w u l) (hl : l ≠ []) : ∀ x n c, u = .slice (some x) n c → x.block < w.heap.size := by
  intro x n c hu
  have hp : 0 < l.length := by cases l with
    | nil => exact absurd rfl hl
    | cons _ _ => simp
  obtain ⟨b, off, c', e, _, _, hc⟩ := h.inv hp
  have h0 := World.block_lt_of_cell? _ _ (hc 0 hp)
  rw [hu] at e
  simp only [Value.slice.injEq, Option.some.injEq] at e
  rw [e.1]
  exact h0
theorem Bs.grown {w w' : World} {u : Value} {l : List Int} {row : Option Nat} (h : Bs w u l) (hg : w.grownBy w' row) (hf : Far row u l) : Bs w' u l := by
  by_cases hl : l = []
  · subst hl
    obtain ⟨a, c, e, h2, h3⟩ := h.inv_nil
    exact ⟨a, c, e, Nat.zero_le _, h2, h3, fun i hi => absurd hi (Nat.not_lt_zero _), fun x hx => by cases hx⟩
  · obtain ⟨a, c, h1, h2, h3, h4, h5, h6⟩ := h
    refine ⟨a, c, h1, h2, h3, h4, fun i hi => ?_, h6⟩
    obtain ⟨b, off, e1, e2⟩ := h5 i hi
    refine ⟨b, off, e1, hg.cell e2 ?_⟩
    have := hf hl ⟨b, off, none⟩ l.length c (by rw [h1, e1])
    exact this

def OL (w : World) (B : Nat) (v : Value) (fs : List (List Int)) : Prop :=
  ∃ vs : List Value, w.ownsRow B 36 1 v fs.length vs ∧ ∀ i, i < fs.length → ∃ u, vs[i]? = some u ∧ Bs w u (fs.getD i []) ∧ Far v.ownBlock u (fs.getD i [])

theorem OL.made (w : World) (B : Nat) (hb : B ≤ w.heap.size) : OL (w.alloc (.cells #[] 36)) B (.slice (some ⟨w.heap.size, 0, none⟩) 0 0) [] :=
  ⟨[], World.ownsRow_made w #[] 0 hb (Nat.zero_le _) rfl, fun i hi => absurd hi (Nat.not_lt_zero _)⟩
theorem OL.below {w w' : World} {B : Nat} {v : Value} {fs : List (List Int)} (h : OL w B v fs) (hb : Below w.heap.size w w') : OL w' B v fs := by
  obtain ⟨vs, h1, h3⟩ := h
  refine ⟨vs, own_below h1 hb, fun i hi => ?_⟩
  obtain ⟨u, e1, e2, e3⟩ := h3 i hi
  exact ⟨u, e1, e2.below hb, e3⟩
theorem OL.ls {w : World} {B : Nat} {v : Value} {fs : List (List Int)} (h : OL w B v fs) : Ls w v fs := by
  obtain ⟨vs, h1, h3⟩ := h
  rcases h1.2 with ⟨rfl, h0⟩ | ⟨g, cap, cur, rfl, hb, hg, hnc, hcm, hcs, htake⟩
  · have e : fs = [] := List.eq_nil_of_length_eq_zero h0
    subst e
    exact Ls.nil w
  · refine ⟨some ⟨g, 0, none⟩, cap, rfl, hnc, hcm, (fun e => by cases e), fun i hi => ?_⟩
    obtain ⟨u, e1, e2, _⟩ := h3 i hi
    refine ⟨g, 0, u, rfl, ?_, e2⟩
    rw [Nat.zero_add, h1.cellAt i (by omega)]
    exact e1
/-- Where the row lies. -/
theorem OL.lt {w : World} {B : Nat} {v : Value} {fs : List (List Int)} (h : OL w B v fs) : ∀ k, v.ownBlock = some k → B ≤ k ∧ k < w.heap.size := by
  obtain ⟨vs, h1, _⟩ := h
  exact h1.lt
theorem OL.form {w : World} {B : Nat} {v : Value} {fs : List (List Int)} (h : OL w B v fs) : ∃ a c, v = .slice a fs.length c := by
  obtain ⟨vs, h1, _⟩ := h
  rcases h1.2 with ⟨rfl, h0⟩ | ⟨g, cap, cur, rfl, _⟩
  · exact ⟨none, 0, by rw [h0]⟩
  · exact ⟨_, _, rfl⟩
/-- One list more. -/
theorem OL.snoc {w w' : World} {B : Nat} {v v' u : Value} {fs : List (List Int)} {l : List Int} {vs : List Value}
    (hel : ∀ i, i < fs.length → ∃ u, vs[i]? = some u ∧ Bs w u (fs.getD i []) ∧ Far v.ownBlock u (fs.getD i [])) (hvs : vs.length = fs.length)
    (hu : Bs w u l) (hf : Far v.ownBlock u l)
    (ho : w'.ownsRow B 36 1 v' (fs.length + 1) (vs ++ [u])) (hg : w.grownBy w' v.ownBlock) (hat : v'.ownBlock = v.ownBlock ∨ v'.ownBlock = some w.heap.size) : OL w' B v' (fs ++ [l]) := by
  have far : ∀ u l, Bs w u l → Far v.ownBlock u l → Far v'.ownBlock u l := by
    intro u l h1 h2 hl x n c e
    rcases hat with h | h
    · rw [h]; exact h2 hl x n c e
    · rw [h]
      have := h1.cell_lt hl x n c e
      simp only [ne_eq, Option.some.injEq]
      omega
  refine ⟨vs ++ [u], by rw [List.length_append]; exact ho, fun i hi => ?_⟩
  rw [List.length_append, List.length_singleton] at hi
  by_cases h : i < fs.length
  · obtain ⟨u', e1, e2, e3⟩ := hel i h
    have eg : (fs ++ [l]).getD i [] = fs.getD i [] := by simp [List.getD, List.getElem?_append, h]
    rw [eg]
    refine ⟨u', ?_, e2.grown hg e3, far _ _ e2 e3⟩
    rw [List.getElem?_append_left (by omega)]
    exact e1
  · have hi' : i = fs.length := by omega
    subst hi'
    have eg : (fs ++ [l]).getD fs.length [] = l := by simp [List.getD]
    rw [eg]
    refine ⟨u, ?_, hu.grown hg hf, far _ _ hu hf⟩
    rw [← hvs]
    simp

end Go.Proofs.YteckjkblngmenaaGreatDoor

/-
  What the reference's Split returns is proved here, for all slices that read as bytes, of at most 2^40 of them: the frames, the place behind the last one, what stands there.
-/
namespace Go.Proofs.YteckjkblngmenaaGreatDoor
open Go.RowKit
set_option linter.unusedVariables false
set_option maxRecDepth 100000

set_option maxHeartbeats 2000000 in
theorem refsplit_any (v : Value) (xs : List Int) (w : World) (h : Bs w v xs) (hl : xs.length ≤ 1099511627776) :
    Calls Tryz.prog 64 #[v] w fun e w' => ∃ (v' : Value) (fs : List (List Int)) (p t : Nat), e = .returned (.tuple #[v', .int .i64 p, .int .i64 t]) ∧ C.Sp xs fs p t ∧ Ls w' v' fs ∧ Below w.heap.size w w' := by
  have hB := hid h
  have hv : ∃ a c, v = .slice a xs.length c := by
    obtain ⟨a, c, e, _⟩ := h
    exact ⟨a, c, e⟩
  obtain ⟨a, c, rfl⟩ := hv
  clear h
  obtain ⟨n, hn⟩ : ∃ n, xs.length = n := ⟨_, rfl⟩
  rw [hn] at hl hB ⊢
  have HN := hid hn
  clear hn
  obtain ⟨i0, hi, hz0, hz1, hz2⟩ := info_parts info_u8s
  go_enter Tryz.func64, Tryz.ntmps64
  go_wp2
  go_loopw [5, 6] (fun o i wr => ∃ (fs : List (List Int)) (p : Nat), p ≤ n ∧ i = .int .i64 p ∧ fs.length ≤ p ∧ OL wr w.heap.size o fs ∧ Below w.heap.size w wr ∧ ∀ gs m t, C.Sp (xs.drop p) gs m t → C.Sp xs (fs ++ gs) (p + m) t) (fun _ i _ => n - (intOf i).toNat)
  case atStart => exact ⟨[], 0, Nat.zero_le _, rfl, Nat.le_refl _, OL.made w w.heap.size (Nat.le_refl _), ba w _, fun gs m t h => by simpa using h⟩
  case round =>
    obtain ⟨fs, p, hp, rfl, hfl, hol, bel, hsp⟩ := hrel
    have HSP := hid hsp
    have HOL := hid hol
    obtain ⟨ao, co, rfl⟩ := hol.form
    clear hsp hol
    by_cases hlt : p < n
    · have hlt' : (p : Int) < (n : Int) := by omega
      go_wp2_with fail
      refine (refnext_any _ xs p _ (hB.out.below bel) (by rw [HN.out]; exact hp) (by rw [HN.out]; omega)).mono ?_
      rintro e w1 ⟨v1, rfl, hB1, b1, hf1⟩
      have hol1 := hid (HOL.out.below b1)
      have hlo := hid HOL.out.lt
      have bel1 := bt bel b1
      clear HOL
      have hne : xs.drop p ≠ [] := by
        intro e
        have := congrArg List.length e
        rw [List.length_drop, HN.out] at this
        simp at this
        omega
      by_cases h0 : C.wh (xs.drop p) = 0
      · have hw0 := wh_0 h0
        have e1 : nxP xs p = p + 8 + C.wd (xs.drop p) := by rw [nxP, if_pos h0]
        have e2 : nxV xs p = C.bd (xs.drop p) := by rw [nxV, if_pos h0]
        rw [e2] at hB1
        rw [e1, h0]
        rw [List.length_drop, HN.out] at hw0
        have HW := hid hw0
        have hwl : p + 8 + C.wd (xs.drop p) ≤ n := by omega
        have hnext : Hid (∀ gs m t, C.Sp (xs.drop (p + 8 + C.wd (xs.drop p))) gs m t → C.Sp xs (fs ++ [C.bd (xs.drop p)] ++ gs) (p + 8 + C.wd (xs.drop p) + m) t) := by
          intro gs m t hs
          have h1 : C.Sp ((xs.drop p).drop (8 + C.wd (xs.drop p))) gs m t := by
            rw [List.drop_drop, ← Nat.add_assoc]; exact hs
          have h2 := HSP.out _ _ _ (C.Sp.more h0 h1)
          rw [List.append_assoc, List.singleton_append]
          rw [show p + 8 + C.wd (xs.drop p) + m = p + (8 + C.wd (xs.drop p) + m) by omega]
          exact h2
        clear hw0 e1 e2 h0 HSP hne
        obtain ⟨q, hq⟩ : ∃ q, p + 8 + C.wd (xs.drop p) = q := ⟨_, rfl⟩
        have hqp : p + 8 ≤ q := by omega
        rw [hq] at hwl hnext ⊢
        clear hq HW
        obtain ⟨l, hl'⟩ : ∃ l, C.bd (xs.drop p) = l := ⟨_, rfl⟩
        rw [hl'] at hB1 hnext
        clear hl'
        obtain ⟨vs, hown, hel⟩ := hol1.out
        have hvs : vs.length = fs.length := by have := hown.1; omega
        have hfar : Far (Value.ownBlock (.slice ao fs.length co)) v1 l := by
          intro hl x m c e hx
          have h1 := hf1 x m c e
          have h2 := hlo.out x.block hx.symm
          omega
        have hv1 : ∃ a1 c1, v1 = .slice a1 l.length c1 := by
          obtain ⟨a1, c1, e, _⟩ := hB1
          exact ⟨a1, c1, e⟩
        obtain ⟨a1, c1, rfl⟩ := hv1
        have bA := ba w1 (.cells #[.slice a1 l.length c1] 36)
        have hown1 := hown.alloc (.cells #[.slice a1 l.length c1] 36)
        have hel1 := hid (fun i hi => (fun ⟨u,e1,e2,e3⟩ => ⟨u,e1,e2.below bA,e3⟩ : (∃ u,vs[i]? = some u ∧ Bs w1 u (fs.getD i []) ∧ Far (Value.ownBlock (.slice ao fs.length co)) u (fs.getD i [])) → ∃ u,vs[i]? = some u ∧ Bs (w1.alloc (.cells #[.slice a1 l.length c1] 36)) u (fs.getD i []) ∧ Far (Value.ownBlock (.slice ao fs.length co)) u (fs.getD i [])) (hel i hi))
        have hB2 := hid (hB1.below bA)
        have HB1 := hid hB1
        clear hel hB1 hol1
        go_wp2_with (at_builtin; refine wpList_append_own_at _ rfl (.tmp 27) (.tmp 29) 106 rfl w.heap.size 36 i0 (.slice none 0 0) 1 24 Tryz.underlying106 hi hz0 hz1 hz2 rfl (by decide) _ _ _ rfl hown1 ⟨w1.heap.size,0,none⟩ 1 1 [.slice a1 l.length c1] rfl rfl (cell_one_new _ _ _) ?c2 ?c3 ?c4 ?c5 ?_)
        case c2 => intro u hu; simp at hu; subst hu; rfl
        case c3 => unfold maxLen; omega
        case c4 => omega
        case c5 => have := bel1.size; simp; omega
        intro v' w2 hown2 hgrow _ hat
        have b2 : Below w.heap.size w w2 := (bel1.alloc bel1.size _).grown hgrow (by have := bel1.size; simp; omega) (fun k hk => (hlo.out k hk).1)
        have hOL2 := hid (OL.snoc hel1.out hvs hB2.out hfar hown2 hgrow (by simpa using hat))
        obtain ⟨ao2, co2, rfl⟩ := hOL2.out.form
        clear hown2 hown hown1 hgrow hat bel1 bel b1 bA hel1 hB2 HB1 hfar hlo hf1
        go_wp2
        go_roundw
        case rel =>
          have R : ∃ (gs : List (List Int)) (p' : Nat), p' ≤ n ∧ Value.int .i64 (q : Int) = .int .i64 p' ∧ gs.length ≤ p' ∧ OL w2 w.heap.size (.slice ao2 (fs ++ [l]).length co2) gs ∧ Below w.heap.size w w2 ∧ ∀ hs m t, C.Sp (xs.drop p') hs m t → C.Sp xs (gs ++ hs) (p' + m) t :=
            ⟨fs ++ [l], q, hwl, rfl, by rw [List.length_append, List.length_singleton]; omega, hOL2.out, b2, hnext.out⟩
          first | exact R | (rw [List.length_append, List.length_singleton] at R; exact R) | ((repeat apply Exists.intro); exact ⟨R, rfl⟩)
        case measure => simp [intOf]; omega
      · have h0' : ((C.wh (xs.drop p) : Int) != 0) = true := by simp; omega
        have hs := hid (HSP.out _ _ _ (C.Sp.stop hne h0))
        have e1 : nxP xs p = p := by rw [nxP, if_neg h0]
        rw [e1]
        obtain ⟨a1, c1, rfl, _⟩ : ∃ a1 c1, v1 = .slice a1 0 c1 ∧ True := by
          obtain ⟨a1, c1, e, _⟩ := hB1
          rw [nxV, if_neg h0] at e
          exact ⟨a1, c1, e, trivial⟩
        obtain ⟨W, hW⟩ : ∃ W, C.wh (xs.drop p) = W := ⟨_, rfl⟩
        rw [hW] at hs h0' ⊢
        clear HSP hne h0 e1 hB1 hW hf1
        go_wp2
        go_ret3
        refine ⟨_, fs, p, W, rfl, ?_, hol1.out.ls, bel1⟩
        have := hs.out
        simpa using this
    · obtain rfl : p = n := by omega
      have hs := hid (HSP.out [] 0 0 (by rw [List.drop_of_length_le (by rw [HN.out]; exact Nat.le_refl _)]; exact C.Sp.done))
      clear HSP
      go_wp2
      go_ret3
      refine ⟨_, fs, p, 0, rfl, ?_, HOL.out.ls, bel⟩
      have := hs.out
      simpa using this

end Go.Proofs.YteckjkblngmenaaGreatDoor
