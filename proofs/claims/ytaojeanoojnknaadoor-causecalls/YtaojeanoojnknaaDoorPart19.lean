/-
  What SameOp, Same and slices.Equal (of cuts) answer is proved here, for all ops.
-/
import Derived.Test.YtaojeanoojnknaaDoorPart18
import Derived.Deep.QuietTactic
namespace Go.Proofs.YtaojeanoojnknaaDoor
open Go.RowKit
set_option linter.unusedVariables false
set_option maxRecDepth 100000

theorem ct_part (x y : Ct) (h : x ≠ y) : x.r ≠ y.r ∨ (x.r = y.r ∧ x.n ≠ y.n) ∨ (x.r = y.r ∧ x.n = y.n ∧ x.f ≠ y.f) ∨ (x.r = y.r ∧ x.n = y.n ∧ x.f = y.f ∧ x.t ≠ y.t) := by
  by_cases h1 : x.r = y.r
  · by_cases h2 : x.n = y.n
    · by_cases h3 : x.f = y.f
      · by_cases h4 : x.t = y.t
        · exact absurd (by cases x; cases y; simp_all) h
        · exact .inr (.inr (.inr ⟨h1, h2, h3, h4⟩))
      · exact .inr (.inr (.inl ⟨h1, h2, h3⟩))
    · exact .inr (.inl ⟨h1, h2⟩)
  · exact .inl h1
theorem list_ext {α : Type} {l m : List α} (h : l.length = m.length) (he : ∀ i (h1 : i < l.length) (h2 : i < m.length), l[i] = m[i]) : l = m := List.ext_getElem h he

set_option maxHeartbeats 8000000 in
theorem so_len (A B : Value) (a b : Opn) (va vb : Value) (hA : A = opv a va) (hB : B = opv b vb) (w : World) (e0 : b.k = a.k) (e1 : b.ir = a.ir) (e2 : b.im = a.im) (e3 : b.t = a.t) (e4 : b.br = a.br) (e5 : b.bm = a.bm) (e6 : b.pr = a.pr) (e7 : b.pm = a.pm) (e8 : b.key = a.key) (e9 : b.sr = a.sr) (e10 : b.sm = a.sm) (e11 : b.lr = a.lr) (e12 : b.lm = a.lm) (e13 : b.li = a.li) (e14 : b.gr = a.gr) (e15 : b.gm = a.gm) (e16 : b.gi = a.gi) (e17 : b.text = a.text) (e18 : b.flag = a.flag) (ha : Cs w va a.cuts) (hb : Cs w vb b.cuts) (hl : a.cuts.length ≠ b.cuts.length) :
    Calls Tryd.prog 16 #[A, B] w fun e w' => e = .returned (.bool false) ∧ Below w.heap.size w w' := by
  have HA := hid hA
  have HB := hid hB
  obtain ⟨a1, c1, rfl, _, _⟩ := ha.form
  obtain ⟨a2, c2, rfl, _, _⟩ := hb.form
  have E0 := hid e0
  have E1 := hid e1
  have E2 := hid e2
  have E3 := hid e3
  have E4 := hid e4
  have E5 := hid e5
  have E6 := hid e6
  have E7 := hid e7
  have E8 := hid e8
  have E9 := hid e9
  have E10 := hid e10
  have E11 := hid e11
  have E12 := hid e12
  have E13 := hid e13
  have E14 := hid e14
  have E15 := hid e15
  have E16 := hid e16
  have E17 := hid e17
  have E18 := hid e18
  clear e0 e1 e2 e3 e4 e5 e6 e7 e8 e9 e10 e11 e12 e13 e14 e15 e16 e17 e18
  have hx : ((a.cuts.length : Int) != (b.cuts.length : Int)) = true := by simp; omega
  clear hA hB ha hb
  go_enter Tryd.func16, Tryd.ntmps16
  go_upto_region 1 with (first | (refine wpList_box_op rfl _ rfl A rfl a _ HA.out ?_; intro w1 ho1 hb1 hl1; have HO1 := hid ho1; have HB1 := hid hb1; clear ho1 hb1) | (refine wpList_box_op rfl _ rfl B rfl b _ HB.out ?_; intro w2 ho2 hb2 hl2; have c0 := (HO1.out.below hb2).cells.c0; have d0 := ho2.cells.c0.trans (congrArg (fun x => some (Value.int .i64 x)) E0.out); have c1 := (HO1.out.below hb2).cells.c1; have d1 := ho2.cells.c1.trans (congrArg (fun x => some (Value.int .i64 x)) E1.out); have c2 := (HO1.out.below hb2).cells.c2; have d2 := ho2.cells.c2.trans (congrArg (fun x => some (Value.int .i64 x)) E2.out); have c3 := (HO1.out.below hb2).cells.c3; have d3 := ho2.cells.c3.trans (congrArg (fun x => some (Value.int .i64 x)) E3.out); have c4 := (HO1.out.below hb2).cells.c4; have d4 := ho2.cells.c4.trans (congrArg (fun x => some (Value.int .i64 x)) E4.out); have c5 := (HO1.out.below hb2).cells.c5; have d5 := ho2.cells.c5.trans (congrArg (fun x => some (Value.int .i64 x)) E5.out); have c6 := (HO1.out.below hb2).cells.c6; have d6 := ho2.cells.c6.trans (congrArg (fun x => some (Value.int .i64 x)) E6.out); have c7 := (HO1.out.below hb2).cells.c7; have d7 := ho2.cells.c7.trans (congrArg (fun x => some (Value.int .i64 x)) E7.out); have c8 := (HO1.out.below hb2).cells.c8; have d8 := ho2.cells.c8.trans (congrArg (fun x => some (Value.string x)) E8.out); have c9 := (HO1.out.below hb2).cells.c9; have d9 := ho2.cells.c9.trans (congrArg (fun x => some (Value.int .i64 x)) E9.out); have c10 := (HO1.out.below hb2).cells.c10; have d10 := ho2.cells.c10.trans (congrArg (fun x => some (Value.int .i64 x)) E10.out); have c11 := (HO1.out.below hb2).cells.c11; have d11 := ho2.cells.c11.trans (congrArg (fun x => some (Value.int .i64 x)) E11.out); have c12 := (HO1.out.below hb2).cells.c12; have d12 := ho2.cells.c12.trans (congrArg (fun x => some (Value.int .i64 x)) E12.out); have c13 := (HO1.out.below hb2).cells.c13; have d13 := ho2.cells.c13.trans (congrArg (fun x => some (Value.int .i64 x)) E13.out); have c14 := (HO1.out.below hb2).cells.c14; have d14 := ho2.cells.c14.trans (congrArg (fun x => some (Value.int .i64 x)) E14.out); have c15 := (HO1.out.below hb2).cells.c15; have d15 := ho2.cells.c15.trans (congrArg (fun x => some (Value.int .i64 x)) E15.out); have c16 := (HO1.out.below hb2).cells.c16; have d16 := ho2.cells.c16.trans (congrArg (fun x => some (Value.int .i64 x)) E16.out); have c17 := (HO1.out.below hb2).cells.c17; have d17 := ho2.cells.c17.trans (congrArg (fun x => some (Value.string x)) E17.out); have c19 := (HO1.out.below hb2).cells.c19; have d19 := ho2.cells.c19.trans (congrArg (fun x => some (Value.bool x)) E18.out); have c18 := (HO1.out.below hb2).cells.c18; have d18 := ho2.cells.c18; have HBB := hid (bt HB1.out hb2); clear ho2 hb2))
  simp only [List.append]
  go_wp2_with fail
  go_ret
  exact ⟨rfl, HBB.out⟩

set_option maxHeartbeats 8000000 in
theorem so_yes (A B : Value) (a b : Opn) (va vb : Value) (la lb : List Ct) (hA : A = opv a va) (hB : B = opv b vb) (w : World) (e0 : b.k = a.k) (e1 : b.ir = a.ir) (e2 : b.im = a.im) (e3 : b.t = a.t) (e4 : b.br = a.br) (e5 : b.bm = a.bm) (e6 : b.pr = a.pr) (e7 : b.pm = a.pm) (e8 : b.key = a.key) (e9 : b.sr = a.sr) (e10 : b.sm = a.sm) (e11 : b.lr = a.lr) (e12 : b.lm = a.lm) (e13 : b.li = a.li) (e14 : b.gr = a.gr) (e15 : b.gm = a.gm) (e16 : b.gi = a.gi) (e17 : b.text = a.text) (e18 : b.flag = a.flag) (hla : a.cuts = la) (hlb : b.cuts = lb) (ha : Cs w va la) (hb : Cs w vb lb) (hl : la.length = lb.length) :
    Calls Tryd.prog 16 #[A, B] w fun e w' => ∃ r, e = .returned (.bool r) ∧ (r = true ↔ la = lb) ∧ Below w.heap.size w w' := by
  have HA := hid hA
  have HB := hid hB
  have E0 := hid e0
  have E1 := hid e1
  have E2 := hid e2
  have E3 := hid e3
  have E4 := hid e4
  have E5 := hid e5
  have E6 := hid e6
  have E7 := hid e7
  have E8 := hid e8
  have E9 := hid e9
  have E10 := hid e10
  have E11 := hid e11
  have E12 := hid e12
  have E13 := hid e13
  have E14 := hid e14
  have E15 := hid e15
  have E16 := hid e16
  have E17 := hid e17
  have E18 := hid e18
  clear e0 e1 e2 e3 e4 e5 e6 e7 e8 e9 e10 e11 e12 e13 e14 e15 e16 e17 e18
  obtain ⟨n, hn⟩ : ∃ n, la.length = n := ⟨_, rfl⟩
  have hnn : ((n : Int) != (n : Int)) = false := by simp
  by_cases hz : n = 0
  · obtain rfl := List.eq_nil_of_length_eq_zero (by omega : la.length = 0)
    obtain rfl := List.eq_nil_of_length_eq_zero (by simpa using hl.symm : lb.length = 0)
    obtain ⟨a1, c1, rfl, _, _⟩ := ha.form
    obtain ⟨a2, c2, rfl, _, _⟩ := hb.form
    clear ha hb hl hn hz hA hB hla hlb
    go_enter Tryd.func16, Tryd.ntmps16
    go_upto_region 1 with (first | (refine wpList_box_op rfl _ rfl A rfl a _ HA.out ?_; intro w1 ho1 hb1 hl1; have HO1 := hid ho1; have HB1 := hid hb1; clear ho1 hb1) | (refine wpList_box_op rfl _ rfl B rfl b _ HB.out ?_; intro w2 ho2 hb2 hl2; have c0 := (HO1.out.below hb2).cells.c0; have d0 := ho2.cells.c0.trans (congrArg (fun x => some (Value.int .i64 x)) E0.out); have c1 := (HO1.out.below hb2).cells.c1; have d1 := ho2.cells.c1.trans (congrArg (fun x => some (Value.int .i64 x)) E1.out); have c2 := (HO1.out.below hb2).cells.c2; have d2 := ho2.cells.c2.trans (congrArg (fun x => some (Value.int .i64 x)) E2.out); have c3 := (HO1.out.below hb2).cells.c3; have d3 := ho2.cells.c3.trans (congrArg (fun x => some (Value.int .i64 x)) E3.out); have c4 := (HO1.out.below hb2).cells.c4; have d4 := ho2.cells.c4.trans (congrArg (fun x => some (Value.int .i64 x)) E4.out); have c5 := (HO1.out.below hb2).cells.c5; have d5 := ho2.cells.c5.trans (congrArg (fun x => some (Value.int .i64 x)) E5.out); have c6 := (HO1.out.below hb2).cells.c6; have d6 := ho2.cells.c6.trans (congrArg (fun x => some (Value.int .i64 x)) E6.out); have c7 := (HO1.out.below hb2).cells.c7; have d7 := ho2.cells.c7.trans (congrArg (fun x => some (Value.int .i64 x)) E7.out); have c8 := (HO1.out.below hb2).cells.c8; have d8 := ho2.cells.c8.trans (congrArg (fun x => some (Value.string x)) E8.out); have c9 := (HO1.out.below hb2).cells.c9; have d9 := ho2.cells.c9.trans (congrArg (fun x => some (Value.int .i64 x)) E9.out); have c10 := (HO1.out.below hb2).cells.c10; have d10 := ho2.cells.c10.trans (congrArg (fun x => some (Value.int .i64 x)) E10.out); have c11 := (HO1.out.below hb2).cells.c11; have d11 := ho2.cells.c11.trans (congrArg (fun x => some (Value.int .i64 x)) E11.out); have c12 := (HO1.out.below hb2).cells.c12; have d12 := ho2.cells.c12.trans (congrArg (fun x => some (Value.int .i64 x)) E12.out); have c13 := (HO1.out.below hb2).cells.c13; have d13 := ho2.cells.c13.trans (congrArg (fun x => some (Value.int .i64 x)) E13.out); have c14 := (HO1.out.below hb2).cells.c14; have d14 := ho2.cells.c14.trans (congrArg (fun x => some (Value.int .i64 x)) E14.out); have c15 := (HO1.out.below hb2).cells.c15; have d15 := ho2.cells.c15.trans (congrArg (fun x => some (Value.int .i64 x)) E15.out); have c16 := (HO1.out.below hb2).cells.c16; have d16 := ho2.cells.c16.trans (congrArg (fun x => some (Value.int .i64 x)) E16.out); have c17 := (HO1.out.below hb2).cells.c17; have d17 := ho2.cells.c17.trans (congrArg (fun x => some (Value.string x)) E17.out); have c19 := (HO1.out.below hb2).cells.c19; have d19 := ho2.cells.c19.trans (congrArg (fun x => some (Value.bool x)) E18.out); have c18 := (HO1.out.below hb2).cells.c18; have d18 := ho2.cells.c18; have HBB := hid (bt HB1.out hb2); clear ho2 hb2))
    simp only [List.append]
    go_wp2_with fail
    refine wp_loop_rounds 1 ?_
    rw [rounds_succ]
    go_wp2
    go_ret
    exact ⟨_, rfl, by simp, HBB.out⟩
  · obtain ⟨b1, o1, c1, rfl, hc1, hm1, hb1l, hca⟩ := ha.inv (by omega)
    obtain ⟨b2, o2, c2, rfl, hc2, hm2, hb2l, hcb⟩ := hb.inv (by omega)
    unfold maxLen at hm1 hm2
    have hnb : lb.length = n := by omega
    have HNA := hid hn
    have HNB := hid hnb
    rw [hn] at hc1 HA
    rw [hnb] at hc2 HB
    have HCA := hid hca
    have HCB := hid hcb
    have HL1 := hid hb1l
    have HL2 := hid hb2l
    clear hn hnb hl hca hcb ha hb hA hB hla hlb hb1l hb2l
    go_enter Tryd.func16, Tryd.ntmps16
    go_upto_region 1 with (first | (refine wpList_box_op rfl _ rfl A rfl a _ HA.out ?_; intro w1 ho1 hb1 hl1; have HO1 := hid ho1; have HB1 := hid hb1; clear ho1 hb1) | (refine wpList_box_op rfl _ rfl B rfl b _ HB.out ?_; intro w2 ho2 hb2 hl2; have c0 := (HO1.out.below hb2).cells.c0; have d0 := ho2.cells.c0.trans (congrArg (fun x => some (Value.int .i64 x)) E0.out); have c1 := (HO1.out.below hb2).cells.c1; have d1 := ho2.cells.c1.trans (congrArg (fun x => some (Value.int .i64 x)) E1.out); have c2 := (HO1.out.below hb2).cells.c2; have d2 := ho2.cells.c2.trans (congrArg (fun x => some (Value.int .i64 x)) E2.out); have c3 := (HO1.out.below hb2).cells.c3; have d3 := ho2.cells.c3.trans (congrArg (fun x => some (Value.int .i64 x)) E3.out); have c4 := (HO1.out.below hb2).cells.c4; have d4 := ho2.cells.c4.trans (congrArg (fun x => some (Value.int .i64 x)) E4.out); have c5 := (HO1.out.below hb2).cells.c5; have d5 := ho2.cells.c5.trans (congrArg (fun x => some (Value.int .i64 x)) E5.out); have c6 := (HO1.out.below hb2).cells.c6; have d6 := ho2.cells.c6.trans (congrArg (fun x => some (Value.int .i64 x)) E6.out); have c7 := (HO1.out.below hb2).cells.c7; have d7 := ho2.cells.c7.trans (congrArg (fun x => some (Value.int .i64 x)) E7.out); have c8 := (HO1.out.below hb2).cells.c8; have d8 := ho2.cells.c8.trans (congrArg (fun x => some (Value.string x)) E8.out); have c9 := (HO1.out.below hb2).cells.c9; have d9 := ho2.cells.c9.trans (congrArg (fun x => some (Value.int .i64 x)) E9.out); have c10 := (HO1.out.below hb2).cells.c10; have d10 := ho2.cells.c10.trans (congrArg (fun x => some (Value.int .i64 x)) E10.out); have c11 := (HO1.out.below hb2).cells.c11; have d11 := ho2.cells.c11.trans (congrArg (fun x => some (Value.int .i64 x)) E11.out); have c12 := (HO1.out.below hb2).cells.c12; have d12 := ho2.cells.c12.trans (congrArg (fun x => some (Value.int .i64 x)) E12.out); have c13 := (HO1.out.below hb2).cells.c13; have d13 := ho2.cells.c13.trans (congrArg (fun x => some (Value.int .i64 x)) E13.out); have c14 := (HO1.out.below hb2).cells.c14; have d14 := ho2.cells.c14.trans (congrArg (fun x => some (Value.int .i64 x)) E14.out); have c15 := (HO1.out.below hb2).cells.c15; have d15 := ho2.cells.c15.trans (congrArg (fun x => some (Value.int .i64 x)) E15.out); have c16 := (HO1.out.below hb2).cells.c16; have d16 := ho2.cells.c16.trans (congrArg (fun x => some (Value.int .i64 x)) E16.out); have c17 := (HO1.out.below hb2).cells.c17; have d17 := ho2.cells.c17.trans (congrArg (fun x => some (Value.string x)) E17.out); have c19 := (HO1.out.below hb2).cells.c19; have d19 := ho2.cells.c19.trans (congrArg (fun x => some (Value.bool x)) E18.out); have c18 := (HO1.out.below hb2).cells.c18; have d18 := ho2.cells.c18; have HBB := hid (bt HB1.out hb2); have HC1 := hid (fun i hi => And.intro ((HBB.out.cell HL1.out).trans (HCA.out i hi).1) (And.intro ((HBB.out.cell HL1.out).trans (HCA.out i hi).2.1) (And.intro ((HBB.out.cell HL1.out).trans (HCA.out i hi).2.2.1) ((HBB.out.cell HL1.out).trans (HCA.out i hi).2.2.2)))); have HC2 := hid (fun i hi => And.intro ((HBB.out.cell HL2.out).trans (HCB.out i hi).1) (And.intro ((HBB.out.cell HL2.out).trans (HCB.out i hi).2.1) (And.intro ((HBB.out.cell HL2.out).trans (HCB.out i hi).2.2.1) ((HBB.out.cell HL2.out).trans (HCB.out i hi).2.2.2)))); clear ho2 hb2))
    simp only [List.append]
    go_wp2_with fail
    go_loopw [5] (fun i wr => ∃ k m : Nat, k ≤ n ∧ i = .int .i64 k ∧ wr = w2.drewN m ∧ ∀ j (h1 : j < la.length) (h2 : j < lb.length), j < k → la[j] = lb[j]) (fun i _ => n - (intOf i).toNat)
    case atStart => exact ⟨0, 0, Nat.zero_le _, rfl, rfl, fun j _ _ h => absurd h (Nat.not_lt_zero _)⟩
    case round =>
      obtain ⟨k, m, hk, rfl, rfl, ht⟩ := hrel
      have HT := hid ht
      clear ht
      by_cases hlt : k < n
      · have hka : k < la.length := by rw [HNA.out]; exact hlt
        have hkb : k < lb.length := by rw [HNB.out]; exact hlt
        obtain ⟨x, hx⟩ : ∃ x, la[k] = x := ⟨_, rfl⟩
        obtain ⟨y, hy⟩ : ∃ y, lb[k] = y := ⟨_, rfl⟩
        have g := HC1.out k hka
        have q := HC2.out k hkb
        rw [hx] at g
        rw [hy] at q
        obtain ⟨g0, g1, g2, g3⟩ := g
        have HX := hid hx
        have HYY := hid hy
        clear hx hy
        have b1' : (k : Int) < (n : Int) := by omega
        by_cases hxy : x = y
        · rw [← hxy] at q
          obtain ⟨q0, q1, q2, q3⟩ := q
          have HE := hid hxy
          clear hxy
          go_wp2
          go_quiet (fail)
          go_wp2
          go_roundw
          case rel =>
            refine ⟨k + 1, _, by omega, by go_num, rfl, fun j h1 h2 hj => ?_⟩
            by_cases e : j = k
            · subst e; rw [HX.out, HYY.out]; exact HE.out
            · exact HT.out j h1 h2 (by omega)
          case measure => simp [intOf]; omega
        · have HE := hid hxy
          obtain ⟨q0, q1, q2, q3⟩ := q
          rcases ct_part x y hxy with hp | ⟨p1, hp⟩ | ⟨p1, p2, hp⟩ | ⟨p1, p2, p3, hp⟩
          all_goals
            try rw [← p1] at q0
            try rw [← p2] at q1
            try rw [← p3] at q2
            try clear p1
            try clear p2
            try clear p3
          · have z1 : (x.r == y.r) = false := by simpa using hp
            have z2 : (x.r != y.r) = true := by simpa using hp
            clear hp hxy
            go_wp2
            go_quiet (fail)
            go_wp2
            go_ret
            refine ⟨_, rfl, ?_, below_drewN (below_drewN HBB.out m) _⟩
            constructor
            · intro h; cases h
            · intro h; exact absurd (by rw [← HX.out, ← HYY.out]; simp only [h]) HE.out
          · have z1 : (x.n == y.n) = false := by simpa using hp
            have z2 : (x.n != y.n) = true := by simpa using hp
            clear hp hxy
            go_wp2
            go_quiet (fail)
            go_wp2
            go_ret
            refine ⟨_, rfl, ?_, below_drewN (below_drewN HBB.out m) _⟩
            constructor
            · intro h; cases h
            · intro h; exact absurd (by rw [← HX.out, ← HYY.out]; simp only [h]) HE.out
          · have z1 : (x.f == y.f) = false := by simpa using hp
            have z2 : (x.f != y.f) = true := by simpa using hp
            clear hp hxy
            go_wp2
            go_quiet (fail)
            go_wp2
            go_ret
            refine ⟨_, rfl, ?_, below_drewN (below_drewN HBB.out m) _⟩
            constructor
            · intro h; cases h
            · intro h; exact absurd (by rw [← HX.out, ← HYY.out]; simp only [h]) HE.out
          · have z1 : (x.t == y.t) = false := by simpa using hp
            have z2 : (x.t != y.t) = true := by simpa using hp
            clear hp hxy
            go_wp2
            go_quiet (fail)
            go_wp2
            go_ret
            refine ⟨_, rfl, ?_, below_drewN (below_drewN HBB.out m) _⟩
            constructor
            · intro h; cases h
            · intro h; exact absurd (by rw [← HX.out, ← HYY.out]; simp only [h]) HE.out
      · have e1 : k = n := by omega
        clear HC1 HC2
        go_wp2
        go_ret
        refine ⟨_, rfl, ⟨fun _ => list_ext (by rw [HNA.out, HNB.out]) (fun j h1 h2 => HT.out j h1 h2 (by have := HNA.out; omega)), fun _ => rfl⟩, below_drewN HBB.out _⟩

theorem opn_ext {a b : Opn} (e0 : b.k = a.k) (e1 : b.ir = a.ir) (e2 : b.im = a.im) (e3 : b.t = a.t) (e4 : b.br = a.br) (e5 : b.bm = a.bm) (e6 : b.pr = a.pr) (e7 : b.pm = a.pm) (e8 : b.key = a.key) (e9 : b.sr = a.sr) (e10 : b.sm = a.sm) (e11 : b.lr = a.lr) (e12 : b.lm = a.lm) (e13 : b.li = a.li) (e14 : b.gr = a.gr) (e15 : b.gm = a.gm) (e16 : b.gi = a.gi) (e17 : b.text = a.text) (e18 : b.flag = a.flag) (hc : a.cuts = b.cuts) : a = b := by
  cases a; cases b; simp_all
theorem sameop_any (a b : Opn) (va vb : Value) (w : World) (ha : Cs w va a.cuts) (hb : Cs w vb b.cuts) :
    Calls Tryd.prog 16 #[opv a va, opv b vb] w fun e w' => ∃ r, e = .returned (.bool r) ∧ (r = true ↔ a = b) ∧ Below w.heap.size w w' := by
  by_cases e0 : b.k = a.k
  case neg => exact (so0 _ _ a b va vb rfl rfl w  (Ne.symm e0)).mono fun _ _ h => ⟨false, h.1, ⟨fun h => (by cases h), fun h => absurd (by rw [h]) e0⟩, h.2⟩
  by_cases e1 : b.ir = a.ir
  case neg => exact (so1 _ _ a b va vb rfl rfl w e0 (Ne.symm e1)).mono fun _ _ h => ⟨false, h.1, ⟨fun h => (by cases h), fun h => absurd (by rw [h]) e1⟩, h.2⟩
  by_cases e2 : b.im = a.im
  case neg => exact (so2 _ _ a b va vb rfl rfl w e0 e1 (Ne.symm e2)).mono fun _ _ h => ⟨false, h.1, ⟨fun h => (by cases h), fun h => absurd (by rw [h]) e2⟩, h.2⟩
  by_cases e3 : b.t = a.t
  case neg => exact (so3 _ _ a b va vb rfl rfl w e0 e1 e2 (Ne.symm e3)).mono fun _ _ h => ⟨false, h.1, ⟨fun h => (by cases h), fun h => absurd (by rw [h]) e3⟩, h.2⟩
  by_cases e4 : b.br = a.br
  case neg => exact (so4 _ _ a b va vb rfl rfl w e0 e1 e2 e3 (Ne.symm e4)).mono fun _ _ h => ⟨false, h.1, ⟨fun h => (by cases h), fun h => absurd (by rw [h]) e4⟩, h.2⟩
  by_cases e5 : b.bm = a.bm
  case neg => exact (so5 _ _ a b va vb rfl rfl w e0 e1 e2 e3 e4 (Ne.symm e5)).mono fun _ _ h => ⟨false, h.1, ⟨fun h => (by cases h), fun h => absurd (by rw [h]) e5⟩, h.2⟩
  by_cases e6 : b.pr = a.pr
  case neg => exact (so6 _ _ a b va vb rfl rfl w e0 e1 e2 e3 e4 e5 (Ne.symm e6)).mono fun _ _ h => ⟨false, h.1, ⟨fun h => (by cases h), fun h => absurd (by rw [h]) e6⟩, h.2⟩
  by_cases e7 : b.pm = a.pm
  case neg => exact (so7 _ _ a b va vb rfl rfl w e0 e1 e2 e3 e4 e5 e6 (Ne.symm e7)).mono fun _ _ h => ⟨false, h.1, ⟨fun h => (by cases h), fun h => absurd (by rw [h]) e7⟩, h.2⟩
  by_cases e8 : b.key = a.key
  case neg => exact (so8 _ _ a b va vb rfl rfl w e0 e1 e2 e3 e4 e5 e6 e7 (Ne.symm e8)).mono fun _ _ h => ⟨false, h.1, ⟨fun h => (by cases h), fun h => absurd (by rw [h]) e8⟩, h.2⟩
  by_cases e9 : b.sr = a.sr
  case neg => exact (so9 _ _ a b va vb rfl rfl w e0 e1 e2 e3 e4 e5 e6 e7 e8 (Ne.symm e9)).mono fun _ _ h => ⟨false, h.1, ⟨fun h => (by cases h), fun h => absurd (by rw [h]) e9⟩, h.2⟩
  by_cases e10 : b.sm = a.sm
  case neg => exact (so10 _ _ a b va vb rfl rfl w e0 e1 e2 e3 e4 e5 e6 e7 e8 e9 (Ne.symm e10)).mono fun _ _ h => ⟨false, h.1, ⟨fun h => (by cases h), fun h => absurd (by rw [h]) e10⟩, h.2⟩
  by_cases e11 : b.lr = a.lr
  case neg => exact (so11 _ _ a b va vb rfl rfl w e0 e1 e2 e3 e4 e5 e6 e7 e8 e9 e10 (Ne.symm e11)).mono fun _ _ h => ⟨false, h.1, ⟨fun h => (by cases h), fun h => absurd (by rw [h]) e11⟩, h.2⟩
  by_cases e12 : b.lm = a.lm
  case neg => exact (so12 _ _ a b va vb rfl rfl w e0 e1 e2 e3 e4 e5 e6 e7 e8 e9 e10 e11 (Ne.symm e12)).mono fun _ _ h => ⟨false, h.1, ⟨fun h => (by cases h), fun h => absurd (by rw [h]) e12⟩, h.2⟩
  by_cases e13 : b.li = a.li
  case neg => exact (so13 _ _ a b va vb rfl rfl w e0 e1 e2 e3 e4 e5 e6 e7 e8 e9 e10 e11 e12 (Ne.symm e13)).mono fun _ _ h => ⟨false, h.1, ⟨fun h => (by cases h), fun h => absurd (by rw [h]) e13⟩, h.2⟩
  by_cases e14 : b.gr = a.gr
  case neg => exact (so14 _ _ a b va vb rfl rfl w e0 e1 e2 e3 e4 e5 e6 e7 e8 e9 e10 e11 e12 e13 (Ne.symm e14)).mono fun _ _ h => ⟨false, h.1, ⟨fun h => (by cases h), fun h => absurd (by rw [h]) e14⟩, h.2⟩
  by_cases e15 : b.gm = a.gm
  case neg => exact (so15 _ _ a b va vb rfl rfl w e0 e1 e2 e3 e4 e5 e6 e7 e8 e9 e10 e11 e12 e13 e14 (Ne.symm e15)).mono fun _ _ h => ⟨false, h.1, ⟨fun h => (by cases h), fun h => absurd (by rw [h]) e15⟩, h.2⟩
  by_cases e16 : b.gi = a.gi
  case neg => exact (so16 _ _ a b va vb rfl rfl w e0 e1 e2 e3 e4 e5 e6 e7 e8 e9 e10 e11 e12 e13 e14 e15 (Ne.symm e16)).mono fun _ _ h => ⟨false, h.1, ⟨fun h => (by cases h), fun h => absurd (by rw [h]) e16⟩, h.2⟩
  by_cases e17 : b.text = a.text
  case neg => exact (so17 _ _ a b va vb rfl rfl w e0 e1 e2 e3 e4 e5 e6 e7 e8 e9 e10 e11 e12 e13 e14 e15 e16 (Ne.symm e17)).mono fun _ _ h => ⟨false, h.1, ⟨fun h => (by cases h), fun h => absurd (by rw [h]) e17⟩, h.2⟩
  by_cases e18 : b.flag = a.flag
  case neg => exact (so18 _ _ a b va vb rfl rfl w e0 e1 e2 e3 e4 e5 e6 e7 e8 e9 e10 e11 e12 e13 e14 e15 e16 e17 (Ne.symm e18)).mono fun _ _ h => ⟨false, h.1, ⟨fun h => (by cases h), fun h => absurd (by rw [h]) e18⟩, h.2⟩
  by_cases hl : a.cuts.length = b.cuts.length
  case neg => exact (so_len _ _ a b va vb rfl rfl w e0 e1 e2 e3 e4 e5 e6 e7 e8 e9 e10 e11 e12 e13 e14 e15 e16 e17 e18 ha hb hl).mono fun _ _ h => ⟨false, h.1, ⟨fun h => (by cases h), fun h => absurd (by rw [h]) hl⟩, h.2⟩
  exact (so_yes _ _ a b va vb _ _ rfl rfl w e0 e1 e2 e3 e4 e5 e6 e7 e8 e9 e10 e11 e12 e13 e14 e15 e16 e17 e18 rfl rfl ha hb hl).mono fun _ _ ⟨r, h1, h2, h3⟩ => ⟨r, h1, ⟨fun h => opn_ext e0 e1 e2 e3 e4 e5 e6 e7 e8 e9 e10 e11 e12 e13 e14 e15 e16 e17 e18 (h2.1 h), fun h => h2.2 (by rw [h])⟩, h3⟩

end Go.Proofs.YtaojeanoojnknaaDoor
