/-
  Parts of the proof, one behind the other; what each proves stands at its head.
-/
import Derived.Test.YteckjkblngmenaaDoorPart7
import Derived.Deep.QuietTactic
import Derived.Test.YteckjkblngmenaaDoorRows
import Derived.Test.YteckjkblngmenaaDoorPart1
import Derived.BigQuiet
import Derived.WalkKit
import Derived.RegionTactic
import Derived.Test.YteckjkblngmenaaDoorPart6
import Derived.Test.YteckjkblngmenaaDoorPart3
import Derived.Test.YteckjkblngmenaaDoorPart2
import Derived.Laws.AppendOwnNone

/-
  What SameOp, Same and slices.Equal (of cuts) answer is proved here, for all ops.
-/
namespace Go.Proofs.YteckjkblngmenaaDoor
open Go.RowKit
set_option linter.unusedVariables false
set_option maxRecDepth 100000

theorem ct_part (x y : Ct) (h : x ≠ y) : x.r ≠ y.r ∨ (x.r = y.r ∧ x.n ≠ y.n) ∨ (x.r = y.r ∧ x.n = y.n ∧ x.f ≠ y.f) ∨ (x.r = y.r ∧ x.n = y.n ∧ x.f = y.f ∧ x.t ≠ y.t) := by
  by_cases h1 : x.r = y.r
  · by_cases h2 : x.n = y.n
    · by_cases h3 : x.f = y.f
      · by_cases h4 : x.t = y.t
        · exact absurd (by cases x; cases y; simp_all) h
        · exact .inr (.inr (.inr ⟨h1, h2, h3, h4⟩))
      · exact .inr (.inr (.inl ⟨h1, h2, h3⟩))
    · exact .inr (.inl ⟨h1, h2⟩)
  · exact .inl h1
theorem list_ext {α : Type} {l m : List α} (h : l.length = m.length) (he : ∀ i (h1 : i < l.length) (h2 : i < m.length), l[i] = m[i]) : l = m := List.ext_getElem h he

set_option maxHeartbeats 8000000 in
theorem so_len (A B : Value) (a b : Opn) (va vb : Value) (hA : A = opv a va) (hB : B = opv b vb) (w : World) (e0 : b.k = a.k) (e1 : b.ir = a.ir) (e2 : b.im = a.im) (e3 : b.t = a.t) (e4 : b.br = a.br) (e5 : b.bm = a.bm) (e6 : b.pr = a.pr) (e7 : b.pm = a.pm) (e8 : b.key = a.key) (e9 : b.sr = a.sr) (e10 : b.sm = a.sm) (e11 : b.lr = a.lr) (e12 : b.lm = a.lm) (e13 : b.li = a.li) (e14 : b.gr = a.gr) (e15 : b.gm = a.gm) (e16 : b.gi = a.gi) (e17 : b.text = a.text) (e18 : b.flag = a.flag) (ha : Cs w va a.cuts) (hb : Cs w vb b.cuts) (hl : a.cuts.length ≠ b.cuts.length) :
    Calls Tryd.prog 26 #[A, B] w fun e w' => e = .returned (.bool false) ∧ Below w.heap.size w w' := by
  have HA := hid hA
  have HB := hid hB
  obtain ⟨a1, c1, rfl, _, _⟩ := ha.form
  obtain ⟨a2, c2, rfl, _, _⟩ := hb.form
  have E0 := hid e0
  have E1 := hid e1
  have E2 := hid e2
  have E3 := hid e3
  have E4 := hid e4
  have E5 := hid e5
  have E6 := hid e6
  have E7 := hid e7
  have E8 := hid e8
  have E9 := hid e9
  have E10 := hid e10
  have E11 := hid e11
  have E12 := hid e12
  have E13 := hid e13
  have E14 := hid e14
  have E15 := hid e15
  have E16 := hid e16
  have E17 := hid e17
  have E18 := hid e18
  clear e0 e1 e2 e3 e4 e5 e6 e7 e8 e9 e10 e11 e12 e13 e14 e15 e16 e17 e18
  have hx : ((a.cuts.length : Int) != (b.cuts.length : Int)) = true := by simp; omega
  clear hA hB ha hb
  go_enter Tryd.func26, Tryd.ntmps26
  go_upto_region 1 with (first | (refine wpList_box_op rfl _ rfl A rfl a _ HA.out ?_; intro w1 ho1 hb1 hl1; have HO1 := hid ho1; have HB1 := hid hb1; clear ho1 hb1) | (refine wpList_box_op rfl _ rfl B rfl b _ HB.out ?_; intro w2 ho2 hb2 hl2; have c0 := (HO1.out.below hb2).cells.c0; have d0 := ho2.cells.c0.trans (congrArg (fun x => some (Value.int .i64 x)) E0.out); have c1 := (HO1.out.below hb2).cells.c1; have d1 := ho2.cells.c1.trans (congrArg (fun x => some (Value.int .i64 x)) E1.out); have c2 := (HO1.out.below hb2).cells.c2; have d2 := ho2.cells.c2.trans (congrArg (fun x => some (Value.int .i64 x)) E2.out); have c3 := (HO1.out.below hb2).cells.c3; have d3 := ho2.cells.c3.trans (congrArg (fun x => some (Value.int .i64 x)) E3.out); have c4 := (HO1.out.below hb2).cells.c4; have d4 := ho2.cells.c4.trans (congrArg (fun x => some (Value.int .i64 x)) E4.out); have c5 := (HO1.out.below hb2).cells.c5; have d5 := ho2.cells.c5.trans (congrArg (fun x => some (Value.int .i64 x)) E5.out); have c6 := (HO1.out.below hb2).cells.c6; have d6 := ho2.cells.c6.trans (congrArg (fun x => some (Value.int .i64 x)) E6.out); have c7 := (HO1.out.below hb2).cells.c7; have d7 := ho2.cells.c7.trans (congrArg (fun x => some (Value.int .i64 x)) E7.out); have c8 := (HO1.out.below hb2).cells.c8; have d8 := ho2.cells.c8.trans (congrArg (fun x => some (Value.string x)) E8.out); have c9 := (HO1.out.below hb2).cells.c9; have d9 := ho2.cells.c9.trans (congrArg (fun x => some (Value.int .i64 x)) E9.out); have c10 := (HO1.out.below hb2).cells.c10; have d10 := ho2.cells.c10.trans (congrArg (fun x => some (Value.int .i64 x)) E10.out); have c11 := (HO1.out.below hb2).cells.c11; have d11 := ho2.cells.c11.trans (congrArg (fun x => some (Value.int .i64 x)) E11.out); have c12 := (HO1.out.below hb2).cells.c12; have d12 := ho2.cells.c12.trans (congrArg (fun x => some (Value.int .i64 x)) E12.out); have c13 := (HO1.out.below hb2).cells.c13; have d13 := ho2.cells.c13.trans (congrArg (fun x => some (Value.int .i64 x)) E13.out); have c14 := (HO1.out.below hb2).cells.c14; have d14 := ho2.cells.c14.trans (congrArg (fun x => some (Value.int .i64 x)) E14.out); have c15 := (HO1.out.below hb2).cells.c15; have d15 := ho2.cells.c15.trans (congrArg (fun x => some (Value.int .i64 x)) E15.out); have c16 := (HO1.out.below hb2).cells.c16; have d16 := ho2.cells.c16.trans (congrArg (fun x => some (Value.int .i64 x)) E16.out); have c17 := (HO1.out.below hb2).cells.c17; have d17 := ho2.cells.c17.trans (congrArg (fun x => some (Value.string x)) E17.out); have c19 := (HO1.out.below hb2).cells.c19; have d19 := ho2.cells.c19.trans (congrArg (fun x => some (Value.bool x)) E18.out); have c18 := (HO1.out.below hb2).cells.c18; have d18 := ho2.cells.c18; have HBB := hid (bt HB1.out hb2); clear ho2 hb2))
  simp only [List.append]
  go_wp2_with fail
  go_ret
  exact ⟨rfl, HBB.out⟩

set_option maxHeartbeats 8000000 in
theorem so_yes (A B : Value) (a b : Opn) (va vb : Value) (la lb : List Ct) (hA : A = opv a va) (hB : B = opv b vb) (w : World) (e0 : b.k = a.k) (e1 : b.ir = a.ir) (e2 : b.im = a.im) (e3 : b.t = a.t) (e4 : b.br = a.br) (e5 : b.bm = a.bm) (e6 : b.pr = a.pr) (e7 : b.pm = a.pm) (e8 : b.key = a.key) (e9 : b.sr = a.sr) (e10 : b.sm = a.sm) (e11 : b.lr = a.lr) (e12 : b.lm = a.lm) (e13 : b.li = a.li) (e14 : b.gr = a.gr) (e15 : b.gm = a.gm) (e16 : b.gi = a.gi) (e17 : b.text = a.text) (e18 : b.flag = a.flag) (hla : a.cuts = la) (hlb : b.cuts = lb) (ha : Cs w va la) (hb : Cs w vb lb) (hl : la.length = lb.length) :
    Calls Tryd.prog 26 #[A, B] w fun e w' => ∃ r, e = .returned (.bool r) ∧ (r = true ↔ la = lb) ∧ Below w.heap.size w w' := by
  have HA := hid hA
  have HB := hid hB
  have E0 := hid e0
  have E1 := hid e1
  have E2 := hid e2
  have E3 := hid e3
  have E4 := hid e4
  have E5 := hid e5
  have E6 := hid e6
  have E7 := hid e7
  have E8 := hid e8
  have E9 := hid e9
  have E10 := hid e10
  have E11 := hid e11
  have E12 := hid e12
  have E13 := hid e13
  have E14 := hid e14
  have E15 := hid e15
  have E16 := hid e16
  have E17 := hid e17
  have E18 := hid e18
  clear e0 e1 e2 e3 e4 e5 e6 e7 e8 e9 e10 e11 e12 e13 e14 e15 e16 e17 e18
  obtain ⟨n, hn⟩ : ∃ n, la.length = n := ⟨_, rfl⟩
  have hnn : ((n : Int) != (n : Int)) = false := by simp
  by_cases hz : n = 0
  · obtain rfl := List.eq_nil_of_length_eq_zero (by omega : la.length = 0)
    obtain rfl := List.eq_nil_of_length_eq_zero (by simpa using hl.symm : lb.length = 0)
    obtain ⟨a1, c1, rfl, _, _⟩ := ha.form
    obtain ⟨a2, c2, rfl, _, _⟩ := hb.form
    clear ha hb hl hn hz hA hB hla hlb
    go_enter Tryd.func26, Tryd.ntmps26
    go_upto_region 1 with (first | (refine wpList_box_op rfl _ rfl A rfl a _ HA.out ?_; intro w1 ho1 hb1 hl1; have HO1 := hid ho1; have HB1 := hid hb1; clear ho1 hb1) | (refine wpList_box_op rfl _ rfl B rfl b _ HB.out ?_; intro w2 ho2 hb2 hl2; have c0 := (HO1.out.below hb2).cells.c0; have d0 := ho2.cells.c0.trans (congrArg (fun x => some (Value.int .i64 x)) E0.out); have c1 := (HO1.out.below hb2).cells.c1; have d1 := ho2.cells.c1.trans (congrArg (fun x => some (Value.int .i64 x)) E1.out); have c2 := (HO1.out.below hb2).cells.c2; have d2 := ho2.cells.c2.trans (congrArg (fun x => some (Value.int .i64 x)) E2.out); have c3 := (HO1.out.below hb2).cells.c3; have d3 := ho2.cells.c3.trans (congrArg (fun x => some (Value.int .i64 x)) E3.out); have c4 := (HO1.out.below hb2).cells.c4; have d4 := ho2.cells.c4.trans (congrArg (fun x => some (Value.int .i64 x)) E4.out); have c5 := (HO1.out.below hb2).cells.c5; have d5 := ho2.cells.c5.trans (congrArg (fun x => some (Value.int .i64 x)) E5.out); have c6 := (HO1.out.below hb2).cells.c6; have d6 := ho2.cells.c6.trans (congrArg (fun x => some (Value.int .i64 x)) E6.out); have c7 := (HO1.out.below hb2).cells.c7; have d7 := ho2.cells.c7.trans (congrArg (fun x => some (Value.int .i64 x)) E7.out); have c8 := (HO1.out.below hb2).cells.c8; have d8 := ho2.cells.c8.trans (congrArg (fun x => some (Value.string x)) E8.out); have c9 := (HO1.out.below hb2).cells.c9; have d9 := ho2.cells.c9.trans (congrArg (fun x => some (Value.int .i64 x)) E9.out); have c10 := (HO1.out.below hb2).cells.c10; have d10 := ho2.cells.c10.trans (congrArg (fun x => some (Value.int .i64 x)) E10.out); have c11 := (HO1.out.below hb2).cells.c11; have d11 := ho2.cells.c11.trans (congrArg (fun x => some (Value.int .i64 x)) E11.out); have c12 := (HO1.out.below hb2).cells.c12; have d12 := ho2.cells.c12.trans (congrArg (fun x => some (Value.int .i64 x)) E12.out); have c13 := (HO1.out.below hb2).cells.c13; have d13 := ho2.cells.c13.trans (congrArg (fun x => some (Value.int .i64 x)) E13.out); have c14 := (HO1.out.below hb2).cells.c14; have d14 := ho2.cells.c14.trans (congrArg (fun x => some (Value.int .i64 x)) E14.out); have c15 := (HO1.out.below hb2).cells.c15; have d15 := ho2.cells.c15.trans (congrArg (fun x => some (Value.int .i64 x)) E15.out); have c16 := (HO1.out.below hb2).cells.c16; have d16 := ho2.cells.c16.trans (congrArg (fun x => some (Value.int .i64 x)) E16.out); have c17 := (HO1.out.below hb2).cells.c17; have d17 := ho2.cells.c17.trans (congrArg (fun x => some (Value.string x)) E17.out); have c19 := (HO1.out.below hb2).cells.c19; have d19 := ho2.cells.c19.trans (congrArg (fun x => some (Value.bool x)) E18.out); have c18 := (HO1.out.below hb2).cells.c18; have d18 := ho2.cells.c18; have HBB := hid (bt HB1.out hb2); clear ho2 hb2))
    simp only [List.append]
    go_wp2_with fail
    refine wp_loop_rounds 1 ?_
    rw [rounds_succ]
    go_wp2
    go_ret
    exact ⟨_, rfl, by simp, HBB.out⟩
  · obtain ⟨b1, o1, c1, rfl, hc1, hm1, hb1l, hca⟩ := ha.inv (by omega)
    obtain ⟨b2, o2, c2, rfl, hc2, hm2, hb2l, hcb⟩ := hb.inv (by omega)
    unfold maxLen at hm1 hm2
    have hnb : lb.length = n := by omega
    have HNA := hid hn
    have HNB := hid hnb
    rw [hn] at hc1 HA
    rw [hnb] at hc2 HB
    have HCA := hid hca
    have HCB := hid hcb
    have HL1 := hid hb1l
    have HL2 := hid hb2l
    clear hn hnb hl hca hcb ha hb hA hB hla hlb hb1l hb2l
    go_enter Tryd.func26, Tryd.ntmps26
    go_upto_region 1 with (first | (refine wpList_box_op rfl _ rfl A rfl a _ HA.out ?_; intro w1 ho1 hb1 hl1; have HO1 := hid ho1; have HB1 := hid hb1; clear ho1 hb1) | (refine wpList_box_op rfl _ rfl B rfl b _ HB.out ?_; intro w2 ho2 hb2 hl2; have c0 := (HO1.out.below hb2).cells.c0; have d0 := ho2.cells.c0.trans (congrArg (fun x => some (Value.int .i64 x)) E0.out); have c1 := (HO1.out.below hb2).cells.c1; have d1 := ho2.cells.c1.trans (congrArg (fun x => some (Value.int .i64 x)) E1.out); have c2 := (HO1.out.below hb2).cells.c2; have d2 := ho2.cells.c2.trans (congrArg (fun x => some (Value.int .i64 x)) E2.out); have c3 := (HO1.out.below hb2).cells.c3; have d3 := ho2.cells.c3.trans (congrArg (fun x => some (Value.int .i64 x)) E3.out); have c4 := (HO1.out.below hb2).cells.c4; have d4 := ho2.cells.c4.trans (congrArg (fun x => some (Value.int .i64 x)) E4.out); have c5 := (HO1.out.below hb2).cells.c5; have d5 := ho2.cells.c5.trans (congrArg (fun x => some (Value.int .i64 x)) E5.out); have c6 := (HO1.out.below hb2).cells.c6; have d6 := ho2.cells.c6.trans (congrArg (fun x => some (Value.int .i64 x)) E6.out); have c7 := (HO1.out.below hb2).cells.c7; have d7 := ho2.cells.c7.trans (congrArg (fun x => some (Value.int .i64 x)) E7.out); have c8 := (HO1.out.below hb2).cells.c8; have d8 := ho2.cells.c8.trans (congrArg (fun x => some (Value.string x)) E8.out); have c9 := (HO1.out.below hb2).cells.c9; have d9 := ho2.cells.c9.trans (congrArg (fun x => some (Value.int .i64 x)) E9.out); have c10 := (HO1.out.below hb2).cells.c10; have d10 := ho2.cells.c10.trans (congrArg (fun x => some (Value.int .i64 x)) E10.out); have c11 := (HO1.out.below hb2).cells.c11; have d11 := ho2.cells.c11.trans (congrArg (fun x => some (Value.int .i64 x)) E11.out); have c12 := (HO1.out.below hb2).cells.c12; have d12 := ho2.cells.c12.trans (congrArg (fun x => some (Value.int .i64 x)) E12.out); have c13 := (HO1.out.below hb2).cells.c13; have d13 := ho2.cells.c13.trans (congrArg (fun x => some (Value.int .i64 x)) E13.out); have c14 := (HO1.out.below hb2).cells.c14; have d14 := ho2.cells.c14.trans (congrArg (fun x => some (Value.int .i64 x)) E14.out); have c15 := (HO1.out.below hb2).cells.c15; have d15 := ho2.cells.c15.trans (congrArg (fun x => some (Value.int .i64 x)) E15.out); have c16 := (HO1.out.below hb2).cells.c16; have d16 := ho2.cells.c16.trans (congrArg (fun x => some (Value.int .i64 x)) E16.out); have c17 := (HO1.out.below hb2).cells.c17; have d17 := ho2.cells.c17.trans (congrArg (fun x => some (Value.string x)) E17.out); have c19 := (HO1.out.below hb2).cells.c19; have d19 := ho2.cells.c19.trans (congrArg (fun x => some (Value.bool x)) E18.out); have c18 := (HO1.out.below hb2).cells.c18; have d18 := ho2.cells.c18; have HBB := hid (bt HB1.out hb2); have HC1 := hid (fun i hi => And.intro ((HBB.out.cell HL1.out).trans (HCA.out i hi).1) (And.intro ((HBB.out.cell HL1.out).trans (HCA.out i hi).2.1) (And.intro ((HBB.out.cell HL1.out).trans (HCA.out i hi).2.2.1) ((HBB.out.cell HL1.out).trans (HCA.out i hi).2.2.2)))); have HC2 := hid (fun i hi => And.intro ((HBB.out.cell HL2.out).trans (HCB.out i hi).1) (And.intro ((HBB.out.cell HL2.out).trans (HCB.out i hi).2.1) (And.intro ((HBB.out.cell HL2.out).trans (HCB.out i hi).2.2.1) ((HBB.out.cell HL2.out).trans (HCB.out i hi).2.2.2)))); clear ho2 hb2))
    simp only [List.append]
    go_wp2_with fail
    go_loopw [5] (fun i wr => ∃ k m : Nat, k ≤ n ∧ i = .int .i64 k ∧ wr = w2.drewN m ∧ ∀ j (h1 : j < la.length) (h2 : j < lb.length), j < k → la[j] = lb[j]) (fun i _ => n - (intOf i).toNat)
    case atStart => exact ⟨0, 0, Nat.zero_le _, rfl, rfl, fun j _ _ h => absurd h (Nat.not_lt_zero _)⟩
    case round =>
      obtain ⟨k, m, hk, rfl, rfl, ht⟩ := hrel
      have HT := hid ht
      clear ht
      by_cases hlt : k < n
      · have hka : k < la.length := by rw [HNA.out]; exact hlt
        have hkb : k < lb.length := by rw [HNB.out]; exact hlt
        obtain ⟨x, hx⟩ : ∃ x, la[k] = x := ⟨_, rfl⟩
        obtain ⟨y, hy⟩ : ∃ y, lb[k] = y := ⟨_, rfl⟩
        have g := HC1.out k hka
        have q := HC2.out k hkb
        rw [hx] at g
        rw [hy] at q
        obtain ⟨g0, g1, g2, g3⟩ := g
        have HX := hid hx
        have HYY := hid hy
        clear hx hy
        have b1' : (k : Int) < (n : Int) := by omega
        by_cases hxy : x = y
        · rw [← hxy] at q
          obtain ⟨q0, q1, q2, q3⟩ := q
          have HE := hid hxy
          clear hxy
          go_wp2
          go_quiet (fail)
          go_wp2
          go_roundw
          case rel =>
            refine ⟨k + 1, _, by omega, by go_num, rfl, fun j h1 h2 hj => ?_⟩
            by_cases e : j = k
            · subst e; rw [HX.out, HYY.out]; exact HE.out
            · exact HT.out j h1 h2 (by omega)
          case measure => simp [intOf]; omega
        · have HE := hid hxy
          obtain ⟨q0, q1, q2, q3⟩ := q
          rcases ct_part x y hxy with hp | ⟨p1, hp⟩ | ⟨p1, p2, hp⟩ | ⟨p1, p2, p3, hp⟩
          all_goals
            try rw [← p1] at q0
            try rw [← p2] at q1
            try rw [← p3] at q2
            try clear p1
            try clear p2
            try clear p3
          · have z1 : (x.r == y.r) = false := by simpa using hp
            have z2 : (x.r != y.r) = true := by simpa using hp
            clear hp hxy
            go_wp2
            go_quiet (fail)
            go_wp2
            go_ret
            refine ⟨_, rfl, ?_, below_drewN (below_drewN HBB.out m) _⟩
            constructor
            · intro h; cases h
            · intro h; exact absurd (by rw [← HX.out, ← HYY.out]; simp only [h]) HE.out
          · have z1 : (x.n == y.n) = false := by simpa using hp
            have z2 : (x.n != y.n) = true := by simpa using hp
            clear hp hxy
            go_wp2
            go_quiet (fail)
            go_wp2
            go_ret
            refine ⟨_, rfl, ?_, below_drewN (below_drewN HBB.out m) _⟩
            constructor
            · intro h; cases h
            · intro h; exact absurd (by rw [← HX.out, ← HYY.out]; simp only [h]) HE.out
          · have z1 : (x.f == y.f) = false := by simpa using hp
            have z2 : (x.f != y.f) = true := by simpa using hp
            clear hp hxy
            go_wp2
            go_quiet (fail)
            go_wp2
            go_ret
            refine ⟨_, rfl, ?_, below_drewN (below_drewN HBB.out m) _⟩
            constructor
            · intro h; cases h
            · intro h; exact absurd (by rw [← HX.out, ← HYY.out]; simp only [h]) HE.out
          · have z1 : (x.t == y.t) = false := by simpa using hp
            have z2 : (x.t != y.t) = true := by simpa using hp
            clear hp hxy
            go_wp2
            go_quiet (fail)
            go_wp2
            go_ret
            refine ⟨_, rfl, ?_, below_drewN (below_drewN HBB.out m) _⟩
            constructor
            · intro h; cases h
            · intro h; exact absurd (by rw [← HX.out, ← HYY.out]; simp only [h]) HE.out
      · have e1 : k = n := by omega
        clear HC1 HC2
        go_wp2
        go_ret
        refine ⟨_, rfl, ⟨fun _ => list_ext (by rw [HNA.out, HNB.out]) (fun j h1 h2 => HT.out j h1 h2 (by have := HNA.out; omega)), fun _ => rfl⟩, below_drewN HBB.out _⟩

theorem opn_ext {a b : Opn} (e0 : b.k = a.k) (e1 : b.ir = a.ir) (e2 : b.im = a.im) (e3 : b.t = a.t) (e4 : b.br = a.br) (e5 : b.bm = a.bm) (e6 : b.pr = a.pr) (e7 : b.pm = a.pm) (e8 : b.key = a.key) (e9 : b.sr = a.sr) (e10 : b.sm = a.sm) (e11 : b.lr = a.lr) (e12 : b.lm = a.lm) (e13 : b.li = a.li) (e14 : b.gr = a.gr) (e15 : b.gm = a.gm) (e16 : b.gi = a.gi) (e17 : b.text = a.text) (e18 : b.flag = a.flag) (hc : a.cuts = b.cuts) : a = b := by
  cases a; cases b; simp_all
theorem sameop_any (a b : Opn) (va vb : Value) (w : World) (ha : Cs w va a.cuts) (hb : Cs w vb b.cuts) :
    Calls Tryd.prog 26 #[opv a va, opv b vb] w fun e w' => ∃ r, e = .returned (.bool r) ∧ (r = true ↔ a = b) ∧ Below w.heap.size w w' := by
  by_cases e0 : b.k = a.k
  case neg => exact (so0 _ _ a b va vb rfl rfl w  (Ne.symm e0)).mono fun _ _ h => ⟨false, h.1, ⟨fun h => (by cases h), fun h => absurd (by rw [h]) e0⟩, h.2⟩
  by_cases e1 : b.ir = a.ir
  case neg => exact (so1 _ _ a b va vb rfl rfl w e0 (Ne.symm e1)).mono fun _ _ h => ⟨false, h.1, ⟨fun h => (by cases h), fun h => absurd (by rw [h]) e1⟩, h.2⟩
  by_cases e2 : b.im = a.im
  case neg => exact (so2 _ _ a b va vb rfl rfl w e0 e1 (Ne.symm e2)).mono fun _ _ h => ⟨false, h.1, ⟨fun h => (by cases h), fun h => absurd (by rw [h]) e2⟩, h.2⟩
  by_cases e3 : b.t = a.t
  case neg => exact (so3 _ _ a b va vb rfl rfl w e0 e1 e2 (Ne.symm e3)).mono fun _ _ h => ⟨false, h.1, ⟨fun h => (by cases h), fun h => absurd (by rw [h]) e3⟩, h.2⟩
  by_cases e4 : b.br = a.br
  case neg => exact (so4 _ _ a b va vb rfl rfl w e0 e1 e2 e3 (Ne.symm e4)).mono fun _ _ h => ⟨false, h.1, ⟨fun h => (by cases h), fun h => absurd (by rw [h]) e4⟩, h.2⟩
  by_cases e5 : b.bm = a.bm
  case neg => exact (so5 _ _ a b va vb rfl rfl w e0 e1 e2 e3 e4 (Ne.symm e5)).mono fun _ _ h => ⟨false, h.1, ⟨fun h => (by cases h), fun h => absurd (by rw [h]) e5⟩, h.2⟩
  by_cases e6 : b.pr = a.pr
  case neg => exact (so6 _ _ a b va vb rfl rfl w e0 e1 e2 e3 e4 e5 (Ne.symm e6)).mono fun _ _ h => ⟨false, h.1, ⟨fun h => (by cases h), fun h => absurd (by rw [h]) e6⟩, h.2⟩
  by_cases e7 : b.pm = a.pm
  case neg => exact (so7 _ _ a b va vb rfl rfl w e0 e1 e2 e3 e4 e5 e6 (Ne.symm e7)).mono fun _ _ h => ⟨false, h.1, ⟨fun h => (by cases h), fun h => absurd (by rw [h]) e7⟩, h.2⟩
  by_cases e8 : b.key = a.key
  case neg => exact (so8 _ _ a b va vb rfl rfl w e0 e1 e2 e3 e4 e5 e6 e7 (Ne.symm e8)).mono fun _ _ h => ⟨false, h.1, ⟨fun h => (by cases h), fun h => absurd (by rw [h]) e8⟩, h.2⟩
  by_cases e9 : b.sr = a.sr
  case neg => exact (so9 _ _ a b va vb rfl rfl w e0 e1 e2 e3 e4 e5 e6 e7 e8 (Ne.symm e9)).mono fun _ _ h => ⟨false, h.1, ⟨fun h => (by cases h), fun h => absurd (by rw [h]) e9⟩, h.2⟩
  by_cases e10 : b.sm = a.sm
  case neg => exact (so10 _ _ a b va vb rfl rfl w e0 e1 e2 e3 e4 e5 e6 e7 e8 e9 (Ne.symm e10)).mono fun _ _ h => ⟨false, h.1, ⟨fun h => (by cases h), fun h => absurd (by rw [h]) e10⟩, h.2⟩
  by_cases e11 : b.lr = a.lr
  case neg => exact (so11 _ _ a b va vb rfl rfl w e0 e1 e2 e3 e4 e5 e6 e7 e8 e9 e10 (Ne.symm e11)).mono fun _ _ h => ⟨false, h.1, ⟨fun h => (by cases h), fun h => absurd (by rw [h]) e11⟩, h.2⟩
  by_cases e12 : b.lm = a.lm
  case neg => exact (so12 _ _ a b va vb rfl rfl w e0 e1 e2 e3 e4 e5 e6 e7 e8 e9 e10 e11 (Ne.symm e12)).mono fun _ _ h => ⟨false, h.1, ⟨fun h => (by cases h), fun h => absurd (by rw [h]) e12⟩, h.2⟩
  by_cases e13 : b.li = a.li
  case neg => exact (so13 _ _ a b va vb rfl rfl w e0 e1 e2 e3 e4 e5 e6 e7 e8 e9 e10 e11 e12 (Ne.symm e13)).mono fun _ _ h => ⟨false, h.1, ⟨fun h => (by cases h), fun h => absurd (by rw [h]) e13⟩, h.2⟩
  by_cases e14 : b.gr = a.gr
  case neg => exact (so14 _ _ a b va vb rfl rfl w e0 e1 e2 e3 e4 e5 e6 e7 e8 e9 e10 e11 e12 e13 (Ne.symm e14)).mono fun _ _ h => ⟨false, h.1, ⟨fun h => (by cases h), fun h => absurd (by rw [h]) e14⟩, h.2⟩
  by_cases e15 : b.gm = a.gm
  case neg => exact (so15 _ _ a b va vb rfl rfl w e0 e1 e2 e3 e4 e5 e6 e7 e8 e9 e10 e11 e12 e13 e14 (Ne.symm e15)).mono fun _ _ h => ⟨false, h.1, ⟨fun h => (by cases h), fun h => absurd (by rw [h]) e15⟩, h.2⟩
  by_cases e16 : b.gi = a.gi
  case neg => exact (so16 _ _ a b va vb rfl rfl w e0 e1 e2 e3 e4 e5 e6 e7 e8 e9 e10 e11 e12 e13 e14 e15 (Ne.symm e16)).mono fun _ _ h => ⟨false, h.1, ⟨fun h => (by cases h), fun h => absurd (by rw [h]) e16⟩, h.2⟩
  by_cases e17 : b.text = a.text
  case neg => exact (so17 _ _ a b va vb rfl rfl w e0 e1 e2 e3 e4 e5 e6 e7 e8 e9 e10 e11 e12 e13 e14 e15 e16 (Ne.symm e17)).mono fun _ _ h => ⟨false, h.1, ⟨fun h => (by cases h), fun h => absurd (by rw [h]) e17⟩, h.2⟩
  by_cases e18 : b.flag = a.flag
  case neg => exact (so18 _ _ a b va vb rfl rfl w e0 e1 e2 e3 e4 e5 e6 e7 e8 e9 e10 e11 e12 e13 e14 e15 e16 e17 (Ne.symm e18)).mono fun _ _ h => ⟨false, h.1, ⟨fun h => (by cases h), fun h => absurd (by rw [h]) e18⟩, h.2⟩
  by_cases hl : a.cuts.length = b.cuts.length
  case neg => exact (so_len _ _ a b va vb rfl rfl w e0 e1 e2 e3 e4 e5 e6 e7 e8 e9 e10 e11 e12 e13 e14 e15 e16 e17 e18 ha hb hl).mono fun _ _ h => ⟨false, h.1, ⟨fun h => (by cases h), fun h => absurd (by rw [h]) hl⟩, h.2⟩
  exact (so_yes _ _ a b va vb _ _ rfl rfl w e0 e1 e2 e3 e4 e5 e6 e7 e8 e9 e10 e11 e12 e13 e14 e15 e16 e17 e18 rfl rfl ha hb hl).mono fun _ _ ⟨r, h1, h2, h3⟩ => ⟨r, h1, ⟨fun h => opn_ext e0 e1 e2 e3 e4 e5 e6 e7 e8 e9 e10 e11 e12 e13 e14 e15 e16 e17 e18 (h2.1 h), fun h => h2.2 (by rw [h])⟩, h3⟩

end Go.Proofs.YteckjkblngmenaaDoor

/-
  That offshootref00.SameBytes tells whether two lists of bytes are one is proved here, for all slices that read as bytes.
-/
namespace Go.Proofs.YteckjkblngmenaaDoor
open Go.RowKit
set_option linter.unusedVariables false
set_option maxRecDepth 100000

theorem take_step {xs ys : List Int} {k : Nat} (h1 : k < xs.length) (h2 : k < ys.length) (h : xs.take k = ys.take k) (he : xs.getD k 0 = ys.getD k 0) : xs.take (k + 1) = ys.take (k + 1) := by
  rw [List.take_succ_eq_append_getElem h1, List.take_succ_eq_append_getElem h2, h]
  simp [List.getD, h1, h2] at he
  rw [he]
theorem not_eq_of_at {xs ys : List Int} {k : Nat} (he : xs.getD k 0 ≠ ys.getD k 0) : xs ≠ ys := by
  intro e; exact he (by rw [e])

set_option maxHeartbeats 1000000 in
theorem same_any (a b : Value) (xs ys : List Int) (w : World) (h1 : Bs w a xs) (h2 : Bs w b ys) :
    Calls Tryd.prog 23 #[a, b] w fun e w' => e = .returned (.bool (decide (xs = ys))) ∧ ∃ n, w' = w.drewN n := by
  have l1 := h1.len
  have l2 := h2.len
  unfold maxLen at l1 l2
  by_cases hl : xs.length = ys.length
  · by_cases hz : xs.length = 0
    · have e1 : xs = [] := List.eq_nil_of_length_eq_zero hz
      have e2 : ys = [] := List.eq_nil_of_length_eq_zero (by omega)
      subst e1 e2
      obtain ⟨a1, c1, rfl, _⟩ := h1.inv_nil
      obtain ⟨a2, c2, rfl, _⟩ := h2.inv_nil
      clear h1 h2 l1 l2 hl hz
      go_enter Tryd.func23, Tryd.ntmps23
      go_wp2
      refine wp_loop_rounds 1 ?_
      rw [rounds_succ]
      go_wp2
      go_ret
      exact ⟨rfl, 0, rfl⟩
    · obtain ⟨b1, o1, c1, rfl, _, _, hc1⟩ := h1.inv (by omega)
      obtain ⟨b2, o2, c2, rfl, _, _, hc2⟩ := h2.inv (by omega)
      rw [← hl]
      obtain ⟨n, hn⟩ : ∃ n, xs.length = n := ⟨_, rfl⟩
      have HL : Hid (ys.length = n) := by rw [← hl]; exact hn
      have HN : Hid (xs.length = n) := hn
      rw [hn]
      rw [hn] at hz l1
      clear hn hl h1 h2
      have hnn : ((n : Int) != (n : Int)) = false := by simp
      go_enter Tryd.func23, Tryd.ntmps23
      go_wp2
      go_loopw [5] (fun i wr => ∃ k m : Nat, k ≤ n ∧ i = .int .i64 k ∧ wr = w.drewN m ∧ xs.take k = ys.take k) (fun i _ => n - (intOf i).toNat)
      case atStart => exact ⟨0, 0, Nat.zero_le _, rfl, rfl, by simp⟩
      case round =>
        obtain ⟨k, m, hk, rfl, rfl, ht⟩ := hrel
        have HT := hid ht
        clear ht
        by_cases hlt : k < n
        · have g1 := hc1 k (by have := HN.out; omega)
          have g2 := hc2 k (by have := HL.out; omega)
          clear hc1 hc2
          have b1' : (k : Int) < (n : Int) := by omega
          go_wp2
          go_quiet (fail)
          by_cases he : xs.getD k 0 = ys.getD k 0
          · have he' : (xs[k]?.getD 0 != ys[k]?.getD 0) = false := by simpa [List.getD] using he
            have HE := hid he
            clear he
            go_wp2
            go_roundw
            case rel => exact ⟨k + 1, _, by omega, by go_num, rfl, take_step (by have := HN.out; omega) (by have := HL.out; omega) HT.out HE.out⟩
            case measure => simp [intOf]; omega
          · have he' : (xs[k]?.getD 0 != ys[k]?.getD 0) = true := by simpa [List.getD] using he
            have HE := hid he
            clear he
            go_wp2
            go_ret
            exact ⟨by rw [decide_eq_false (not_eq_of_at HE.out)]; rfl, _, World.drewN_drewN _ _ _⟩
        · clear hc1 hc2
          go_wp2
          go_ret
          refine ⟨?_, _, rfl⟩
          have e1 : k = n := by omega
          have h3 := HT.out
          rw [List.take_of_length_le (by have := HN.out; omega), List.take_of_length_le (by have := HL.out; omega)] at h3
          rw [decide_eq_true h3]; rfl
  · have hne : ((xs.length : Int) != (ys.length : Int)) = true := by simp; omega
    obtain ⟨a1, c1, rfl, _⟩ := h1
    obtain ⟨a2, c2, rfl, _⟩ := h2
    go_enter Tryd.func23, Tryd.ntmps23
    go_wp2
    go_ret
    exact ⟨by rw [decide_eq_false (by intro e; exact hl (by rw [e]))]; rfl, 0, rfl⟩


theorem same_b (a b : Value) (xs ys : List Int) (w : World) (h1 : Bs w a xs) (h2 : Bs w b ys) :
    Calls Tryd.prog 23 #[a, b] w fun e w' => e = .returned (.bool (decide (xs = ys))) ∧ Below w.heap.size w w' :=
  (same_any a b xs ys w h1 h2).mono fun _ _ ⟨he, n, hw⟩ => ⟨he, by rw [hw]; exact bd w n⟩

end Go.Proofs.YteckjkblngmenaaDoor

/-
  Steps of regions whose order is drawn, each operation by what it comes to: for regions that are laid as definitions.
-/
namespace Go.Proofs.YteckjkblngmenaaDoor
open Go.RowKit
set_option linter.unusedVariables false
set_option maxRecDepth 100000

section
variable {P : Program} {ops : Array Oper} {C : World → Prop} {Q : Act → Prop} {o : Oper} {rest : List Oper} {a : Act}
theorem qs_call {f : FuncId} {args : Array Value} (v : Value) (a' : Act) (hw : Region.wanted o (yielded ops a.tmps) = true) (hrun : ∀ W, (execOp a.eval o).run P W = .ok (.enter f args) W)
    (hc : ∀ W, C W → Calls P f args W fun e W' => e = .returned v ∧ C W') (ha : a.put o.dst v = a') (hk : wpQuiet P ops C Q rest a') : wpQuiet P ops C Q (o :: rest) a :=
  BigFrame.wpQuiet_want hw fun K hK => ⟨v, fun W hW => by unfold Oper.quietAt; rw [hrun]; exact ⟨rfl, hc W hW⟩, hK _ (by rw [ha]; exact hk)⟩
theorem qs_val (v : Value) (a' : Act) (hw : Region.wanted o (yielded ops a.tmps) = true) (hrun : ∀ W, C W → (execOp a.eval o).run P W = .ok (.value v) W) (ha : a.put o.dst v = a') (hk : wpQuiet P ops C Q rest a') : wpQuiet P ops C Q (o :: rest) a :=
  BigFrame.wpQuiet_want hw fun K hK => ⟨v, fun W hW => by unfold Oper.quietAt; rw [hrun W hW]; exact ⟨rfl, rfl⟩, hK _ (by rw [ha]; exact hk)⟩
end
section
variable {P : Program} {md : Region.Mode} {ops : Array Oper} {Q : Exit → Act → World → Prop} {fuel : Nat} {listed : Array Bool} {a : Act} {w : World} {o : Oper}
theorem as_val {i : Nat} (v : Value) (a' : Act) (hi : ops[i]? = some o) (hr : Region.ready md ops listed = [i]) (hw : Region.wanted o (yielded ops a.tmps) = true) (hrun : (execOp a.eval o).run P w = .ok (.value v) w) (ha : a.put o.dst v = a')
    (h : wpAny P md ops Q fuel (listed.setIfInBounds i true) a' w) : wpAny P md ops Q (fuel + 1) listed a w :=
  wpAny_ready hr (by simp) (AllReady.cons hi (fun K hK => by rw [if_pos hw]; unfold Oper.wp; rw [hrun]; refine hK _ _ ?_; rw [ha]; exact h) AllReady.nil)
theorem as_call {i : Nat} {f : FuncId} {args : Array Value} {D : World → Prop} (v : Value) (a' : Act) (hi : ops[i]? = some o) (hr : Region.ready md ops listed = [i]) (hw : Region.wanted o (yielded ops a.tmps) = true) (hrun : (execOp a.eval o).run P w = .ok (.enter f args) w)
    (hc : Calls P f args w fun e w' => e = .returned v ∧ D w') (ha : a.put o.dst v = a') (h : ∀ w', D w' → wpAny P md ops Q fuel (listed.setIfInBounds i true) a' w') : wpAny P md ops Q (fuel + 1) listed a w :=
  wpAny_ready hr (by simp) (AllReady.cons hi (fun K hK => by rw [if_pos hw]; unfold Oper.wp; rw [hrun]; exact hc.mono fun e w' ⟨he, hd⟩ => by subst he; refine hK _ _ ?_; rw [ha]; exact h w' hd) AllReady.nil)
theorem as_new {i : Nat} {w' : World} (v : Value) (a' : Act) (hi : ops[i]? = some o) (hr : Region.ready md ops listed = [i]) (hw : Region.wanted o (yielded ops a.tmps) = true) (hrun : (execOp a.eval o).run P w = .ok (.value v) w') (ha : a.put o.dst v = a')
    (h : wpAny P md ops Q fuel (listed.setIfInBounds i true) a' w') : wpAny P md ops Q (fuel + 1) listed a w :=
  wpAny_ready hr (by simp) (AllReady.cons hi (fun K hK => by rw [if_pos hw]; unfold Oper.wp; rw [hrun]; refine hK _ _ ?_; rw [ha]; exact h) AllReady.nil)
end

section
variable {P : Program} {md : Region.Mode} {ops : Array Oper} {Q : Exit → Act → World → Prop} {fuel : Nat} {listed : Array Bool} {a : Act} {w : World} {o : Oper}
/-- A call whose value isn't known ahead. -/
theorem as_callx {i : Nat} {f : FuncId} {args : Array Value} {D : Value → World → Prop} (hi : ops[i]? = some o) (hr : Region.ready md ops listed = [i]) (hw : Region.wanted o (yielded ops a.tmps) = true) (hrun : (execOp a.eval o).run P w = .ok (.enter f args) w)
    (hc : Calls P f args w fun e w' => ∃ v, e = .returned v ∧ D v w') (h : ∀ v w', D v w' → wpAny P md ops Q fuel (listed.setIfInBounds i true) (a.put o.dst v) w') : wpAny P md ops Q (fuel + 1) listed a w :=
  wpAny_ready hr (by simp) (AllReady.cons hi (fun K hK => by rw [if_pos hw]; unfold Oper.wp; rw [hrun]; exact hc.mono fun e w' ⟨v, he, hd⟩ => by subst he; exact hK _ _ (h v w' hd)) AllReady.nil)
end

end Go.Proofs.YteckjkblngmenaaDoor

/-
  The last region of offshootlaw05.alive, whose order is drawn, is walked here: each operation is a definition, so that the terms stay small.
-/
namespace Go.Proofs.YteckjkblngmenaaDoor
open Go.RowKit
set_option linter.unusedVariables false
set_option maxRecDepth 100000

def ap0 : Oper := { dst := some 18, op := Op.move (Operand.tmp 2), type := 4, pos := "law.go:21", after := #[], guard := none }
def ap1 : Oper := { dst := some 19, op := Op.move (Operand.tmp 18), type := 4, pos := "law.go:21", after := #[{ on := 0, ground := Ground.data }], guard := none }
def ap2 : Oper := { dst := some 20, op := Op.move (Operand.tmp 4), type := 4, pos := "law.go:21", after := #[{ on := 1, ground := Ground.guard }], guard := some (1, true) }
def ap3 : Oper := { dst := some 21, op := Op.pick (Operand.tmp 19) (Operand.tmp 20) (Operand.const (Value.bool false)), type := 4, pos := "law.go:21", after := #[{ on := 1, ground := Ground.data }, { on := 2, ground := Ground.data }], guard := none }
def ap4 : Oper := { dst := some 22, op := Op.move (Operand.tmp 21), type := 4, pos := "law.go:21", after := #[{ on := 3, ground := Ground.data }, { on := 1, ground := Ground.chain }], guard := none }
def ap5 : Oper := { dst := some 23, op := Op.move (Operand.tmp 1), type := 45, pos := "law.go:21", after := #[{ on := 4, ground := Ground.guard }], guard := some (4, true) }
def ap6 : Oper := { dst := some 24, op := Op.buildSlice 45 7 #[(0, Operand.const (Value.int IntKind.u8 6)), (1, Operand.const (Value.int IntKind.u8 1)), (2, Operand.const (Value.int IntKind.u8 2)), (3, Operand.const (Value.int IntKind.u8 3)), (4, Operand.const (Value.int IntKind.u8 0)), (5, Operand.const (Value.int IntKind.u8 1)), (6, Operand.const (Value.int IntKind.u8 1))], type := 45, pos := "law.go:21", after := #[{ on := 4, ground := Ground.guard }], guard := some (4, true) }
def ap7 : Oper := { dst := some 25, op := Op.call { callee := Callee.value (Operand.func 23), args := #[Operand.tmp 23, Operand.tmp 24], argTypes := #[45, 45] }, type := 4, pos := "law.go:21", after := #[{ on := 5, ground := Ground.data }, { on := 6, ground := Ground.data }, { on := 4, ground := Ground.chain }, { on := 4, ground := Ground.guard }], guard := some (4, true) }
def ap8 : Oper := { dst := some 26, op := Op.pick (Operand.tmp 22) (Operand.tmp 25) (Operand.const (Value.bool false)), type := 4, pos := "law.go:21", after := #[{ on := 4, ground := Ground.data }, { on := 7, ground := Ground.data }], guard := none }
def ap9 : Oper := { dst := some 27, op := Op.move (Operand.tmp 26), type := 4, pos := "law.go:21", after := #[{ on := 8, ground := Ground.data }, { on := 7, ground := Ground.chain }], guard := none }
def ap10 : Oper := { dst := some 28, op := Op.load 57 (Operand.tmp 3), type := 57, pos := "law.go:21", after := #[{ on := 9, ground := Ground.guard }], guard := some (9, true) }
def ap12 : Oper := { dst := some 30, op := Op.call { callee := Callee.value (Operand.func 26), args := #[Operand.tmp 28, Operand.tmp 29], argTypes := #[57, 57] }, type := 4, pos := "law.go:21", after := #[{ on := 10, ground := Ground.data }, { on := 11, ground := Ground.data }, { on := 11, ground := Ground.chain }, { on := 9, ground := Ground.guard }], guard := some (9, true) }
def ap13 : Oper := { dst := some 31, op := Op.pick (Operand.tmp 27) (Operand.tmp 30) (Operand.const (Value.bool false)), type := 4, pos := "law.go:21", after := #[{ on := 9, ground := Ground.data }, { on := 12, ground := Ground.data }], guard := none }
def ap14 : Oper := { dst := some 32, op := Op.move (Operand.tmp 31), type := 4, pos := "law.go:21", after := #[{ on := 13, ground := Ground.data }, { on := 12, ground := Ground.chain }], guard := none }
def ap17 : Oper := { dst := some 35, op := Op.binOp BinOp.eql 3 (Operand.tmp 34) (Operand.const (Value.int IntKind.i64 1)) 3, type := 4, pos := "law.go:21", after := #[{ on := 16, ground := Ground.data }, { on := 14, ground := Ground.guard }], guard := some (14, true) }
def ap18 : Oper := { dst := some 36, op := Op.pick (Operand.tmp 32) (Operand.tmp 35) (Operand.const (Value.bool false)), type := 4, pos := "law.go:21", after := #[{ on := 14, ground := Ground.data }, { on := 17, ground := Ground.data }], guard := none }
def ap19 : Oper := { dst := some 37, op := Op.move (Operand.tmp 36), type := 4, pos := "law.go:21", after := #[{ on := 18, ground := Ground.data }, { on := 14, ground := Ground.chain }], guard := none }
def ap22 : Oper := { dst := some 40, op := Op.load 52 (Operand.tmp 39), type := 52, pos := "law.go:21", after := #[{ on := 21, ground := Ground.data }, { on := 19, ground := Ground.guard }], guard := some (19, true) }
def ap23 : Oper := { dst := some 41, op := Op.build 52 #[(1, Operand.const (Value.int IntKind.i64 1))], type := 52, pos := "law.go:21", after := #[{ on := 19, ground := Ground.guard }], guard := some (19, true) }
def ap24 : Oper := { dst := some 42, op := Op.binOp BinOp.eql 52 (Operand.tmp 40) (Operand.tmp 41) 52, type := 4, pos := "law.go:21", after := #[{ on := 22, ground := Ground.data }, { on := 23, ground := Ground.data }, { on := 19, ground := Ground.guard }], guard := some (19, true) }
def ap25 : Oper := { dst := some 43, op := Op.pick (Operand.tmp 37) (Operand.tmp 42) (Operand.const (Value.bool false)), type := 4, pos := "law.go:21", after := #[{ on := 19, ground := Ground.data }, { on := 24, ground := Ground.data }], guard := none }
def ap26 : Oper := { dst := some 44, op := Op.move (Operand.tmp 43), type := 4, pos := "law.go:21", after := #[{ on := 25, ground := Ground.data }, { on := 19, ground := Ground.chain }], guard := none }
def ap27 : Oper := { dst := some 45, op := Op.build 57 #[], type := 57, pos := "law.go:21", after := #[{ on := 26, ground := Ground.guard }], guard := some (26, true) }
def ap28 : Oper := { dst := some 46, op := Op.call { callee := Callee.value (Operand.func 76), args := #[Operand.tmp 45], argTypes := #[57] }, type := 4, pos := "law.go:21", after := #[{ on := 27, ground := Ground.data }, { on := 26, ground := Ground.chain }, { on := 26, ground := Ground.guard }], guard := some (26, true) }
def ap29 : Oper := { dst := some 47, op := Op.unOp UnOp.not 4 (Operand.tmp 46), type := 4, pos := "law.go:21", after := #[{ on := 28, ground := Ground.data }, { on := 26, ground := Ground.guard }], guard := some (26, true) }
def ap30 : Oper := { dst := some 48, op := Op.pick (Operand.tmp 44) (Operand.tmp 47) (Operand.const (Value.bool false)), type := 4, pos := "law.go:21", after := #[{ on := 26, ground := Ground.data }, { on := 29, ground := Ground.data }], guard := none }
def ap31 : Oper := { dst := some 49, op := Op.move (Operand.tmp 48), type := 4, pos := "law.go:21", after := #[{ on := 30, ground := Ground.data }, { on := 28, ground := Ground.chain }], guard := none }
def ap32 : Oper := { dst := some 50, op := Op.load 57 (Operand.tmp 3), type := 57, pos := "law.go:21", after := #[{ on := 31, ground := Ground.guard }], guard := some (31, true) }
def ap35 : Oper := { dst := some 53, op := Op.pick (Operand.tmp 49) (Operand.tmp 52) (Operand.const (Value.bool false)), type := 4, pos := "law.go:21", after := #[{ on := 31, ground := Ground.data }, { on := 34, ground := Ground.data }], guard := none }
def ap36 : Oper := { dst := some 0, op := Op.assign (Operand.tmp 53), type := 4, pos := "law.go:21", after := #[{ on := 35, ground := Ground.data }, { on := 34, ground := Ground.chain }, { on := 0, ground := Ground.phase }, { on := 1, ground := Ground.phase }, { on := 2, ground := Ground.phase }, { on := 3, ground := Ground.phase }, { on := 4, ground := Ground.phase }, { on := 5, ground := Ground.phase }, { on := 6, ground := Ground.phase }, { on := 7, ground := Ground.phase }, { on := 8, ground := Ground.phase }, { on := 9, ground := Ground.phase }, { on := 10, ground := Ground.phase }, { on := 11, ground := Ground.phase }, { on := 12, ground := Ground.phase }, { on := 13, ground := Ground.phase }, { on := 14, ground := Ground.phase }, { on := 15, ground := Ground.phase }, { on := 16, ground := Ground.phase }, { on := 17, ground := Ground.phase }, { on := 18, ground := Ground.phase }, { on := 19, ground := Ground.phase }, { on := 20, ground := Ground.phase }, { on := 21, ground := Ground.phase }, { on := 22, ground := Ground.phase }, { on := 23, ground := Ground.phase }, { on := 24, ground := Ground.phase }, { on := 25, ground := Ground.phase }, { on := 26, ground := Ground.phase }, { on := 27, ground := Ground.phase }, { on := 28, ground := Ground.phase }, { on := 29, ground := Ground.phase }, { on := 30, ground := Ground.phase }, { on := 31, ground := Ground.phase }, { on := 32, ground := Ground.phase }, { on := 33, ground := Ground.phase }, { on := 34, ground := Ground.phase }, { on := 35, ground := Ground.phase }], guard := none }
theorem run_load_op {p : Oper} {a : Act} {x : Operand} {b : Nat} {o : Opn} {v : Value} {W : World} (ho : p.op = .load 57 x) (hx : a.eval x = .pointer (some ⟨b, 0, none⟩)) (h : Ob W b o v) : (execOp a.eval p).run Tryd.prog W = .ok (.value (opv o v)) W := by
  unfold execOp
  simp only [ho, hx, Instr.loadAt, Instr.sureAddr, Sem.run_bind, Sem.run_pure, Result.andThen_ok, h.load]
theorem run_load_id {p : Oper} {a : Act} {x : Operand} {b off : Nat} {r n : Int} {W : World} (ho : p.op = .load 52 x) (hx : a.eval x = .pointer (some ⟨b, off, none⟩)) (h0 : W.cell? ⟨b, off, none⟩ = some (.int .i64 r)) (h1 : W.cell? ⟨b, off + 1, none⟩ = some (.int .i64 n)) : (execOp a.eval p).run Tryd.prog W = .ok (.value (idv r n)) W := by
  unfold execOp
  simp only [ho, hx]
  simp [go_sem, h0, h1]
theorem run_build_zero {p : Oper} {a : Act} {W : World} (ho : p.op = .build 57 #[]) : (execOp a.eval p).run Tryd.prog W = .ok (.value (.agg (zopc 0))) W := by
  unfold execOp
  simp only [ho]
  kernel_rfl
theorem run_lit {p : Oper} {a : Act} {w : World} (ho : p.op = .buildSlice 45 7 #[(0, .const (.int .u8 6)), (1, .const (.int .u8 1)), (2, .const (.int .u8 2)), (3, .const (.int .u8 3)), (4, .const (.int .u8 0)), (5, .const (.int .u8 1)), (6, .const (.int .u8 1))]) :
    (execOp a.eval p).run Tryd.prog w = .ok (.value (.slice (some ⟨w.heap.size, 0, none⟩) 7 7)) (w.alloc (.cells (cs [6, 1, 2, 3, 0, 1, 1]).toArray 5)) := by
  unfold execOp
  simp only [ho]
  simp [go_sem]
theorem run_eq_id {p : Oper} {a : Act} {x y : Operand} {r n : Int} {W : World} (ho : p.op = .binOp .eql 52 x y 52) (hx : a.eval x = idv r n) (hy : a.eval y = idv r n) : (execOp a.eval p).run Tryd.prog W = .ok (.value (.bool true)) W := by
  unfold execOp
  simp only [ho, hx, hy]
  simp [go_sem]
end Go.Proofs.YteckjkblngmenaaDoor

/-
  That offshootlaw05.alive returns true is proved here, where the package variables hold what the program lays there.
-/
namespace Go.Proofs.YteckjkblngmenaaDoor
open Go.RowKit
set_option linter.unusedVariables false
set_option maxRecDepth 100000

theorem wpList_store_ops {ops : Array Oper} {rest : List Oper} {p : Oper} {a : Act} {W : World} {Q : Exit → Act → World → Prop} (hgd : p.guard = none) (x y : Operand) (ho : p.op = .store 57 x y) (k0 : Int) (o : Opn) (v : Value) (hv : ∃ va n vc, v = .slice va n vc)
    (hx : a.eval x = .pointer (some ⟨W.heap.size, 0, none⟩)) (hy : a.eval y = opv o v)
    (hk : wpList Tryd.prog ops Q rest (a.put p.dst undef) (W.alloc (opo o v))) : wpList Tryd.prog ops Q (p :: rest) a (W.alloc (.cells (zopc k0) 57)) :=
  wpList_store_opn hgd x y ho (zopc k0) (opl o v) hx hy rfl rfl (by obtain ⟨va, n, vc, rfl⟩ := hv; simp [Value.oneCell']) hk

end Go.Proofs.YteckjkblngmenaaDoor

/-
  Rows of ops in memory ('Os'); what Long answers is proved here, for all rows of ops.
-/
namespace Go.Proofs.YteckjkblngmenaaDoor
open Go.RowKit
set_option linter.unusedVariables false
set_option maxRecDepth 100000

/-- Ops, each with its cuts' slice. -/
abbrev opc (p : Opn × Value) : List Value := (opl p.1 p.2).toList
def Os (w : World) (v : Value) (l : List (Opn × Value)) : Prop := Sl 20 w v l.length (l.flatMap opc) ∧ ∀ p ∈ l, Cs w p.2 p.1.cuts
theorem Os.inv {w : World} {v : Value} {l : List (Opn × Value)} (h : Os w v l) (hn : 0 < l.length) :
    ∃ b off c, v = .slice (some ⟨b, off, none⟩) l.length c ∧ l.length ≤ c ∧ c ≤ maxLen ∧ b < w.heap.size ∧ ∀ i (hi : i < l.length) j, j < 20 → w.cell? ⟨b, off + i * 20 + j, none⟩ = (opl (l[i]).1 (l[i]).2)[j]? := by
  obtain ⟨b, off, c, h1, h2, h3, h4, h5⟩ := Sl.inv h.1 hn (by decide)
  refine ⟨b, off, c, h1, h2, h3, h4, fun i hi j hj => ?_⟩
  have k := flat_at opc 20 (fun _ => rfl) l i j hi hj
  have hs : j < (opl (l[i]).1 (l[i]).2).size := hj
  have e : (opl (l[i]).1 (l[i]).2)[j]? = some ((opl (l[i]).1 (l[i]).2)[j]) := Array.getElem?_eq_getElem hs
  rw [e, Nat.add_assoc]
  refine h5 _ _ ?_
  rw [k, ← e]
  simp [opc]

/-- An op that is looked at. -/
def small (o : Opn) : Bool := decide (o.text.size ≤ 200) && decide (o.key.size ≤ 200) && decide (o.cuts.length ≤ 40)

set_option maxHeartbeats 2000000 in
theorem long_any (v : Value) (l : List (Opn × Value)) (most : Nat) (w : World) (h : Os w v l) (hm : l.length ≤ most) (hm' : most ≤ 1000) :
    Calls Tryd.prog 10 #[v, .int .i64 most] w fun e w' => e = .returned (.bool (!l.all (fun p => small p.1))) ∧ w = w' := by
  by_cases hz : l.length = 0
  · obtain rfl := List.eq_nil_of_length_eq_zero hz
    obtain ⟨a, c, rfl, _, _⟩ := Sl.form h.1
    clear h hz
    go_enter Tryd.func10, Tryd.ntmps10
    go_wp2
    refine wp_loop_rounds 1 ?_
    rw [rounds_succ]
    go_wp2
    go_ret
    exact ⟨rfl, rfl⟩
  · obtain ⟨b, off, c, rfl, hlc, hcm, hbl, hc⟩ := h.inv (by omega)
    have hcs := h.2
    obtain ⟨n, hn⟩ : ∃ n, l.length = n := ⟨_, rfl⟩
    have HN := hid hn
    rw [hn] at hz hlc hm ⊢
    unfold maxLen at hcm
    have HC := hid hc
    have HCS := hid hcs
    obtain ⟨r, hr⟩ : ∃ r, l.all (fun p => small p.1) = r := ⟨_, rfl⟩
    rw [hr]
    have HR := hid hr
    have hd1 : decide (most < n) = false := by simp; omega
    have hd2 : decide ((most : Int) < (n : Int)) = false := by simp; omega
    clear hn hc h hbl hcs hr
    go_enter Tryd.func10, Tryd.ntmps10
    go_wp2
    go_loopw [5] (fun i wr => ∃ k : Nat, k ≤ n ∧ i = .int .i64 k ∧ wr = w ∧ ∀ j (hj : j < l.length), j < k → small (l[j]).1 = true) (fun i _ => n - (intOf i).toNat)
    case atStart => exact ⟨0, Nat.zero_le _, rfl, rfl, fun j _ h => absurd h (Nat.not_lt_zero _)⟩
    case round =>
      obtain ⟨k, hk, rfl, rfl, ht⟩ := hrel
      have HT := hid ht
      clear ht
      by_cases hlt : k < n
      · have hkl : k < l.length := by rw [HN.out]; exact hlt
        obtain ⟨x, hx⟩ : ∃ x, l[k] = x := ⟨_, rfl⟩
        have g1 := HC.out k hkl 17 (by decide)
        have g2 := HC.out k hkl 8 (by decide)
        have g3 := HC.out k hkl 18 (by decide)
        rw [hx] at g1 g2 g3
        have hxc := HCS.out _ (List.getElem_mem hkl)
        rw [hx] at hxc
        obtain ⟨xa, xc, hxv, _, _⟩ := hxc.form
        simp at g1 g2 g3
        rw [hxv] at g3
        have HX := hid hx
        clear hx hxc hxv
        have b1' : (k : Int) < (n : Int) := by omega
        have hs : small x.1 = (decide (x.1.text.size ≤ 200) && decide (x.1.key.size ≤ 200) && decide (x.1.cuts.length ≤ 40)) := rfl
        cases t1 : decide (x.1.text.size ≤ 200)
        all_goals cases t2 : decide (x.1.key.size ≤ 200)
        all_goals cases t3 : decide (x.1.cuts.length ≤ 40)
        all_goals
          rw [t1, t2, t3] at hs
          have HS := hid hs
          simp at t1 t2 t3
          clear hs
          go_wp2
          try
            go_ret
            refine ⟨retb ?_, rfl⟩
            rw [← HR.out]
            have hf : l.all (fun p => small p.1) = false := by
              rw [List.all_eq_false]
              exact ⟨x, by have := List.getElem_mem hkl; rw [HX.out] at this; exact this, by rw [HS.out]; decide⟩
            rw [hf]
            decide
        go_roundw
        case rel =>
          refine ⟨k + 1, by omega, by go_num, by first | rfl | trivial, fun j hj hjk => ?_⟩
          by_cases e : j = k
          · subst e; rw [HX.out]; exact HS.out
          · exact HT.out j hj (by omega)
        case measure => simp [intOf]; omega
      · have e1 : k = n := by omega
        clear HC
        go_wp2
        go_ret
        refine ⟨retb ?_, rfl⟩
        rw [← HR.out]
        have hf : l.all (fun p => small p.1) = true := by
          rw [List.all_eq_true]
          intro p hp
          obtain ⟨j, hj, e⟩ := List.getElem_of_mem hp
          have := HT.out j hj (by have := HN.out; omega)
          rw [e] at this
          exact this
        rw [hf]
        decide

end Go.Proofs.YteckjkblngmenaaDoor

/-
  What the reference's Put and PutText return is proved here: Put for every number, PutText for texts of at most 2^46 bytes.
-/
namespace Go.Proofs.YteckjkblngmenaaDoor
open Go.RowKit
set_option linter.unusedVariables false
set_option maxRecDepth 100000

theorem cs_append (a b : List Int) : cs (a ++ b) = cs a ++ cs b := by simp [cs]
theorem bd_succ (k : Nat) : M.bd k * 128 = M.bd (k + 1) := by unfold M.bd; rw [Int.pow_succ]
theorem bd_small {k : Nat} (h : k ≤ 6) : 0 ≤ M.bd k ∧ M.bd k ≤ 4398046511104 := by
  have := M.ipow_le 128 (b := k) (c := 6) (by decide) h
  have h0 : (0 : Int) ≤ 128 ^ k := Int.le_of_lt (Int.pow_pos (by decide))
  unfold M.bd
  exact ⟨h0, this⟩
theorem mask_step {j : Nat} (h : j ≤ 5) : M.mask (j + 1) + 128 / 2 ^ j = M.mask (j + 2) := by
  have : j = 0 ∨ j = 1 ∨ j = 2 ∨ j = 3 ∨ j = 4 ∨ j = 5 := by omega
  rcases this with rfl | rfl | rfl | rfl | rfl | rfl <;> decide
theorem mask_small {k : Nat} (h1 : 1 ≤ k) (h7 : k ≤ 7) : 0 ≤ M.mask k ∧ M.mask k ≤ 252 := by
  rcases M.seven ⟨h1, h7⟩ with rfl | rfl | rfl | rfl | rfl | rfl | rfl <;> decide
theorem mask_room {k : Nat} {x : Int} (h1 : 1 ≤ k) (h7 : k ≤ 7) (hx : x < 2 ^ (8 - k)) : x + M.mask k < 256 := by
  rcases M.seven ⟨h1, h7⟩ with rfl | rfl | rfl | rfl | rfl | rfl | rfl <;> simp [M.mask] at hx ⊢ <;> omega

theorem ofStr_step (s : ByteArray) (k : Nat) (h : k < s.size) : (M.ofStr s).take (k + 1) = (M.ofStr s).take k ++ [((s[k]).toNat : Int)] := by
  rw [List.take_succ_eq_append_getElem (by rw [M.ofStr_length]; exact h)]
  congr 1
  simp [M.ofStr]
  rfl

end Go.Proofs.YteckjkblngmenaaDoor

/-
  What the reference's cursor answers to Num is proved here, for every cursor that is over nothing when it is lost.
-/
namespace Go.Proofs.YteckjkblngmenaaDoor
open Go.RowKit
set_option linter.unusedVariables false
set_option maxRecDepth 100000

/-- The reference's first loop: how many ones a byte begins with. -/
theorem cnt_stop {b : Int} {k : Nat} (h0 : 0 ≤ b) (h1 : b < 256) (hk1 : 1 ≤ k) (hk8 : k ≤ 8) (hm : M.mask k ≤ b) (he : k = 8 ∨ b - M.mask k < 2 ^ (8 - k)) :
    (k = 8 → 7 < M.cnt b) ∧ (k ≤ 7 → M.cnt b = k ∧ b - M.mask k = b % 2 ^ (8 - k)) := by
  have : k = 1 ∨ k = 2 ∨ k = 3 ∨ k = 4 ∨ k = 5 ∨ k = 6 ∨ k = 7 ∨ k = 8 := by omega
  rcases this with rfl | rfl | rfl | rfl | rfl | rfl | rfl | rfl <;> simp [M.mask] at hm he ⊢ <;> unfold M.cnt <;> (first | (refine ⟨?_, by omega⟩; (repeat' split) <;> omega) | ((repeat' split) <;> omega))

theorem mask_next {k : Nat} (hk1 : 1 ≤ k) (hk7 : k ≤ 7) : M.mask k + 2 ^ (8 - k) = M.mask (k + 1) ∧ (2 : Int) ^ (8 - k) / 2 = 2 ^ (8 - (k + 1)) ∧ (0 : Int) ≤ 2 ^ (8 - k) ∧ (2 : Int) ^ (8 - k) ≤ 128 := by
  rcases M.seven ⟨hk1, hk7⟩ with rfl | rfl | rfl | rfl | rfl | rfl | rfl <;> decide

/-- The reference takes a number. -/
theorem first_cons {b : Int} {r : List Int} {k : Nat} (hk : M.cnt b = k) : M.first (b :: r) = if 7 < k ∨ r.length + 1 < k then none else
    if M.sz (M.fold (b % 2 ^ (8 - k)) (r.take (k - 1))) = k then some (M.fold (b % 2 ^ (8 - k)) (r.take (k - 1)), k) else none := by
  rw [M.first, hk]

theorem numOk_none {most : Int} {xs : List Int} (h : M.first xs = none) : M.numV most xs = 0 ∧ M.numS most xs = [] ∧ ∀ l, M.numL most xs l = true := by
  have : M.numOk most xs = false := by simp [M.numOk, M.fo, h]
  simp [M.numV, M.numS, M.numL, this]
theorem numOk_above {most n : Int} {k : Nat} {xs : List Int} (h : M.first xs = some (n, k)) (hn : most < n) : M.numV most xs = 0 ∧ M.numS most xs = [] ∧ ∀ l, M.numL most xs l = true := by
  have : M.numOk most xs = false := by simp [M.numOk, M.fo, M.fn, h]; omega
  simp [M.numV, M.numS, M.numL, this]
theorem numOk_some {most n : Int} {k : Nat} {xs : List Int} (h : M.first xs = some (n, k)) (hn : n ≤ most) : M.numV most xs = n ∧ M.numS most xs = xs.drop k ∧ ∀ l, M.numL most xs l = l := by
  have : M.numOk most xs = true := by simp [M.numOk, M.fo, M.fn, h]; omega
  simp [M.numV, M.numS, M.numL, this, M.fn, M.fc, h]

theorem fold_right_k {x : Int} {r : List Int} {k : Nat} (hk1 : 1 ≤ k) (hk7 : k ≤ 7) (hr : ∀ y ∈ r, 0 ≤ y ∧ y < 256) :
    0 ≤ M.fold (x % 2 ^ (8 - k)) (r.take (k - 1)) ∧ M.fold (x % 2 ^ (8 - k)) (r.take (k - 1)) < 562949953421312 := by
  have hp : (0 : Int) < 2 ^ (8 - k) := Int.pow_pos (by decide)
  have h := M.fold_bound (2 ^ (8 - k)) (r.take (k - 1)) (fun y hy => hr y (List.mem_of_mem_take hy)) (x % 2 ^ (8 - k)) (Int.emod_nonneg _ (Int.ne_of_gt hp)) (Int.emod_lt_of_pos _ hp)
  have h2 : (256 : Int) ^ (r.take (k - 1)).length ≤ 256 ^ (k - 1) := M.pow256_le (List.length_take_le _ _)
  have h3 : (2 : Int) ^ (8 - k) * 256 ^ (r.take (k - 1)).length ≤ 2 ^ (8 - k) * 256 ^ (k - 1) := Int.mul_le_mul_of_nonneg_left h2 (Int.le_of_lt hp)
  have hlt : (2 : Int) ^ (8 - k) * 256 ^ (k - 1) ≤ 562949953421312 := by
    rcases M.seven ⟨hk1, hk7⟩ with e | e | e | e | e | e | e <;> rw [e] <;> decide
  exact ⟨h.1, by omega⟩

end Go.Proofs.YteckjkblngmenaaDoor

/-
  What offshootref00.CopyBytes returns is proved here, for all slices that read as bytes, of at most 2^47 of them: a row of its own.
-/
namespace Go.Proofs.YteckjkblngmenaaDoor
open Go.RowKit
set_option linter.unusedVariables false
set_option maxRecDepth 100000

end Go.Proofs.YteckjkblngmenaaDoor

/-
  What the reference's cursor answers to Bytes and Text, and what CopyBytes returns, is proved here, for at most 2^47 bytes, and cursors that are over nothing when they are lost.
-/
namespace Go.Proofs.YteckjkblngmenaaDoor
open Go.RowKit
set_option linter.unusedVariables false
set_option maxRecDepth 100000

theorem Bs.empty (w : World) (x : Addr) (c : Nat) (hc : c ≤ maxLen := by decide) : Bs w (.slice (some x) 0 c) [] :=
  ⟨some x, c, rfl, Nat.zero_le _, hc, (fun e => by cases e), fun i hi => absurd hi (Nat.not_lt_zero _), fun y hy => by cases hy⟩
theorem Bs.bound {w : World} {a : Option Addr} {n c : Nat} {xs : List Int} (h : Bs w (.slice a n c) xs) : n = xs.length ∧ xs.length ≤ c := by
  obtain ⟨a', c', h1, h2, _⟩ := h
  simp only [Value.slice.injEq] at h1
  omega

theorem numV_nonneg {most : Int} {xs : List Int} (hx : ∀ x ∈ xs, 0 ≤ x ∧ x < 256) : 0 ≤ M.numV most xs := by
  unfold M.numV
  split
  · unfold M.fn
    split
    · rename_i p hp
      exact (M.enc_first_eq (n := p.1) (k := p.2) hx hp).1
    · exact Int.le_refl _
  · exact Int.le_refl _

theorem numL_nil {most : Int} {xs : List Int} {l : Bool} (h : l = true → xs = []) : M.numL most xs l = true → M.numS most xs = [] := by
  unfold M.numL M.numS
  by_cases hok : M.numOk most xs = true
  · simp only [hok, if_pos]
    intro e
    have := h e
    subst this
    rfl
  · simp [hok]

end Go.Proofs.YteckjkblngmenaaDoor
