/-
  Parts of the proof, one behind the other; what each proves stands at its head.
-/
import Derived.Test.YteckjkblngmenaaGreatDoorPart6
import Derived.Deep.QuietTactic
import Derived.Test.YteckjkblngmenaaGreatDoorRows
import Derived.Test.YteckjkblngmenaaGreatDoorPart1
import Derived.BigQuiet
import Derived.WalkKit
import Derived.RegionTactic
import Derived.Test.YteckjkblngmenaaGreatDoorPart5
import Derived.Test.YteckjkblngmenaaGreatDoorPart3
import Derived.Test.YteckjkblngmenaaGreatDoorPart2
import Derived.Laws.AppendOwnNone

/-
  What SameOp, Same and slices.Equal (of cuts) answer is proved here, for all ops.
-/
namespace Go.Proofs.YteckjkblngmenaaGreatDoor
open Go.RowKit
set_option linter.unusedVariables false
set_option maxRecDepth 100000

theorem ct_part (x y : Ct) (h : x ≠ y) : x.r ≠ y.r ∨ (x.r = y.r ∧ x.n ≠ y.n) ∨ (x.r = y.r ∧ x.n = y.n ∧ x.f ≠ y.f) ∨ (x.r = y.r ∧ x.n = y.n ∧ x.f = y.f ∧ x.t ≠ y.t) := by
  by_cases h1 : x.r = y.r
  · by_cases h2 : x.n = y.n
    · by_cases h3 : x.f = y.f
      · by_cases h4 : x.t = y.t
        · exact absurd (by cases x; cases y; simp_all) h
        · exact .inr (.inr (.inr ⟨h1, h2, h3, h4⟩))
      · exact .inr (.inr (.inl ⟨h1, h2, h3⟩))
    · exact .inr (.inl ⟨h1, h2⟩)
  · exact .inl h1
theorem list_ext {α : Type} {l m : List α} (h : l.length = m.length) (he : ∀ i (h1 : i < l.length) (h2 : i < m.length), l[i] = m[i]) : l = m := List.ext_getElem h he

set_option maxHeartbeats 8000000 in
theorem so_len (A B : Value) (a b : Opn) (va vb : Value) (hA : A = opv a va) (hB : B = opv b vb) (w : World) (e0 : b.k = a.k) (e1 : b.ir = a.ir) (e2 : b.im = a.im) (e3 : b.t = a.t) (e4 : b.br = a.br) (e5 : b.bm = a.bm) (e6 : b.pr = a.pr) (e7 : b.pm = a.pm) (e8 : b.key = a.key) (e9 : b.sr = a.sr) (e10 : b.sm = a.sm) (e11 : b.lr = a.lr) (e12 : b.lm = a.lm) (e13 : b.li = a.li) (e14 : b.gr = a.gr) (e15 : b.gm = a.gm) (e16 : b.gi = a.gi) (e17 : b.text = a.text) (e18 : b.flag = a.flag) (ha : Cs w va a.cuts) (hb : Cs w vb b.cuts) (hl : a.cuts.length ≠ b.cuts.length) :
    Calls Tryz.prog 40 #[A, B] w fun e w' => e = .returned (.bool false) ∧ Below w.heap.size w w' := by
  have HA := hid hA
  have HB := hid hB
  obtain ⟨a1, c1, rfl, _, _⟩ := ha.form
  obtain ⟨a2, c2, rfl, _, _⟩ := hb.form
  have E0 := hid e0
  have E1 := hid e1
  have E2 := hid e2
  have E3 := hid e3
  have E4 := hid e4
  have E5 := hid e5
  have E6 := hid e6
  have E7 := hid e7
  have E8 := hid e8
  have E9 := hid e9
  have E10 := hid e10
  have E11 := hid e11
  have E12 := hid e12
  have E13 := hid e13
  have E14 := hid e14
  have E15 := hid e15
  have E16 := hid e16
  have E17 := hid e17
  have E18 := hid e18
  clear e0 e1 e2 e3 e4 e5 e6 e7 e8 e9 e10 e11 e12 e13 e14 e15 e16 e17 e18
  have hx : ((a.cuts.length : Int) != (b.cuts.length : Int)) = true := by simp; omega
  clear hA hB ha hb
  go_enter Tryz.func40, Tryz.ntmps40
  go_upto_region 1 with (first | (refine wpList_box_op rfl _ rfl A rfl a _ HA.out ?_; intro w1 ho1 hb1 hl1; have HO1 := hid ho1; have HB1 := hid hb1; clear ho1 hb1) | (refine wpList_box_op rfl _ rfl B rfl b _ HB.out ?_; intro w2 ho2 hb2 hl2; have c0 := (HO1.out.below hb2).cells.c0; have d0 := ho2.cells.c0.trans (congrArg (fun x => some (Value.int .i64 x)) E0.out); have c1 := (HO1.out.below hb2).cells.c1; have d1 := ho2.cells.c1.trans (congrArg (fun x => some (Value.int .i64 x)) E1.out); have c2 := (HO1.out.below hb2).cells.c2; have d2 := ho2.cells.c2.trans (congrArg (fun x => some (Value.int .i64 x)) E2.out); have c3 := (HO1.out.below hb2).cells.c3; have d3 := ho2.cells.c3.trans (congrArg (fun x => some (Value.int .i64 x)) E3.out); have c4 := (HO1.out.below hb2).cells.c4; have d4 := ho2.cells.c4.trans (congrArg (fun x => some (Value.int .i64 x)) E4.out); have c5 := (HO1.out.below hb2).cells.c5; have d5 := ho2.cells.c5.trans (congrArg (fun x => some (Value.int .i64 x)) E5.out); have c6 := (HO1.out.below hb2).cells.c6; have d6 := ho2.cells.c6.trans (congrArg (fun x => some (Value.int .i64 x)) E6.out); have c7 := (HO1.out.below hb2).cells.c7; have d7 := ho2.cells.c7.trans (congrArg (fun x => some (Value.int .i64 x)) E7.out); have c8 := (HO1.out.below hb2).cells.c8; have d8 := ho2.cells.c8.trans (congrArg (fun x => some (Value.string x)) E8.out); have c9 := (HO1.out.below hb2).cells.c9; have d9 := ho2.cells.c9.trans (congrArg (fun x => some (Value.int .i64 x)) E9.out); have c10 := (HO1.out.below hb2).cells.c10; have d10 := ho2.cells.c10.trans (congrArg (fun x => some (Value.int .i64 x)) E10.out); have c11 := (HO1.out.below hb2).cells.c11; have d11 := ho2.cells.c11.trans (congrArg (fun x => some (Value.int .i64 x)) E11.out); have c12 := (HO1.out.below hb2).cells.c12; have d12 := ho2.cells.c12.trans (congrArg (fun x => some (Value.int .i64 x)) E12.out); have c13 := (HO1.out.below hb2).cells.c13; have d13 := ho2.cells.c13.trans (congrArg (fun x => some (Value.int .i64 x)) E13.out); have c14 := (HO1.out.below hb2).cells.c14; have d14 := ho2.cells.c14.trans (congrArg (fun x => some (Value.int .i64 x)) E14.out); have c15 := (HO1.out.below hb2).cells.c15; have d15 := ho2.cells.c15.trans (congrArg (fun x => some (Value.int .i64 x)) E15.out); have c16 := (HO1.out.below hb2).cells.c16; have d16 := ho2.cells.c16.trans (congrArg (fun x => some (Value.int .i64 x)) E16.out); have c17 := (HO1.out.below hb2).cells.c17; have d17 := ho2.cells.c17.trans (congrArg (fun x => some (Value.string x)) E17.out); have c19 := (HO1.out.below hb2).cells.c19; have d19 := ho2.cells.c19.trans (congrArg (fun x => some (Value.bool x)) E18.out); have c18 := (HO1.out.below hb2).cells.c18; have d18 := ho2.cells.c18; have HBB := hid (bt HB1.out hb2); clear ho2 hb2))
  simp only [List.append]
  go_wp2_with fail
  go_ret
  exact ⟨rfl, HBB.out⟩

set_option maxHeartbeats 8000000 in
theorem so_yes (A B : Value) (a b : Opn) (va vb : Value) (la lb : List Ct) (hA : A = opv a va) (hB : B = opv b vb) (w : World) (e0 : b.k = a.k) (e1 : b.ir = a.ir) (e2 : b.im = a.im) (e3 : b.t = a.t) (e4 : b.br = a.br) (e5 : b.bm = a.bm) (e6 : b.pr = a.pr) (e7 : b.pm = a.pm) (e8 : b.key = a.key) (e9 : b.sr = a.sr) (e10 : b.sm = a.sm) (e11 : b.lr = a.lr) (e12 : b.lm = a.lm) (e13 : b.li = a.li) (e14 : b.gr = a.gr) (e15 : b.gm = a.gm) (e16 : b.gi = a.gi) (e17 : b.text = a.text) (e18 : b.flag = a.flag) (hla : a.cuts = la) (hlb : b.cuts = lb) (ha : Cs w va la) (hb : Cs w vb lb) (hl : la.length = lb.length) :
    Calls Tryz.prog 40 #[A, B] w fun e w' => ∃ r, e = .returned (.bool r) ∧ (r = true ↔ la = lb) ∧ Below w.heap.size w w' := by
  have HA := hid hA
  have HB := hid hB
  have E0 := hid e0
  have E1 := hid e1
  have E2 := hid e2
  have E3 := hid e3
  have E4 := hid e4
  have E5 := hid e5
  have E6 := hid e6
  have E7 := hid e7
  have E8 := hid e8
  have E9 := hid e9
  have E10 := hid e10
  have E11 := hid e11
  have E12 := hid e12
  have E13 := hid e13
  have E14 := hid e14
  have E15 := hid e15
  have E16 := hid e16
  have E17 := hid e17
  have E18 := hid e18
  clear e0 e1 e2 e3 e4 e5 e6 e7 e8 e9 e10 e11 e12 e13 e14 e15 e16 e17 e18
  obtain ⟨n, hn⟩ : ∃ n, la.length = n := ⟨_, rfl⟩
  have hnn : ((n : Int) != (n : Int)) = false := by simp
  by_cases hz : n = 0
  · obtain rfl := List.eq_nil_of_length_eq_zero (by omega : la.length = 0)
    obtain rfl := List.eq_nil_of_length_eq_zero (by simpa using hl.symm : lb.length = 0)
    obtain ⟨a1, c1, rfl, _, _⟩ := ha.form
    obtain ⟨a2, c2, rfl, _, _⟩ := hb.form
    clear ha hb hl hn hz hA hB hla hlb
    go_enter Tryz.func40, Tryz.ntmps40
    go_upto_region 1 with (first | (refine wpList_box_op rfl _ rfl A rfl a _ HA.out ?_; intro w1 ho1 hb1 hl1; have HO1 := hid ho1; have HB1 := hid hb1; clear ho1 hb1) | (refine wpList_box_op rfl _ rfl B rfl b _ HB.out ?_; intro w2 ho2 hb2 hl2; have c0 := (HO1.out.below hb2).cells.c0; have d0 := ho2.cells.c0.trans (congrArg (fun x => some (Value.int .i64 x)) E0.out); have c1 := (HO1.out.below hb2).cells.c1; have d1 := ho2.cells.c1.trans (congrArg (fun x => some (Value.int .i64 x)) E1.out); have c2 := (HO1.out.below hb2).cells.c2; have d2 := ho2.cells.c2.trans (congrArg (fun x => some (Value.int .i64 x)) E2.out); have c3 := (HO1.out.below hb2).cells.c3; have d3 := ho2.cells.c3.trans (congrArg (fun x => some (Value.int .i64 x)) E3.out); have c4 := (HO1.out.below hb2).cells.c4; have d4 := ho2.cells.c4.trans (congrArg (fun x => some (Value.int .i64 x)) E4.out); have c5 := (HO1.out.below hb2).cells.c5; have d5 := ho2.cells.c5.trans (congrArg (fun x => some (Value.int .i64 x)) E5.out); have c6 := (HO1.out.below hb2).cells.c6; have d6 := ho2.cells.c6.trans (congrArg (fun x => some (Value.int .i64 x)) E6.out); have c7 := (HO1.out.below hb2).cells.c7; have d7 := ho2.cells.c7.trans (congrArg (fun x => some (Value.int .i64 x)) E7.out); have c8 := (HO1.out.below hb2).cells.c8; have d8 := ho2.cells.c8.trans (congrArg (fun x => some (Value.string x)) E8.out); have c9 := (HO1.out.below hb2).cells.c9; have d9 := ho2.cells.c9.trans (congrArg (fun x => some (Value.int .i64 x)) E9.out); have c10 := (HO1.out.below hb2).cells.c10; have d10 := ho2.cells.c10.trans (congrArg (fun x => some (Value.int .i64 x)) E10.out); have c11 := (HO1.out.below hb2).cells.c11; have d11 := ho2.cells.c11.trans (congrArg (fun x => some (Value.int .i64 x)) E11.out); have c12 := (HO1.out.below hb2).cells.c12; have d12 := ho2.cells.c12.trans (congrArg (fun x => some (Value.int .i64 x)) E12.out); have c13 := (HO1.out.below hb2).cells.c13; have d13 := ho2.cells.c13.trans (congrArg (fun x => some (Value.int .i64 x)) E13.out); have c14 := (HO1.out.below hb2).cells.c14; have d14 := ho2.cells.c14.trans (congrArg (fun x => some (Value.int .i64 x)) E14.out); have c15 := (HO1.out.below hb2).cells.c15; have d15 := ho2.cells.c15.trans (congrArg (fun x => some (Value.int .i64 x)) E15.out); have c16 := (HO1.out.below hb2).cells.c16; have d16 := ho2.cells.c16.trans (congrArg (fun x => some (Value.int .i64 x)) E16.out); have c17 := (HO1.out.below hb2).cells.c17; have d17 := ho2.cells.c17.trans (congrArg (fun x => some (Value.string x)) E17.out); have c19 := (HO1.out.below hb2).cells.c19; have d19 := ho2.cells.c19.trans (congrArg (fun x => some (Value.bool x)) E18.out); have c18 := (HO1.out.below hb2).cells.c18; have d18 := ho2.cells.c18; have HBB := hid (bt HB1.out hb2); clear ho2 hb2))
    simp only [List.append]
    go_wp2_with fail
    refine wp_loop_rounds 1 ?_
    rw [rounds_succ]
    go_wp2
    go_ret
    exact ⟨_, rfl, by simp, HBB.out⟩
  · obtain ⟨b1, o1, c1, rfl, hc1, hm1, hb1l, hca⟩ := ha.inv (by omega)
    obtain ⟨b2, o2, c2, rfl, hc2, hm2, hb2l, hcb⟩ := hb.inv (by omega)
    unfold maxLen at hm1 hm2
    have hnb : lb.length = n := by omega
    have HNA := hid hn
    have HNB := hid hnb
    rw [hn] at hc1 HA
    rw [hnb] at hc2 HB
    have HCA := hid hca
    have HCB := hid hcb
    have HL1 := hid hb1l
    have HL2 := hid hb2l
    clear hn hnb hl hca hcb ha hb hA hB hla hlb hb1l hb2l
    go_enter Tryz.func40, Tryz.ntmps40
    go_upto_region 1 with (first | (refine wpList_box_op rfl _ rfl A rfl a _ HA.out ?_; intro w1 ho1 hb1 hl1; have HO1 := hid ho1; have HB1 := hid hb1; clear ho1 hb1) | (refine wpList_box_op rfl _ rfl B rfl b _ HB.out ?_; intro w2 ho2 hb2 hl2; have c0 := (HO1.out.below hb2).cells.c0; have d0 := ho2.cells.c0.trans (congrArg (fun x => some (Value.int .i64 x)) E0.out); have c1 := (HO1.out.below hb2).cells.c1; have d1 := ho2.cells.c1.trans (congrArg (fun x => some (Value.int .i64 x)) E1.out); have c2 := (HO1.out.below hb2).cells.c2; have d2 := ho2.cells.c2.trans (congrArg (fun x => some (Value.int .i64 x)) E2.out); have c3 := (HO1.out.below hb2).cells.c3; have d3 := ho2.cells.c3.trans (congrArg (fun x => some (Value.int .i64 x)) E3.out); have c4 := (HO1.out.below hb2).cells.c4; have d4 := ho2.cells.c4.trans (congrArg (fun x => some (Value.int .i64 x)) E4.out); have c5 := (HO1.out.below hb2).cells.c5; have d5 := ho2.cells.c5.trans (congrArg (fun x => some (Value.int .i64 x)) E5.out); have c6 := (HO1.out.below hb2).cells.c6; have d6 := ho2.cells.c6.trans (congrArg (fun x => some (Value.int .i64 x)) E6.out); have c7 := (HO1.out.below hb2).cells.c7; have d7 := ho2.cells.c7.trans (congrArg (fun x => some (Value.int .i64 x)) E7.out); have c8 := (HO1.out.below hb2).cells.c8; have d8 := ho2.cells.c8.trans (congrArg (fun x => some (Value.string x)) E8.out); have c9 := (HO1.out.below hb2).cells.c9; have d9 := ho2.cells.c9.trans (congrArg (fun x => some (Value.int .i64 x)) E9.out); have c10 := (HO1.out.below hb2).cells.c10; have d10 := ho2.cells.c10.trans (congrArg (fun x => some (Value.int .i64 x)) E10.out); have c11 := (HO1.out.below hb2).cells.c11; have d11 := ho2.cells.c11.trans (congrArg (fun x => some (Value.int .i64 x)) E11.out); have c12 := (HO1.out.below hb2).cells.c12; have d12 := ho2.cells.c12.trans (congrArg (fun x => some (Value.int .i64 x)) E12.out); have c13 := (HO1.out.below hb2).cells.c13; have d13 := ho2.cells.c13.trans (congrArg (fun x => some (Value.int .i64 x)) E13.out); have c14 := (HO1.out.below hb2).cells.c14; have d14 := ho2.cells.c14.trans (congrArg (fun x => some (Value.int .i64 x)) E14.out); have c15 := (HO1.out.below hb2).cells.c15; have d15 := ho2.cells.c15.trans (congrArg (fun x => some (Value.int .i64 x)) E15.out); have c16 := (HO1.out.below hb2).cells.c16; have d16 := ho2.cells.c16.trans (congrArg (fun x => some (Value.int .i64 x)) E16.out); have c17 := (HO1.out.below hb2).cells.c17; have d17 := ho2.cells.c17.trans (congrArg (fun x => some (Value.string x)) E17.out); have c19 := (HO1.out.below hb2).cells.c19; have d19 := ho2.cells.c19.trans (congrArg (fun x => some (Value.bool x)) E18.out); have c18 := (HO1.out.below hb2).cells.c18; have d18 := ho2.cells.c18; have HBB := hid (bt HB1.out hb2); have HC1 := hid (fun i hi => And.intro ((HBB.out.cell HL1.out).trans (HCA.out i hi).1) (And.intro ((HBB.out.cell HL1.out).trans (HCA.out i hi).2.1) (And.intro ((HBB.out.cell HL1.out).trans (HCA.out i hi).2.2.1) ((HBB.out.cell HL1.out).trans (HCA.out i hi).2.2.2)))); have HC2 := hid (fun i hi => And.intro ((HBB.out.cell HL2.out).trans (HCB.out i hi).1) (And.intro ((HBB.out.cell HL2.out).trans (HCB.out i hi).2.1) (And.intro ((HBB.out.cell HL2.out).trans (HCB.out i hi).2.2.1) ((HBB.out.cell HL2.out).trans (HCB.out i hi).2.2.2)))); clear ho2 hb2))
    simp only [List.append]
    go_wp2_with fail
    go_loopw [5] (fun i wr => ∃ k m : Nat, k ≤ n ∧ i = .int .i64 k ∧ wr = w2.drewN m ∧ ∀ j (h1 : j < la.length) (h2 : j < lb.length), j < k → la[j] = lb[j]) (fun i _ => n - (intOf i).toNat)
    case atStart => exact ⟨0, 0, Nat.zero_le _, rfl, rfl, fun j _ _ h => absurd h (Nat.not_lt_zero _)⟩
    case round =>
      obtain ⟨k, m, hk, rfl, rfl, ht⟩ := hrel
      have HT := hid ht
      clear ht
      by_cases hlt : k < n
      · have hka : k < la.length := by rw [HNA.out]; exact hlt
        have hkb : k < lb.length := by rw [HNB.out]; exact hlt
        obtain ⟨x, hx⟩ : ∃ x, la[k] = x := ⟨_, rfl⟩
        obtain ⟨y, hy⟩ : ∃ y, lb[k] = y := ⟨_, rfl⟩
        have g := HC1.out k hka
        have q := HC2.out k hkb
        rw [hx] at g
        rw [hy] at q
        obtain ⟨g0, g1, g2, g3⟩ := g
        have HX := hid hx
        have HYY := hid hy
        clear hx hy
        have b1' : (k : Int) < (n : Int) := by omega
        by_cases hxy : x = y
        · rw [← hxy] at q
          obtain ⟨q0, q1, q2, q3⟩ := q
          have HE := hid hxy
          clear hxy
          go_wp2
          go_quiet (fail)
          go_wp2
          go_roundw
          case rel =>
            refine ⟨k + 1, _, by omega, by go_num, rfl, fun j h1 h2 hj => ?_⟩
            by_cases e : j = k
            · subst e; rw [HX.out, HYY.out]; exact HE.out
            · exact HT.out j h1 h2 (by omega)
          case measure => simp [intOf]; omega
        · have HE := hid hxy
          obtain ⟨q0, q1, q2, q3⟩ := q
          rcases ct_part x y hxy with hp | ⟨p1, hp⟩ | ⟨p1, p2, hp⟩ | ⟨p1, p2, p3, hp⟩
          all_goals
            try rw [← p1] at q0
            try rw [← p2] at q1
            try rw [← p3] at q2
            try clear p1
            try clear p2
            try clear p3
          · have z1 : (x.r == y.r) = false := by simpa using hp
            have z2 : (x.r != y.r) = true := by simpa using hp
            clear hp hxy
            go_wp2
            go_quiet (fail)
            go_wp2
            go_ret
            refine ⟨_, rfl, ?_, below_drewN (below_drewN HBB.out m) _⟩
            constructor
            · intro h; cases h
            · intro h; exact absurd (by rw [← HX.out, ← HYY.out]; simp only [h]) HE.out
          · have z1 : (x.n == y.n) = false := by simpa using hp
            have z2 : (x.n != y.n) = true := by simpa using hp
            clear hp hxy
            go_wp2
            go_quiet (fail)
            go_wp2
            go_ret
            refine ⟨_, rfl, ?_, below_drewN (below_drewN HBB.out m) _⟩
            constructor
            · intro h; cases h
            · intro h; exact absurd (by rw [← HX.out, ← HYY.out]; simp only [h]) HE.out
          · have z1 : (x.f == y.f) = false := by simpa using hp
            have z2 : (x.f != y.f) = true := by simpa using hp
            clear hp hxy
            go_wp2
            go_quiet (fail)
            go_wp2
            go_ret
            refine ⟨_, rfl, ?_, below_drewN (below_drewN HBB.out m) _⟩
            constructor
            · intro h; cases h
            · intro h; exact absurd (by rw [← HX.out, ← HYY.out]; simp only [h]) HE.out
          · have z1 : (x.t == y.t) = false := by simpa using hp
            have z2 : (x.t != y.t) = true := by simpa using hp
            clear hp hxy
            go_wp2
            go_quiet (fail)
            go_wp2
            go_ret
            refine ⟨_, rfl, ?_, below_drewN (below_drewN HBB.out m) _⟩
            constructor
            · intro h; cases h
            · intro h; exact absurd (by rw [← HX.out, ← HYY.out]; simp only [h]) HE.out
      · have e1 : k = n := by omega
        clear HC1 HC2
        go_wp2
        go_ret
        refine ⟨_, rfl, ⟨fun _ => list_ext (by rw [HNA.out, HNB.out]) (fun j h1 h2 => HT.out j h1 h2 (by have := HNA.out; omega)), fun _ => rfl⟩, below_drewN HBB.out _⟩

theorem opn_ext {a b : Opn} (e0 : b.k = a.k) (e1 : b.ir = a.ir) (e2 : b.im = a.im) (e3 : b.t = a.t) (e4 : b.br = a.br) (e5 : b.bm = a.bm) (e6 : b.pr = a.pr) (e7 : b.pm = a.pm) (e8 : b.key = a.key) (e9 : b.sr = a.sr) (e10 : b.sm = a.sm) (e11 : b.lr = a.lr) (e12 : b.lm = a.lm) (e13 : b.li = a.li) (e14 : b.gr = a.gr) (e15 : b.gm = a.gm) (e16 : b.gi = a.gi) (e17 : b.text = a.text) (e18 : b.flag = a.flag) (hc : a.cuts = b.cuts) : a = b := by
  cases a; cases b; simp_all
theorem sameop_any (a b : Opn) (va vb : Value) (w : World) (ha : Cs w va a.cuts) (hb : Cs w vb b.cuts) :
    Calls Tryz.prog 40 #[opv a va, opv b vb] w fun e w' => ∃ r, e = .returned (.bool r) ∧ (r = true ↔ a = b) ∧ Below w.heap.size w w' := by
  by_cases e0 : b.k = a.k
  case neg => exact (so0 _ _ a b va vb rfl rfl w  (Ne.symm e0)).mono fun _ _ h => ⟨false, h.1, ⟨fun h => (by cases h), fun h => absurd (by rw [h]) e0⟩, h.2⟩
  by_cases e1 : b.ir = a.ir
  case neg => exact (so1 _ _ a b va vb rfl rfl w e0 (Ne.symm e1)).mono fun _ _ h => ⟨false, h.1, ⟨fun h => (by cases h), fun h => absurd (by rw [h]) e1⟩, h.2⟩
  by_cases e2 : b.im = a.im
  case neg => exact (so2 _ _ a b va vb rfl rfl w e0 e1 (Ne.symm e2)).mono fun _ _ h => ⟨false, h.1, ⟨fun h => (by cases h), fun h => absurd (by rw [h]) e2⟩, h.2⟩
  by_cases e3 : b.t = a.t
  case neg => exact (so3 _ _ a b va vb rfl rfl w e0 e1 e2 (Ne.symm e3)).mono fun _ _ h => ⟨false, h.1, ⟨fun h => (by cases h), fun h => absurd (by rw [h]) e3⟩, h.2⟩
  by_cases e4 : b.br = a.br
  case neg => exact (so4 _ _ a b va vb rfl rfl w e0 e1 e2 e3 (Ne.symm e4)).mono fun _ _ h => ⟨false, h.1, ⟨fun h => (by cases h), fun h => absurd (by rw [h]) e4⟩, h.2⟩
  by_cases e5 : b.bm = a.bm
  case neg => exact (so5 _ _ a b va vb rfl rfl w e0 e1 e2 e3 e4 (Ne.symm e5)).mono fun _ _ h => ⟨false, h.1, ⟨fun h => (by cases h), fun h => absurd (by rw [h]) e5⟩, h.2⟩
  by_cases e6 : b.pr = a.pr
  case neg => exact (so6 _ _ a b va vb rfl rfl w e0 e1 e2 e3 e4 e5 (Ne.symm e6)).mono fun _ _ h => ⟨false, h.1, ⟨fun h => (by cases h), fun h => absurd (by rw [h]) e6⟩, h.2⟩
  by_cases e7 : b.pm = a.pm
  case neg => exact (so7 _ _ a b va vb rfl rfl w e0 e1 e2 e3 e4 e5 e6 (Ne.symm e7)).mono fun _ _ h => ⟨false, h.1, ⟨fun h => (by cases h), fun h => absurd (by rw [h]) e7⟩, h.2⟩
  by_cases e8 : b.key = a.key
  case neg => exact (so8 _ _ a b va vb rfl rfl w e0 e1 e2 e3 e4 e5 e6 e7 (Ne.symm e8)).mono fun _ _ h => ⟨false, h.1, ⟨fun h => (by cases h), fun h => absurd (by rw [h]) e8⟩, h.2⟩
  by_cases e9 : b.sr = a.sr
  case neg => exact (so9 _ _ a b va vb rfl rfl w e0 e1 e2 e3 e4 e5 e6 e7 e8 (Ne.symm e9)).mono fun _ _ h => ⟨false, h.1, ⟨fun h => (by cases h), fun h => absurd (by rw [h]) e9⟩, h.2⟩
  by_cases e10 : b.sm = a.sm
  case neg => exact (so10 _ _ a b va vb rfl rfl w e0 e1 e2 e3 e4 e5 e6 e7 e8 e9 (Ne.symm e10)).mono fun _ _ h => ⟨false, h.1, ⟨fun h => (by cases h), fun h => absurd (by rw [h]) e10⟩, h.2⟩
  by_cases e11 : b.lr = a.lr
  case neg => exact (so11 _ _ a b va vb rfl rfl w e0 e1 e2 e3 e4 e5 e6 e7 e8 e9 e10 (Ne.symm e11)).mono fun _ _ h => ⟨false, h.1, ⟨fun h => (by cases h), fun h => absurd (by rw [h]) e11⟩, h.2⟩
  by_cases e12 : b.lm = a.lm
  case neg => exact (so12 _ _ a b va vb rfl rfl w e0 e1 e2 e3 e4 e5 e6 e7 e8 e9 e10 e11 (Ne.symm e12)).mono fun _ _ h => ⟨false, h.1, ⟨fun h => (by cases h), fun h => absurd (by rw [h]) e12⟩, h.2⟩
  by_cases e13 : b.li = a.li
  case neg => exact (so13 _ _ a b va vb rfl rfl w e0 e1 e2 e3 e4 e5 e6 e7 e8 e9 e10 e11 e12 (Ne.symm e13)).mono fun _ _ h => ⟨false, h.1, ⟨fun h => (by cases h), fun h => absurd (by rw [h]) e13⟩, h.2⟩
  by_cases e14 : b.gr = a.gr
  case neg => exact (so14 _ _ a b va vb rfl rfl w e0 e1 e2 e3 e4 e5 e6 e7 e8 e9 e10 e11 e12 e13 (Ne.symm e14)).mono fun _ _ h => ⟨false, h.1, ⟨fun h => (by cases h), fun h => absurd (by rw [h]) e14⟩, h.2⟩
  by_cases e15 : b.gm = a.gm
  case neg => exact (so15 _ _ a b va vb rfl rfl w e0 e1 e2 e3 e4 e5 e6 e7 e8 e9 e10 e11 e12 e13 e14 (Ne.symm e15)).mono fun _ _ h => ⟨false, h.1, ⟨fun h => (by cases h), fun h => absurd (by rw [h]) e15⟩, h.2⟩
  by_cases e16 : b.gi = a.gi
  case neg => exact (so16 _ _ a b va vb rfl rfl w e0 e1 e2 e3 e4 e5 e6 e7 e8 e9 e10 e11 e12 e13 e14 e15 (Ne.symm e16)).mono fun _ _ h => ⟨false, h.1, ⟨fun h => (by cases h), fun h => absurd (by rw [h]) e16⟩, h.2⟩
  by_cases e17 : b.text = a.text
  case neg => exact (so17 _ _ a b va vb rfl rfl w e0 e1 e2 e3 e4 e5 e6 e7 e8 e9 e10 e11 e12 e13 e14 e15 e16 (Ne.symm e17)).mono fun _ _ h => ⟨false, h.1, ⟨fun h => (by cases h), fun h => absurd (by rw [h]) e17⟩, h.2⟩
  by_cases e18 : b.flag = a.flag
  case neg => exact (so18 _ _ a b va vb rfl rfl w e0 e1 e2 e3 e4 e5 e6 e7 e8 e9 e10 e11 e12 e13 e14 e15 e16 e17 (Ne.symm e18)).mono fun _ _ h => ⟨false, h.1, ⟨fun h => (by cases h), fun h => absurd (by rw [h]) e18⟩, h.2⟩
  by_cases hl : a.cuts.length = b.cuts.length
  case neg => exact (so_len _ _ a b va vb rfl rfl w e0 e1 e2 e3 e4 e5 e6 e7 e8 e9 e10 e11 e12 e13 e14 e15 e16 e17 e18 ha hb hl).mono fun _ _ h => ⟨false, h.1, ⟨fun h => (by cases h), fun h => absurd (by rw [h]) hl⟩, h.2⟩
  exact (so_yes _ _ a b va vb _ _ rfl rfl w e0 e1 e2 e3 e4 e5 e6 e7 e8 e9 e10 e11 e12 e13 e14 e15 e16 e17 e18 rfl rfl ha hb hl).mono fun _ _ ⟨r, h1, h2, h3⟩ => ⟨r, h1, ⟨fun h => opn_ext e0 e1 e2 e3 e4 e5 e6 e7 e8 e9 e10 e11 e12 e13 e14 e15 e16 e17 e18 (h2.1 h), fun h => h2.2 (by rw [h])⟩, h3⟩

end Go.Proofs.YteckjkblngmenaaGreatDoor

/-
  That offshootref00.SameBytes tells whether two lists of bytes are one is proved here, for all slices that read as bytes.
-/
namespace Go.Proofs.YteckjkblngmenaaGreatDoor
open Go.RowKit
set_option linter.unusedVariables false
set_option maxRecDepth 100000

theorem take_step {xs ys : List Int} {k : Nat} (h1 : k < xs.length) (h2 : k < ys.length) (h : xs.take k = ys.take k) (he : xs.getD k 0 = ys.getD k 0) : xs.take (k + 1) = ys.take (k + 1) := by
  rw [List.take_succ_eq_append_getElem h1, List.take_succ_eq_append_getElem h2, h]
  simp [List.getD, h1, h2] at he
  rw [he]
theorem not_eq_of_at {xs ys : List Int} {k : Nat} (he : xs.getD k 0 ≠ ys.getD k 0) : xs ≠ ys := by
  intro e; exact he (by rw [e])

set_option maxHeartbeats 1000000 in
theorem same_any (a b : Value) (xs ys : List Int) (w : World) (h1 : Bs w a xs) (h2 : Bs w b ys) :
    Calls Tryz.prog 29 #[a, b] w fun e w' => e = .returned (.bool (decide (xs = ys))) ∧ ∃ n, w' = w.drewN n := by
  have l1 := h1.len
  have l2 := h2.len
  unfold maxLen at l1 l2
  by_cases hl : xs.length = ys.length
  · by_cases hz : xs.length = 0
    · have e1 : xs = [] := List.eq_nil_of_length_eq_zero hz
      have e2 : ys = [] := List.eq_nil_of_length_eq_zero (by omega)
      subst e1 e2
      obtain ⟨a1, c1, rfl, _⟩ := h1.inv_nil
      obtain ⟨a2, c2, rfl, _⟩ := h2.inv_nil
      clear h1 h2 l1 l2 hl hz
      go_enter Tryz.func29, Tryz.ntmps29
      go_wp2
      refine wp_loop_rounds 1 ?_
      rw [rounds_succ]
      go_wp2
      go_ret
      exact ⟨rfl, 0, rfl⟩
    · obtain ⟨b1, o1, c1, rfl, _, _, hc1⟩ := h1.inv (by omega)
      obtain ⟨b2, o2, c2, rfl, _, _, hc2⟩ := h2.inv (by omega)
      rw [← hl]
      obtain ⟨n, hn⟩ : ∃ n, xs.length = n := ⟨_, rfl⟩
      have HL : Hid (ys.length = n) := by rw [← hl]; exact hn
      have HN : Hid (xs.length = n) := hn
      rw [hn]
      rw [hn] at hz l1
      clear hn hl h1 h2
      have hnn : ((n : Int) != (n : Int)) = false := by simp
      go_enter Tryz.func29, Tryz.ntmps29
      go_wp2
      go_loopw [5] (fun i wr => ∃ k m : Nat, k ≤ n ∧ i = .int .i64 k ∧ wr = w.drewN m ∧ xs.take k = ys.take k) (fun i _ => n - (intOf i).toNat)
      case atStart => exact ⟨0, 0, Nat.zero_le _, rfl, rfl, by simp⟩
      case round =>
        obtain ⟨k, m, hk, rfl, rfl, ht⟩ := hrel
        have HT := hid ht
        clear ht
        by_cases hlt : k < n
        · have g1 := hc1 k (by have := HN.out; omega)
          have g2 := hc2 k (by have := HL.out; omega)
          clear hc1 hc2
          have b1' : (k : Int) < (n : Int) := by omega
          go_wp2
          go_quiet (fail)
          by_cases he : xs.getD k 0 = ys.getD k 0
          · have he' : (xs[k]?.getD 0 != ys[k]?.getD 0) = false := by simpa [List.getD] using he
            have HE := hid he
            clear he
            go_wp2
            go_roundw
            case rel => exact ⟨k + 1, _, by omega, by go_num, rfl, take_step (by have := HN.out; omega) (by have := HL.out; omega) HT.out HE.out⟩
            case measure => simp [intOf]; omega
          · have he' : (xs[k]?.getD 0 != ys[k]?.getD 0) = true := by simpa [List.getD] using he
            have HE := hid he
            clear he
            go_wp2
            go_ret
            exact ⟨by rw [decide_eq_false (not_eq_of_at HE.out)]; rfl, _, World.drewN_drewN _ _ _⟩
        · clear hc1 hc2
          go_wp2
          go_ret
          refine ⟨?_, _, rfl⟩
          have e1 : k = n := by omega
          have h3 := HT.out
          rw [List.take_of_length_le (by have := HN.out; omega), List.take_of_length_le (by have := HL.out; omega)] at h3
          rw [decide_eq_true h3]; rfl
  · have hne : ((xs.length : Int) != (ys.length : Int)) = true := by simp; omega
    obtain ⟨a1, c1, rfl, _⟩ := h1
    obtain ⟨a2, c2, rfl, _⟩ := h2
    go_enter Tryz.func29, Tryz.ntmps29
    go_wp2
    go_ret
    exact ⟨by rw [decide_eq_false (by intro e; exact hl (by rw [e]))]; rfl, 0, rfl⟩


theorem same_b (a b : Value) (xs ys : List Int) (w : World) (h1 : Bs w a xs) (h2 : Bs w b ys) :
    Calls Tryz.prog 29 #[a, b] w fun e w' => e = .returned (.bool (decide (xs = ys))) ∧ Below w.heap.size w w' :=
  (same_any a b xs ys w h1 h2).mono fun _ _ ⟨he, n, hw⟩ => ⟨he, by rw [hw]; exact bd w n⟩

end Go.Proofs.YteckjkblngmenaaGreatDoor

/-
  Steps of regions whose order is drawn, each operation by what it comes to: for regions that are laid as definitions.
-/
namespace Go.Proofs.YteckjkblngmenaaGreatDoor
open Go.RowKit
set_option linter.unusedVariables false
set_option maxRecDepth 100000

section
variable {P : Program} {ops : Array Oper} {C : World → Prop} {Q : Act → Prop} {o : Oper} {rest : List Oper} {a : Act}
theorem qs_call {f : FuncId} {args : Array Value} (v : Value) (a' : Act) (hw : Region.wanted o (yielded ops a.tmps) = true) (hrun : ∀ W, (execOp a.eval o).run P W = .ok (.enter f args) W)
    (hc : ∀ W, C W → Calls P f args W fun e W' => e = .returned v ∧ C W') (ha : a.put o.dst v = a') (hk : wpQuiet P ops C Q rest a') : wpQuiet P ops C Q (o :: rest) a :=
  BigFrame.wpQuiet_want hw fun K hK => ⟨v, fun W hW => by unfold Oper.quietAt; rw [hrun]; exact ⟨rfl, hc W hW⟩, hK _ (by rw [ha]; exact hk)⟩
theorem qs_val (v : Value) (a' : Act) (hw : Region.wanted o (yielded ops a.tmps) = true) (hrun : ∀ W, C W → (execOp a.eval o).run P W = .ok (.value v) W) (ha : a.put o.dst v = a') (hk : wpQuiet P ops C Q rest a') : wpQuiet P ops C Q (o :: rest) a :=
  BigFrame.wpQuiet_want hw fun K hK => ⟨v, fun W hW => by unfold Oper.quietAt; rw [hrun W hW]; exact ⟨rfl, rfl⟩, hK _ (by rw [ha]; exact hk)⟩
end
section
variable {P : Program} {md : Region.Mode} {ops : Array Oper} {Q : Exit → Act → World → Prop} {fuel : Nat} {listed : Array Bool} {a : Act} {w : World} {o : Oper}
end

section
variable {P : Program} {md : Region.Mode} {ops : Array Oper} {Q : Exit → Act → World → Prop} {fuel : Nat} {listed : Array Bool} {a : Act} {w : World} {o : Oper}
end

end Go.Proofs.YteckjkblngmenaaGreatDoor

/-
  The last region of offshootlaw05.alive, whose order is drawn, is walked here: each operation is a definition, so that the terms stay small.
-/
namespace Go.Proofs.YteckjkblngmenaaGreatDoor
open Go.RowKit
set_option linter.unusedVariables false
set_option maxRecDepth 100000

def ap1 : Oper := { dst := some 19, op := Op.move (Operand.tmp 18), type := 4, pos := "law.go:21", after := #[{ on := 0, ground := Ground.data }], guard := none }
def ap2 : Oper := { dst := some 20, op := Op.move (Operand.tmp 4), type := 4, pos := "law.go:21", after := #[{ on := 1, ground := Ground.guard }], guard := some (1, true) }
theorem run_load_op {p : Oper} {a : Act} {x : Operand} {b : Nat} {o : Opn} {v : Value} {W : World} (ho : p.op = .load 77 x) (hx : a.eval x = .pointer (some ⟨b, 0, none⟩)) (h : Ob W b o v) : (execOp a.eval p).run Tryz.prog W = .ok (.value (opv o v)) W := by
  unfold execOp
  simp only [ho, hx, Instr.loadAt, Instr.sureAddr, Sem.run_bind, Sem.run_pure, Result.andThen_ok, h.load]
end Go.Proofs.YteckjkblngmenaaGreatDoor

/-
  That offshootlaw05.alive returns true is proved here, where the package variables hold what the program lays there.
-/
namespace Go.Proofs.YteckjkblngmenaaGreatDoor
open Go.RowKit
set_option linter.unusedVariables false
set_option maxRecDepth 100000

theorem wpList_store_ops {ops : Array Oper} {rest : List Oper} {p : Oper} {a : Act} {W : World} {Q : Exit → Act → World → Prop} (hgd : p.guard = none) (x y : Operand) (ho : p.op = .store 77 x y) (k0 : Int) (o : Opn) (v : Value) (hv : ∃ va n vc, v = .slice va n vc)
    (hx : a.eval x = .pointer (some ⟨W.heap.size, 0, none⟩)) (hy : a.eval y = opv o v)
    (hk : wpList Tryz.prog ops Q rest (a.put p.dst undef) (W.alloc (opo o v))) : wpList Tryz.prog ops Q (p :: rest) a (W.alloc (.cells (zopc k0) 77)) :=
  wpList_store_opn hgd x y ho (zopc k0) (opl o v) hx hy rfl rfl (by obtain ⟨va, n, vc, rfl⟩ := hv; simp [Value.oneCell']) hk

end Go.Proofs.YteckjkblngmenaaGreatDoor

/-
  Rows of ops in memory ('Os'); what Long answers is proved here, for all rows of ops.
-/
namespace Go.Proofs.YteckjkblngmenaaGreatDoor
open Go.RowKit
set_option linter.unusedVariables false
set_option maxRecDepth 100000

/-- Ops, each with its cuts' slice. -/
abbrev opc (p : Opn × Value) : List Value := (opl p.1 p.2).toList
def Os (w : World) (v : Value) (l : List (Opn × Value)) : Prop := Sl 20 w v l.length (l.flatMap opc) ∧ ∀ p ∈ l, Cs w p.2 p.1.cuts
theorem Os.inv {w : World} {v : Value} {l : List (Opn × Value)} (h : Os w v l) (hn : 0 < l.length) :
    ∃ b off c, v = .slice (some ⟨b, off, none⟩) l.length c ∧ l.length ≤ c ∧ c ≤ maxLen ∧ b < w.heap.size ∧ ∀ i (hi : i < l.length) j, j < 20 → w.cell? ⟨b, off + i * 20 + j, none⟩ = (opl (l[i]).1 (l[i]).2)[j]? := by
  obtain ⟨b, off, c, h1, h2, h3, h4, h5⟩ := Sl.inv h.1 hn (by decide)
  refine ⟨b, off, c, h1, h2, h3, h4, fun i hi j hj => ?_⟩
  have k := flat_at opc 20 (fun _ => rfl) l i j hi hj
  have hs : j < (opl (l[i]).1 (l[i]).2).size := hj
  have e : (opl (l[i]).1 (l[i]).2)[j]? = some ((opl (l[i]).1 (l[i]).2)[j]) := Array.getElem?_eq_getElem hs
  rw [e, Nat.add_assoc]
  refine h5 _ _ ?_
  rw [k, ← e]
  simp [opc]

end Go.Proofs.YteckjkblngmenaaGreatDoor

/-
  What the reference's Put and PutText return is proved here: Put for every number, PutText for texts of at most 2^46 bytes.
-/
namespace Go.Proofs.YteckjkblngmenaaGreatDoor
open Go.RowKit
set_option linter.unusedVariables false
set_option maxRecDepth 100000

theorem bd_succ (k : Nat) : M.bd k * 128 = M.bd (k + 1) := by unfold M.bd; rw [Int.pow_succ]
theorem bd_small {k : Nat} (h : k ≤ 6) : 0 ≤ M.bd k ∧ M.bd k ≤ 4398046511104 := by
  have := M.ipow_le 128 (b := k) (c := 6) (by decide) h
  have h0 : (0 : Int) ≤ 128 ^ k := Int.le_of_lt (Int.pow_pos (by decide))
  unfold M.bd
  exact ⟨h0, this⟩
theorem mask_step {j : Nat} (h : j ≤ 5) : M.mask (j + 1) + 128 / 2 ^ j = M.mask (j + 2) := by
  have : j = 0 ∨ j = 1 ∨ j = 2 ∨ j = 3 ∨ j = 4 ∨ j = 5 := by omega
  rcases this with rfl | rfl | rfl | rfl | rfl | rfl <;> decide
theorem mask_small {k : Nat} (h1 : 1 ≤ k) (h7 : k ≤ 7) : 0 ≤ M.mask k ∧ M.mask k ≤ 252 := by
  rcases M.seven ⟨h1, h7⟩ with rfl | rfl | rfl | rfl | rfl | rfl | rfl <;> decide
theorem mask_room {k : Nat} {x : Int} (h1 : 1 ≤ k) (h7 : k ≤ 7) (hx : x < 2 ^ (8 - k)) : x + M.mask k < 256 := by
  rcases M.seven ⟨h1, h7⟩ with rfl | rfl | rfl | rfl | rfl | rfl | rfl <;> simp [M.mask] at hx ⊢ <;> omega

set_option maxHeartbeats 400000 in
theorem refput_wrong (n : Int) (w : World) (h : n < 0 ∨ 562949953421312 ≤ n) :
    Calls Tryz.prog 45 #[.int .i64 n] w fun e w' => e = .returned (.tuple #[.slice none 0 0, .bool false]) ∧ w = w' := by
  by_cases h0 : n < 0
  · clear h
    go_enter Tryz.func45, Tryz.ntmps45
    go_wp2
    go_ret2
    exact ⟨rfl, rfl⟩
  · have h1 : 562949953421311 < n := by omega
    clear h
    go_enter Tryz.func45, Tryz.ntmps45
    go_wp2
    go_ret2
    exact ⟨rfl, rfl⟩

set_option maxHeartbeats 2000000 in
theorem refput_right (n : Int) (w : World) (h0 : 0 ≤ n) (h1 : n < 562949953421312) :
    Calls Tryz.prog 45 #[.int .i64 n] w fun e w' => ∃ g, e = .returned (.tuple #[.slice (some ⟨g, 0, none⟩) (M.sz n) (M.sz n), .bool true]) ∧
      w'.ownsRow w.heap.size 5 1 (.slice (some ⟨g, 0, none⟩) (M.sz n) (M.sz n)) (M.sz n) (cs (M.enc n)) ∧ Below w.heap.size w w' := by
  have hk1 := M.sz_pos n
  have hsz := fun (k : Nat) (h1 : 1 ≤ k) (h7 : k ≤ 7) hl hu => M.sz_of (n := n) (k := k) h1 h7 hl hu
  obtain ⟨i0, hi, hz0, hz1, hz2⟩ := info_parts info_u8
  have h2 : ¬ 562949953421311 < n := by omega
  have HSZ := hid hsz
  clear hsz
  go_enter Tryz.func45, Tryz.ntmps45
  go_wp2
  go_loop [4, 5] (fun c l => ∃ k : Nat, 1 ≤ k ∧ k ≤ 7 ∧ c = .int .i64 k ∧ l = .int .i64 (M.bd k) ∧ (k = 1 ∨ M.bd (k - 1) ≤ n)) (fun c _ => 7 - (intOf c).toNat)
  case atStart => exact ⟨1, by omega, by omega, rfl, rfl, .inl rfl⟩
  case round =>
    obtain ⟨k, hk, hk7, rfl, rfl, hb⟩ := hrel
    have HB := hid hb
    clear hb
    by_cases hn : M.bd k ≤ n
    · have hk6 : k ≤ 6 := by
        by_cases e : k = 7
        · subst e; have : M.bd 7 = 562949953421312 := rfl; omega
        · omega
      have hbs := bd_small hk6
      have hs := hid (bd_succ k)
      go_wp2
      go_round
      case rel => exact ⟨k + 1, by omega, by omega, by go_num, by rw [← hs.out], .inr (by simpa using hn)⟩
      case measure => simp [intOf]; omega
    · have hk' : M.sz n = k := HSZ.out k hk hk7 HB.out (by
        by_cases e : k = 7
        · exact .inl e
        · exact .inr (by omega))
      have HK := hid hk'
      clear hk' HSZ HB
      have hkb : i0.bytes * k ≤ 281474976710656 := by rw [hz2]; omega
      have hkm : k ≤ maxLen := by unfold maxLen; omega
      go_wp2_with (at_make; refine wpList_make_full _ rfl (.tmp 23) (.tmp 23) 36 rfl _ 5 i0 (.int .u8 0) 1 Tryz.underlying36 hi hz0 hz1 .i64 .i64 _ _ k rfl rfl (by simp) (by simp) hkb hkm (Nat.le_refl _) ?_; intro w1 hown hgrow)
      have hrow : w1.ownsRow w.heap.size 5 1 (.slice (some ⟨w.heap.size, 0, none⟩) k k) k (cs (List.replicate (k - 0) 0 ++ M.be 0 n)) := by
        have e : (madeCells #[Value.int .u8 0] (k * 1)).toList = cs (List.replicate (k - 0) 0 ++ M.be 0 n) := by simp [toList_madeCells_one, M.be]
        rw [← e]; exact hown
      have hbel : Below w.heap.size w w1 := (Below.refl _ w).grown hgrow (Nat.le_refl _) (by intro k hk; cases hk)
      clear hown hgrow
      go_loopw [0, 7] (fun nn i wr => ∃ m j : Nat, m + j = k ∧ i = .int .i64 ((m : Int) - 1) ∧ nn = .int .i64 (n / 256 ^ j) ∧
          wr.ownsRow w.heap.size 5 1 (.slice (some ⟨w.heap.size, 0, none⟩) k k) k (cs (List.replicate m 0 ++ M.be j n)) ∧ Below w.heap.size w wr) (fun _ i _ => (intOf i + 1).toNat)
      case atStart => exact ⟨k, 0, by omega, rfl, by simp, by simpa using hrow, hbel⟩
      case round =>
        clear hrow hbel
        obtain ⟨m, j, hmj, rfl, rfl, hrow, hbel⟩ := hrel
        by_cases hm : m = 0
        · subst hm
          go_wp2
          go_loop [8, 9] (fun o i => ∃ j : Nat, j ≤ k - 1 ∧ i = .int .i64 j ∧ o = .int .i64 (M.mask (j + 1))) (fun _ i => k - (intOf i).toNat)
          case atStart => exact ⟨0, by omega, rfl, rfl⟩
          case round =>
            obtain ⟨t, ht, rfl, rfl⟩ := hrel
            have hms := mask_small (k := t + 1) (by omega) (by omega)
            by_cases htk : t < k - 1
            · have hst := hid (mask_step (j := t) (by omega))
              go_wp2
              go_round
              case rel =>
                refine ⟨t + 1, by omega, by go_num, ?_⟩
                have hm2 := mask_small (k := t + 2) (by omega) (by omega)
                rw [hst.out, show wrap64 (M.mask (t + 2)) = M.mask (t + 2) by unfold wrap64; omega]
              case measure => simp [intOf]; omega
            · obtain rfl : t = k - 1 := by omega
              obtain rfl : j = k := by omega
              have ek : j - 1 + 1 = j := by omega
              rw [ek] at hms ⊢
              obtain ⟨x, r, hx⟩ : ∃ x r, M.be j n = x :: r := by
                cases j with
                | zero => omega
                | succ j => exact ⟨_, _, rfl⟩
              have hrow2 := hrow
              rw [List.replicate_zero, List.nil_append, hx] at hrow2
              have hcell : wr.cell? ⟨w.heap.size, 0, none⟩ = some (.int .u8 x) := by rw [hrow2.cellAt 0 (by omega)]; rfl
              have hfz := hrow2.frozenAt 0
              have hxr := M.be_head h0 h1 HK.out hx
              have hx0 := hxr.1
              have hx1 := mask_room hk hk7 hxr.2
              have HX := hid hx
              have HR := hid hrow2
              clear hx hrow hrow2 hxr hkb hkm ek
              have hp : (0 : Int) < (j : Int) := by omega
              go_wp2
              go_ret2
              have hs := (World.ownsRow.stored HR.out 0 (.int .u8 (x + M.mask (M.sz n)))).1
              refine ⟨w.heap.size, by rw [HK.out]; rfl, ?_, hbel.setCell (Nat.le_refl _) _⟩
              rw [M.enc, M.encK, HK.out, HX.out]
              rw [HK.out] at hs
              exact hs
        · obtain ⟨m', rfl⟩ : ∃ m', m = m' + 1 := ⟨m - 1, by omega⟩
          rw [show (((m' + 1 : Nat) : Int) - 1) = (m' : Int) from by omega]
          have hcell := hrow.cellAt m' (by omega)
          have hfz := hrow.frozenAt m'
          have hst := hrow.stored m'
          have HS := hid hst
          clear hst
          have hc2 : wr.cell? ⟨w.heap.size, m', none⟩ = some (.int .u8 0) := by rw [hcell]; exact row_at _ _ _
          have hq0 : 0 ≤ n / 256 ^ j := Int.ediv_nonneg h0 (Int.le_of_lt (Int.pow_pos (by decide)))
          have hq1 : n / 256 ^ j ≤ n := Int.ediv_le_self _ h0
          clear hcell
          go_wp2
          go_roundw
          case rel =>
            have hs := HS.out (.int .u8 (n / 256 ^ j % 256))
            refine ⟨m', j + 1, by omega, rfl, ?_, ?_, hbel.setCell (Nat.le_refl _) _⟩
            · rw [Int.pow_succ, Int.ediv_ediv_of_nonneg (by exact Int.le_of_lt (Int.pow_pos (by decide)))]
            · have e := hs.1
              rw [row_set] at e
              exact e
          case measure => simp [intOf]


end Go.Proofs.YteckjkblngmenaaGreatDoor

/-
  What the reference's cursor answers to Num is proved here, for every cursor that is over nothing when it is lost.
-/
namespace Go.Proofs.YteckjkblngmenaaGreatDoor
open Go.RowKit
set_option linter.unusedVariables false
set_option maxRecDepth 100000

set_option maxHeartbeats 400000 in
theorem reflose_any (b : Nat) (xs : List Int) (lost : Bool) (w : World) (h : Cur 111 w b xs lost) :
    Calls Tryz.prog 98 #[.pointer (some ⟨b, 0, none⟩)] w fun e w' => e = .returned (.tuple #[]) ∧ Cur 111 w' b [] true ∧ w.grownBy w' (some b) := by
  obtain ⟨a, c, hB, hc0, hc1, hf0, hf1⟩ := h.cells
  have h1 := h.set1 (l' := true)
  have h2 := h1.1.set0 (Bs.nil _)
  have H1 := hid h1
  have H2 := hid h2
  clear h1 h2 hB h
  go_enter Tryz.func98, Tryz.ntmps98
  go_wp2
  go_end0
  exact ⟨rfl, H2.out.1, H1.out.2.trans H2.out.2⟩

/-- The reference's first loop: how many ones a byte begins with. -/
theorem cnt_stop {b : Int} {k : Nat} (h0 : 0 ≤ b) (h1 : b < 256) (hk1 : 1 ≤ k) (hk8 : k ≤ 8) (hm : M.mask k ≤ b) (he : k = 8 ∨ b - M.mask k < 2 ^ (8 - k)) :
    (k = 8 → 7 < M.cnt b) ∧ (k ≤ 7 → M.cnt b = k ∧ b - M.mask k = b % 2 ^ (8 - k)) := by
  have : k = 1 ∨ k = 2 ∨ k = 3 ∨ k = 4 ∨ k = 5 ∨ k = 6 ∨ k = 7 ∨ k = 8 := by omega
  rcases this with rfl | rfl | rfl | rfl | rfl | rfl | rfl | rfl <;> simp [M.mask] at hm he ⊢ <;> unfold M.cnt <;> (first | (refine ⟨?_, by omega⟩; (repeat' split) <;> omega) | ((repeat' split) <;> omega))

theorem mask_next {k : Nat} (hk1 : 1 ≤ k) (hk7 : k ≤ 7) : M.mask k + 2 ^ (8 - k) = M.mask (k + 1) ∧ (2 : Int) ^ (8 - k) / 2 = 2 ^ (8 - (k + 1)) ∧ (0 : Int) ≤ 2 ^ (8 - k) ∧ (2 : Int) ^ (8 - k) ≤ 128 := by
  rcases M.seven ⟨hk1, hk7⟩ with rfl | rfl | rfl | rfl | rfl | rfl | rfl <;> decide

/-- The reference takes a number. -/
theorem first_cons {b : Int} {r : List Int} {k : Nat} (hk : M.cnt b = k) : M.first (b :: r) = if 7 < k ∨ r.length + 1 < k then none else
    if M.sz (M.fold (b % 2 ^ (8 - k)) (r.take (k - 1))) = k then some (M.fold (b % 2 ^ (8 - k)) (r.take (k - 1)), k) else none := by
  rw [M.first, hk]

theorem numOk_none {most : Int} {xs : List Int} (h : M.first xs = none) : M.numV most xs = 0 ∧ M.numS most xs = [] ∧ ∀ l, M.numL most xs l = true := by
  have : M.numOk most xs = false := by simp [M.numOk, M.fo, h]
  simp [M.numV, M.numS, M.numL, this]
theorem numOk_above {most n : Int} {k : Nat} {xs : List Int} (h : M.first xs = some (n, k)) (hn : most < n) : M.numV most xs = 0 ∧ M.numS most xs = [] ∧ ∀ l, M.numL most xs l = true := by
  have : M.numOk most xs = false := by simp [M.numOk, M.fo, M.fn, h]; omega
  simp [M.numV, M.numS, M.numL, this]
theorem numOk_some {most n : Int} {k : Nat} {xs : List Int} (h : M.first xs = some (n, k)) (hn : n ≤ most) : M.numV most xs = n ∧ M.numS most xs = xs.drop k ∧ ∀ l, M.numL most xs l = l := by
  have : M.numOk most xs = true := by simp [M.numOk, M.fo, M.fn, h]; omega
  simp [M.numV, M.numS, M.numL, this, M.fn, M.fc, h]

theorem fold_right_k {x : Int} {r : List Int} {k : Nat} (hk1 : 1 ≤ k) (hk7 : k ≤ 7) (hr : ∀ y ∈ r, 0 ≤ y ∧ y < 256) :
    0 ≤ M.fold (x % 2 ^ (8 - k)) (r.take (k - 1)) ∧ M.fold (x % 2 ^ (8 - k)) (r.take (k - 1)) < 562949953421312 := by
  have hp : (0 : Int) < 2 ^ (8 - k) := Int.pow_pos (by decide)
  have h := M.fold_bound (2 ^ (8 - k)) (r.take (k - 1)) (fun y hy => hr y (List.mem_of_mem_take hy)) (x % 2 ^ (8 - k)) (Int.emod_nonneg _ (Int.ne_of_gt hp)) (Int.emod_lt_of_pos _ hp)
  have h2 : (256 : Int) ^ (r.take (k - 1)).length ≤ 256 ^ (k - 1) := M.pow256_le (List.length_take_le _ _)
  have h3 : (2 : Int) ^ (8 - k) * 256 ^ (r.take (k - 1)).length ≤ 2 ^ (8 - k) * 256 ^ (k - 1) := Int.mul_le_mul_of_nonneg_left h2 (Int.le_of_lt hp)
  have hlt : (2 : Int) ^ (8 - k) * 256 ^ (k - 1) ≤ 562949953421312 := by
    rcases M.seven ⟨hk1, hk7⟩ with e | e | e | e | e | e | e <;> rw [e] <;> decide
  exact ⟨h.1, by omega⟩

set_option maxHeartbeats 4000000 in
set_option maxRecDepth 100000 in
theorem refnum_any (b : Nat) (xs : List Int) (lost : Bool) (most : Int) (w : World) (h : Cur 111 w b xs lost) (hl : lost = true → xs = []) :
    Calls Tryz.prog 66 #[.pointer (some ⟨b, 0, none⟩), .int .i64 most] w fun e w' =>
      e = .returned (.int .i64 (M.numV most xs)) ∧ Cur 111 w' b (M.numS most xs) (M.numL most xs lost) ∧ w.grownBy w' (some b) := by
  obtain ⟨a, c, hB, hc0, hc1, hf0, hf1⟩ := h.cells
  have HC := hid h
  have HB := hid hB
  have hlen := hB.len
  unfold maxLen at hlen
  clear h hB
  cases xs with
  | nil =>
    obtain ⟨e1, e2, e3⟩ := numOk_none (most := most) (xs := []) rfl
    rw [e1, e2, e3]
    clear e1 e2 e3
    cases lost
    all_goals
      go_enter Tryz.func66, Tryz.ntmps66
      go_wp2_with fail
      refine (reflose_any b _ _ _ HC.out).mono ?_
      rintro e w1 ⟨rfl, hc, hg⟩
      go_wp2
      go_ret
      exact ⟨rfl, hc, hg⟩
  | cons x r =>
    have hlost : lost = false := by
      cases lost with
      | false => rfl
      | true => have := hl rfl; cases this
    subst hlost
    clear hl
    have hx := HB.out.range x (by simp)
    have hr : ∀ y ∈ r, 0 ≤ y ∧ y < 256 := fun y hy => HB.out.range y (by simp [hy])
    have HR := hid hr
    obtain ⟨bl, off, c', hv, hcc, _, hcell⟩ := HB.out.inv (by simp)
    simp only [Value.slice.injEq, true_and] at hv
    obtain ⟨rfl, rfl⟩ := hv
    have hx0 : w.cell? ⟨bl, off, none⟩ = some (.int .u8 x) := by simpa using hcell 0 (by simp)
    have HCELL := hid hcell
    obtain ⟨n, hn⟩ : ∃ n, r.length = n := ⟨_, rfl⟩
    simp only [List.length_cons, hn] at hc0 hlen hcc
    have HN := hid hn
    have hn0 : ((n : Int) + 1 == 0) = false := by simp; omega
    obtain ⟨hx1, hx2⟩ := hx
    clear hcell hr hn
    go_enter Tryz.func66, Tryz.ntmps66
    go_wp2
    go_loop [5, 6, 7] (fun kk f bb => ∃ k : Nat, 1 ≤ k ∧ k ≤ 8 ∧ kk = .int .i64 k ∧ f = .int .i64 (x - M.mask k) ∧ bb = .int .i64 (2 ^ (8 - k)) ∧ M.mask k ≤ x) (fun kk _ _ => 8 - (intOf kk).toNat)
    case atStart => exact ⟨1, by omega, by omega, rfl, by simp [M.mask], by simp, by simpa [M.mask] using hx1⟩
    case round =>
      obtain ⟨k, hk1, hk8, rfl, rfl, rfl, hmk⟩ := hrel
      by_cases hgo : k ≤ 7 ∧ 2 ^ (8 - k) ≤ x - M.mask k
      · obtain ⟨hk7, hge⟩ := hgo
        have hmn := mask_next hk1 hk7
        have hms := mask_small hk1 hk7
        obtain ⟨B, hB⟩ : ∃ B : Int, 2 ^ (8 - k) = B := ⟨_, rfl⟩
        obtain ⟨m, hm⟩ : ∃ m, M.mask k = m := ⟨_, rfl⟩
        rw [hB, hm] at hmn hge ⊢
        rw [hm] at hmk hms
        have HMN := hid hmn
        have hB0 := hmn.2.2.1
        have hB1 := hmn.2.2.2
        obtain ⟨hm0, hm1⟩ := hms
        clear hmn hB hm
        go_wp2
        go_round
        case rel =>
          have hh := HMN.out
          exact ⟨k + 1, by omega, by omega, by go_num, by rw [← hh.1]; go_num, by rw [hh.2.1], by rw [← hh.1]; omega⟩
        case measure => simp [intOf]; omega
      · have hst := cnt_stop (k := k) hx1 hx2 hk1 hk8 hmk (by omega)
        by_cases hk8' : k = 8
        · subst hk8'
          have hf : M.first (x :: r) = none := by
            rw [first_cons rfl, if_pos (.inl (hst.1 rfl))]
          have HE := hid (numOk_none (most := most) hf)
          clear hf hst hgo
          go_wp2_with fail
          refine (reflose_any b _ _ _ HC.out).mono ?_
          rintro e w1 ⟨rfl, hc, hg⟩
          go_wp2
          go_ret
          rw [HE.out.1, HE.out.2.1, HE.out.2.2]
          exact ⟨rfl, hc, hg⟩
        · have hk7 : k ≤ 7 := by omega
          obtain ⟨hcnt, hn0⟩ := hst.2 hk7
          have hfc := first_cons (r := r) hcnt
          rw [HN.out] at hfc
          have hlow : ¬ 2 ^ (8 - k) ≤ x - M.mask k := by omega
          have hnb := n0_bound x k hk1 hx1 hx2
          have hfr := fold_right_k (x := x) hk1 hk7 HR.out
          rw [hn0] at hlow ⊢
          obtain ⟨n0, hn0'⟩ : ∃ n0, x % 2 ^ (8 - k) = n0 := ⟨_, rfl⟩
          rw [hn0'] at hlow hnb hfc hfr ⊢
          obtain ⟨B, hB⟩ : ∃ B : Int, 2 ^ (8 - k) = B := ⟨_, rfl⟩
          rw [hB] at hlow ⊢
          have HFC := hid hfc
          have HFR := hid hfr
          obtain ⟨hb0, hb1, hb2⟩ := hnb
          have HB2 := hid hb2
          clear hst hgo hcnt hn0 hn0' hB hfc hb2 hmk hfr
          by_cases hkn : n + 1 < k
          · have hf : M.first (x :: r) = none := by rw [HFC.out, if_pos (.inr hkn)]
            have HE := hid (numOk_none (most := most) hf)
            clear hf
            go_wp2_with fail
            refine (reflose_any b _ _ _ HC.out).mono ?_
            rintro e w1 ⟨rfl, hc, hg⟩
            go_wp2
            go_ret
            rw [HE.out.1, HE.out.2.1, HE.out.2.2]
            exact ⟨rfl, hc, hg⟩
          · go_wp2
            go_loop [8, 9] (fun m i => ∃ j : Nat, j ≤ k - 1 ∧ i = .int .i64 ((j : Int) + 1) ∧ m = .int .i64 (M.fold n0 (r.take j))) (fun _ i => k - (intOf i).toNat)
            case atStart => exact ⟨0, by omega, rfl, by simp [M.fold]⟩
            case round =>
              obtain ⟨j, hj, rfl, rfl⟩ := hrel
              by_cases hlt : j < k - 1
              · have hcj := HCELL.out (j + 1) (by have := HN.out; simp; omega)
                simp only [List.getD_cons_succ] at hcj
                have hsn : M.fold n0 (r.take (j + 1)) = M.fold n0 (r.take j) * 256 + r.getD j 0 := by
                  rw [List.take_succ_eq_append_getElem (by have := HN.out; omega), M.fold_snoc]
                  simp [List.getD, show j < r.length by have := HN.out; omega]
                have hxr : 0 ≤ r.getD j 0 ∧ r.getD j 0 < 256 := HR.out _ (by simp [List.getD, show j < r.length by have := HN.out; omega])
                have hNb := (fold_small n0 r j hb0 (by have := HB2.out; omega) HR.out (by omega)).2 (by omega)
                obtain ⟨y, hy⟩ : ∃ y, r.getD j 0 = y := ⟨_, rfl⟩
                rw [hy] at hcj hsn hxr
                obtain ⟨N, hN⟩ : ∃ N, M.fold n0 (r.take j) = N := ⟨_, rfl⟩
                rw [hN] at hsn hNb ⊢
                have HSN := hid hsn
                obtain ⟨hN0, hN1⟩ := hNb
                obtain ⟨hy0, hy1⟩ := hxr
                have hjt : ((j : Int) + 1).toNat = j + 1 := by omega
                clear hy hsn hN
                go_wp2
                go_round
                case rel => exact ⟨j + 1, by omega, by go_num, by rw [HSN.out]⟩
                case measure => simp [intOf]; omega
              · obtain rfl : j = k - 1 := by omega
                have hfr := HFR.out
                have hfc := HFC.out
                obtain ⟨N, hN⟩ : ∃ N, M.fold n0 (r.take (k - 1)) = N := ⟨_, rfl⟩
                rw [hN] at hfr hfc ⊢
                obtain ⟨hN0, hN1⟩ := hfr
                have hk1' : ((k - 1 : Nat) : Int) + 1 = (k : Int) := by omega
                rw [hk1']
                have HF := hid hfc
                clear hN hfc HFC HFR hk1'
                go_wp2_with fail
                refine (refput_right N _ hN0 hN1).mono ?_
                rintro e w1 ⟨g, rfl, _, b1⟩
                have HC1 := hid (HC.out.below b1)
                have hg1 : w.grownBy w1 (some b) := World.grownBy.of_below b1
                obtain ⟨a1, c1, hB1, hc01, hc11, hf01, hf11⟩ := HC1.out.cells
                have HBB := hid hB1
                obtain ⟨bl1, off1, c1', hv1, hcc1, _, _⟩ := hB1.inv (by simp)
                simp only [Value.slice.injEq, true_and] at hv1
                obtain ⟨rfl, rfl⟩ := hv1
                clear hB1 hc0 hc1 hf0 hf1 b1
                simp only [List.length_cons, HN.out] at hc01 hcc1
                by_cases hsz : M.sz N = k
                · by_cases hmost : most < N
                  · have hf : M.first (x :: r) = some (N, k) := by rw [HF.out, if_neg (by omega), if_pos hsz]
                    have HE := hid (numOk_above hf hmost)
                    have hsz' : ((M.sz N : Int) != (k : Int)) = false := by simp; omega
                    clear hf hsz
                    go_wp2_with fail
                    refine (reflose_any b _ _ _ HC1.out).mono ?_
                    rintro e w2 ⟨rfl, hc, hg⟩
                    go_wp2
                    go_ret
                    rw [HE.out.1, HE.out.2.1, HE.out.2.2]
                    exact ⟨rfl, hc, hg1.trans hg⟩
                  · have hf : M.first (x :: r) = some (N, k) := by rw [HF.out, if_neg (by omega), if_pos hsz]
                    have HE := hid (numOk_some hf (show N ≤ most by omega))
                    have hsz' : ((M.sz N : Int) != (k : Int)) = false := by simp; omega
                    have hD := Bs.drop HBB.out k (by have := HN.out; simp; omega)
                    have hs := HC1.out.set0 hD
                    simp only [List.length_cons, HN.out] at hs
                    have HS := hid hs
                    clear hf hsz hD hs
                    by_cases hcf : c1 = k
                    · subst hcf
                      go_wp2
                      go_ret
                      rw [HE.out.1, HE.out.2.1, HE.out.2.2]
                      have hs := HS.out
                      simp only [if_pos] at hs
                      rw [show n + 1 - c1 = 0 by omega, Nat.sub_self] at hs
                      exact ⟨rfl, hs.1, hg1.trans hs.2⟩
                    · go_wp2
                      go_ret
                      rw [HE.out.1, HE.out.2.1, HE.out.2.2]
                      have hs := HS.out
                      simp only [if_neg hcf, Option.map_some, Addr.add_lit] at hs
                      exact ⟨rfl, hs.1, hg1.trans hs.2⟩
                · have hf : M.first (x :: r) = none := by rw [HF.out, if_neg (by omega), if_neg hsz]
                  have HE := hid (numOk_none (most := most) hf)
                  have hsz' : ((M.sz N : Int) != (k : Int)) = true := by simp; omega
                  clear hf hsz
                  go_wp2_with fail
                  refine (reflose_any b _ _ _ HC1.out).mono ?_
                  rintro e w2 ⟨rfl, hc, hg⟩
                  go_wp2
                  go_ret
                  rw [HE.out.1, HE.out.2.1, HE.out.2.2]
                  exact ⟨rfl, hc, hg1.trans hg⟩

end Go.Proofs.YteckjkblngmenaaGreatDoor

/-
  What offshootref00.CopyBytes returns is proved here, for all slices that read as bytes, of at most 2^47 of them: a row of its own.
-/
namespace Go.Proofs.YteckjkblngmenaaGreatDoor
open Go.RowKit
set_option linter.unusedVariables false
set_option maxRecDepth 100000

set_option maxHeartbeats 2000000 in
/-- A copy: a row of its own, not nil. -/
theorem copy_own (v : Value) (xs : List Int) (w : World) (h : Bs w v xs) (hn : xs.length ≤ 140737488355328) :
    Calls Tryz.prog 44 #[v] w fun e w' => ∃ g cap, e = .returned (.slice (some ⟨g, 0, none⟩) xs.length cap) ∧ w'.ownsRow w.heap.size 5 1 (.slice (some ⟨g, 0, none⟩) xs.length cap) xs.length (cs xs) ∧ Below w.heap.size w w' := by
  have h' := h
  obtain ⟨a, c, rfl, _⟩ := h
  obtain ⟨i0, hi, hz0, hz1, hz2⟩ := info_parts info_u8
  have hown0 : (w.alloc (.cells #[] 5)).ownsRow w.heap.size 5 1 (.slice (some ⟨w.heap.size, 0, none⟩) 0 0) 0 [] := World.ownsRow_made w #[] 0 (Nat.le_refl _) (Nat.zero_le _) rfl
  cases a with
  | none =>
    have hx : xs.length = 0 := by
      obtain ⟨a', c', h1, h2, _, h4, _⟩ := h'
      simp only [Value.slice.injEq] at h1
      have := h4 h1.1.symm
      omega
    have e1 : xs = [] := List.eq_nil_of_length_eq_zero hx
    subst e1
    go_enter Tryz.func44, Tryz.ntmps44
    go_wp2
    go_ret
    exact ⟨_, _, rfl, hown0, ba _ _⟩
  | some A =>
    have hcell := cells_at h'
    have HC := hid hcell
    clear hcell h'
    go_enter Tryz.func44, Tryz.ntmps44
    go_wp2_with (at_builtin; refine wpList_append_own _ rfl (.tmp 5) (.tmp 6) 36 rfl w.heap.size 5 i0 (.int .u8 0) 1 1 Tryz.underlying36 hi hz0 hz1 hz2 rfl (by decide) _ _ _ rfl hown0 A xs.length c (cs xs) rfl ?c0 ?c1 (ints_oneCell .u8 xs) ?c3 ?c4 ?c5 ?_)
    case c0 => simp
    case c1 =>
      intro j u hu
      have h1 := HC.out j u hu
      have hb := World.block_lt_of_cell? _ _ h1
      rw [((Below.refl w.heap.size w).alloc (Nat.le_refl _) _).cell hb]
      exact h1
    case c3 => unfold maxLen; omega
    case c4 => omega
    case c5 => simp
    intro v' w1 hown hgrow hnil
    have hb : Below w.heap.size w w1 := ((Below.refl _ w).alloc (Nat.le_refl _) (.cells #[] 5)).grown hgrow (by simp) (by intro k hk; simp [Value.ownBlock] at hk; omega)
    have hv : ∃ g cap, v' = .slice (some ⟨g, 0, none⟩) xs.length cap := by
      rcases hown.2 with ⟨e, _⟩ | ⟨g, cap, cur, e, _⟩
      · exact absurd e hnil
      · exact ⟨g, cap, by simpa using e⟩
    have hown' : w1.ownsRow w.heap.size 5 1 v' xs.length (cs xs) := by simpa using hown
    obtain ⟨g, cap, rfl⟩ := hv
    clear hown hgrow hown0 hnil
    go_wp2
    go_ret
    exact ⟨_, _, rfl, hown', hb⟩

end Go.Proofs.YteckjkblngmenaaGreatDoor
