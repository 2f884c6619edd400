/-
  Parts of the proof, one behind the other; what each proves stands at its head.
-/
import Derived.Test.YtaojeanoojnknaaDoorPart23
import Derived.Test.YtaojeanoojnknaaDoorPart12
import Derived.Test.YtaojeanoojnknaaDoorPart10
import Derived.Test.YtaojeanoojnknaaDoorPart22

/-
  That the reference's Right answers what Right does is proved here, for every op.
-/
namespace Go.Proofs.YtaojeanoojnknaaDoor
open Go.RowKit
set_option linter.unusedVariables false
set_option maxRecDepth 100000

theorem kept_nought (o : Opn) {f : Nat} (hf : f ≤ 8) (hn : f ∉ told o.k) : noughtF (keptO o) f = true := by
  have hkk : ∀ X : Opn, noughtF X f = noughtF X f := fun _ => rfl
  unfold keptO
  unfold told at hn
  by_cases h1 : o.k = 1
  · simp only [if_pos h1] at hn ⊢
    rcases nine hf with rfl | rfl | rfl | rfl | rfl | rfl | rfl | rfl | rfl <;> first | rfl | exact absurd (by decide) hn
  by_cases h2 : o.k = 2
  · simp only [if_neg h1, if_pos h2] at hn ⊢
    rcases nine hf with rfl | rfl | rfl | rfl | rfl | rfl | rfl | rfl | rfl <;> first | rfl | exact absurd (by decide) hn
  by_cases h3 : o.k = 3
  · simp only [if_neg h1, if_neg h2, if_pos h3] at hn ⊢
    rcases nine hf with rfl | rfl | rfl | rfl | rfl | rfl | rfl | rfl | rfl <;> first | rfl | exact absurd (by decide) hn
  by_cases h4 : o.k = 4
  · simp only [if_neg h1, if_neg h2, if_neg h3, if_pos h4] at hn ⊢
    rcases nine hf with rfl | rfl | rfl | rfl | rfl | rfl | rfl | rfl | rfl <;> first | rfl | exact absurd (by decide) hn
  by_cases h5 : o.k = 5
  · simp only [if_neg h1, if_neg h2, if_neg h3, if_neg h4, if_pos h5] at hn ⊢
    rcases nine hf with rfl | rfl | rfl | rfl | rfl | rfl | rfl | rfl | rfl <;> first | rfl | exact absurd (by decide) hn
  by_cases h6 : o.k = 6
  · simp only [if_neg h1, if_neg h2, if_neg h3, if_neg h4, if_neg h5, if_pos h6] at hn ⊢
    rcases nine hf with rfl | rfl | rfl | rfl | rfl | rfl | rfl | rfl | rfl <;> first | rfl | exact absurd (by decide) hn
  · simp only [if_neg h1, if_neg h2, if_neg h3, if_neg h4, if_neg h5, if_neg h6] at hn ⊢
    rcases nine hf with rfl | rfl | rfl | rfl | rfl | rfl | rfl | rfl | rfl <;> rfl
theorem kept_fold (o : Opn) : keptO o = (told o.k).foldl (fun p f => cpF f o p) { Opn.zero with k := o.k, ir := o.ir, im := o.im, t := o.t } := by
  unfold keptO told headO
  by_cases h1 : o.k = 1
  · simp only [if_pos h1]; rfl
  by_cases h2 : o.k = 2
  · simp only [if_neg h1, if_pos h2]; rfl
  by_cases h3 : o.k = 3
  · simp only [if_neg h1, if_neg h2, if_pos h3]; rfl
  by_cases h4 : o.k = 4
  · simp only [if_neg h1, if_neg h2, if_neg h3, if_pos h4]; rfl
  by_cases h5 : o.k = 5
  · simp only [if_neg h1, if_neg h2, if_neg h3, if_neg h4, if_pos h5]; rfl
  by_cases h6 : o.k = 6
  · simp only [if_neg h1, if_neg h2, if_neg h3, if_neg h4, if_neg h5, if_pos h6]; rfl
  · simp only [if_neg h1, if_neg h2, if_neg h3, if_neg h4, if_neg h5, if_neg h6]; rfl
theorem right_kept {o : Opn} (h : rightO o = true) : keptO o = o := (kept_fold o).trans (told_cp h)
theorem right_by {o : Opn} (hr : ro o.ir o.im = true) (h1 : 1 ≤ o.t) (h2 : o.t ≤ 1099511627776) (hk : keptO o = o) : rightO o = ((told o.k).all (rightF o) && !(told o.k).isEmpty) := by
  have hs : rs o.t o.ir = true := by
    have := ro_bounds hr
    simp [rs]
    omega
  have ha : (List.range 9).all (goodF o) = (told o.k).all (rightF o) := by
    rw [Bool.eq_iff_iff, List.all_eq_true, List.all_eq_true]
    constructor
    · intro h f hf
      have := h f (List.mem_range.2 (by have := told_le _ f hf; omega))
      unfold goodF at this
      rwa [if_pos hf] at this
    · intro h f hf
      unfold goodF
      by_cases hm : f ∈ told o.k
      · rw [if_pos hm]; exact h f hm
      · rw [if_neg hm]
        have := kept_nought o (f := f) (by have := List.mem_range.1 hf; omega) hm
        rwa [hk] at this
  unfold rightO
  rw [hr, hs, ha]
  rfl
theorem right_no_name {o : Opn} (h : ro o.ir o.im = false) : rightO o = false := by unfold rightO; rw [h]; rfl
theorem right_no_t {o : Opn} (h : o.t < 1 ∨ 1099511627776 < o.t) : rightO o = false := by
  have hs : rs o.t o.ir = false := by
    simp [rs]
    omega
  unfold rightO
  rw [hs]
  simp
theorem right_no_kept {o : Opn} (h : keptO o ≠ o) : rightO o = false := by
  cases hr : rightO o with
  | false => rfl
  | true => exact absurd (right_kept hr) h

set_option maxHeartbeats 8000000 in
theorem xright_box (A : Value) (o : Opn) (v : Value) (hA : A = opv o v) (w : World) (hC : Cs w v o.cuts) (hfin : o.fine) :
    Calls Tryd.prog 42 #[A] w fun e w' => e = .returned (.bool (rightO o)) ∧ Below w.heap.size w w' := by
  have HAA := hid hA
  have HC := hid hC
  have HF := hid hfin
  obtain ⟨R, hR⟩ : ∃ R, rightO o = R := ⟨_, rfl⟩
  rw [hR]
  have HR := hid hR
  clear hA hC hR hfin
  go_enter Tryd.func42, Tryd.ntmps42
  go_upto_region 1 with (first
    | (refine wpList_box_op rfl (.tmp 0) rfl A rfl o _ HAA.out ?_; intro w1 hob hb1 hlt1; have HO := hid hob; have BB := hid hb1; clear hob hb1 hlt1))
  have HC1 := hid (HC.out.below BB.out)
  cases hr : ro o.ir o.im
  · have hn := right_no_name hr
    refine xr1_a w1 w.heap.size o v HO.out hr (fun W hW => ?_)
    have B2 := hid (bt BB.out hW)
    have HN := hid (hn.symm.trans HR.out)
    clear hW hn
    go_wp2
    go_ret
    exact ⟨by rw [← HN.out]; rfl, B2.out⟩
  cases h1 : decide (o.t < 1)
  case true =>
    have hn := right_no_t (o := o) (.inl (of_decide_eq_true h1))
    refine xr1_b w1 w.heap.size o v HO.out hr h1 (fun W hW => ?_)
    have B2 := hid (bt BB.out hW)
    have HN := hid (hn.symm.trans HR.out)
    clear hW hn
    go_wp2
    go_ret
    exact ⟨by rw [← HN.out]; rfl, B2.out⟩
  cases h2 : decide (1099511627776 < o.t)
  case true =>
    have hn := right_no_t (o := o) (.inr (of_decide_eq_true h2))
    refine xr1_c w1 w.heap.size o v HO.out hr h1 h2 (fun W hW => ?_)
    have B2 := hid (bt BB.out hW)
    have HN := hid (hn.symm.trans HR.out)
    clear hW hn
    go_wp2
    go_ret
    exact ⟨by rw [← HN.out]; rfl, B2.out⟩
  by_cases hk : keptO o = o
  case neg =>
    have hn := right_no_kept hk
    refine xr1_d w1 w.heap.size o v HO.out hr h1 h2 HC1.out false (by simp [hk]) (fun W hW => ?_)
    have B2 := hid (bt BB.out hW)
    have HN := hid (hn.symm.trans HR.out)
    clear hW hn
    go_wp2
    go_ret
    exact ⟨by rw [← HN.out]; rfl, B2.out⟩
  refine xr1_d w1 w.heap.size o v HO.out hr h1 h2 HC1.out true (by simp [hk]) (fun W hW => ?_)
  have HN := hid ((right_by hr (by have := of_decide_eq_false h1; omega) (by have := of_decide_eq_false h2; omega) hk).symm.trans HR.out)
  replace HO := hid (HO.out.below hW)
  replace BB := hid (bt BB.out hW)
  clear hW hr h1 h2 hk HC1
  go_upto_region 3 with fail
  refine xr3 W w.heap.size o v HO.out HF.out.1 (fun y28 y29 y30 y31 y32 y33 y34 y35 W3 hW3 => ?_)
  replace HO := hid (HO.out.below hW3)
  replace BB := hid (bt BB.out hW3)
  clear hW3
  go_upto_region 4 with fail
  refine xr4 W3 w.heap.size o v HO.out (fun y36 y37 y38 y39 y40 y41 y42 y43 y44 y45 y46 y47 y48 W4 hW4 => ?_)
  replace HO := hid (HO.out.below hW4)
  replace BB := hid (bt BB.out hW4)
  clear hW4
  obtain ⟨P3, hP3⟩ : ∃ P, (rb o.pr o.pm && K.right (tx o.key)) = P := ⟨_, rfl⟩
  obtain ⟨P4, hP4⟩ : ∃ P, (ro o.sr o.sm && rc o.lr o.lm o.li && rc o.gr o.gm o.gi) = P := ⟨_, rfl⟩
  rw [hP3, hP4]
  have HP3 := hid hP3
  have HP4 := hid hP4
  clear hP3 hP4
  by_cases k1 : o.k = 1
  · have hn := HN.out
    rw [k1, show told 1 = [1, 2] from rfl] at hn
    have HN1 : Hid (P3 = R) := hid (by rw [← HP3.out, ← hn]; simp [rightF])
    clear hn
    go_wp2_with (first | (refine wpList_ld_kind rfl rfl rfl HO.out ?_) | fail)
    go_ret
    exact ⟨by rw [← HN1.out]; rfl, BB.out⟩
  by_cases k2 : o.k = 2
  · have hn := HN.out
    rw [k2, show told 2 = [0, 1, 2] from rfl] at hn
    have HN1 : Hid ((P3 && ro o.br o.bm) = R) := hid (by rw [← HP3.out, ← hn]; simp [rightF, Bool.and_comm, Bool.and_left_comm])
    clear hn
    cases P3
    · go_wp2_with (first | (refine wpList_ld_kind rfl rfl rfl HO.out ?_) | (refine wpList_ld_block rfl rfl rfl HO.out ?_) | (refine wpList_ld_text rfl rfl rfl HO.out ?_) | (refine wpList_ld_cuts rfl rfl rfl HO.out ?_) | fail)
      go_ret
      exact ⟨by rw [← HN1.out]; rfl, BB.out⟩
    · go_wp2_with (first | (refine wpList_ld_kind rfl rfl rfl HO.out ?_) | (refine wpList_ld_block rfl rfl rfl HO.out ?_) | (refine wpList_ld_text rfl rfl rfl HO.out ?_) | (refine wpList_ld_cuts rfl rfl rfl HO.out ?_) | fail)
      refine (xro_any o.br o.bm _).mono ?_
      rintro e w9 ⟨rfl, h9⟩
      have B9 := hid (bt BB.out (show Below W4.heap.size W4 w9 by rw [h9]; exact ba W4 _))
      clear h9
      go_wp2
      go_ret
      exact ⟨by rw [← HN1.out]; rfl, B9.out⟩
  by_cases k3 : o.k = 3
  · have hn := HN.out
    rw [k3, show told 3 = [3, 4, 5, 6] from rfl] at hn
    have HN1 : Hid ((P4 && (decide (1 ≤ o.text.size) && decide (o.text.size ≤ 64))) = R) := hid (by rw [← HP4.out, ← hn]; simp [rightF, Bool.and_assoc])
    clear hn
    cases P4
    · go_wp2_with (first | (refine wpList_ld_kind rfl rfl rfl HO.out ?_) | (refine wpList_ld_block rfl rfl rfl HO.out ?_) | (refine wpList_ld_text rfl rfl rfl HO.out ?_) | (refine wpList_ld_cuts rfl rfl rfl HO.out ?_) | fail)
      go_ret
      exact ⟨by rw [← HN1.out]; rfl, BB.out⟩
    · cases d1 : decide (1 ≤ o.text.size)
      · have d1' : ¬ (1 : Int) ≤ (o.text.size : Int) := by have := of_decide_eq_false d1; omega
        rw [d1] at HN1
        clear d1
        go_wp2_with (first | (refine wpList_ld_kind rfl rfl rfl HO.out ?_) | (refine wpList_ld_block rfl rfl rfl HO.out ?_) | (refine wpList_ld_text rfl rfl rfl HO.out ?_) | (refine wpList_ld_cuts rfl rfl rfl HO.out ?_) | fail)
        go_ret
        exact ⟨by rw [← HN1.out]; rfl, BB.out⟩
      · have d1' : (1 : Int) ≤ (o.text.size : Int) := by have := of_decide_eq_true d1; omega
        rw [d1] at HN1
        clear d1
        cases d2 : decide (o.text.size ≤ 64)
        · have d2' : ¬ (o.text.size : Int) ≤ 64 := by have := of_decide_eq_false d2; omega
          rw [d2] at HN1
          clear d2
          go_wp2_with (first | (refine wpList_ld_kind rfl rfl rfl HO.out ?_) | (refine wpList_ld_block rfl rfl rfl HO.out ?_) | (refine wpList_ld_text rfl rfl rfl HO.out ?_) | (refine wpList_ld_cuts rfl rfl rfl HO.out ?_) | fail)
          go_ret
          exact ⟨by rw [← HN1.out]; rfl, BB.out⟩
        · have d2' : (o.text.size : Int) ≤ 64 := by have := of_decide_eq_true d2; omega
          rw [d2] at HN1
          clear d2
          go_wp2_with (first | (refine wpList_ld_kind rfl rfl rfl HO.out ?_) | (refine wpList_ld_block rfl rfl rfl HO.out ?_) | (refine wpList_ld_text rfl rfl rfl HO.out ?_) | (refine wpList_ld_cuts rfl rfl rfl HO.out ?_) | fail)
          go_ret
          exact ⟨by rw [← HN1.out]; rfl, BB.out⟩
  by_cases k5 : o.k = 5
  · have hn := HN.out
    rw [k5, show told 5 = [3, 4, 5, 1, 2] from rfl] at hn
    have HN1 : Hid ((P4 && P3) = R) := hid (by rw [← HP3.out, ← HP4.out, ← hn]; simp [rightF, Bool.and_assoc])
    clear hn
    cases P4
    · go_wp2_with (first | (refine wpList_ld_kind rfl rfl rfl HO.out ?_) | (refine wpList_ld_block rfl rfl rfl HO.out ?_) | (refine wpList_ld_text rfl rfl rfl HO.out ?_) | (refine wpList_ld_cuts rfl rfl rfl HO.out ?_) | fail)
      go_ret
      exact ⟨by rw [← HN1.out]; rfl, BB.out⟩
    · go_wp2_with (first | (refine wpList_ld_kind rfl rfl rfl HO.out ?_) | (refine wpList_ld_block rfl rfl rfl HO.out ?_) | (refine wpList_ld_text rfl rfl rfl HO.out ?_) | (refine wpList_ld_cuts rfl rfl rfl HO.out ?_) | fail)
      go_ret
      exact ⟨by rw [← HN1.out]; rfl, BB.out⟩
  by_cases k6 : o.k = 6
  · have hn := HN.out
    rw [k6, show told 6 = [0, 8] from rfl] at hn
    have HN1 : Hid (ro o.br o.bm = R) := hid (by rw [← hn]; simp [rightF])
    clear hn
    go_wp2_with (first | (refine wpList_ld_kind rfl rfl rfl HO.out ?_) | (refine wpList_ld_block rfl rfl rfl HO.out ?_) | (refine wpList_ld_text rfl rfl rfl HO.out ?_) | (refine wpList_ld_cuts rfl rfl rfl HO.out ?_) | fail)
    refine (xro_any o.br o.bm _).mono ?_
    rintro e w9 ⟨rfl, h9⟩
    have B9 := hid (bt BB.out (show Below W4.heap.size W4 w9 by rw [h9]; exact ba W4 _))
    clear h9
    go_wp2
    go_ret
    exact ⟨by rw [← HN1.out]; rfl, B9.out⟩
  by_cases k4 : o.k = 4
  case neg =>
    have hn := HN.out
    have ht : told o.k = [] := by unfold told; simp only [if_neg k1, if_neg k2, if_neg k3, if_neg k4, if_neg k5, if_neg k6]
    rw [ht] at hn
    have HN1 : Hid (false = R) := hid (by rw [← hn]; rfl)
    clear hn ht
    go_wp2_with (first | (refine wpList_ld_kind rfl rfl rfl HO.out ?_) | (refine wpList_ld_block rfl rfl rfl HO.out ?_) | (refine wpList_ld_text rfl rfl rfl HO.out ?_) | (refine wpList_ld_cuts rfl rfl rfl HO.out ?_) | fail)
    go_ret
    exact ⟨by rw [← HN1.out]; rfl, BB.out⟩
  have hn := HN.out
  rw [k4, show told 4 = [7] from rfl] at hn
  have HN1 : Hid ((decide (1 ≤ o.cuts.length) && decide (o.cuts.length ≤ 16) && o.cuts.all rct) = R) := hid (by rw [← hn]; simp [rightF])
  clear hn
  have HC4 := hid (HC.out.below BB.out)
  obtain ⟨va, vc, hv, _, _⟩ := HC4.out.form
  have HV := hid hv
  have hnl := Sl.len HC4.out
  unfold maxLen at hnl
  obtain ⟨n, hnn⟩ : ∃ n, o.cuts.length = n := ⟨_, rfl⟩
  have HNN := hid hnn
  rw [hnn] at HN1 hnl hv
  clear hnn
  subst hv
  go_wp2_with (first | (refine wpList_ld_kind rfl rfl rfl HO.out ?_) | (refine wpList_ld_block rfl rfl rfl HO.out ?_) | (refine wpList_ld_text rfl rfl rfl HO.out ?_) | (refine wpList_ld_cuts rfl rfl rfl HO.out ?_) | fail)
  go_loopw [5] (fun i wr => ∃ j : Nat, j ≤ n ∧ i = .int .i64 j ∧ Below w.heap.size w wr ∧ Ob wr w.heap.size o (.slice va n vc) ∧ ∀ q (hq : q < o.cuts.length), q < j → rct (o.cuts[q]) = true) (fun i _ => n - (intOf i).toNat)
  case atStart => exact ⟨0, Nat.zero_le _, rfl, BB.out, HO.out, fun q _ h => absurd h (Nat.not_lt_zero _)⟩
  case round =>
    obtain ⟨j, hj, rfl, hbel, hob, ht⟩ := hrel
    have HT := hid ht
    have HOR := hid hob
    have BR := hid hbel
    clear ht hob hbel
    by_cases hlt : j < n
    · have hx : j < o.cuts.length := by rw [HNN.out]; exact hlt
      have hcr := HC.out.below BR.out
      obtain ⟨cb, off, c', e', _, _, hcl, hcell⟩ := hcr.inv (by omega)
      rw [HNN.out] at e'
      simp only [Value.slice.injEq] at e'
      obtain ⟨rfl, -, rfl⟩ := e'
      obtain ⟨g0, g1, g2, g3⟩ := hcell j hx
      obtain ⟨x, hxx⟩ : ∃ x, o.cuts[j] = x := ⟨_, rfl⟩
      rw [hxx] at g0 g1 g2 g3
      have HX := hid hxx
      clear hxx hcell hcr
      have b1' : (j : Int) < (n : Int) := by omega
      go_wp2_with (first | (refine wpList_ld_cuts rfl rfl rfl HOR.out ?_) | fail)
      refine (xro_any x.r x.n _).mono ?_
      rintro e w9 ⟨rfl, h9⟩
      have m0 : w9.heap[wr.heap.size]? = some (.cells #[.int .i64 x.r, .int .i64 x.n, .int .i64 x.f, .int .i64 x.t] 86 (0, 0)) := by rw [h9]; exact heap_alloc2_old wr _ _
      have m2 := cell_of_row w9 wr.heap.size 2 _ _ _ m0
      have m3 := cell_of_row w9 wr.heap.size 3 _ _ _ m0
      simp at m2 m3
      have b9 : Below wr.heap.size wr w9 := by rw [h9]; exact bt (ba wr _) (ba _ _)
      have HO9 := hid (HOR.out.below b9)
      have B9 := hid (bt BR.out b9)
      clear m0 b9 h9
      have HBAD : Hid (rct x = false → false = R) := hid (fun h => by
        have hall : o.cuts.all rct = false := by
          rw [List.all_eq_false]
          exact ⟨x, by have := List.getElem_mem hx; rw [HX.out] at this; exact this, by rw [h]; decide⟩
        rw [← HN1.out, hall, Bool.and_false])
      cases hro : ro x.r x.n
      · have HB := hid (HBAD.out (by unfold rct; rw [hro]; rfl))
        clear hro
        go_wp2
        go_ret
        exact ⟨by rw [← HB.out]; rfl, B9.out⟩
      cases e1 : decide (x.f < 0)
      case true =>
        have HB := hid (HBAD.out (by have := of_decide_eq_true e1; unfold rct; rw [hro]; simp; omega))
        have e1' := of_decide_eq_true e1
        clear hro
        go_wp2
        go_ret
        exact ⟨by rw [← HB.out]; rfl, B9.out⟩
      cases e2 : decide (x.t ≤ x.f)
      case true =>
        have HB := hid (HBAD.out (by have := of_decide_eq_true e2; unfold rct; rw [hro]; simp; omega))
        have e1' := of_decide_eq_false e1
        have e2' := of_decide_eq_true e2
        clear hro
        go_wp2
        go_ret
        exact ⟨by rw [← HB.out]; rfl, B9.out⟩
      cases e3 : decide (64 < x.t)
      case true =>
        have HB := hid (HBAD.out (by have := of_decide_eq_true e3; unfold rct; rw [hro]; simp; omega))
        have e1' := of_decide_eq_false e1
        have e2' := of_decide_eq_false e2
        have e3' := of_decide_eq_true e3
        clear hro
        go_wp2
        go_ret
        exact ⟨by rw [← HB.out]; rfl, B9.out⟩
      have e1' := of_decide_eq_false e1
      have e2' := of_decide_eq_false e2
      have e3' := of_decide_eq_false e3
      have HGOOD : Hid (rct x = true) := hid (by unfold rct; rw [hro]; simp; omega)
      clear hro
      go_wp2
      go_roundw
      case rel =>
        refine ⟨j + 1, by omega, by go_num, B9.out, HO9.out, fun q hq hqj => ?_⟩
        by_cases e : q = j
        · subst e; rw [HX.out]; exact HGOOD.out
        · exact HT.out q hq (by omega)
      case measure => simp [intOf]; omega
    · have b1' : ¬ (j : Int) < (n : Int) := by omega
      have hall : o.cuts.all rct = true := by
        rw [List.all_eq_true]
        intro c hc
        obtain ⟨q, hq, e⟩ := List.getElem_of_mem hc
        rw [← e]
        exact HT.out q hq (by have := HNN.out; omega)
      have HN2 : Hid ((decide (1 ≤ n) && decide (n ≤ 16)) = R) := hid (by rw [← HN1.out, hall, Bool.and_true])
      clear hall
      cases d1 : decide (1 ≤ n)
      · have d1' : ¬ (1 : Int) ≤ (n : Int) := by have := of_decide_eq_false d1; omega
        rw [d1] at HN2
        clear d1
        go_wp2_with (first | (refine wpList_ld_cuts rfl rfl rfl HOR.out ?_) | fail)
        go_ret
        exact ⟨by rw [← HN2.out]; rfl, BR.out⟩
      · have d1' : (1 : Int) ≤ (n : Int) := by have := of_decide_eq_true d1; omega
        rw [d1] at HN2
        clear d1
        cases d2 : decide (n ≤ 16)
        · have d2' : ¬ (n : Int) ≤ 16 := by have := of_decide_eq_false d2; omega
          rw [d2] at HN2
          clear d2
          go_wp2_with (first | (refine wpList_ld_cuts rfl rfl rfl HOR.out ?_) | fail)
          go_ret
          exact ⟨by rw [← HN2.out]; rfl, BR.out⟩
        · have d2' : (n : Int) ≤ 16 := by have := of_decide_eq_true d2; omega
          rw [d2] at HN2
          clear d2
          go_wp2_with (first | (refine wpList_ld_cuts rfl rfl rfl HOR.out ?_) | fail)
          go_ret
          exact ⟨by rw [← HN2.out]; rfl, BR.out⟩
theorem xright_any (o : Opn) (v : Value) (w : World) (hC : Cs w v o.cuts) (hfin : o.fine) :
    Calls Tryd.prog 42 #[opv o v] w fun e w' => e = .returned (.bool (rightO o)) ∧ Below w.heap.size w w' := xright_box _ o v rfl w hC hfin

end Go.Proofs.YtaojeanoojnknaaDoor

/-
  What Long answers is proved here, for whatever row of ops.
-/
namespace Go.Proofs.YtaojeanoojnknaaDoor
open Go.RowKit
set_option linter.unusedVariables false
set_option maxRecDepth 100000

def longB (l : List (Opn × Value)) (most : Nat) : Bool := decide (most < l.length) || !l.all (fun p => small p.1)
set_option maxHeartbeats 1000000 in
theorem long_all (v : Value) (l : List (Opn × Value)) (most : Nat) (w : World) (h : Os w v l) (hm : most ≤ 1000) :
    Calls Tryd.prog 27 #[v, .int .i64 most] w fun e w' => e = .returned (.bool (longB l most)) ∧ w = w' := by
  by_cases hl : most < l.length
  · have e : longB l most = true := by unfold longB; simp [hl]
    rw [e]
    obtain ⟨a, c, rfl, _, _⟩ := Sl.form h.1
    obtain ⟨n, hn⟩ : ∃ n, l.length = n := ⟨_, rfl⟩
    rw [hn] at hl ⊢
    have hd : (most : Int) < (n : Int) := by omega
    clear h hn e
    go_enter Tryd.func27, Tryd.ntmps27
    go_wp2
    go_ret
    exact ⟨rfl, rfl⟩
  · have e : longB l most = !l.all (fun p => small p.1) := by unfold longB; simp [hl]
    rw [e]
    exact long_any v l most w h (by omega) hm
theorem longB_no {l : List (Opn × Value)} {most : Nat} (h : longB l most = false) : l.length ≤ most ∧ ∀ p ∈ l, p.1.fine ∧ p.1.cuts.length ≤ 40 := by
  unfold longB at h
  simp at h
  refine ⟨h.1, fun p hp => ?_⟩
  exact small_fine (h.2 p.1 p.2 hp)

end Go.Proofs.YtaojeanoojnknaaDoor
