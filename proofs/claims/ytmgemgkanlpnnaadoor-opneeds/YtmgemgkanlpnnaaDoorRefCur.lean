/-
  What the reference's cursor answers to Num is proved here, for every cursor that is over nothing when it is lost.
-/
import Derived.Test.YtmgemgkanlpnnaaDoorCur
import Derived.Test.YtmgemgkanlpnnaaDoorRefPut
import Derived.Test.YtmgemgkanlpnnaaDoorCode
namespace Go.Proofs.YtmgemgkanlpnnaaDoor
open Go.RowKit
set_option linter.unusedVariables false
set_option maxRecDepth 100000

set_option maxHeartbeats 400000 in
theorem reflose_any (b : Nat) (xs : List Int) (lost : Bool) (w : World) (h : Cur 66 w b xs lost) :
    Calls Tryd.prog 59 #[.pointer (some ⟨b, 0, none⟩)] w fun e w' => e = .returned (.tuple #[]) ∧ Cur 66 w' b [] true ∧ w.grownBy w' (some b) := by
  obtain ⟨a, c, hB, hc0, hc1, hf0, hf1⟩ := h.cells
  have h1 := h.set1 (l' := true)
  have h2 := h1.1.set0 (Bs.nil _)
  have H1 := hid h1
  have H2 := hid h2
  clear h1 h2 hB h
  go_enter Tryd.func59, Tryd.ntmps59
  go_wp2
  go_end0
  exact ⟨rfl, H2.out.1, H1.out.2.trans H2.out.2⟩

/-- The reference's first loop: how many ones a byte begins with. -/
theorem cnt_stop {b : Int} {k : Nat} (h0 : 0 ≤ b) (h1 : b < 256) (hk1 : 1 ≤ k) (hk8 : k ≤ 8) (hm : M.mask k ≤ b) (he : k = 8 ∨ b - M.mask k < 2 ^ (8 - k)) :
    (k = 8 → 7 < M.cnt b) ∧ (k ≤ 7 → M.cnt b = k ∧ b - M.mask k = b % 2 ^ (8 - k)) := by
  have : k = 1 ∨ k = 2 ∨ k = 3 ∨ k = 4 ∨ k = 5 ∨ k = 6 ∨ k = 7 ∨ k = 8 := by omega
  rcases this with rfl | rfl | rfl | rfl | rfl | rfl | rfl | rfl <;> simp [M.mask] at hm he ⊢ <;> unfold M.cnt <;> (first | (refine ⟨?_, by omega⟩; (repeat' split) <;> omega) | ((repeat' split) <;> omega))

theorem mask_next {k : Nat} (hk1 : 1 ≤ k) (hk7 : k ≤ 7) : M.mask k + 2 ^ (8 - k) = M.mask (k + 1) ∧ (2 : Int) ^ (8 - k) / 2 = 2 ^ (8 - (k + 1)) ∧ (0 : Int) ≤ 2 ^ (8 - k) ∧ (2 : Int) ^ (8 - k) ≤ 128 := by
  rcases M.seven ⟨hk1, hk7⟩ with rfl | rfl | rfl | rfl | rfl | rfl | rfl <;> decide

/-- The reference takes a number. -/
theorem first_cons {b : Int} {r : List Int} {k : Nat} (hk : M.cnt b = k) : M.first (b :: r) = if 7 < k ∨ r.length + 1 < k then none else
    if M.sz (M.fold (b % 2 ^ (8 - k)) (r.take (k - 1))) = k then some (M.fold (b % 2 ^ (8 - k)) (r.take (k - 1)), k) else none := by
  rw [M.first, hk]

theorem numOk_none {most : Int} {xs : List Int} (h : M.first xs = none) : M.numV most xs = 0 ∧ M.numS most xs = [] ∧ ∀ l, M.numL most xs l = true := by
  have : M.numOk most xs = false := by simp [M.numOk, M.fo, h]
  simp [M.numV, M.numS, M.numL, this]
theorem numOk_above {most n : Int} {k : Nat} {xs : List Int} (h : M.first xs = some (n, k)) (hn : most < n) : M.numV most xs = 0 ∧ M.numS most xs = [] ∧ ∀ l, M.numL most xs l = true := by
  have : M.numOk most xs = false := by simp [M.numOk, M.fo, M.fn, h]; omega
  simp [M.numV, M.numS, M.numL, this]
theorem numOk_some {most n : Int} {k : Nat} {xs : List Int} (h : M.first xs = some (n, k)) (hn : n ≤ most) : M.numV most xs = n ∧ M.numS most xs = xs.drop k ∧ ∀ l, M.numL most xs l = l := by
  have : M.numOk most xs = true := by simp [M.numOk, M.fo, M.fn, h]; omega
  simp [M.numV, M.numS, M.numL, this, M.fn, M.fc, h]

theorem fold_right_k {x : Int} {r : List Int} {k : Nat} (hk1 : 1 ≤ k) (hk7 : k ≤ 7) (hr : ∀ y ∈ r, 0 ≤ y ∧ y < 256) :
    0 ≤ M.fold (x % 2 ^ (8 - k)) (r.take (k - 1)) ∧ M.fold (x % 2 ^ (8 - k)) (r.take (k - 1)) < 562949953421312 := by
  have hp : (0 : Int) < 2 ^ (8 - k) := Int.pow_pos (by decide)
  have h := M.fold_bound (2 ^ (8 - k)) (r.take (k - 1)) (fun y hy => hr y (List.mem_of_mem_take hy)) (x % 2 ^ (8 - k)) (Int.emod_nonneg _ (Int.ne_of_gt hp)) (Int.emod_lt_of_pos _ hp)
  have h2 : (256 : Int) ^ (r.take (k - 1)).length ≤ 256 ^ (k - 1) := M.pow256_le (List.length_take_le _ _)
  have h3 : (2 : Int) ^ (8 - k) * 256 ^ (r.take (k - 1)).length ≤ 2 ^ (8 - k) * 256 ^ (k - 1) := Int.mul_le_mul_of_nonneg_left h2 (Int.le_of_lt hp)
  have hlt : (2 : Int) ^ (8 - k) * 256 ^ (k - 1) ≤ 562949953421312 := by
    rcases M.seven ⟨hk1, hk7⟩ with e | e | e | e | e | e | e <;> rw [e] <;> decide
  exact ⟨h.1, by omega⟩

set_option maxHeartbeats 4000000 in
set_option maxRecDepth 100000 in
theorem refnum_any (b : Nat) (xs : List Int) (lost : Bool) (most : Int) (w : World) (h : Cur 66 w b xs lost) (hl : lost = true → xs = []) :
    Calls Tryd.prog 33 #[.pointer (some ⟨b, 0, none⟩), .int .i64 most] w fun e w' =>
      e = .returned (.int .i64 (M.numV most xs)) ∧ Cur 66 w' b (M.numS most xs) (M.numL most xs lost) ∧ w.grownBy w' (some b) := by
  obtain ⟨a, c, hB, hc0, hc1, hf0, hf1⟩ := h.cells
  have HC := hid h
  have HB := hid hB
  have hlen := hB.len
  unfold maxLen at hlen
  clear h hB
  cases xs with
  | nil =>
    obtain ⟨e1, e2, e3⟩ := numOk_none (most := most) (xs := []) rfl
    rw [e1, e2, e3]
    clear e1 e2 e3
    cases lost
    all_goals
      go_enter Tryd.func33, Tryd.ntmps33
      go_wp2_with fail
      refine (reflose_any b _ _ _ HC.out).mono ?_
      rintro e w1 ⟨rfl, hc, hg⟩
      go_wp2
      go_ret
      exact ⟨rfl, hc, hg⟩
  | cons x r =>
    have hlost : lost = false := by
      cases lost with
      | false => rfl
      | true => have := hl rfl; cases this
    subst hlost
    clear hl
    have hx := HB.out.range x (by simp)
    have hr : ∀ y ∈ r, 0 ≤ y ∧ y < 256 := fun y hy => HB.out.range y (by simp [hy])
    have HR := hid hr
    obtain ⟨bl, off, c', hv, hcc, _, hcell⟩ := HB.out.inv (by simp)
    simp only [Value.slice.injEq, true_and] at hv
    obtain ⟨rfl, rfl⟩ := hv
    have hx0 : w.cell? ⟨bl, off, none⟩ = some (.int .u8 x) := by simpa using hcell 0 (by simp)
    have HCELL := hid hcell
    obtain ⟨n, hn⟩ : ∃ n, r.length = n := ⟨_, rfl⟩
    simp only [List.length_cons, hn] at hc0 hlen hcc
    have HN := hid hn
    have hn0 : ((n : Int) + 1 == 0) = false := by simp; omega
    obtain ⟨hx1, hx2⟩ := hx
    clear hcell hr hn
    go_enter Tryd.func33, Tryd.ntmps33
    go_wp2
    go_loop [5, 6, 7] (fun kk f bb => ∃ k : Nat, 1 ≤ k ∧ k ≤ 8 ∧ kk = .int .i64 k ∧ f = .int .i64 (x - M.mask k) ∧ bb = .int .i64 (2 ^ (8 - k)) ∧ M.mask k ≤ x) (fun kk _ _ => 8 - (intOf kk).toNat)
    case atStart => exact ⟨1, by omega, by omega, rfl, by simp [M.mask], by simp, by simpa [M.mask] using hx1⟩
    case round =>
      obtain ⟨k, hk1, hk8, rfl, rfl, rfl, hmk⟩ := hrel
      by_cases hgo : k ≤ 7 ∧ 2 ^ (8 - k) ≤ x - M.mask k
      · obtain ⟨hk7, hge⟩ := hgo
        have hmn := mask_next hk1 hk7
        have hms := mask_small hk1 hk7
        obtain ⟨B, hB⟩ : ∃ B : Int, 2 ^ (8 - k) = B := ⟨_, rfl⟩
        obtain ⟨m, hm⟩ : ∃ m, M.mask k = m := ⟨_, rfl⟩
        rw [hB, hm] at hmn hge ⊢
        rw [hm] at hmk hms
        have HMN := hid hmn
        have hB0 := hmn.2.2.1
        have hB1 := hmn.2.2.2
        obtain ⟨hm0, hm1⟩ := hms
        clear hmn hB hm
        go_wp2
        go_round
        case rel =>
          have hh := HMN.out
          exact ⟨k + 1, by omega, by omega, by go_num, by rw [← hh.1]; go_num, by rw [hh.2.1], by rw [← hh.1]; omega⟩
        case measure => simp [intOf]; omega
      · have hst := cnt_stop (k := k) hx1 hx2 hk1 hk8 hmk (by omega)
        by_cases hk8' : k = 8
        · subst hk8'
          have hf : M.first (x :: r) = none := by
            rw [first_cons rfl, if_pos (.inl (hst.1 rfl))]
          have HE := hid (numOk_none (most := most) hf)
          clear hf hst hgo
          go_wp2_with fail
          refine (reflose_any b _ _ _ HC.out).mono ?_
          rintro e w1 ⟨rfl, hc, hg⟩
          go_wp2
          go_ret
          rw [HE.out.1, HE.out.2.1, HE.out.2.2]
          exact ⟨rfl, hc, hg⟩
        · have hk7 : k ≤ 7 := by omega
          obtain ⟨hcnt, hn0⟩ := hst.2 hk7
          have hfc := first_cons (r := r) hcnt
          rw [HN.out] at hfc
          have hlow : ¬ 2 ^ (8 - k) ≤ x - M.mask k := by omega
          have hnb := n0_bound x k hk1 hx1 hx2
          have hfr := fold_right_k (x := x) hk1 hk7 HR.out
          rw [hn0] at hlow ⊢
          obtain ⟨n0, hn0'⟩ : ∃ n0, x % 2 ^ (8 - k) = n0 := ⟨_, rfl⟩
          rw [hn0'] at hlow hnb hfc hfr ⊢
          obtain ⟨B, hB⟩ : ∃ B : Int, 2 ^ (8 - k) = B := ⟨_, rfl⟩
          rw [hB] at hlow ⊢
          have HFC := hid hfc
          have HFR := hid hfr
          obtain ⟨hb0, hb1, hb2⟩ := hnb
          have HB2 := hid hb2
          clear hst hgo hcnt hn0 hn0' hB hfc hb2 hmk hfr
          by_cases hkn : n + 1 < k
          · have hf : M.first (x :: r) = none := by rw [HFC.out, if_pos (.inr hkn)]
            have HE := hid (numOk_none (most := most) hf)
            clear hf
            go_wp2_with fail
            refine (reflose_any b _ _ _ HC.out).mono ?_
            rintro e w1 ⟨rfl, hc, hg⟩
            go_wp2
            go_ret
            rw [HE.out.1, HE.out.2.1, HE.out.2.2]
            exact ⟨rfl, hc, hg⟩
          · go_wp2
            go_loop [8, 9] (fun m i => ∃ j : Nat, j ≤ k - 1 ∧ i = .int .i64 ((j : Int) + 1) ∧ m = .int .i64 (M.fold n0 (r.take j))) (fun _ i => k - (intOf i).toNat)
            case atStart => exact ⟨0, by omega, rfl, by simp [M.fold]⟩
            case round =>
              obtain ⟨j, hj, rfl, rfl⟩ := hrel
              by_cases hlt : j < k - 1
              · have hcj := HCELL.out (j + 1) (by have := HN.out; simp; omega)
                simp only [List.getD_cons_succ] at hcj
                have hsn : M.fold n0 (r.take (j + 1)) = M.fold n0 (r.take j) * 256 + r.getD j 0 := by
                  rw [List.take_succ_eq_append_getElem (by have := HN.out; omega), M.fold_snoc]
                  simp [List.getD, show j < r.length by have := HN.out; omega]
                have hxr : 0 ≤ r.getD j 0 ∧ r.getD j 0 < 256 := HR.out _ (by simp [List.getD, show j < r.length by have := HN.out; omega])
                have hNb := (fold_small n0 r j hb0 (by have := HB2.out; omega) HR.out (by omega)).2 (by omega)
                obtain ⟨y, hy⟩ : ∃ y, r.getD j 0 = y := ⟨_, rfl⟩
                rw [hy] at hcj hsn hxr
                obtain ⟨N, hN⟩ : ∃ N, M.fold n0 (r.take j) = N := ⟨_, rfl⟩
                rw [hN] at hsn hNb ⊢
                have HSN := hid hsn
                obtain ⟨hN0, hN1⟩ := hNb
                obtain ⟨hy0, hy1⟩ := hxr
                have hjt : ((j : Int) + 1).toNat = j + 1 := by omega
                clear hy hsn hN
                go_wp2
                go_round
                case rel => exact ⟨j + 1, by omega, by go_num, by rw [HSN.out]⟩
                case measure => simp [intOf]; omega
              · obtain rfl : j = k - 1 := by omega
                have hfr := HFR.out
                have hfc := HFC.out
                obtain ⟨N, hN⟩ : ∃ N, M.fold n0 (r.take (k - 1)) = N := ⟨_, rfl⟩
                rw [hN] at hfr hfc ⊢
                obtain ⟨hN0, hN1⟩ := hfr
                have hk1' : ((k - 1 : Nat) : Int) + 1 = (k : Int) := by omega
                rw [hk1']
                have HF := hid hfc
                clear hN hfc HFC HFR hk1'
                go_wp2_with fail
                refine (refput_right N _ hN0 hN1).mono ?_
                rintro e w1 ⟨g, rfl, _, b1⟩
                have HC1 := hid (HC.out.below b1)
                have hg1 : w.grownBy w1 (some b) := World.grownBy.of_below b1
                obtain ⟨a1, c1, hB1, hc01, hc11, hf01, hf11⟩ := HC1.out.cells
                have HBB := hid hB1
                obtain ⟨bl1, off1, c1', hv1, hcc1, _, _⟩ := hB1.inv (by simp)
                simp only [Value.slice.injEq, true_and] at hv1
                obtain ⟨rfl, rfl⟩ := hv1
                clear hB1 hc0 hc1 hf0 hf1 b1
                simp only [List.length_cons, HN.out] at hc01 hcc1
                by_cases hsz : M.sz N = k
                · by_cases hmost : most < N
                  · have hf : M.first (x :: r) = some (N, k) := by rw [HF.out, if_neg (by omega), if_pos hsz]
                    have HE := hid (numOk_above hf hmost)
                    have hsz' : ((M.sz N : Int) != (k : Int)) = false := by simp; omega
                    clear hf hsz
                    go_wp2_with fail
                    refine (reflose_any b _ _ _ HC1.out).mono ?_
                    rintro e w2 ⟨rfl, hc, hg⟩
                    go_wp2
                    go_ret
                    rw [HE.out.1, HE.out.2.1, HE.out.2.2]
                    exact ⟨rfl, hc, hg1.trans hg⟩
                  · have hf : M.first (x :: r) = some (N, k) := by rw [HF.out, if_neg (by omega), if_pos hsz]
                    have HE := hid (numOk_some hf (show N ≤ most by omega))
                    have hsz' : ((M.sz N : Int) != (k : Int)) = false := by simp; omega
                    have hD := Bs.drop HBB.out k (by have := HN.out; simp; omega)
                    have hs := HC1.out.set0 hD
                    simp only [List.length_cons, HN.out] at hs
                    have HS := hid hs
                    clear hf hsz hD hs
                    by_cases hcf : c1 = k
                    · subst hcf
                      go_wp2
                      go_ret
                      rw [HE.out.1, HE.out.2.1, HE.out.2.2]
                      have hs := HS.out
                      simp only [if_pos] at hs
                      rw [show n + 1 - c1 = 0 by omega, Nat.sub_self] at hs
                      exact ⟨rfl, hs.1, hg1.trans hs.2⟩
                    · go_wp2
                      go_ret
                      rw [HE.out.1, HE.out.2.1, HE.out.2.2]
                      have hs := HS.out
                      simp only [if_neg hcf, Option.map_some, Addr.add_lit] at hs
                      exact ⟨rfl, hs.1, hg1.trans hs.2⟩
                · have hf : M.first (x :: r) = none := by rw [HF.out, if_neg (by omega), if_neg hsz]
                  have HE := hid (numOk_none (most := most) hf)
                  have hsz' : ((M.sz N : Int) != (k : Int)) = true := by simp; omega
                  clear hf hsz
                  go_wp2_with fail
                  refine (reflose_any b _ _ _ HC1.out).mono ?_
                  rintro e w2 ⟨rfl, hc, hg⟩
                  go_wp2
                  go_ret
                  rw [HE.out.1, HE.out.2.1, HE.out.2.2]
                  exact ⟨rfl, hc, hg1.trans hg⟩

end Go.Proofs.YtmgemgkanlpnnaaDoor
