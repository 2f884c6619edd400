/-
  That offshootref00.SameBytes tells whether two lists of bytes are one is proved here, for all slices that read as bytes.
-/
import Derived.Test.YtmgemgkanlpnnaaDoorRows
import Derived.Test.YtmgemgkanlpnnaaDoorMem
import Derived.Deep.QuietTactic
import Derived.BigQuiet
namespace Go.Proofs.YtmgemgkanlpnnaaDoor
open Go.RowKit
set_option linter.unusedVariables false
set_option maxRecDepth 100000

theorem take_step {xs ys : List Int} {k : Nat} (h1 : k < xs.length) (h2 : k < ys.length) (h : xs.take k = ys.take k) (he : xs.getD k 0 = ys.getD k 0) : xs.take (k + 1) = ys.take (k + 1) := by
  rw [List.take_succ_eq_append_getElem h1, List.take_succ_eq_append_getElem h2, h]
  simp [List.getD, h1, h2] at he
  rw [he]
theorem not_eq_of_at {xs ys : List Int} {k : Nat} (he : xs.getD k 0 ≠ ys.getD k 0) : xs ≠ ys := by
  intro e; exact he (by rw [e])

set_option maxHeartbeats 1000000 in
theorem same_any (a b : Value) (xs ys : List Int) (w : World) (h1 : Bs w a xs) (h2 : Bs w b ys) :
    Calls Tryd.prog 18 #[a, b] w fun e w' => e = .returned (.bool (decide (xs = ys))) ∧ ∃ n, w' = w.drewN n := by
  have l1 := h1.len
  have l2 := h2.len
  unfold maxLen at l1 l2
  by_cases hl : xs.length = ys.length
  · by_cases hz : xs.length = 0
    · have e1 : xs = [] := List.eq_nil_of_length_eq_zero hz
      have e2 : ys = [] := List.eq_nil_of_length_eq_zero (by omega)
      subst e1 e2
      obtain ⟨a1, c1, rfl, _⟩ := h1.inv_nil
      obtain ⟨a2, c2, rfl, _⟩ := h2.inv_nil
      clear h1 h2 l1 l2 hl hz
      go_enter Tryd.func18, Tryd.ntmps18
      go_wp2
      refine wp_loop_rounds 1 ?_
      rw [rounds_succ]
      go_wp2
      go_ret
      exact ⟨rfl, 0, rfl⟩
    · obtain ⟨b1, o1, c1, rfl, _, _, hc1⟩ := h1.inv (by omega)
      obtain ⟨b2, o2, c2, rfl, _, _, hc2⟩ := h2.inv (by omega)
      rw [← hl]
      obtain ⟨n, hn⟩ : ∃ n, xs.length = n := ⟨_, rfl⟩
      have HL : Hid (ys.length = n) := by rw [← hl]; exact hn
      have HN : Hid (xs.length = n) := hn
      rw [hn]
      rw [hn] at hz l1
      clear hn hl h1 h2
      have hnn : ((n : Int) != (n : Int)) = false := by simp
      go_enter Tryd.func18, Tryd.ntmps18
      go_wp2
      go_loopw [5] (fun i wr => ∃ k m : Nat, k ≤ n ∧ i = .int .i64 k ∧ wr = w.drewN m ∧ xs.take k = ys.take k) (fun i _ => n - (intOf i).toNat)
      case atStart => exact ⟨0, 0, Nat.zero_le _, rfl, rfl, by simp⟩
      case round =>
        obtain ⟨k, m, hk, rfl, rfl, ht⟩ := hrel
        have HT := hid ht
        clear ht
        by_cases hlt : k < n
        · have g1 := hc1 k (by have := HN.out; omega)
          have g2 := hc2 k (by have := HL.out; omega)
          clear hc1 hc2
          have b1' : (k : Int) < (n : Int) := by omega
          go_wp2
          go_quiet (fail)
          by_cases he : xs.getD k 0 = ys.getD k 0
          · have he' : (xs[k]?.getD 0 != ys[k]?.getD 0) = false := by simpa [List.getD] using he
            have HE := hid he
            clear he
            go_wp2
            go_roundw
            case rel => exact ⟨k + 1, _, by omega, by go_num, rfl, take_step (by have := HN.out; omega) (by have := HL.out; omega) HT.out HE.out⟩
            case measure => simp [intOf]; omega
          · have he' : (xs[k]?.getD 0 != ys[k]?.getD 0) = true := by simpa [List.getD] using he
            have HE := hid he
            clear he
            go_wp2
            go_ret
            exact ⟨by rw [decide_eq_false (not_eq_of_at HE.out)]; rfl, _, World.drewN_drewN _ _ _⟩
        · clear hc1 hc2
          go_wp2
          go_ret
          refine ⟨?_, _, rfl⟩
          have e1 : k = n := by omega
          have h3 := HT.out
          rw [List.take_of_length_le (by have := HN.out; omega), List.take_of_length_le (by have := HL.out; omega)] at h3
          rw [decide_eq_true h3]; rfl
  · have hne : ((xs.length : Int) != (ys.length : Int)) = true := by simp; omega
    obtain ⟨a1, c1, rfl, _⟩ := h1
    obtain ⟨a2, c2, rfl, _⟩ := h2
    go_enter Tryd.func18, Tryd.ntmps18
    go_wp2
    go_ret
    exact ⟨by rw [decide_eq_false (by intro e; exact hl (by rw [e]))]; rfl, 0, rfl⟩


theorem same_b (a b : Value) (xs ys : List Int) (w : World) (h1 : Bs w a xs) (h2 : Bs w b ys) :
    Calls Tryd.prog 18 #[a, b] w fun e w' => e = .returned (.bool (decide (xs = ys))) ∧ Below w.heap.size w w' :=
  (same_any a b xs ys w h1 h2).mono fun _ _ ⟨he, n, hw⟩ => ⟨he, by rw [hw]; exact bd w n⟩

end Go.Proofs.YtmgemgkanlpnnaaDoor
