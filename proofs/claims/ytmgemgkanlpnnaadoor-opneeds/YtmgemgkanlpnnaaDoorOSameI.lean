/-
  That offshootref00.SameIds tells whether two lists of names are one is proved here.
-/
import Derived.Test.YtmgemgkanlpnnaaDoorOSl
import Derived.BigQuiet
namespace Go.Proofs.YtmgemgkanlpnnaaDoor
open Go.RowKit
set_option linter.unusedVariables false
set_option maxRecDepth 100000

theorem take_step_id {xs ys : List (Int × Int)} {k : Nat} (h1 : k < xs.length) (h2 : k < ys.length) (h : xs.take k = ys.take k) (he : xs[k] = ys[k]) : xs.take (k + 1) = ys.take (k + 1) := by
  rw [List.take_succ_eq_append_getElem h1, List.take_succ_eq_append_getElem h2, h, he]

set_option maxHeartbeats 2000000 in
theorem sameids_any (a b : Value) (xs ys : List (Int × Int)) (w : World) (h1 : Ns w a xs) (h2 : Ns w b ys) :
    Calls Tryd.prog 24 #[a, b] w fun e w' => e = .returned (.bool (decide (xs = ys))) ∧ ∃ n, w' = w.drewN n := by
  have l1 := h1.len
  have l2 := h2.len
  unfold maxLen at l1 l2
  by_cases hl : xs.length = ys.length
  · by_cases hz : xs.length = 0
    · have e1 : xs = [] := List.eq_nil_of_length_eq_zero hz
      have e2 : ys = [] := List.eq_nil_of_length_eq_zero (by omega)
      subst e1 e2
      obtain ⟨a1, c1, rfl, _⟩ := h1.form
      obtain ⟨a2, c2, rfl, _⟩ := h2.form
      clear h1 h2 l1 l2 hl hz
      go_enter Tryd.func24, Tryd.ntmps24
      go_wp2
      refine wp_loop_rounds 1 ?_
      rw [rounds_succ]
      go_wp2
      go_ret
      exact ⟨rfl, 0, rfl⟩
    · obtain ⟨b1, o1, c1, rfl, _, _, _, hc1⟩ := h1.inv (by omega)
      obtain ⟨b2, o2, c2, rfl, _, _, _, hc2⟩ := h2.inv (by omega)
      rw [← hl]
      obtain ⟨n, hn⟩ : ∃ n, xs.length = n := ⟨_, rfl⟩
      have HL : Hid (ys.length = n) := by rw [← hl]; exact hn
      have HN : Hid (xs.length = n) := hn
      rw [hn]
      rw [hn] at hz l1
      clear hn hl h1 h2
      have hnn : ((n : Int) != (n : Int)) = false := by simp
      have HC1 := hid hc1
      have HC2 := hid hc2
      clear hc1 hc2
      go_enter Tryd.func24, Tryd.ntmps24
      go_wp2
      go_loopw [5] (fun i wr => ∃ k m : Nat, k ≤ n ∧ i = .int .i64 k ∧ wr = w.drewN m ∧ xs.take k = ys.take k) (fun i _ => n - (intOf i).toNat)
      case atStart => exact ⟨0, 0, Nat.zero_le _, rfl, rfl, by simp⟩
      case round =>
        obtain ⟨k, m, hk, rfl, rfl, ht⟩ := hrel
        have HT := hid ht
        clear ht
        by_cases hlt : k < n
        · have hx : k < xs.length := by have := HN.out; omega
          have hy : k < ys.length := by have := HL.out; omega
          obtain ⟨g1, g2⟩ := HC1.out k hx
          obtain ⟨g3, g4⟩ := HC2.out k hy
          obtain ⟨⟨p1, p2⟩, hp⟩ : ∃ p, xs[k] = p := ⟨_, rfl⟩
          obtain ⟨⟨q1, q2⟩, hq⟩ : ∃ p, ys[k] = p := ⟨_, rfl⟩
          rw [hp] at g1 g2
          rw [hq] at g3 g4
          have HP := hid hp
          have HQ := hid hq
          clear hp hq
          dsimp only at g1 g2 g3 g4
          have b1' : (k : Int) < (n : Int) := by omega
          by_cases e1 : p1 = q1
          · subst e1
            by_cases e2 : p2 = q2
            · subst e2
              go_wp2
              go_quiet (fail)
              go_wp2
              go_roundw
              case rel => exact ⟨k + 1, _, by omega, by go_num, rfl, take_step_id hx hy HT.out (by rw [HP.out, HQ.out])⟩
              case measure => simp [intOf]; omega
            · have e2' : (p2 == q2) = false := by simpa using e2
              go_wp2
              go_quiet (fail)
              go_wp2
              go_ret
              refine ⟨?_, _, World.drewN_drewN _ _ _⟩
              rw [decide_eq_false (fun h => e2 (by have := HP.out; subst h; rw [HQ.out] at this; simp at this; exact this.symm))]
              rfl
          · have e1' : (p1 == q1) = false := by simpa using e1
            go_wp2
            go_quiet (fail)
            go_wp2
            go_ret
            refine ⟨?_, _, World.drewN_drewN _ _ _⟩
            rw [decide_eq_false (fun h => e1 (by have := HP.out; subst h; rw [HQ.out] at this; simp at this; exact this.1.symm))]
            rfl
        · go_wp2
          go_ret
          refine ⟨?_, _, rfl⟩
          have e1 : k = n := by omega
          have h3 := HT.out
          rw [List.take_of_length_le (by have := HN.out; omega), List.take_of_length_le (by have := HL.out; omega)] at h3
          rw [decide_eq_true h3]; rfl
  · have hne : ((xs.length : Int) != (ys.length : Int)) = true := by simp; omega
    obtain ⟨a1, c1, rfl, _⟩ := h1.form
    obtain ⟨a2, c2, rfl, _⟩ := h2.form
    clear h1 h2
    go_enter Tryd.func24, Tryd.ntmps24
    go_wp2
    go_ret
    exact ⟨by rw [decide_eq_false (by intro e; exact hl (by rw [e]))]; rfl, 0, rfl⟩

end Go.Proofs.YtmgemgkanlpnnaaDoor
