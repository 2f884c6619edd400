/-
  What the reference's Right and Texts answer is proved here, for all texts of at most 2^40 bytes.
-/
import Derived.Test.YtobnnidlpbnbkaaFAsk
namespace Go.Proofs.Ytobnnidlpbnbkaa
open Go.RowKit
set_option linter.unusedVariables false

theorem xright_any (s : ByteArray) (w : World) (hs : s.size ≤ 1099511627776) : Calls Try.prog 11 #[.string s] w fun e w' => e = .returned (.bool (K.right (tx s))) ∧ w = w' := by
  by_cases h1 : s.size < 1
  · rw [right_no s (.inl h1)]
    have h1'' : s.size = 0 := by omega
    go_enter Try.func11, Try.ntmps11
    go_wp2
    go_ret
    exact ⟨rfl, rfl⟩
  · by_cases h2 : 32 < s.size
    · rw [right_no s (.inr h2)]
      have h1' : 1 ≤ s.size := by omega
      go_enter Try.func11, Try.ntmps11
      go_wp2
      go_ret
      exact ⟨rfl, rfl⟩
    · obtain ⟨k, hk⟩ : ∃ k, s.size = k + 1 := ⟨s.size - 1, by omega⟩
      have hks : k < s.size := by omega
      rw [right_tx s k hk (by omega) hks]
      have h1' : 1 ≤ s.size := by omega
      have h2' : s.size ≤ 32 := by omega
      go_enter Try.func11, Try.ntmps11
      go_wp2
      go_ret
      exact ⟨rfl, rfl⟩

theorem drew3 (w : World) (m a b : Nat) : ((w.drewN m).drewN a).drewN b = w.drewN (m + a + b) := by simp [Nat.add_assoc]

set_option maxHeartbeats 2000000 in
theorem texts_any (s t : ByteArray) (w : World) (hs : s.size ≤ 1099511627776) (ht : t.size ≤ 1099511627776) :
    Calls Try.prog 13 #[.string s, .string t] w fun e w' => e = .returned (.int .i64 (K.ord (tx s) (tx t))) ∧ ∃ m, w' = w.drewN m := by
  obtain ⟨R, hR⟩ : ∃ R, K.ord (tx s) (tx t) = R := ⟨_, rfl⟩
  rw [hR]
  have HR := hid hR
  clear hR
  go_enter Try.func13, Try.ntmps13
  go_wp2
  go_loopw [5] (fun ii wr => ∃ k m : Nat, k ≤ s.size ∧ k ≤ t.size ∧ ii = .int .i64 k ∧ wr = w.drewN m ∧ K.ord ((tx s).drop k) ((tx t).drop k) = R) (fun ii _ => s.size + 1 - (intOf ii).toNat)
  case atStart => exact ⟨0, 0, Nat.zero_le _, Nat.zero_le _, rfl, rfl, HR.out⟩
  case round =>
    clear HR
    obtain ⟨k, m, hk1, hk2, rfl, rfl, hR⟩ := hrel
    by_cases h1 : k < s.size
    · by_cases h2 : k < t.size
      · rw [tx_drop h1, tx_drop h2] at hR
        obtain ⟨x, hx⟩ : ∃ x, (s[k]).toNat = x := ⟨_, rfl⟩
        obtain ⟨y, hy⟩ : ∃ y, (t[k]).toNat = y := ⟨_, rfl⟩
        rw [hx, hy] at hR
        have HR := hid hR
        clear hR
        have h1' : (k : Int) < (s.size : Int) := by omega
        have h2' : (k : Int) < (t.size : Int) := by omega
        by_cases hxy : x = y
        · subst hxy
          have hR := HR.out
          rw [K.ord_same] at hR
          have HR2 := hid hR
          clear hR HR
          have hne : ((x : Int) != (x : Int)) = false := by simp
          go_wp2
          go_quiet (fail)
          go_wp2
          go_roundw
          case rel => exact ⟨k + 1, _, by omega, by omega, by go_num, rfl, HR2.out⟩
          case measure => simp [intOf]; omega
        · have hne : ((x : Int) != (y : Int)) = true := by simp; omega
          by_cases hlt : x < y
          · have hR := HR.out
            rw [K.ord_less (by omega)] at hR
            subst hR
            clear HR
            have hl' : decide ((x : Int) < (y : Int)) = true := by simp; omega
            go_wp2
            go_quiet (fail)
            go_wp2
            go_quiet (fail)
            go_wp2
            go_ret
            exact ⟨rfl, _, drew3 _ _ _ _⟩
          · have hR := HR.out
            rw [K.ord_more (by omega)] at hR
            subst hR
            clear HR
            have hl' : decide ((x : Int) < (y : Int)) = false := by simp; omega
            go_wp2
            go_quiet (fail)
            go_wp2
            go_quiet (fail)
            go_wp2
            go_ret
            exact ⟨rfl, _, drew3 _ _ _ _⟩
      · obtain rfl : k = t.size := by omega
        rw [tx_past (Nat.le_refl t.size), tx_drop h1] at hR
        have hR' : R = 1 := by rw [← hR]; rfl
        subst hR'
        clear hR
        have h2' : decide (t.size < t.size) = false := by simp
        have h3 : decide (s.size < t.size) = false := by simp; omega
        go_wp2
        go_ret
        exact ⟨rfl, _, rfl⟩
    · obtain rfl : k = s.size := by omega
      rw [tx_past (Nat.le_refl s.size)] at hR
      have h1' : decide (s.size < s.size) = false := by simp
      by_cases h3 : s.size < t.size
      · rw [tx_drop h3] at hR
        have hR' : R = -1 := by rw [← hR]; rfl
        subst hR'
        clear hR
        go_wp2
        go_ret
        exact ⟨rfl, _, rfl⟩
      · have h4 : decide (s.size < t.size) = false := by simp; omega
        have h5 : decide (t.size < s.size) = false := by simp; omega
        rw [tx_past (by omega)] at hR
        have hR' : R = 0 := by rw [← hR]; rfl
        subst hR'
        clear hR
        go_wp2
        go_ret
        exact ⟨rfl, _, rfl⟩

end Go.Proofs.Ytobnnidlpbnbkaa
