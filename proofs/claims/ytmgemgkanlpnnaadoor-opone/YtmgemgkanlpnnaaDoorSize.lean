/-
  What num.bound and num.size return is proved here, for counts from 1 to 7 and numbers from 0 on.
-/
import Derived.Test.YtmgemgkanlpnnaaDoorRows
import Derived.Test.YtmgemgkanlpnnaaDoorMath
import Derived.WalkKit
import Derived.WalkSpells
import Derived.WalkLawsBesides
namespace Go.Proofs.YtmgemgkanlpnnaaDoor
open Go.RowKit
set_option linter.unusedVariables false
set_option maxRecDepth 100000

set_option maxHeartbeats 400000 in
theorem bound_any (c : Int) (w : World) (h1 : 1 ≤ c) (h7 : c ≤ 7) :
    Calls Tryd.prog 85 #[.int .i64 c] w fun e w' => e = .returned (.int .i64 (M.bd c.toNat)) ∧ w = w' := by
  have : c = 1 ∨ c = 2 ∨ c = 3 ∨ c = 4 ∨ c = 5 ∨ c = 6 ∨ c = 7 := by omega
  rcases this with rfl | rfl | rfl | rfl | rfl | rfl | rfl
  all_goals
    go_enter Tryd.func85, Tryd.ntmps85
    go_wp2
    go_ret
    exact ⟨rfl, rfl⟩


set_option maxHeartbeats 1000000 in
theorem size_any (n : Int) (w : World) (h0 : 0 ≤ n) :
    Calls Tryd.prog 84 #[.int .i64 n] w fun e w' => e = .returned (.int .i64 (M.sz n)) ∧ w = w' := by
  go_enter Tryd.func84, Tryd.ntmps84
  go_wp2
  go_loop [3] (fun c => ∃ k : Nat, 1 ≤ k ∧ k ≤ 7 ∧ c = .int .i64 k ∧ (k = 1 ∨ M.bd (k - 1) ≤ n)) (fun c => 7 - (intOf c).toNat)
  case atStart => exact ⟨1, by omega, by omega, rfl, .inl rfl⟩
  case round =>
    obtain ⟨k, hk1, hk7, rfl, hb⟩ := hrel
    by_cases h7 : k < 7
    · by_cases hn : M.bd k ≤ n
      · have hB : M.bd (k : Int).toNat = M.bd k := by simp
        go_wp2_with (go_at_call 85; refine (bound_any _ _ (by omega) (by omega)).mono ?_; rintro e w' ⟨rfl, rfl⟩)
        go_round
        case rel => exact ⟨k + 1, by omega, by omega, by go_num, .inr (by simpa using hn)⟩
        case measure => simp [intOf]; omega
      · have hB : M.bd (k : Int).toNat = M.bd k := by simp
        have HB : Hid (k = 1 ∨ M.bd (k - 1) ≤ n) := hb
        clear hb
        go_wp2_with (go_at_call 85; refine (bound_any _ _ (by omega) (by omega)).mono ?_; rintro e w' ⟨rfl, rfl⟩)
        go_ret
        refine ⟨?_, rfl⟩
        rw [M.sz_of hk1 (by omega) HB.out (.inr (by omega))]; rfl
    · obtain rfl : k = 7 := by omega
      have HB : Hid (7 = 1 ∨ M.bd (7 - 1) ≤ n) := hb
      clear hb
      go_wp2_with (go_at_call 85; refine (bound_any _ _ (by omega) (by omega)).mono ?_; rintro e w' ⟨rfl, rfl⟩)
      go_ret
      refine ⟨?_, rfl⟩
      rw [M.sz_of (by omega) (by omega) HB.out (.inl rfl)]; rfl

end Go.Proofs.YtmgemgkanlpnnaaDoor
