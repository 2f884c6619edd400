/-
  What RightOp, RightStamp and rightReplica answer is proved here, of the program and of the reference, for all names and stamps.
-/
import Derived.Test.YtmgemgkanlpnnaaDoorRows
import Derived.Test.YtmgemgkanlpnnaaDoorMem
namespace Go.Proofs.YtmgemgkanlpnnaaDoor
open Go.RowKit
set_option linter.unusedVariables false
set_option maxRecDepth 100000

/-- A name, a stamp as values (two numbers). -/
abbrev idv (r n : Int) : Value := .agg #[.int .i64 r, .int .i64 n]
abbrev ido (T : Nat) (r n : Int) : Obj := .cells #[.int .i64 r, .int .i64 n] T
/-- A replica; an op's name; a stamp that is right. -/
def rr (r : Int) : Bool := decide (0 ≤ r ∧ r < 16)
def ro (r n : Int) : Bool := decide (0 ≤ r ∧ r < 16 ∧ 1 ≤ n ∧ n ≤ 1048576)
def rs (t r : Int) : Bool := decide (0 ≤ r ∧ r < 16 ∧ 1 ≤ t ∧ t ≤ 1099511627776)

theorem retb {a b : Bool} (h : a = true ↔ b = true) : Ending.returned (.bool a) = .returned (.bool b) := by rw [Bool.eq_iff_iff.2 h]

theorem rr_any (r : Int) (w : World) : Calls Tryd.prog 76 #[.int .i64 r] w fun e w' => e = .returned (.bool (rr r)) ∧ w = w' := by
  obtain ⟨b, hb⟩ : ∃ b, rr r = b := ⟨_, rfl⟩
  rw [hb]
  have HB := hid hb
  clear hb
  cases h0 : decide (0 ≤ r)
  all_goals
    go_enter Tryd.func76, Tryd.ntmps76
    go_wp2
    go_ret
    refine ⟨retb ?_, rfl⟩
    rw [← HB.out]
    simp at h0
    simp [rr]
    try omega

theorem ro_any (r n : Int) (w : World) : Calls Tryd.prog 46 #[idv r n] w fun e w' => e = .returned (.bool (ro r n)) ∧ w' = w.alloc (ido 25 r n) := by
  obtain ⟨b, hb⟩ : ∃ b, ro r n = b := ⟨_, rfl⟩
  rw [hb]
  have HB := hid hb
  clear hb
  cases hr : rr r
  all_goals cases h0 : decide (1 ≤ n)
  all_goals
    have HR := hid hr
    go_enter Tryd.func46, Tryd.ntmps46
    go_wp2_with (go_at_call 76; refine (rr_any r _).mono ?_; rintro e w' ⟨rfl, rfl⟩; rw [hr])
    go_ret
    refine ⟨retb ?_, rfl⟩
    rw [← HB.out]
    have := HR.out
    simp [rr] at this h0
    simp [ro]
    try omega

theorem rs_any (t r : Int) (w : World) : Calls Tryd.prog 47 #[idv t r] w fun e w' => e = .returned (.bool (rs t r)) ∧ w' = w.alloc (ido 83 t r) := by
  obtain ⟨b, hb⟩ : ∃ b, rs t r = b := ⟨_, rfl⟩
  rw [hb]
  have HB := hid hb
  clear hb
  cases hr : rr r
  all_goals cases h0 : decide (1 ≤ t)
  all_goals
    have HR := hid hr
    go_enter Tryd.func47, Tryd.ntmps47
    go_wp2_with (go_at_call 76; refine (rr_any r _).mono ?_; rintro e w' ⟨rfl, rfl⟩; rw [hr])
    go_ret
    refine ⟨retb ?_, rfl⟩
    rw [← HB.out]
    have := HR.out
    simp [rr] at this h0
    simp [rs]
    try omega

theorem xro_any (r n : Int) (w : World) : Calls Tryd.prog 62 #[idv r n] w fun e w' => e = .returned (.bool (ro r n)) ∧ w' = w.alloc (ido 25 r n) := by
  obtain ⟨b, hb⟩ : ∃ b, ro r n = b := ⟨_, rfl⟩
  rw [hb]
  have HB := hid hb
  clear hb
  cases h0 : decide (0 ≤ r)
  all_goals cases h1 : decide (r ≤ 15)
  all_goals cases h2 : decide (1 ≤ n)
  all_goals
    go_enter Tryd.func62, Tryd.ntmps62
    go_wp2
    go_ret
    refine ⟨retb ?_, rfl⟩
    rw [← HB.out]
    simp at h0 h1 h2
    simp [ro]
    try omega

end Go.Proofs.YtmgemgkanlpnnaaDoor
