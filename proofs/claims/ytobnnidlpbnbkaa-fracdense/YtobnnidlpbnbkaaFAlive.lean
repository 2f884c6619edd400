/-
  That offshootlaw04.alive returns true is proved here. No condition.
-/
import Derived.Test.YtobnnidlpbnbkaaFRow
namespace Go.Proofs.Ytobnnidlpbnbkaa
open Go.RowKit
set_option linter.unusedVariables false

theorem key1 (w : World) : Calls Try.prog 8 #[.string ⟨#[]⟩, .string ⟨#[]⟩] w fun e w' => e = .returned (.tuple #[.string ⟨#[8]⟩, .int .i64 0]) ∧ Below w.heap.size w w' := by
  have := between_any ⟨#[]⟩ ⟨#[]⟩ w (Nat.zero_le _) (Nat.zero_le _)
  rw [show K.key (tx ⟨#[]⟩) (tx ⟨#[]⟩) = some [8] by decide +kernel] at this
  exact this
theorem key2 (w : World) : Calls Try.prog 8 #[.string ⟨#[8]⟩, .string ⟨#[9]⟩] w fun e w' => e = .returned (.tuple #[.string ⟨#[8, 8]⟩, .int .i64 0]) ∧ Below w.heap.size w w' := by
  have := between_any ⟨#[8]⟩ ⟨#[9]⟩ w (by decide) (by decide)
  rw [show K.key (tx ⟨#[8]⟩) (tx ⟨#[9]⟩) = some [8, 8] by decide +kernel] at this
  exact this
theorem key3 (w : World) : Calls Try.prog 8 #[.string ⟨#[98]⟩, .string ⟨#[97]⟩] w fun e w' => e = .returned (.tuple #[.string ⟨#[]⟩, .int .i64 15]) ∧ Below w.heap.size w w' := by
  have := between_any ⟨#[98]⟩ ⟨#[97]⟩ w (by decide) (by decide)
  rw [show K.key (tx ⟨#[98]⟩) (tx ⟨#[97]⟩) = none by decide +kernel] at this
  exact this
theorem right8 (w : World) : Calls Try.prog 10 #[.string ⟨#[8]⟩] w fun e w' => e = .returned (.bool true) ∧ w = w' := by
  have := right_any ⟨#[8]⟩ w (by decide)
  rw [show K.right (tx ⟨#[8]⟩) = true by decide +kernel] at this
  exact this

set_option maxHeartbeats 1000000 in
theorem alive_any (w : World) : Calls Try.prog 7 #[] w fun e w' => e = .returned (.bool true) ∧ Below w.heap.size w w' := by
  go_enter Try.func7, Try.ntmps7
  go_wp2_with fail
  refine (key1 _).mono ?_
  rintro e w1 ⟨rfl, b1⟩
  go_wp2_with fail
  refine (key2 _).mono ?_
  rintro e w2 ⟨rfl, b2⟩
  go_wp2_with fail
  refine (key3 _).mono ?_
  rintro e w3 ⟨rfl, b3⟩
  go_wp2_with fail
  refine (right8 _).mono ?_
  rintro e w4 ⟨rfl, rfl⟩
  go_wp2_with fail
  refine (row_some 3 _ (by decide)).mono ?_
  rintro e w5 ⟨v, rfl, hown, b5⟩
  obtain ⟨a, c, rfl, _⟩ := own_form hown
  have B := hid (bt b1 (bt b2 (bt b3 b5)))
  clear hown b1 b2 b3 b5
  go_wp2
  go_ret
  exact ⟨rfl, B.out⟩

end Go.Proofs.Ytobnnidlpbnbkaa
