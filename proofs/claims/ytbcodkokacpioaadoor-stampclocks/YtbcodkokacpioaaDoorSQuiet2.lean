/-
  Regions whose order is drawn: operations that their guards leave out.
-/
import Derived.Test.YtbcodkokacpioaaDoorSQuiet
namespace Go.Proofs.YtbcodkokacpioaaDoor
open Go.RowKit
set_option linter.unusedVariables false

section
variable {P : Program} {ops : Array Oper} {C : World → Prop} {Q : Act → Prop} {a : Act} {l : List Oper}
/-- The first n operations ahead of a tail that is not looked at. -/
theorem wpQuiet_split (n : Nat) (h : ∀ R, l.drop n = R → wpQuiet P ops C Q (l.take n ++ R) a) : wpQuiet P ops C Q l a := by
  have := h _ rfl
  rwa [List.take_append_drop] at this
/-- Operations that their guards leave out; their slots are empty as they were. -/
theorem wpQuiet_over : ∀ (l : List Oper) (n : Nat), (∀ o ∈ l.take n, Region.wanted o (yielded ops a.tmps) = false ∧ a.put o.dst undef = a) → wpQuiet P ops C Q (l.drop n) a → wpQuiet P ops C Q l a
  | l, 0, _, h => h
  | [], n + 1, _, h => by simpa using h
  | o :: l, n + 1, h0, h => by
    obtain ⟨h1, h2⟩ := h0 o (by simp)
    refine BigFrame.wpQuiet_skip h1 ?_
    rw [h2]
    exact wpQuiet_over l n (fun o' ho => h0 o' (by simp [ho])) h
theorem wpQuiet_over2 {R : List Oper} (n : Nat) (hR : l = R) (h0 : ∀ o ∈ l.take n, Region.wanted o (yielded ops a.tmps) = false ∧ a.put o.dst undef = a)
    (h : ∀ R2, l.drop n = R2 → wpQuiet P ops C Q R2 a) : wpQuiet P ops C Q R a := by
  subst hR
  exact wpQuiet_over l n h0 (h _ rfl)
end

end Go.Proofs.YtbcodkokacpioaaDoor
