/-
  What a conversion of bytes to a text comes to, for all slices that read as bytes.
-/
import Derived.Test.YtmgemgkanlpnnaaDoorCells
import Derived.Test.YtmgemgkanlpnnaaDoorMath
import Derived.Laws.BytesString
namespace Go.Proofs.YtmgemgkanlpnnaaDoor
open Go.RowKit
set_option linter.unusedVariables false
set_option maxRecDepth 100000

/-- A conversion of bytes to a text. -/
theorem conv_str {w : World} {v : Value} {xs : List Int} (h : Bs w v xs) : (convert 22 9 v).run Tryd.prog w = .ok (.string (M.str xs)) w := by
  have h' := h
  obtain ⟨a, c, rfl, _⟩ := h
  rw [run_convert_bytes_string w 22 9 5 a xs.length c Tryd.underlying22 Tryd.underlying5 Tryd.underlying9]
  cases a with
  | none =>
    have hx : xs.length = 0 := by
      obtain ⟨a', c', h1, h2, _, h4, _⟩ := h'
      simp only [Value.slice.injEq] at h1
      have := h4 h1.1.symm
      omega
    have e1 : xs = [] := List.eq_nil_of_length_eq_zero hx
    subst e1
    rfl
  | some A =>
    have hl := run_loadCells_list (P := Tryd.prog) w A (cs xs) (cells_at h')
    rw [List.length_map] at hl
    rw [run_bytesToString w A xs.length c xs hl]
    rfl

end Go.Proofs.YtmgemgkanlpnnaaDoor
