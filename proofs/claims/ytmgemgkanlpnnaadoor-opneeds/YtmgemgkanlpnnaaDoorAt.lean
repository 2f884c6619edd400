/-
  What num.At returns is proved here, for all slices that read as bytes, of at most 2^47 of them: a cursor over a copy.
-/
import Derived.Test.YtmgemgkanlpnnaaDoorClone
namespace Go.Proofs.YtmgemgkanlpnnaaDoor
open Go.RowKit
set_option linter.unusedVariables false
set_option maxRecDepth 100000

set_option maxHeartbeats 400000 in
theorem at_fresh (v : Value) (xs : List Int) (w : World) (h : Bs w v xs) (hn : xs.length ≤ 140737488355328) :
    Calls Tryd.prog 27 #[v] w fun e w' => ∃ b, e = .returned (.pointer (some ⟨b, 0, none⟩)) ∧ w.heap.size ≤ b ∧ Below w.heap.size w w' ∧
      ∃ v', w'.heap[b]? = some (.cells #[v', .bool false] 94 (0, 0)) ∧ Bs w' v' xs ∧ Fresh w.heap.size v' := by
  go_enter Tryd.func27, Tryd.ntmps27
  go_wp2_with fail
  refine (clone_fresh v xs _ h hn).mono ?_
  rintro e w1 ⟨v', rfl, hB, hb, hF⟩
  have hB' := hB
  obtain ⟨a, c, rfl, _⟩ := hB
  go_wp2
  go_ret
  have ha : Below w1.heap.size w1 (w1.alloc (.cells #[.slice a xs.length c, .bool false] 94)) := (Below.refl _ _).alloc (Nat.le_refl _) _
  exact ⟨w1.heap.size, rfl, hb.size, hb.trans (ha.mono hb.size), _, heap_alloc_new w1 _, hB'.below ha, hF⟩

theorem at_any (v : Value) (xs : List Int) (w : World) (h : Bs w v xs) (hn : xs.length ≤ 140737488355328) :
    Calls Tryd.prog 27 #[v] w fun e w' => ∃ b, e = .returned (.pointer (some ⟨b, 0, none⟩)) ∧ w.heap.size ≤ b ∧ Cur 94 w' b xs false ∧ Below w.heap.size w w' :=
  (at_fresh v xs w h hn).mono fun _ _ ⟨b, he, h1, h2, v', h3, h4, _⟩ => ⟨b, he, h1, ⟨v', h3, h4⟩, h2⟩

end Go.Proofs.YtmgemgkanlpnnaaDoor
