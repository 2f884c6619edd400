/-
  Operations of a region whose order is drawn, where a call may make new memory: each yields one value in every world of a class.
-/
import Derived.Test.YtbcodkokacpioaaDoorSRes
import Derived.BigQuiet
namespace Go.Proofs.YtbcodkokacpioaaDoor
open Go.RowKit
set_option linter.unusedVariables false

section
variable {P : Program} {o : Oper} {a : Act} {C : World → Prop} {K : Act → Prop}
theorem q_call {f : FuncId} {args : Array Value} (v : Value) (hrun : ∀ W, (execOp a.eval o).run P W = .ok (.enter f args) W)
    (hc : ∀ W, C W → Calls P f args W fun e W' => e = .returned v ∧ C W') (hk : K (a.put o.dst v)) : o.quiet P a C K :=
  ⟨v, fun W hW => by unfold Oper.quietAt; rw [hrun]; exact ⟨rfl, hc W hW⟩, hk⟩
theorem q_val (v : Value) (hrun : ∀ W, C W → (execOp a.eval o).run P W = .ok (.value v) W) (hk : K (a.put o.dst v)) : o.quiet P a C K :=
  ⟨v, fun W hW => by unfold Oper.quietAt; rw [hrun W hW]; exact ⟨rfl, rfl⟩, hk⟩
theorem wp_region_class {ops : List Oper} {id : Nat} {Q : Exit → Act → World → Prop} {w : World} (hm : P.follows .mixedOrders = true) (hB : Region.lexB .any ops.toArray = true) (hC : C w.drew)
    (h : wpQuiet P ops.toArray C (fun a' => ∀ w', C w' → Q .normal a' w') ops a) : (Code.region id ops.toArray true).wp P Q a w :=
  wp_region_quiet (C := C) hm hB hC (by simpa using h)
end

end Go.Proofs.YtbcodkokacpioaaDoor
