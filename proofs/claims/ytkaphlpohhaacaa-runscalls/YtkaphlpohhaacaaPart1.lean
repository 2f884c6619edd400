/-
  Parts of the proof, one behind the other; what each proves stands at its head.
-/
import Derived.Test.YtkaphlpohhaacaaRows
import Derived.WalkKit
import Derived.BigQuiet
import Derived.RegionTactic
import Derived.OrdersHeld

/-
  Steps of regions whose order is drawn, each operation by what it comes to: for regions that are laid as definitions.
-/
namespace Go.Proofs.Ytkaphlpohhaacaa
open Go.RowKit
set_option linter.unusedVariables false
set_option linter.unusedSimpArgs false
set_option maxRecDepth 100000

section
variable {P : Program} {ops : Array Oper} {C : World → Prop} {Q : Act → Prop} {o : Oper} {rest : List Oper} {a : Act}
end
section
variable {P : Program} {md : Region.Mode} {ops : Array Oper} {Q : Exit → Act → World → Prop} {fuel : Nat} {listed : Array Bool} {a : Act} {w : World} {o : Oper}
end

section
variable {P : Program} {md : Region.Mode} {ops : Array Oper} {Q : Exit → Act → World → Prop} {fuel : Nat} {listed : Array Bool} {a : Act} {w : World} {o : Oper}
end

end Go.Proofs.Ytkaphlpohhaacaa

/-
  Steps of a region whose order is drawn, under a condition on the world that each step keeps.
-/
namespace Go.Proofs.Ytkaphlpohhaacaa
open Go.RowKit
set_option linter.unusedVariables false
set_option linter.unusedSimpArgs false
set_option maxRecDepth 100000

section
variable {P : Program} {ops : Array Oper} {Q : Exit → Act → World → Prop} {o : Oper} {a : Act} {w : World} {K : Act → World → Prop}
theorem hb_callx {i : Nat} {f : FuncId} {args : Array Value} {D : Value → World → Prop} (hi : ops[i]? = some o) (hw : Region.wanted o (yielded ops a.tmps) = true) (hrun : (execOp a.eval o).run P w = .ok (.enter f args) w)
    (hc : Calls P f args w fun e w' => ∃ v, e = .returned v ∧ D v w') (h : ∀ v w', D v w' → K (a.put o.dst v) w') : wpOp P ops Q i K a w :=
  wpOp_step hi fun K' hK => by rw [if_pos hw]; unfold Oper.wp; rw [hrun]; exact hc.mono fun e w' ⟨v, he, hd⟩ => by subst he; exact hK _ _ (h v w' hd)
theorem hb_new {i : Nat} {w' : World} {v : Value} (hi : ops[i]? = some o) (hw : Region.wanted o (yielded ops a.tmps) = true) (hrun : (execOp a.eval o).run P w = .ok (.value v) w') (h : K (a.put o.dst v) w') : wpOp P ops Q i K a w :=
  wpOp_step hi fun K' hK => by rw [if_pos hw]; unfold Oper.wp; rw [hrun]; exact hK _ _ h
theorem hb_skip {i : Nat} {w' : World} (hi : ops[i]? = some o) (hw : Region.wanted o (yielded ops a.tmps) = true) (hrun : (execOp a.eval o).run P w = .ok .skip w') (h : K (a.put o.dst undef) w') : wpOp P ops Q i K a w :=
  wpOp_step hi fun K' hK => by rw [if_pos hw]; unfold Oper.wp; rw [hrun]; exact hK _ _ h
end

end Go.Proofs.Ytkaphlpohhaacaa
