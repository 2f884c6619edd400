/-
  A whole op, boxed: for the walk.
-/
import Derived.Test.YtmgemgkanlpnnaaDoorOField
import Derived.BigQuiet
import Derived.Deep.CutRange
namespace Go.Proofs.YtmgemgkanlpnnaaDoor
open Go.RowKit
set_option linter.unusedVariables false
set_option maxRecDepth 100000

/-- A whole op, boxed: the world behind it by a name. -/
theorem wpList_box_op {ops : Array Oper} {rest : List Oper} {p : Oper} {a : Act} {w : World} {Q : Exit → Act → World → Prop} (hgd : p.guard = none) (x : Operand) (ho : p.op = .box 30 x) (A : Value) (hx : a.eval x = A) (o : Opn) (v : Value) (hA : A = opv o v)
    (hk : ∀ w', Ob w' w.heap.size o v → Below w.heap.size w w' → w.heap.size < w'.heap.size → wpList Tryd.prog ops Q rest (a.put p.dst (.pointer (some ⟨w.heap.size, 0, none⟩))) w') : wpList Tryd.prog ops Q (p :: rest) a w := by
  subst hA
  have h := hk (w.alloc (opo o v)) (Ob.new w o v) (ba w _) (by simp)
  refine wpList_plain hgd fun K hK => ?_
  unfold Oper.wp execOp
  simp only [ho, hx]
  simp [Instr.box, go_sem]
  exact hK _ _ h

end Go.Proofs.YtmgemgkanlpnnaaDoor
