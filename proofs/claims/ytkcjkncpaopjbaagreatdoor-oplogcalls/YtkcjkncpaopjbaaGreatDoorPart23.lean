/-
  Parts of the proof, one behind the other; what each proves stands at its head.
-/
import Derived.Test.YtkcjkncpaopjbaaGreatDoorPart18
import Derived.Test.YtkcjkncpaopjbaaGreatDoorPart21
import Derived.Test.YtkcjkncpaopjbaaGreatDoorPart20
import Derived.Test.YtkcjkncpaopjbaaGreatDoorPart10
import Derived.Test.YtkcjkncpaopjbaaGreatDoorPart4
import Derived.BigQuiet
import Derived.RegionTactic

namespace Go.Proofs.YtkcjkncpaopjbaaGreatDoor
open Go.RowKit
set_option linter.unusedVariables false
set_option maxRecDepth 100000
def ap1:Oper:={ dst:=some 19,op:=Op.move (Operand.tmp 18),type:=4,pos := "law.go:21",after:=#[{ on:=0,ground:=Ground.data }],guard:=none }
def ap2:Oper:={ dst:=some 20,op:=Op.move (Operand.tmp 4),type:=4,pos := "law.go:21",after:=#[{ on:=1,ground:=Ground.guard }],guard:=some (1,true) }
theorem qeq {p:Oper}{a:Act}{x:Operand}{b:Nat}{o:Opn}{v:Value}{W:World}(ho:p.op=.load 74 x) (hx:a.eval x=.pointer (some ⟨b,0,none⟩)) (h:Ob W b o v):(execOp a.eval p).run Tryz.prog W=.ok (.value (opv o v)) W:=by
 unfold execOp
 simp only [ho,hx,Instr.loadAt,Instr.sureAddr,Sem.run_bind,Sem.run_pure,Result.andThen_ok,h.load]
theorem qiz {p:Oper}{a:Act}{x:Operand}{b off:Nat}{r n:Int}{W:World}(ho:p.op=.load 69 x) (hx:a.eval x=.pointer (some ⟨b,off,none⟩)) (h0:W.cell? ⟨b,off,none⟩=some (.int .i64 r)) (h1:W.cell? ⟨b,off+1,none⟩=some (.int .i64 n)):(execOp a.eval p).run Tryz.prog W=.ok (.value (idv r n)) W:=by
 unfold execOp
 simp only [ho,hx]
 simp [go_sem,h0,h1]
end Go.Proofs.YtkcjkncpaopjbaaGreatDoor
