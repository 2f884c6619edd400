import Derived.Test.YtkcjkncpaopjbaaGreatDoorPart6
import Derived.Deep.RegionLaw
namespace Go.Proofs.YtkcjkncpaopjbaaGreatDoor
open Go.RowKit
set_option linter.unusedVariables false
set_option maxRecDepth 100000
theorem qbt {w:World}{ops:Array Oper}{o:Oper}{a:Act}{K:Act→World→Prop}{Q:Exit→Act→World→Prop}{E:Prop}(hgd:o.guard=none) (s x:Operand)
  (ho:o.op=.call { callee:=.builtin .append,args:=#[s,x],argTypes:=#[36,36] })
  (base:Nat) (v:Value) (n:Nat) (xs:List Int) (hs:a.eval s=v) (hown:w.ownsRow base 5 1 v n (cs xs)) (u:Value) (ys:List Int) (hx:a.eval x=u) (hu:Bs w u ys)
  (hb:n+ys.length≤140737488355328) (hbase:base≤w.heap.size)
  (h:∀ v' w',w'.ownsRow base 5 1 v' (n+ys.length) (cs (xs++ys))→w.grownBy w' v.ownBlock→(v'.ownBlock=v.ownBlock∨v'.ownBlock=some w.heap.size)→K (a.put o.dst v') w') :
  if Region.wanted o (yielded ops a.tmps)=true then Oper.wp Tryz.prog o a w K Q else E:=by
 have hw:Region.wanted o (yielded ops a.tmps)=true:=by simp [Region.wanted,hgd]
 rw [if_pos hw]
 obtain ⟨i0,hi,hz0,hz1,hz2⟩:=info_parts qei
 have hf:∃ A c,u=.slice A ys.length c:=by
  obtain ⟨A,c,e,_⟩:=hu
  exact ⟨A,c,e⟩
 obtain ⟨A,c,rfl⟩:=hf
 cases A with
 | none =>
  obtain ⟨rfl,_,rfl⟩:=hu.none_nil
  have hrun:=run_append_owned_none (P:=Tryz.prog) (w:=w) base 36 o.type 5 i0 1 Tryz.underlying36 hi v n (cs xs) hown
  unfold Oper.wp
  simp [execOp,ho,resolve,invoke,builtin,hs,hx,hrun,Result.andThen]
  exact h v w (by simpa using hown) (World.grownBy.rfl' _ _) (Or.inl rfl)
 | some A =>
  obtain ⟨v',w',hr,h2,h3,h4,h5⟩:=run_append_own_at (P:=Tryz.prog) w base 36 o.type 5 i0 (.int .u8 0) 1 1 Tryz.underlying36 hi hz0 hz1 hz2 rfl (by decide) v n (cs xs) hown A ys.length c (cs ys) (by simp) (cells_at hu) (ints_oneCell .u8 ys) (by unfold maxLen;omega) (by omega) hbase
  unfold Oper.wp execOp
  simp only [ho,resolve,invoke,builtin,Sem.run_bind,Sem.run_pure,Result.andThen_ok,List.map_toArray,List.map_cons,List.map_nil,hs,hx,hr]
  exact h v' w' (by simpa using h2) h3 h5
end Go.Proofs.YtkcjkncpaopjbaaGreatDoor
