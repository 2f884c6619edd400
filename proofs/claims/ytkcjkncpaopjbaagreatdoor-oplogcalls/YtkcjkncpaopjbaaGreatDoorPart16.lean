/-
  Parts of the proof, one behind the other; what each proves stands at its head.
-/
import Derived.Test.YtkcjkncpaopjbaaGreatDoorPart12
import Derived.RangeFuncRecord
import Derived.Test.YtkcjkncpaopjbaaGreatDoorPart13

namespace Go.Proofs.YtkcjkncpaopjbaaGreatDoor
open Go.RowKit
set_option linter.unusedVariables false
set_option maxRecDepth 100000
theorem qcx {w:World}{B e sz n:Nat}{v:Value}{xs:List Value}(h:w.ownsRow B e sz v n xs):∃ a c,v=.slice a n c:=by
 rcases h.2 with ⟨rfl,h0⟩ | ⟨g,cap,cur,rfl,_⟩
 ·exact ⟨none,0,by rw [h0]⟩
 ·exact ⟨_,_,rfl⟩
def NoB (u:Value):Prop:=∀ x,u≠.int .u8 x
def Clean (w:World) (v:Value):Prop:=∀ g,v.ownBlock=some g→∀ j x,w.cell? ⟨g,j,none⟩≠some (.int .u8 x)
theorem Clean.nil (w:World):Clean w (.slice none 0 0):=fun g h=>by cases h
theorem Clean.kept {w w':World}{v:Value}(h:Clean w v) (hb:∀ k,v.ownBlock=some k→w'.heap[k]?=w.heap[k]?):Clean w' v:=fun g hg j x hc=>by
 rw [World.cell?_of_block (w:=w) (hb g hg)] at hc
 exact h g hg j x hc
theorem qhd {w:World}{g n c:Nat}{cells:Array Value}{e:TypeId}{f:Nat × Nat}(h:w.heap[g]?=some (.cells cells e f)) (hc:∀ u ∈ cells.toList,NoB u):Clean w (.slice (some ⟨g,0,none⟩) n c):=by
 intro g' hg j x hx
 simp [Value.ownBlock] at hg
 subst hg
 rw [cell_of_row w g j _ _ _ h] at hx
 have hm:(Value.int .u8 x) ∈ cells.toList:=by
  have:=Array.mem_of_getElem? hx
  simpa using this
 exact hc _ hm x rfl
theorem qpw {z:Array Value}{n:Nat}(hz:∀ u ∈ z.toList,NoB u) (h0:0<z.size):∀ u ∈ (Builtin.zeroCells z n).toList,NoB u:=by
 intro u hu
 simp only [Builtin.zeroCells,Array.toList_map,List.mem_map] at hu
 obtain ⟨i,_,rfl⟩:=hu
 have hlt:i % z.size<z.size:=Nat.mod_lt _ h0
 rw [getElem!_pos z _ hlt]
 exact hz _ (by simp)
theorem qnw (w:World) (t ty e:TypeId) (i:TypeInfo) (z:Value) (size bytes base:Nat) (ht:Tryz.prog.underlying t=some (.slice e)) (hi:Tryz.prog.info? e=some i) (hz:i.zero=some z)
  (hsize:i.size=size) (hby:i.bytes=bytes) (hzs:z.cells.size=size) (hsz:0<size) (v:Value) (n:Nat) (xs:List Value) (hown:w.ownsRow base e size v n xs)
  (a:Addr) (m c:Nat) (news:List Value) (hl:news.length=m*size) (hnews:∀ j u,news[j]?=some u→w.cell? (a.add j)=some u) (h1:∀ u ∈ news,u.oneCell'=true) (hm:0<m)
  (h63:n+m≤maxLen) (hbytes:(n+m)*bytes≤140737488355328) (hc:Clean w v) (hzn:∀ u ∈ z.cells.toList,NoB u) (hnn:∀ u ∈ news,NoB u)
  (v':Value) (w':World) (hr:(Builtin.append_ #[t,t] ty #[v,.slice (some a) m c]).run Tryz.prog w=.ok v' w'):Clean w' v':=by
 subst hsize
 subst hby
 have hsmall:n+m≤9223372036854775807:=by simp only [maxLen] at h63;omega
 have hz0:0<z.cells.size:=by omega
 rcases hown.2 with ⟨rfl,rfl⟩ | ⟨g,cap,cur,rfl,hbg,hg,hnc,hcm,hcs,htake⟩
 ·have hr2:=run_append_nil (P:=Tryz.prog) w t ty e i z ht hi hz a m c news hl hnews hm (by omega) (by have hb:=hbytes;simp only [Nat.zero_add] at hb;omega)
  rw [hr] at hr2
  simp only [Result.ok.injEq] at hr2
  obtain ⟨rfl,rfl⟩:=hr2
  refine qhd (w:=w.drew.alloc _) (heap_alloc_new w.drew _) fun u hu=>?_
  rw [Array.toList_append] at hu
  rcases List.mem_append.1 hu with hu | hu
  ·exact hnn u (by simpa using hu)
  ·exact qpw hzn hz0 u hu
 ·have hcur:∀ u ∈ cur.toList,NoB u:=by
   intro u hu x e
   obtain ⟨j,hj,he⟩:=List.getElem_of_mem hu
   refine hc g rfl j x ?_
   rw [cell_of_row w g j _ _ _ hg,←e,←he]
   simp at hj ⊢
  have hxs:∀ u ∈ xs,NoB u:=fun u hu=>hcur u (List.mem_of_mem_take (by rw [htake];exact hu))
  by_cases hroom:n+m≤cap
  ·have hfit:n*i.size+news.length≤cur.size:=by rw [hl,hcs,←Nat.add_mul];exact Nat.mul_le_mul_right _ hroom
   have hr2:=run_append_room (P:=Tryz.prog) w t ty e i ht hi g n cap cur hg a m c news hl hnews h1 hroom hfit
   rw [hr] at hr2
   simp only [Result.ok.injEq] at hr2
   obtain ⟨rfl,rfl⟩:=hr2
   refine qhd (setRow_heap w g cur _ e _ hg) fun u hu=>?_
   simp only [List.mem_append] at hu
   rcases hu with (hu | hu) | hu
   ·exact hcur u (List.mem_of_mem_take hu)
   ·exact hnn u hu
   ·exact hcur u (List.mem_of_mem_drop hu)
  ·have holds:∀ j u,xs[j]?=some u→w.cell? ((⟨g,0,none⟩:Addr).add j)=some u:=hown.cells (g:=g) rfl
   have hr2:=run_append_grow (P:=Tryz.prog) w t ty e i z ht hi hz ⟨g,0,none⟩ n cap xs hown.1 holds a m c news hl hnews (by omega) (by omega) (growslice_fits (by omega) hbytes)
   rw [hr] at hr2
   simp only [Result.ok.injEq] at hr2
   obtain ⟨rfl,rfl⟩:=hr2
   refine qhd (w:=w.drew.alloc _) (heap_alloc_new w.drew _) fun u hu=>?_
   rw [Array.toList_append,Array.toList_append] at hu
   rcases List.mem_append.1 hu with hu | hu
   ·rcases List.mem_append.1 hu with hu | hu
    ·exact hxs u (by simpa using hu)
    ·exact hnn u (by simpa using hu)
   ·exact qpw hzn hz0 u hu
theorem qex {w:World}{ops:Array Oper}{rest:List Oper}{o:Oper}{a:Act}{Q:Exit→Act→World→Prop}(t e:TypeId) (sz bytes:Nat) (z:Value) (ht:Tryz.prog.underlying t=some (.slice e))
  (hinfo:(Tryz.prog.info? e).map (fun i=>(i.zero,i.size,i.bytes))=some (some z,sz,bytes)) (hzs:z.cells.size=sz) (hsz:0<sz) (hgd:o.guard=none) (s x:Operand)
  (ho:o.op=.call { callee:=.builtin .append,args:=#[s,x],argTypes:=#[t,t] })
  (base:Nat) (v:Value) (n:Nat) (cells:List Value) (hs:a.eval s=v) (hown:w.ownsRow base e sz v n cells) (u:Value) (m:Nat) (news:List Value) (hx:a.eval x=u) (hu:Sl sz w u m news) (h1c:∀ u ∈ news,u.oneCell'=true)
  (hm:0<m) (hb:(n+m)*bytes≤140737488355328) (hl:n+m≤maxLen) (hbase:base≤w.heap.size) (hc:Clean w v) (hzn:∀ u ∈ z.cells.toList,NoB u) (hnn:∀ u ∈ news,NoB u)
  (h:∀ v' w',w'.ownsRow base e sz v' (n+m) (cells++news)→w.grownBy w' v.ownBlock→(v'.ownBlock=v.ownBlock∨v'.ownBlock=some w.heap.size)→Clean w' v'→wpList Tryz.prog ops Q rest (a.put o.dst v') w') :
  wpList Tryz.prog ops Q (o::rest) a w:=by
 obtain ⟨i0,hi,hz0,hz1,hz2⟩:=info_parts hinfo
 obtain ⟨A,c,rfl,_,_⟩:=hu.form
 cases A with
 | none =>
  obtain ⟨_,rfl,_⟩:=hu.none_nil
  exact absurd hm (Nat.lt_irrefl _)
 | some A =>
  refine wpList_plain hgd fun K hK=>?_
  obtain ⟨v',w',hr,h2,h3,_,h5⟩:=run_append_own_at (P:=Tryz.prog) w base t o.type e i0 z sz bytes ht hi hz0 hz1 hz2 hzs hsz v n cells hown A m c news hu.1 hu.cells_at h1c hl hb hbase
  have hcl:=qnw w t o.type e i0 z sz bytes base ht hi hz0 hz1 hz2 hzs hsz v n cells hown A m c news hu.1 hu.cells_at h1c hm hl hb hc hzn hnn v' w' hr
  unfold Oper.wp execOp
  simp only [ho,resolve,invoke,builtin,Sem.run_bind,Sem.run_pure,Result.andThen_ok,List.map_toArray,List.map_cons,List.map_nil,hs,hx,hr]
  exact hK _ _ (h v' w' h2 h3 h5 hcl)
end Go.Proofs.YtkcjkncpaopjbaaGreatDoor
