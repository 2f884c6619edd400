/-
  Parts of the proof, one behind the other; what each proves stands at its head.
-/
import Derived.Test.YtkcjkncpaopjbaaGreatDoorPart30
import Derived.Shelf.SlSorted.Search
import Derived.RegionTactic
import Derived.Test.YtkcjkncpaopjbaaGreatDoorPart4
import Derived.Test.YtkcjkncpaopjbaaGreatDoorPart31
import Derived.OrdersHeld

namespace Go.Proofs
open Go.Shelf
def Tryz.laysSearch_ren:Go.Shelf.Ren:=⟨fun | 16=>99 | n=>n,fun | 3=>3 | 4=>4 | 35=>131 | 38=>112 | n=>n,fun | n=>n⟩
theorem Tryz.laysSearch:Go.Proofs.SlLaysO.n16 Tryz.prog Tryz.laysSearch_ren:={
 mixed:=by kernel_rfl
 f16:=Tryz.func99.trans (congrArg some (by kernel_rfl))
 t3:=Tryz.underlying3
 a3:=Tryz.isAgg3
 z3:=Tryz.sizeOf3
 v3:=Tryz.zeroValue3
 t4:=Tryz.underlying4
 a4:=Tryz.isAgg4
 z4:=Tryz.sizeOf4
 v4:=Tryz.zeroValue4
 t35:=Tryz.underlying131
 a35:=Tryz.isAgg131
 z35:=Tryz.sizeOf131
 v35:=Tryz.zeroValue131
 t38:=Tryz.underlying112
 a38:=Tryz.isAgg112
 z38:=Tryz.sizeOf112
 v38:=Tryz.zeroValue112 }
end Go.Proofs
namespace Go.Proofs.YtkcjkncpaopjbaaGreatDoor
open Go.RowKit Go.Sort
set_option linter.unusedVariables false
set_option maxRecDepth 100000
section
variable {B:Nat} {w w':World} {lb fb:Nat} {fv vo ve:Value} {xs:List Int} {n R:Nat} {r:Int} {l:List (Opn × Value)} {es:List (Nat × Nat)}
theorem Lg.end_at (h:Lg B w lb fb fv vo ve xs n R r l es) {i:Nat}(hi:i<es.length):∃ g c,ve=.slice (some ⟨g,0,none⟩) es.length c∧g<w.heap.size∧w.cell? ⟨g,i*2,none⟩=some (.int .i64 (es[i]).1)∧w.cell? ⟨g,i*2+1,none⟩=some (.int .i64 (es[i]).2):=by
 rcases h.re.2 with ⟨_,h2⟩ | ⟨g,cap,cur,hv,_,hg,_,_,_,ht⟩
 ·omega
 ·refine ⟨g,cap,hv,(Array.getElem?_eq_some_iff.1 hg).1,?_,?_⟩
  ·have:=qly endc 2 qrd es i 0 hi (by omega)
   rw [←ht] at this
   rw [cell_of_row w g _ _ _ _ hg]
   rw [List.getElem?_take] at this
   rw [if_pos (by omega)] at this
   simpa using this
  ·have:=qly endc 2 qrd es i 1 hi (by omega)
   rw [←ht] at this
   rw [cell_of_row w g _ _ _ _ hg]
   rw [List.getElem?_take] at this
   rw [if_pos (by omega)] at this
   simpa using this
set_option maxHeartbeats 2000000 in
theorem qpu {bl bs g c m i:Nat}{s x:Int}{W:World}(h0:W.cell? ⟨bl,0,none⟩=some (.pointer (some ⟨lb,0,none⟩))) (h1:W.cell? ⟨bs,0,none⟩=some (.int .i64 s))
  (h2:W.cell? ⟨lb,3,none⟩=some (.slice (some ⟨g,0,none⟩) m c)) (hi:i<m) (h3:W.cell? ⟨g,i*2,none⟩=some (.int .i64 x)) :
  Calls Tryz.prog 100 (#[.int .i64 i]++#[.pointer (some ⟨bl,0,none⟩),.pointer (some ⟨bs,0,none⟩)]) W fun e w'=>e=.returned (.bool (decide (s<x)))∧∃ q,w'=W.drewN q:=by
 have hiz:(i:Int)<(m:Int):=by omega
 have h3':W.cell? ⟨g,0+i*2,none⟩=some (.int .i64 x):=by rw [Nat.zero_add];exact h3
 have h3'':W.cell? ⟨g,0+i*2+0,none⟩=some (.int .i64 x):=by rw [Nat.zero_add];exact h3
 go_enter Tryz.func100,Tryz.ntmps100
 go_wp2
 go_quiet (fail)
 go_wp2
 go_ret
 exact ⟨by first | rfl | simp,_,rfl⟩
def inF (es:List (Nat × Nat)) (s:Int):Nat:=es.countP (fun p=>decide ((p.1:Int)≤s))
theorem qvk (es:List (Nat × Nat)) (s:Int):(List.range es.length).countP (fun i=>!decide (s<((es.getD i (0,0)).1:Int)))=inF es s:=by
 have h:=Lib.countP_range es.toArray (fun p=>!decide (s<(p.1:Int)))
 have e1:es.toArray.size=es.length:=by simp
 rw [e1] at h
 unfold inF
 rw [show es.toArray.toList=es from rfl] at h
 have e2:(fun i=>!decide (s<((es.getD i (0,0)).1:Int)))=fun i=>!decide (s<((es.toArray[i]!).1:Int)):=by
  funext i
  by_cases hi:i<es.length
  ·rw [getElem!_pos es.toArray i (by simpa using hi)]
   simp [hi]
  ·rw [getElem!_neg es.toArray i (by simpa using hi)]
   simp [hi]
   rfl
 rw [e2,h]
 congr 1
 funext p
 by_cases hp:s<(p.1:Int)
 ·simp [hp]
 ·simp [hp];omega
set_option maxHeartbeats 2000000 in
theorem qhs (h:Lg B w lb fb fv vo ve xs n R r l es) (s:Int) (hs:es.Pairwise (fun p q=>p.1≤q.1)) (hl:es.length≤10000000) :
  Calls Tryz.prog 68 #[.pointer (some ⟨lb,0,none⟩),.int .i64 s] w fun e w'=>e=.returned (.int .i64 (inF es s:Nat))∧Below w.heap.size w w':=by
 obtain ⟨W0,hW0⟩:∃ W0,W0=(w.alloc (.cells #[.pointer (some ⟨lb,0,none⟩)] 32)).alloc (.cells #[.int .i64 s] 3):=⟨_,rfl⟩
 have hsize:W0.heap.size=w.heap.size+1+1:=by rw [hW0];simp
 have ca:W0.cell? ⟨w.heap.size,0,none⟩=some (.pointer (some ⟨lb,0,none⟩)):=by rw [hW0];exact cell_alloc_sl _ (cell_new_sl w _ _)
 have cx:W0.cell? ⟨w.heap.size+1,0,none⟩=some (.int .i64 s):=by rw [hW0];have:=cell_new_sl (w.alloc (.cells #[.pointer (some ⟨lb,0,none⟩)] 32)) (.int .i64 s) 3;rwa [World.size_alloc] at this
 have hlt:=h.lt
 have cl:∀ {g j:Nat} {v:Value},w.cell? ⟨g,j,none⟩=some v→W0.cell? ⟨g,j,none⟩=some v:=fun hc=>by rw [hW0];exact cell_alloc_sl _ (cell_alloc_sl _ hc)
 obtain ⟨a,c,a2,c2,e1,e2,_,hc2,k0,k1,k2,k3,_,_⟩:=h.cells
 have eg:∀ args w,(callFunc 100 args).run Tryz.prog w=.ok (.enter 100 args) w:=enters_of Tryz.func100 (by kernel_rfl) rfl
 have hS:=Any.sort_Search Tryz.laysSearch 100 #[.pointer (some ⟨w.heap.size,0,none⟩),.pointer (some ⟨w.heap.size+1,0,none⟩)] es.length (fun i=>decide (s<((es.getD i (0,0)).1:Int))) W0 eg (by omega)
  (fun m os i hi=>by
   obtain ⟨g,cc,hv,hg,hx1,_⟩:=h.end_at hi
   have hx:=cl hx1
   have k3':=cl k3
   rw [e2] at hv
   rw [hv] at k3'
   have e3:es.getD i (0,0)=es[i]:=by simp [hi]
   rw [e3]
   exact (qpu (cell_grown (by simp [hsize];omega) ca m os) (cell_grown (by simp [hsize]) cx m os) (cell_grown (by simp [hsize];omega) k3' m os) hi (cell_grown (by simp [hsize];omega) hx m os)).mono
    fun _ _ ⟨he,q,hq⟩=>⟨he,q,#[],by rw [hq,grow_empty]⟩)
  (fun a b hab hb h=>by
   have ea:es.getD a (0,0)=es[a]'(by omega):=by simp [show a<es.length by omega]
   have eb:es.getD b (0,0)=es[b]:=by simp [hb]
   rw [ea] at h
   rw [eb]
   rcases Nat.lt_or_eq_of_le hab with hlt | rfl
   ·have:=List.pairwise_iff_getElem.1 hs a b (by omega) hb hlt
    simp at h ⊢
    omega
   ·exact h)
 rw [qvk] at hS
 change Calls Tryz.prog 99 _ _ _ at hS
 subst e2
 clear ca cx cl hs k0 k1 k2 e1
 have HB0:Hid (Below w.heap.size w W0):=hid (by rw [hW0];exact ((Below.refl _ w).alloc (Nat.le_refl _) _).alloc (by simp) _)
 generalize inF es s=q at hS ⊢
 have HH:=hid h.lt
 clear h
 have k4:=fun o o'=>((ba (w.alloc o) o').cell (p:=⟨lb,3,none⟩) (World.block_lt_of_cell? _ _ (((ba w o).cell (p:=⟨lb,3,none⟩) hlt).trans k3))).trans (((ba w o).cell (p:=⟨lb,3,none⟩) hlt).trans k3)
 go_enter Tryz.func68,Tryz.ntmps68
 go_wp2_with (go_at_call 99;rw [←hW0];refine hS.mono ?_;rintro e w' ⟨rfl,q,os,rfl⟩)
 go_ret
 refine ⟨rfl,?_⟩
 rw [←hW0]
 exact HB0.out.trans (below_grown_sl w.heap.size W0 q os (by omega))
set_option maxHeartbeats 2000000 in
theorem qsc (h:Lg B w lb fb fv vo ve xs n R r l es) :
  Calls Tryz.prog 67 #[.pointer (some ⟨lb,0,none⟩),.int .i64 0] w fun e w'=>e=.returned (.int .i64 0)∧w=w':=by
 clear h
 go_enter Tryz.func67,Tryz.ntmps67
 go_wp2
 go_ret
 exact ⟨rfl,rfl⟩
set_option maxHeartbeats 2000000 in
theorem qsd (h:Lg B w lb fb fv vo ve xs n R r l es) (k:Nat) (hk:k<es.length) (hl:es.length≤10000000) :
  Calls Tryz.prog 67 #[.pointer (some ⟨lb,0,none⟩),.int .i64 ((k+1:Nat):Int)] w fun e w'=>e=.returned (.int .i64 (es[k]).2)∧w=w':=by
 obtain ⟨a,c,a2,c2,e1,e2,_,hc2,k0,k1,k2,k3,_,_⟩:=h.cells
 obtain ⟨g,cc,hv,hg,hx1,hx2⟩:=h.end_at hk
 rw [e2] at hv
 rw [hv] at k3
 generalize (es[k]).2=y at hx2 ⊢
 clear h hx1
 generalize es.length=m at *
 have i1:(((k+1:Nat):Int)==0)=false:=by simp;omega
 have i2:((k+1:Nat):Int) - 1<(m:Int):=by omega
 have i3:(0:Int)≤((k+1:Nat):Int) - 1:=by omega
 have i4:(((k+1:Nat):Int) - 1).toNat=k:=by omega
 generalize ((k+1:Nat):Int)=z at *
 have hx3:w.cell? ⟨g,0+k*2+1,none⟩=some (.int .i64 y):=by rw [Nat.zero_add];exact hx2
 clear e1 e2 hv k0 k1 k2 hc2
 go_enter Tryz.func67,Tryz.ntmps67
 go_wp2
 go_ret
 exact ⟨rfl,rfl⟩
end
end Go.Proofs.YtkcjkncpaopjbaaGreatDoor

namespace Go.Proofs.YtkcjkncpaopjbaaGreatDoor
open Go.RowKit
set_option linter.unusedVariables false
set_option maxRecDepth 100000
def opsAt (es:List (Nat × Nat)):Nat→Nat
 | 0=>0
 | k+1=>(es.getD k (0,0)).2
theorem qgx {B:Nat}{w:World}{lb fb:Nat}{fv vo ve:Value}{xs:List Int}{n R:Nat}{r:Int}{l:List (Opn × Value)}{es:List (Nat × Nat)}(h:Lg B w lb fb fv vo ve xs n R r l es) (k:Nat) (hk:k≤es.length) (hl:es.length≤10000000) :
  Calls Tryz.prog 67 #[.pointer (some ⟨lb,0,none⟩),.int .i64 (k:Nat)] w fun e w'=>e=.returned (.int .i64 (opsAt es k:Nat))∧w=w':=by
 cases k with
 | zero=>exact qsc h
 | succ k =>
  have e:opsAt es (k+1)=(es[k]'hk).2:=by unfold opsAt;simp [show k<es.length from hk]
  rw [e]
  exact qsd h k hk hl
theorem qqy:(Tryz.prog.info? 94).map (fun i=>(i.zero,i.size,i.bytes))=some (some (.agg #[.int .i64 0,.int .i64 0]),2,16):=by kernel_rfl
theorem Lg.c2 {B:Nat}{w:World}{lb fb:Nat}{fv vo ve:Value}{xs:List Int}{n R:Nat}{r:Int}{l:List (Opn × Value)}{es:List (Nat × Nat)}(h:Lg B w lb fb fv vo ve xs n R r l es):w.cell? ⟨lb,2,none⟩=some vo:=by rw [cell_of_row w lb 2 _ _ _ h.blk];rfl
theorem Lg.c3 {B:Nat}{w:World}{lb fb:Nat}{fv vo ve:Value}{xs:List Int}{n R:Nat}{r:Int}{l:List (Opn × Value)}{es:List (Nat × Nat)}(h:Lg B w lb fb fv vo ve xs n R r l es):w.cell? ⟨lb,3,none⟩=some ve:=by rw [cell_of_row w lb 3 _ _ _ h.blk];rfl
theorem qbe {w:World}{B e sz n:Nat}{v:Value}{xs:List Value}(h:w.ownsRow B e sz v n xs):∃ a c,v=.slice a n c∧n≤c:=by
 rcases h.2 with ⟨h1,h2⟩ | ⟨g,cap,cur,hv,_,_,hc,_⟩
 ·exact ⟨none,0,by rw [h1,h2],by omega⟩
 ·exact ⟨_,cap,hv,hc⟩
theorem jab {w:World}{B e sz n:Nat}{v:Value}{xs:List Value}(h:w.ownsRow B e sz v n xs):∃ a n c,v=.slice a n c:=by
 obtain ⟨a,c,e,_⟩:=qbe h
 exact ⟨a,n,c,e⟩
theorem qux {w:World}{u:Value}{q:List (Opn × Value)}(h:Os w u q):∀ x ∈ q.flatMap opc,x.oneCell'=true:=by
 intro x hx
 obtain ⟨p,hp,hx⟩:=List.mem_flatMap.1 hx
 exact (quw (h.2 p hp)).1 x hx
theorem qtw {w:World}{o:Oper}{a:Act}(t e:TypeId) (sz bytes:Nat) (z:Value) (ht:Tryz.prog.underlying t=some (.slice e))
  (hinfo:(Tryz.prog.info? e).map (fun i=>(i.zero,i.size,i.bytes))=some (some z,sz,bytes)) (hzs:z.cells.size=sz) (hsz:0<sz) (s x:Operand)
  (ho:o.op=.call { callee:=.builtin .append,args:=#[s,x],argTypes:=#[t,t] })
  (base:Nat) (v:Value) (n:Nat) (cells:List Value) (hs:a.eval s=v) (hown:w.ownsRow base e sz v n cells) (u:Value) (m:Nat) (news:List Value) (hx:a.eval x=u) (hu:Sl sz w u m news) (h1c:∀ u ∈ news,u.oneCell'=true)
  (hb:(n+m)*bytes≤140737488355328) (hl:n+m≤maxLen) (hbase:base≤w.heap.size) :
  ∃ v' w',(execOp a.eval o).run Tryz.prog w=.ok (.value v') w'∧w'.ownsRow base e sz v' (n+m) (cells++news)∧w.grownBy w' v.ownBlock∧(v'.ownBlock=v.ownBlock∨v'.ownBlock=some w.heap.size):=by
 obtain ⟨i0,hi,hz0,hz1,hz2⟩:=info_parts hinfo
 obtain ⟨A,c,rfl,_,_⟩:=hu.form
 cases A with
 | none =>
  obtain ⟨rfl,rfl,rfl⟩:=hu.none_nil
  have hrun:=run_append_owned_none (P:=Tryz.prog) (w:=w) base t o.type e i0 sz ht hi v n cells hown
  refine ⟨v,w,?_,by simpa using hown,⟨rfl,rfl,rfl,Nat.le_refl _,fun _ _ _=>rfl⟩,.inl rfl⟩
  unfold execOp
  simp only [ho,resolve,invoke,builtin,Sem.run_bind,Sem.run_pure,Result.andThen_ok,List.map_toArray,List.map_cons,List.map_nil,hs,hx,hrun]
 | some A =>
  obtain ⟨v',w',hr,h2,h3,_,h5⟩:=run_append_own_at (P:=Tryz.prog) w base t o.type e i0 z sz bytes ht hi hz0 hz1 hz2 hzs hsz v n cells hown A m c news hu.1 hu.cells_at h1c hl hb hbase
  refine ⟨v',w',?_,h2,h3,h5⟩
  unfold execOp
  simp only [ho,resolve,invoke,builtin,Sem.run_bind,Sem.run_pure,Result.andThen_ok,List.map_toArray,List.map_cons,List.map_nil,hs,hx,hr]
theorem qhn {o:Oper}{a:Act}{x:Operand}{b i:Nat}{v:Value}{W:World}(ho:o.op=.load 38 x) (hx:a.eval x=.pointer (some ⟨b,i,none⟩)) (h:W.cell? ⟨b,i,none⟩=some v):(execOp a.eval o).run Tryz.prog W=.ok (.value v) W:=by
 unfold execOp
 simp only [ho,hx]
 simp [go_sem,h]
theorem qor {o:Oper}{a:Act}{x:Operand}{b i:Nat}{v:Value}{W:World}(ho:o.op=.load 79 x) (hx:a.eval x=.pointer (some ⟨b,i,none⟩)) (h:W.cell? ⟨b,i,none⟩=some v):(execOp a.eval o).run Tryz.prog W=.ok (.value v) W:=by
 unfold execOp
 simp only [ho,hx]
 simp [go_sem,h]
theorem qlh {o:Oper}{a:Act}{x y:Operand}{v:Value}{va:Option Addr}{n c:Nat}{W:World}(ho:o.op=.slice 38 x none (some y) none) (hx:a.eval x=v) (hy:a.eval y=.int .i64 (n:Nat)) (hv:v=.slice va n c) (hc:n≤c):(execOp a.eval o).run Tryz.prog W=.ok (.value v) W:=by
 subst hv
 unfold execOp
 simp only [ho,hx,Option.map_none,Option.map_some,hy]
 have h3:(0:Int)≤(n:Int):=by omega
 have h4:(n:Int)≤(c:Int):=by omega
 simp [go_sem,h3,h4]
theorem qli {o:Oper}{a:Act}{x y:Operand}{v:Value}{va:Option Addr}{n c:Nat}{W:World}(ho:o.op=.slice 79 x none (some y) none) (hx:a.eval x=v) (hy:a.eval y=.int .i64 (n:Nat)) (hv:v=.slice va n c) (hc:n≤c):(execOp a.eval o).run Tryz.prog W=.ok (.value v) W:=by
 subst hv
 unfold execOp
 simp only [ho,hx,Option.map_none,Option.map_some,hy]
 have h3:(0:Int)≤(n:Int):=by omega
 have h4:(n:Int)≤(c:Int):=by omega
 simp [go_sem,h3,h4]
theorem qtu {o:Oper}{a:Act}{x:Operand}{v:Value}{va:Option Addr}{n c:Nat}{W:World}(ho:o.op=.call { callee:=.builtin .len,args:=#[x],argTypes:=#[38] }) (hx:a.eval x=v) (hv:v=.slice va n c):(execOp a.eval o).run Tryz.prog W=.ok (.value (.int .i64 (n:Nat))) W:=by
 subst hv
 unfold execOp
 simp only [ho,resolve,invoke,builtin,Sem.run_bind,Sem.run_pure,Result.andThen_ok,List.map_toArray,List.map_cons,List.map_nil,hx]
 simp [go_sem]
theorem qll {o:Oper}{a:Act}{x:Operand}{p q:Nat}{W:World}(ho:o.op=.buildSlice 79 1 #[(0,x)]) (hx:a.eval x=.agg #[.int .i64 (p:Nat),.int .i64 (q:Nat)]):(execOp a.eval o).run Tryz.prog W=.ok (.value (.slice (some ⟨W.heap.size,0,none⟩) 1 1)) (W.alloc (.cells #[.int .i64 (p:Nat),.int .i64 (q:Nat)] 94)):=by
 unfold execOp
 simp only [ho,List.map_toArray,List.map_cons,List.map_nil,hx]
 kernel_rfl
theorem qtr {o:Oper}{a:Act}{x y:Operand}{b:Nat}{v v0 v1 v2 v3:Value}{W:World}(ho:o.op=.store 38 x y) (hx:a.eval x=.pointer (some ⟨b,2,none⟩)) (hy:a.eval y=v) (hv:∃ va n c,v=.slice va n c)
  (h:W.heap[b]?=some (.cells #[v0,v1,v2,v3] 81 (0,0))):(execOp a.eval o).run Tryz.prog W=.ok .skip (W.setCell ⟨b,2,none⟩ v):=by
 obtain ⟨va,n,c,rfl⟩:=hv
 have c2:=cell_of_row W b 2 _ _ _ h
 have f2:=frozen_of_row W b 2 _ _ h
 simp only [List.getElem?_toArray,List.getElem?_cons_zero,List.getElem?_cons_succ] at c2
 unfold execOp
 simp only [ho,hx,hy]
 simp [go_sem,c2,f2]
theorem qts {o:Oper}{a:Act}{x y:Operand}{b:Nat}{v v0 v1 v2 v3:Value}{W:World}(ho:o.op=.store 79 x y) (hx:a.eval x=.pointer (some ⟨b,3,none⟩)) (hy:a.eval y=v) (hv:∃ va n c,v=.slice va n c)
  (h:W.heap[b]?=some (.cells #[v0,v1,v2,v3] 81 (0,0))):(execOp a.eval o).run Tryz.prog W=.ok .skip (W.setCell ⟨b,3,none⟩ v):=by
 obtain ⟨va,n,c,rfl⟩:=hv
 have c2:=cell_of_row W b 3 _ _ _ h
 have f2:=frozen_of_row W b 3 _ _ h
 simp only [List.getElem?_toArray,List.getElem?_cons_zero,List.getElem?_cons_succ] at c2
 unfold execOp
 simp only [ho,hx,hy]
 simp [go_sem,c2,f2]
def aa0:Oper:={ dst:=some 12,op:=Go.Op.move (Go.Operand.tmp 0),type:=32,pos := "oplog.go:132",after:=#[],guard:=none }
def aa1:Oper:={ dst:=some 13,op:=Go.Op.move (Go.Operand.tmp 0),type:=32,pos := "oplog.go:132",after:=#[],guard:=none }
def aa2:Oper:={ dst:=some 14,op:=Go.Op.nilCheck (Go.Operand.tmp 13),type:=0,pos := "oplog.go:132",after:=#[{ on:=1,ground:=Go.Ground.data }],guard:=none }
def aa3:Oper:={ dst:=some 15,op:=Go.Op.fieldAddr 81 (Go.Operand.tmp 14) 2,type:=0,pos := "oplog.go:132",after:=#[{ on:=2,ground:=Go.Ground.data }],guard:=none }
def aa4:Oper:={ dst:=some 16,op:=Go.Op.load 38 (Go.Operand.tmp 15),type:=38,pos := "oplog.go:132",after:=#[{ on:=3,ground:=Go.Ground.data }],guard:=none }
def aa5:Oper:={ dst:=some 17,op:=Go.Op.move (Go.Operand.tmp 0),type:=32,pos := "oplog.go:132",after:=#[],guard:=none }
def aa6:Oper:={ dst:=some 18,op:=Go.Op.move (Go.Operand.tmp 8),type:=3,pos := "oplog.go:132",after:=#[],guard:=none }
def aa7:Oper:={ dst:=some 19,op:=Go.Op.call { callee:=Go.Callee.value (Go.Operand.func 67),args:=#[Go.Operand.tmp 17,Go.Operand.tmp 18],argTypes:=#[32,3] },type:=3,pos := "oplog.go:132",after:=#[{ on:=5,ground:=Go.Ground.data },{ on:=6,ground:=Go.Ground.data }],guard:=none }
def aa8:Oper:={ dst:=some 20,op:=Go.Op.slice 38 (Go.Operand.tmp 16) none (some (Go.Operand.tmp 19)) none,type:=38,pos := "oplog.go:132",after:=#[{ on:=4,ground:=Go.Ground.data },{ on:=7,ground:=Go.Ground.data }],guard:=none }
def aa9:Oper:={ dst:=some 21,op:=Go.Op.move (Go.Operand.tmp 1),type:=38,pos := "oplog.go:132",after:=#[],guard:=none }
def aa10:Oper:={ dst:=some 22,op:=Go.Op.call { callee:=Go.Callee.builtin Go.Builtin.append,args:=#[Go.Operand.tmp 20,Go.Operand.tmp 21],argTypes:=#[38,38] },type:=38,pos := "oplog.go:132",after:=#[{ on:=8,ground:=Go.Ground.data },{ on:=9,ground:=Go.Ground.data },{ on:=7,ground:=Go.Ground.chain }],guard:=none }
def aa11:Oper:={ dst:=some 23,op:=Go.Op.nilCheck (Go.Operand.tmp 12),type:=0,pos := "oplog.go:132",after:=#[{ on:=0,ground:=Go.Ground.data },{ on:=0,ground:=Go.Ground.phase },{ on:=1,ground:=Go.Ground.phase },{ on:=2,ground:=Go.Ground.phase },{ on:=3,ground:=Go.Ground.phase },{ on:=4,ground:=Go.Ground.phase },{ on:=5,ground:=Go.Ground.phase },{ on:=6,ground:=Go.Ground.phase },{ on:=7,ground:=Go.Ground.phase },{ on:=8,ground:=Go.Ground.phase },{ on:=9,ground:=Go.Ground.phase },{ on:=10,ground:=Go.Ground.phase }],guard:=none }
def aa12:Oper:={ dst:=some 24,op:=Go.Op.fieldAddr 81 (Go.Operand.tmp 23) 2,type:=0,pos := "oplog.go:132",after:=#[{ on:=11,ground:=Go.Ground.data },{ on:=0,ground:=Go.Ground.phase },{ on:=1,ground:=Go.Ground.phase },{ on:=2,ground:=Go.Ground.phase },{ on:=3,ground:=Go.Ground.phase },{ on:=4,ground:=Go.Ground.phase },{ on:=5,ground:=Go.Ground.phase },{ on:=6,ground:=Go.Ground.phase },{ on:=7,ground:=Go.Ground.phase },{ on:=8,ground:=Go.Ground.phase },{ on:=9,ground:=Go.Ground.phase },{ on:=10,ground:=Go.Ground.phase }],guard:=none }
def aa13:Oper:={ dst:=none,op:=Go.Op.store 38 (Go.Operand.tmp 24) (Go.Operand.tmp 22),type:=0,pos := "oplog.go:132",after:=#[{ on:=12,ground:=Go.Ground.data },{ on:=10,ground:=Go.Ground.data },{ on:=10,ground:=Go.Ground.chain },{ on:=0,ground:=Go.Ground.phase },{ on:=1,ground:=Go.Ground.phase },{ on:=2,ground:=Go.Ground.phase },{ on:=3,ground:=Go.Ground.phase },{ on:=4,ground:=Go.Ground.phase },{ on:=5,ground:=Go.Ground.phase },{ on:=6,ground:=Go.Ground.phase },{ on:=7,ground:=Go.Ground.phase },{ on:=8,ground:=Go.Ground.phase },{ on:=9,ground:=Go.Ground.phase },{ on:=10,ground:=Go.Ground.phase }],guard:=none }
def aas:Array Oper:=#[aa0,aa1,aa2,aa3,aa4,aa5,aa6,aa7,aa8,aa9,aa10,aa11,aa12,aa13]
theorem qgb:Region.noSelect aas=true:=by kernel_rfl
set_option maxHeartbeats 4000000 in
theorem add_r1 {B:Nat}{w:World}{lb fb:Nat}{fv vo ve u:Value}{xs:List Int}{n R k:Nat}{r:Int}{l q:List (Opn × Value)}{es:List (Nat × Nat)}{x2 x3 x4 x5 x6 x7 x9 aa ad av aw ay az ap aA aB aq am au ak ag ah aK aL aM aN aF aO aC aP aH aI aJ aG aD aE ar al ai aj:Value}{Q:Exit→Act→World→Prop}(hl0:Lg B w lb fb fv vo ve xs n R r l es) (hB:B≤w.heap.size) (hk:k≤es.length) (hkl:opsAt es k=l.length) (hu:Os w u q) (hq:Cq (Ft lb fb fv vo ve) w q) (hln:l.length+q.length≤10000000) (hen:es.length≤10000000)
  (hP:∀ c t t' d W,Q (.panic c) { tmps:=t,defers:=d } W→Q (.panic c) { tmps:=t',defers:=d } W)
  (hQ:∀ vo' W,Lg B W lb fb fv vo' ve xs n R r (l++q) es→Lx (Ft lb fb fv vo ve) (Ft lb fb fv vo' ve) (World.drew w) W→Q .normal { tmps:=#[.pointer (some ⟨lb,0,none⟩),u,x2,x3,x4,x5,x6,x7,.int .i64 (k:Nat),x9,aa,ad,.pointer (some ⟨lb,0,none⟩),.pointer (some ⟨lb,0,none⟩),.pointer (some ⟨lb,0,none⟩),.pointer (some ⟨lb,2,none⟩),vo,.pointer (some ⟨lb,0,none⟩),.int .i64 (k:Nat),.int .i64 (l.length:Nat),vo,u,vo',.pointer (some ⟨lb,0,none⟩),.pointer (some ⟨lb,2,none⟩),aK,aL,aM,aN,aF,aO,aC,aP,aH,aI,aJ,aG,aD,aE,ar,al,ai,aj],defers:=[] } W):(Code.region 1 aas true).wp Tryz.prog Q { tmps:=#[.pointer (some ⟨lb,0,none⟩),u,x2,x3,x4,x5,x6,x7,.int .i64 (k:Nat),x9,aa,ad,av,aw,ay,az,ap,aA,aB,aq,am,au,ak,ag,ah,aK,aL,aM,aN,aF,aO,aC,aP,aH,aI,aJ,aG,aD,aE,ar,al,ai,aj],defers:=[] } w:=by
 obtain ⟨va,vc,hvo,hvc⟩:=qbe hl0.ro
 refine wp_region_held (S:=fun W=>True) (by kernel_rfl) ?_
 change wpAnyH _ _ _ _ _ 14 _ _ (World.drew _)
 have hl:Lg B (World.drew w) lb fb fv vo ve xs n R r l es:=hl0.drewN 1
 have hu2:Os (World.drew w) u q:=hu
 have hq2:Cq (Ft lb fb fv vo ve) (World.drew w) q:=hq
 have hB2:B≤(World.drew w).heap.size:=hB
 clear hl0 hu hq hB
 obtain ⟨W,hW⟩:∃ W,World.drew w=W:=⟨_,rfl⟩
 rw [hW] at hl hu2 hq2 hB2 hQ ⊢
 clear hW
 have TL:wpAnyH Tryz.prog .any aas Q (fun W=>True) 5 #[true,true,true,true,true,true,true,true,false,true,false,false,false,false] { tmps:=#[.pointer (some ⟨lb,0,none⟩),u,x2,x3,x4,x5,x6,x7,.int .i64 (k:Nat),x9,aa,ad,.pointer (some ⟨lb,0,none⟩),.pointer (some ⟨lb,0,none⟩),.pointer (some ⟨lb,0,none⟩),.pointer (some ⟨lb,2,none⟩),vo,.pointer (some ⟨lb,0,none⟩),.int .i64 (k:Nat),.int .i64 (l.length:Nat),am,u,ak,ag,ah,aK,aL,aM,aN,aF,aO,aC,aP,aH,aI,aJ,aG,aD,aE,ar,al,ai,aj],defers:=[] } W:=by
  refine wpAnyH_take (i:=8) (oi:=aa8) (v:=vo) (by kernel_rfl) qgb (by kernel_rfl) (by kernel_rfl) (fun c a W h=>hP c _ _ _ W h) (Or.inl ⟨by kernel_rfl,fun W hW=>qlh rfl rfl rfl hvo hvc⟩) trivial ?_
  rw [show Act.put _ aa8.dst _={ tmps:=#[.pointer (some ⟨lb,0,none⟩),u,x2,x3,x4,x5,x6,x7,.int .i64 (k:Nat),x9,aa,ad,.pointer (some ⟨lb,0,none⟩),.pointer (some ⟨lb,0,none⟩),.pointer (some ⟨lb,0,none⟩),.pointer (some ⟨lb,2,none⟩),vo,.pointer (some ⟨lb,0,none⟩),.int .i64 (k:Nat),.int .i64 (l.length:Nat),vo,u,ak,ag,ah,aK,aL,aM,aN,aF,aO,aC,aP,aH,aI,aJ,aG,aD,aE,ar,al,ai,aj],defers:=[] } from by kernel_rfl]
  refine wpAnyH_all (rs:=[10]) (by kernel_rfl) (by simp) (fun i hi=>?_)
  obtain rfl:=List.mem_singleton.1 hi
  obtain ⟨v',W',hrun,hown,hgr,hvb⟩:=qtw (o:=aa10) (a:={ tmps:=#[.pointer (some ⟨lb,0,none⟩),u,x2,x3,x4,x5,x6,x7,.int .i64 (k:Nat),x9,aa,ad,.pointer (some ⟨lb,0,none⟩),.pointer (some ⟨lb,0,none⟩),.pointer (some ⟨lb,0,none⟩),.pointer (some ⟨lb,2,none⟩),vo,.pointer (some ⟨lb,0,none⟩),.int .i64 (k:Nat),.int .i64 (l.length:Nat),vo,u,ak,ag,ah,aK,aL,aM,aN,aF,aO,aC,aP,aH,aI,aJ,aG,aD,aE,ar,al,ai,aj],defers:=[] }) 38 74 20 192 _ Tryz.underlying38 qlx rfl (by decide) _ _ rfl B vo l.length (l.flatMap opc) rfl hl.ro u q.length (q.flatMap opc) rfl hu2.1 (qux hu2) (by omega) (by unfold maxLen;omega) hB2
  refine qcn (o:=aa10) (v:=v') (w':=W') (by kernel_rfl) (by kernel_rfl) hrun ?_
  rw [show Act.put _ aa10.dst _={ tmps:=#[.pointer (some ⟨lb,0,none⟩),u,x2,x3,x4,x5,x6,x7,.int .i64 (k:Nat),x9,aa,ad,.pointer (some ⟨lb,0,none⟩),.pointer (some ⟨lb,0,none⟩),.pointer (some ⟨lb,0,none⟩),.pointer (some ⟨lb,2,none⟩),vo,.pointer (some ⟨lb,0,none⟩),.int .i64 (k:Nat),.int .i64 (l.length:Nat),vo,u,v',ag,ah,aK,aL,aM,aN,aF,aO,aC,aP,aH,aI,aJ,aG,aD,aE,ar,al,ai,aj],defers:=[] } from by kernel_rfl]
  refine ⟨trivial,?_⟩
  refine wpAnyH_take (i:=11) (oi:=aa11) (v:=.pointer (some ⟨lb,0,none⟩)) (by kernel_rfl) qgb (by kernel_rfl) (by kernel_rfl) (fun c a W h=>hP c _ _ _ W h) (Or.inl ⟨by kernel_rfl,fun W hW=>by kernel_rfl⟩) trivial ?_
  refine wpAnyH_take (i:=12) (oi:=aa12) (v:=.pointer (some ⟨lb,2,none⟩)) (by kernel_rfl) qgb (by kernel_rfl) (by kernel_rfl) (fun c a W h=>hP c _ _ _ W h) (Or.inl ⟨by kernel_rfl,fun W hW=>by kernel_rfl⟩) trivial ?_
  rw [show Act.put _ aa12.dst _={ tmps:=#[.pointer (some ⟨lb,0,none⟩),u,x2,x3,x4,x5,x6,x7,.int .i64 (k:Nat),x9,aa,ad,.pointer (some ⟨lb,0,none⟩),.pointer (some ⟨lb,0,none⟩),.pointer (some ⟨lb,0,none⟩),.pointer (some ⟨lb,2,none⟩),vo,.pointer (some ⟨lb,0,none⟩),.int .i64 (k:Nat),.int .i64 (l.length:Nat),vo,u,v',.pointer (some ⟨lb,0,none⟩),.pointer (some ⟨lb,2,none⟩),aK,aL,aM,aN,aF,aO,aC,aP,aH,aI,aJ,aG,aD,aE,ar,al,ai,aj],defers:=[] } from by kernel_rfl]
  refine wpAnyH_all (rs:=[13]) (by kernel_rfl) (by simp) (fun i hi=>?_)
  obtain rfl:=List.mem_singleton.1 hi
  have hfr:Fr (fun k=>vo.ownBlock=some k) W W':=Fr.of_grown hgr (fun k e=>e)
  have hb':W'.heap[lb]?=some (.cells #[.pointer (some ⟨fb,0,none⟩),.int .i64 r,vo,ve] 81 (0,0)):=by rw [hfr.block lb hl.lt hl.no];exact hl.blk
  refine qvm (o:=aa13) (w':=W'.setCell ⟨lb,2,none⟩ v') (by kernel_rfl) (by kernel_rfl) (qtr rfl rfl rfl (jab hown) hb') ?_
  rw [show Act.put _ aa13.dst _={ tmps:=#[.pointer (some ⟨lb,0,none⟩),u,x2,x3,x4,x5,x6,x7,.int .i64 (k:Nat),x9,aa,ad,.pointer (some ⟨lb,0,none⟩),.pointer (some ⟨lb,0,none⟩),.pointer (some ⟨lb,0,none⟩),.pointer (some ⟨lb,2,none⟩),vo,.pointer (some ⟨lb,0,none⟩),.int .i64 (k:Nat),.int .i64 (l.length:Nat),vo,u,v',.pointer (some ⟨lb,0,none⟩),.pointer (some ⟨lb,2,none⟩),aK,aL,aM,aN,aF,aO,aC,aP,aH,aI,aJ,aG,aD,aE,ar,al,ai,aj],defers:=[] } from by kernel_rfl]
  refine ⟨trivial,?_⟩
  have hown':W'.ownsRow B 74 20 v' (l++q).length ((l++q).flatMap opc):=by rw [List.length_append,List.flatMap_append];exact hown
  have hst:=hl.ops hown' hfr (fun j hj=>by
   rcases hvb with e | e
   ·exact .inl (e▸hj)
   ·rw [e] at hj;simp at hj;exact .inr (by omega)) (hl.cu.append hq2)
  exact wpAnyH_done (by kernel_rfl) (hQ v' _ hst.1 hst.2) _
 refine wpAnyH_take (i:=0) (oi:=aa0) (v:=.pointer (some ⟨lb,0,none⟩)) (by kernel_rfl) qgb (by kernel_rfl) (by kernel_rfl) (fun c a W h=>hP c _ _ _ W h) (Or.inl ⟨by kernel_rfl,fun W hW=>by kernel_rfl⟩) trivial ?_
 refine wpAnyH_take (i:=1) (oi:=aa1) (v:=.pointer (some ⟨lb,0,none⟩)) (by kernel_rfl) qgb (by kernel_rfl) (by kernel_rfl) (fun c a W h=>hP c _ _ _ W h) (Or.inl ⟨by kernel_rfl,fun W hW=>by kernel_rfl⟩) trivial ?_
 refine wpAnyH_take (i:=2) (oi:=aa2) (v:=.pointer (some ⟨lb,0,none⟩)) (by kernel_rfl) qgb (by kernel_rfl) (by kernel_rfl) (fun c a W h=>hP c _ _ _ W h) (Or.inl ⟨by kernel_rfl,fun W hW=>by kernel_rfl⟩) trivial ?_
 refine wpAnyH_take (i:=3) (oi:=aa3) (v:=.pointer (some ⟨lb,2,none⟩)) (by kernel_rfl) qgb (by kernel_rfl) (by kernel_rfl) (fun c a W h=>hP c _ _ _ W h) (Or.inl ⟨by kernel_rfl,fun W hW=>by kernel_rfl⟩) trivial ?_
 refine wpAnyH_take (i:=5) (oi:=aa5) (v:=.pointer (some ⟨lb,0,none⟩)) (by kernel_rfl) qgb (by kernel_rfl) (by kernel_rfl) (fun c a W h=>hP c _ _ _ W h) (Or.inl ⟨by kernel_rfl,fun W hW=>by kernel_rfl⟩) trivial ?_
 refine wpAnyH_take (i:=6) (oi:=aa6) (v:=.int .i64 (k:Nat)) (by kernel_rfl) qgb (by kernel_rfl) (by kernel_rfl) (fun c a W h=>hP c _ _ _ W h) (Or.inl ⟨by kernel_rfl,fun W hW=>by kernel_rfl⟩) trivial ?_
 rw [show Act.put _ aa6.dst _={ tmps:=#[.pointer (some ⟨lb,0,none⟩),u,x2,x3,x4,x5,x6,x7,.int .i64 (k:Nat),x9,aa,ad,.pointer (some ⟨lb,0,none⟩),.pointer (some ⟨lb,0,none⟩),.pointer (some ⟨lb,0,none⟩),.pointer (some ⟨lb,2,none⟩),ap,.pointer (some ⟨lb,0,none⟩),.int .i64 (k:Nat),aq,am,au,ak,ag,ah,aK,aL,aM,aN,aF,aO,aC,aP,aH,aI,aJ,aG,aD,aE,ar,al,ai,aj],defers:=[] } from by kernel_rfl]
 refine wpAnyH_take (i:=9) (oi:=aa9) (v:=u) (by kernel_rfl) qgb (by kernel_rfl) (by kernel_rfl) (fun c a W h=>hP c _ _ _ W h) (Or.inl ⟨by kernel_rfl,fun W hW=>by kernel_rfl⟩) trivial ?_
 rw [show Act.put _ aa9.dst _={ tmps:=#[.pointer (some ⟨lb,0,none⟩),u,x2,x3,x4,x5,x6,x7,.int .i64 (k:Nat),x9,aa,ad,.pointer (some ⟨lb,0,none⟩),.pointer (some ⟨lb,0,none⟩),.pointer (some ⟨lb,0,none⟩),.pointer (some ⟨lb,2,none⟩),ap,.pointer (some ⟨lb,0,none⟩),.int .i64 (k:Nat),aq,am,u,ak,ag,ah,aK,aL,aM,aN,aF,aO,aC,aP,aH,aI,aJ,aG,aD,aE,ar,al,ai,aj],defers:=[] } from by kernel_rfl]
 refine wpAnyH_all (rs:=[4,7]) (by kernel_rfl) (by simp) (fun i hi=>?_)
 rcases List.mem_cons.1 hi with rfl | hi
 ·refine qcn (o:=aa4) (v:=vo) (w':=W) (by kernel_rfl) (by kernel_rfl) (qhn rfl rfl (hl.c2)) ?_
  rw [show Act.put _ aa4.dst _={ tmps:=#[.pointer (some ⟨lb,0,none⟩),u,x2,x3,x4,x5,x6,x7,.int .i64 (k:Nat),x9,aa,ad,.pointer (some ⟨lb,0,none⟩),.pointer (some ⟨lb,0,none⟩),.pointer (some ⟨lb,0,none⟩),.pointer (some ⟨lb,2,none⟩),vo,.pointer (some ⟨lb,0,none⟩),.int .i64 (k:Nat),aq,am,u,ak,ag,ah,aK,aL,aM,aN,aF,aO,aC,aP,aH,aI,aJ,aG,aD,aE,ar,al,ai,aj],defers:=[] } from by kernel_rfl]
  refine ⟨trivial,?_⟩
  refine wpAnyH_all (rs:=[7]) (by kernel_rfl) (by simp) (fun i hi=>?_)
  obtain rfl:=List.mem_singleton.1 hi
  refine qaq (o:=aa7) (f:=67) (args:=#[.pointer (some ⟨lb,0,none⟩),.int .i64 (k:Nat)]) (D:=fun v V=>v=.int .i64 (l.length:Nat)∧W=V) (by kernel_rfl) (by kernel_rfl) (by kernel_rfl) ?hc ?_
  case hc=>exact (qgx hl k hk (by omega)).mono fun e V ⟨h1,h2⟩=>⟨_,h1,by rw [hkl],h2⟩
  rintro v W7 ⟨rfl,rfl⟩
  rw [show Act.put _ aa7.dst _={ tmps:=#[.pointer (some ⟨lb,0,none⟩),u,x2,x3,x4,x5,x6,x7,.int .i64 (k:Nat),x9,aa,ad,.pointer (some ⟨lb,0,none⟩),.pointer (some ⟨lb,0,none⟩),.pointer (some ⟨lb,0,none⟩),.pointer (some ⟨lb,2,none⟩),vo,.pointer (some ⟨lb,0,none⟩),.int .i64 (k:Nat),.int .i64 (l.length:Nat),am,u,ak,ag,ah,aK,aL,aM,aN,aF,aO,aC,aP,aH,aI,aJ,aG,aD,aE,ar,al,ai,aj],defers:=[] } from by kernel_rfl]
  exact ⟨trivial,qan (by kernel_rfl) TL⟩
 ·obtain rfl:=List.mem_singleton.1 hi
  refine qaq (o:=aa7) (f:=67) (args:=#[.pointer (some ⟨lb,0,none⟩),.int .i64 (k:Nat)]) (D:=fun v V=>v=.int .i64 (l.length:Nat)∧W=V) (by kernel_rfl) (by kernel_rfl) (by kernel_rfl) ?hc ?_
  case hc=>exact (qgx hl k hk (by omega)).mono fun e V ⟨h1,h2⟩=>⟨_,h1,by rw [hkl],h2⟩
  rintro v W7 ⟨rfl,rfl⟩
  rw [show Act.put _ aa7.dst _={ tmps:=#[.pointer (some ⟨lb,0,none⟩),u,x2,x3,x4,x5,x6,x7,.int .i64 (k:Nat),x9,aa,ad,.pointer (some ⟨lb,0,none⟩),.pointer (some ⟨lb,0,none⟩),.pointer (some ⟨lb,0,none⟩),.pointer (some ⟨lb,2,none⟩),ap,.pointer (some ⟨lb,0,none⟩),.int .i64 (k:Nat),.int .i64 (l.length:Nat),am,u,ak,ag,ah,aK,aL,aM,aN,aF,aO,aC,aP,aH,aI,aJ,aG,aD,aE,ar,al,ai,aj],defers:=[] } from by kernel_rfl]
  refine ⟨trivial,?_⟩
  refine wpAnyH_all (rs:=[4]) (by kernel_rfl) (by simp) (fun i hi=>?_)
  obtain rfl:=List.mem_singleton.1 hi
  refine qcn (o:=aa4) (v:=vo) (w':=W) (by kernel_rfl) (by kernel_rfl) (qhn rfl rfl (hl.c2)) ?_
  rw [show Act.put _ aa4.dst _={ tmps:=#[.pointer (some ⟨lb,0,none⟩),u,x2,x3,x4,x5,x6,x7,.int .i64 (k:Nat),x9,aa,ad,.pointer (some ⟨lb,0,none⟩),.pointer (some ⟨lb,0,none⟩),.pointer (some ⟨lb,0,none⟩),.pointer (some ⟨lb,2,none⟩),vo,.pointer (some ⟨lb,0,none⟩),.int .i64 (k:Nat),.int .i64 (l.length:Nat),am,u,ak,ag,ah,aK,aL,aM,aN,aF,aO,aC,aP,aH,aI,aJ,aG,aD,aE,ar,al,ai,aj],defers:=[] } from by kernel_rfl]
  exact ⟨trivial,qan (by kernel_rfl) TL⟩
def ab0:Oper:={ dst:=some 25,op:=Go.Op.move (Go.Operand.tmp 0),type:=32,pos := "oplog.go:133",after:=#[],guard:=none }
def ab1:Oper:={ dst:=some 26,op:=Go.Op.move (Go.Operand.tmp 0),type:=32,pos := "oplog.go:133",after:=#[],guard:=none }
def ab2:Oper:={ dst:=some 27,op:=Go.Op.nilCheck (Go.Operand.tmp 26),type:=0,pos := "oplog.go:133",after:=#[{ on:=1,ground:=Go.Ground.data }],guard:=none }
def ab3:Oper:={ dst:=some 28,op:=Go.Op.fieldAddr 81 (Go.Operand.tmp 27) 3,type:=0,pos := "oplog.go:133",after:=#[{ on:=2,ground:=Go.Ground.data }],guard:=none }
def ab4:Oper:={ dst:=some 29,op:=Go.Op.load 79 (Go.Operand.tmp 28),type:=79,pos := "oplog.go:133",after:=#[{ on:=3,ground:=Go.Ground.data }],guard:=none }
def ab5:Oper:={ dst:=some 30,op:=Go.Op.move (Go.Operand.tmp 8),type:=3,pos := "oplog.go:133",after:=#[],guard:=none }
def ab6:Oper:={ dst:=some 31,op:=Go.Op.slice 79 (Go.Operand.tmp 29) none (some (Go.Operand.tmp 30)) none,type:=79,pos := "oplog.go:133",after:=#[{ on:=4,ground:=Go.Ground.data },{ on:=5,ground:=Go.Ground.data }],guard:=none }
def ab7:Oper:={ dst:=some 32,op:=Go.Op.move (Go.Operand.tmp 3),type:=3,pos := "oplog.go:133",after:=#[],guard:=none }
def ab8:Oper:={ dst:=some 33,op:=Go.Op.move (Go.Operand.tmp 0),type:=32,pos := "oplog.go:133",after:=#[],guard:=none }
def ab9:Oper:={ dst:=some 34,op:=Go.Op.nilCheck (Go.Operand.tmp 33),type:=0,pos := "oplog.go:133",after:=#[{ on:=8,ground:=Go.Ground.data }],guard:=none }
def ab10:Oper:={ dst:=some 35,op:=Go.Op.fieldAddr 81 (Go.Operand.tmp 34) 2,type:=0,pos := "oplog.go:133",after:=#[{ on:=9,ground:=Go.Ground.data }],guard:=none }
def ab11:Oper:={ dst:=some 36,op:=Go.Op.load 38 (Go.Operand.tmp 35),type:=38,pos := "oplog.go:133",after:=#[{ on:=10,ground:=Go.Ground.data }],guard:=none }
def ab12:Oper:={ dst:=some 37,op:=Go.Op.call { callee:=Go.Callee.builtin Go.Builtin.len,args:=#[Go.Operand.tmp 36],argTypes:=#[38] },type:=3,pos := "oplog.go:133",after:=#[{ on:=11,ground:=Go.Ground.data }],guard:=none }
def ab13:Oper:={ dst:=some 38,op:=Go.Op.build 94 #[(0,Go.Operand.tmp 32),(1,Go.Operand.tmp 37)],type:=94,pos := "oplog.go:133",after:=#[{ on:=7,ground:=Go.Ground.data },{ on:=12,ground:=Go.Ground.data }],guard:=none }
def ab14:Oper:={ dst:=some 39,op:=Go.Op.buildSlice 79 1 #[(0,Go.Operand.tmp 38)],type:=79,pos := "oplog.go:133",after:=#[{ on:=13,ground:=Go.Ground.data }],guard:=none }
def ab15:Oper:={ dst:=some 40,op:=Go.Op.call { callee:=Go.Callee.builtin Go.Builtin.append,args:=#[Go.Operand.tmp 31,Go.Operand.tmp 39],argTypes:=#[79,79] },type:=79,pos := "oplog.go:133",after:=#[{ on:=6,ground:=Go.Ground.data },{ on:=14,ground:=Go.Ground.data }],guard:=none }
def ab16:Oper:={ dst:=some 41,op:=Go.Op.nilCheck (Go.Operand.tmp 25),type:=0,pos := "oplog.go:133",after:=#[{ on:=0,ground:=Go.Ground.data },{ on:=0,ground:=Go.Ground.phase },{ on:=1,ground:=Go.Ground.phase },{ on:=2,ground:=Go.Ground.phase },{ on:=3,ground:=Go.Ground.phase },{ on:=4,ground:=Go.Ground.phase },{ on:=5,ground:=Go.Ground.phase },{ on:=6,ground:=Go.Ground.phase },{ on:=7,ground:=Go.Ground.phase },{ on:=8,ground:=Go.Ground.phase },{ on:=9,ground:=Go.Ground.phase },{ on:=10,ground:=Go.Ground.phase },{ on:=11,ground:=Go.Ground.phase },{ on:=12,ground:=Go.Ground.phase },{ on:=13,ground:=Go.Ground.phase },{ on:=14,ground:=Go.Ground.phase },{ on:=15,ground:=Go.Ground.phase }],guard:=none }
def ab17:Oper:={ dst:=some 42,op:=Go.Op.fieldAddr 81 (Go.Operand.tmp 41) 3,type:=0,pos := "oplog.go:133",after:=#[{ on:=16,ground:=Go.Ground.data },{ on:=0,ground:=Go.Ground.phase },{ on:=1,ground:=Go.Ground.phase },{ on:=2,ground:=Go.Ground.phase },{ on:=3,ground:=Go.Ground.phase },{ on:=4,ground:=Go.Ground.phase },{ on:=5,ground:=Go.Ground.phase },{ on:=6,ground:=Go.Ground.phase },{ on:=7,ground:=Go.Ground.phase },{ on:=8,ground:=Go.Ground.phase },{ on:=9,ground:=Go.Ground.phase },{ on:=10,ground:=Go.Ground.phase },{ on:=11,ground:=Go.Ground.phase },{ on:=12,ground:=Go.Ground.phase },{ on:=13,ground:=Go.Ground.phase },{ on:=14,ground:=Go.Ground.phase },{ on:=15,ground:=Go.Ground.phase }],guard:=none }
def ab18:Oper:={ dst:=none,op:=Go.Op.store 79 (Go.Operand.tmp 42) (Go.Operand.tmp 40),type:=0,pos := "oplog.go:133",after:=#[{ on:=17,ground:=Go.Ground.data },{ on:=15,ground:=Go.Ground.data },{ on:=15,ground:=Go.Ground.chain },{ on:=0,ground:=Go.Ground.phase },{ on:=1,ground:=Go.Ground.phase },{ on:=2,ground:=Go.Ground.phase },{ on:=3,ground:=Go.Ground.phase },{ on:=4,ground:=Go.Ground.phase },{ on:=5,ground:=Go.Ground.phase },{ on:=6,ground:=Go.Ground.phase },{ on:=7,ground:=Go.Ground.phase },{ on:=8,ground:=Go.Ground.phase },{ on:=9,ground:=Go.Ground.phase },{ on:=10,ground:=Go.Ground.phase },{ on:=11,ground:=Go.Ground.phase },{ on:=12,ground:=Go.Ground.phase },{ on:=13,ground:=Go.Ground.phase },{ on:=14,ground:=Go.Ground.phase },{ on:=15,ground:=Go.Ground.phase }],guard:=none }
def abs:Array Oper:=#[ab0,ab1,ab2,ab3,ab4,ab5,ab6,ab7,ab8,ab9,ab10,ab11,ab12,ab13,ab14,ab15,ab16,ab17,ab18]
theorem qda:Region.noSelect abs=true:=by kernel_rfl
set_option maxHeartbeats 4000000 in
theorem add_r2 {B:Nat}{w:World}{lb fb:Nat}{fv vo ve:Value}{xs:List Int}{n R tt:Nat}{r:Int}{l:List (Opn × Value)}{es:List (Nat × Nat)}{x1 x2 x4 x5 x6 x7 x9 aa ad av aw ay az ap aA aB aq am au ak ag ah aK aL aM aN aF aO aC aP aH aI aJ aG aD aE ar al ai aj:Value}{Q:Exit→Act→World→Prop}(hl0:Lg B w lb fb fv vo ve xs n R r l es) (hB:B≤w.heap.size) (hen:es.length≤10000000)
  (hP:∀ c t t' d W,Q (.panic c) { tmps:=t,defers:=d } W→Q (.panic c) { tmps:=t',defers:=d } W)
  (hQ:∀ nn ve' W,Lg B W lb fb fv vo ve' xs n R r l (es++[(tt,l.length)])→Lx (Ft lb fb fv vo ve) (Ft lb fb fv vo ve') (World.drew w) W→Q .normal { tmps:=#[.pointer (some ⟨lb,0,none⟩),x1,x2,.int .i64 (tt:Nat),x4,x5,x6,x7,.int .i64 (es.length:Nat),x9,aa,ad,av,aw,ay,az,ap,aA,aB,aq,am,au,ak,ag,ah,.pointer (some ⟨lb,0,none⟩),.pointer (some ⟨lb,0,none⟩),.pointer (some ⟨lb,0,none⟩),.pointer (some ⟨lb,3,none⟩),ve,.int .i64 (es.length:Nat),ve,.int .i64 (tt:Nat),.pointer (some ⟨lb,0,none⟩),.pointer (some ⟨lb,0,none⟩),.pointer (some ⟨lb,2,none⟩),vo,.int .i64 (l.length:Nat),.agg #[.int .i64 (tt:Nat),.int .i64 (l.length:Nat)],nn,ve',.pointer (some ⟨lb,0,none⟩),.pointer (some ⟨lb,3,none⟩)],defers:=[] } W):(Code.region 2 abs true).wp Tryz.prog Q { tmps:=#[.pointer (some ⟨lb,0,none⟩),x1,x2,.int .i64 (tt:Nat),x4,x5,x6,x7,.int .i64 (es.length:Nat),x9,aa,ad,av,aw,ay,az,ap,aA,aB,aq,am,au,ak,ag,ah,aK,aL,aM,aN,aF,aO,aC,aP,aH,aI,aJ,aG,aD,aE,ar,al,ai,aj],defers:=[] } w:=by
 obtain ⟨va,vc,hvo,hvc⟩:=qbe hl0.ro
 obtain ⟨ea,ec,hve,hec⟩:=qbe hl0.re
 refine wp_region_held (S:=fun W=>True) (by kernel_rfl) ?_
 change wpAnyH _ _ _ _ _ 19 _ _ (World.drew _)
 have hl1:Lg B (World.drew w) lb fb fv vo ve xs n R r l es:=hl0.drewN 1
 have hB1:B≤(World.drew w).heap.size:=hB
 clear hl0 hB
 obtain ⟨W,hW⟩:∃ W,World.drew w=W:=⟨_,rfl⟩
 rw [hW] at hl1 hB1 hQ ⊢
 clear hW
 have hbb:Below W.heap.size W (W.alloc (.cells #[.int .i64 (tt:Nat),.int .i64 (l.length:Nat)] 94)):=ba W _
 have hl:=hl1.below hbb
 have hB2:=Nat.le_trans hB1 hbb.size
 have hs:Sl 2 (W.alloc (.cells #[.int .i64 (tt:Nat),.int .i64 (l.length:Nat)] 94)) (.slice (some ⟨W.heap.size,0,none⟩) 1 1) 1 (endc (tt,l.length)):=Sl.lit W _ #[.int .i64 (tt:Nat),.int .i64 (l.length:Nat)] 1 (by decide) rfl
 obtain ⟨W2,hW2⟩:∃ W2,W.alloc (.cells #[.int .i64 (tt:Nat),.int .i64 (l.length:Nat)] 94)=W2:=⟨_,rfl⟩
 obtain ⟨g,hg⟩:∃ g,W.heap.size=g:=⟨_,rfl⟩
 rw [hW2] at hbb hl hB2 hs
 rw [hg] at hs
 have TL:wpAnyH Tryz.prog .any abs Q (fun W=>True) 4 #[true,true,true,true,true,true,true,true,true,true,true,true,true,true,true,false,false,false,false] { tmps:=#[.pointer (some ⟨lb,0,none⟩),x1,x2,.int .i64 (tt:Nat),x4,x5,x6,x7,.int .i64 (es.length:Nat),x9,aa,ad,av,aw,ay,az,ap,aA,aB,aq,am,au,ak,ag,ah,.pointer (some ⟨lb,0,none⟩),.pointer (some ⟨lb,0,none⟩),.pointer (some ⟨lb,0,none⟩),.pointer (some ⟨lb,3,none⟩),ve,.int .i64 (es.length:Nat),ve,.int .i64 (tt:Nat),.pointer (some ⟨lb,0,none⟩),.pointer (some ⟨lb,0,none⟩),.pointer (some ⟨lb,2,none⟩),vo,.int .i64 (l.length:Nat),.agg #[.int .i64 (tt:Nat),.int .i64 (l.length:Nat)],.slice (some ⟨g,0,none⟩) 1 1,al,ai,aj],defers:=[] } W2:=by
  refine wpAnyH_all (rs:=[15]) (by kernel_rfl) (by simp) (fun i hi=>?_)
  obtain rfl:=List.mem_singleton.1 hi
  obtain ⟨v',W',hrun,hown,hgr,hvb⟩:=qtw (o:=ab15) (a:={ tmps:=#[.pointer (some ⟨lb,0,none⟩),x1,x2,.int .i64 (tt:Nat),x4,x5,x6,x7,.int .i64 (es.length:Nat),x9,aa,ad,av,aw,ay,az,ap,aA,aB,aq,am,au,ak,ag,ah,.pointer (some ⟨lb,0,none⟩),.pointer (some ⟨lb,0,none⟩),.pointer (some ⟨lb,0,none⟩),.pointer (some ⟨lb,3,none⟩),ve,.int .i64 (es.length:Nat),ve,.int .i64 (tt:Nat),.pointer (some ⟨lb,0,none⟩),.pointer (some ⟨lb,0,none⟩),.pointer (some ⟨lb,2,none⟩),vo,.int .i64 (l.length:Nat),.agg #[.int .i64 (tt:Nat),.int .i64 (l.length:Nat)],.slice (some ⟨g,0,none⟩) 1 1,al,ai,aj],defers:=[] }) 79 94 2 16 _ Tryz.underlying79 qqy rfl (by decide) _ _ rfl B ve es.length (es.flatMap endc) rfl hl.re (.slice (some ⟨g,0,none⟩) 1 1) 1 (endc (tt,l.length)) rfl hs (by intro u hu;simp at hu;rcases hu with rfl | rfl<;>rfl) (by omega) (by unfold maxLen;omega) hB2
  refine qcn (o:=ab15) (v:=v') (w':=W') (by kernel_rfl) (by kernel_rfl) hrun ?_
  rw [show Act.put _ ab15.dst _={ tmps:=#[.pointer (some ⟨lb,0,none⟩),x1,x2,.int .i64 (tt:Nat),x4,x5,x6,x7,.int .i64 (es.length:Nat),x9,aa,ad,av,aw,ay,az,ap,aA,aB,aq,am,au,ak,ag,ah,.pointer (some ⟨lb,0,none⟩),.pointer (some ⟨lb,0,none⟩),.pointer (some ⟨lb,0,none⟩),.pointer (some ⟨lb,3,none⟩),ve,.int .i64 (es.length:Nat),ve,.int .i64 (tt:Nat),.pointer (some ⟨lb,0,none⟩),.pointer (some ⟨lb,0,none⟩),.pointer (some ⟨lb,2,none⟩),vo,.int .i64 (l.length:Nat),.agg #[.int .i64 (tt:Nat),.int .i64 (l.length:Nat)],.slice (some ⟨g,0,none⟩) 1 1,v',ai,aj],defers:=[] } from by kernel_rfl]
  refine ⟨trivial,?_⟩
  refine wpAnyH_take (i:=16) (oi:=ab16) (v:=.pointer (some ⟨lb,0,none⟩)) (by kernel_rfl) qda (by kernel_rfl) (by kernel_rfl) (fun c a W h=>hP c _ _ _ W h) (Or.inl ⟨by kernel_rfl,fun W hW=>by kernel_rfl⟩) trivial ?_
  refine wpAnyH_take (i:=17) (oi:=ab17) (v:=.pointer (some ⟨lb,3,none⟩)) (by kernel_rfl) qda (by kernel_rfl) (by kernel_rfl) (fun c a W h=>hP c _ _ _ W h) (Or.inl ⟨by kernel_rfl,fun W hW=>by kernel_rfl⟩) trivial ?_
  rw [show Act.put _ ab17.dst _={ tmps:=#[.pointer (some ⟨lb,0,none⟩),x1,x2,.int .i64 (tt:Nat),x4,x5,x6,x7,.int .i64 (es.length:Nat),x9,aa,ad,av,aw,ay,az,ap,aA,aB,aq,am,au,ak,ag,ah,.pointer (some ⟨lb,0,none⟩),.pointer (some ⟨lb,0,none⟩),.pointer (some ⟨lb,0,none⟩),.pointer (some ⟨lb,3,none⟩),ve,.int .i64 (es.length:Nat),ve,.int .i64 (tt:Nat),.pointer (some ⟨lb,0,none⟩),.pointer (some ⟨lb,0,none⟩),.pointer (some ⟨lb,2,none⟩),vo,.int .i64 (l.length:Nat),.agg #[.int .i64 (tt:Nat),.int .i64 (l.length:Nat)],.slice (some ⟨g,0,none⟩) 1 1,v',.pointer (some ⟨lb,0,none⟩),.pointer (some ⟨lb,3,none⟩)],defers:=[] } from by kernel_rfl]
  refine wpAnyH_all (rs:=[18]) (by kernel_rfl) (by simp) (fun i hi=>?_)
  obtain rfl:=List.mem_singleton.1 hi
  have hfr:Fr (fun k=>ve.ownBlock=some k) W2 W':=Fr.of_grown hgr (fun k e=>e)
  have hb':W'.heap[lb]?=some (.cells #[.pointer (some ⟨fb,0,none⟩),.int .i64 r,vo,ve] 81 (0,0)):=by rw [hfr.block lb hl.lt hl.ne];exact hl.blk
  refine qvm (o:=ab18) (w':=W'.setCell ⟨lb,3,none⟩ v') (by kernel_rfl) (by kernel_rfl) (qts rfl rfl rfl (jab hown) hb') ?_
  rw [show Act.put _ ab18.dst _={ tmps:=#[.pointer (some ⟨lb,0,none⟩),x1,x2,.int .i64 (tt:Nat),x4,x5,x6,x7,.int .i64 (es.length:Nat),x9,aa,ad,av,aw,ay,az,ap,aA,aB,aq,am,au,ak,ag,ah,.pointer (some ⟨lb,0,none⟩),.pointer (some ⟨lb,0,none⟩),.pointer (some ⟨lb,0,none⟩),.pointer (some ⟨lb,3,none⟩),ve,.int .i64 (es.length:Nat),ve,.int .i64 (tt:Nat),.pointer (some ⟨lb,0,none⟩),.pointer (some ⟨lb,0,none⟩),.pointer (some ⟨lb,2,none⟩),vo,.int .i64 (l.length:Nat),.agg #[.int .i64 (tt:Nat),.int .i64 (l.length:Nat)],.slice (some ⟨g,0,none⟩) 1 1,v',.pointer (some ⟨lb,0,none⟩),.pointer (some ⟨lb,3,none⟩)],defers:=[] } from by kernel_rfl]
  refine ⟨trivial,?_⟩
  have hown':W'.ownsRow B 94 2 v' (es++[(tt,l.length)]).length ((es++[(tt,l.length)]).flatMap endc):=by rw [List.length_append,List.flatMap_append];simpa using hown
  have hst:=hl.ends hown' hfr (fun j hj=>by
   rcases hvb with e | e
   ·exact .inl (e▸hj)
   ·rw [e] at hj;simp at hj;exact .inr (by omega))
  exact wpAnyH_done (by kernel_rfl) (hQ _ v' _ hst.1 ((Lx.of_below hbb).trans hst.2)) _
 refine wpAnyH_take (i:=0) (oi:=ab0) (v:=.pointer (some ⟨lb,0,none⟩)) (by kernel_rfl) qda (by kernel_rfl) (by kernel_rfl) (fun c a W h=>hP c _ _ _ W h) (Or.inl ⟨by kernel_rfl,fun W hW=>by kernel_rfl⟩) trivial ?_
 refine wpAnyH_take (i:=1) (oi:=ab1) (v:=.pointer (some ⟨lb,0,none⟩)) (by kernel_rfl) qda (by kernel_rfl) (by kernel_rfl) (fun c a W h=>hP c _ _ _ W h) (Or.inl ⟨by kernel_rfl,fun W hW=>by kernel_rfl⟩) trivial ?_
 refine wpAnyH_take (i:=2) (oi:=ab2) (v:=.pointer (some ⟨lb,0,none⟩)) (by kernel_rfl) qda (by kernel_rfl) (by kernel_rfl) (fun c a W h=>hP c _ _ _ W h) (Or.inl ⟨by kernel_rfl,fun W hW=>by kernel_rfl⟩) trivial ?_
 refine wpAnyH_take (i:=3) (oi:=ab3) (v:=.pointer (some ⟨lb,3,none⟩)) (by kernel_rfl) qda (by kernel_rfl) (by kernel_rfl) (fun c a W h=>hP c _ _ _ W h) (Or.inl ⟨by kernel_rfl,fun W hW=>by kernel_rfl⟩) trivial ?_
 refine wpAnyH_take (i:=5) (oi:=ab5) (v:=.int .i64 (es.length:Nat)) (by kernel_rfl) qda (by kernel_rfl) (by kernel_rfl) (fun c a W h=>hP c _ _ _ W h) (Or.inl ⟨by kernel_rfl,fun W hW=>by kernel_rfl⟩) trivial ?_
 refine wpAnyH_take (i:=7) (oi:=ab7) (v:=.int .i64 (tt:Nat)) (by kernel_rfl) qda (by kernel_rfl) (by kernel_rfl) (fun c a W h=>hP c _ _ _ W h) (Or.inl ⟨by kernel_rfl,fun W hW=>by kernel_rfl⟩) trivial ?_
 rw [show Act.put _ ab7.dst _={ tmps:=#[.pointer (some ⟨lb,0,none⟩),x1,x2,.int .i64 (tt:Nat),x4,x5,x6,x7,.int .i64 (es.length:Nat),x9,aa,ad,av,aw,ay,az,ap,aA,aB,aq,am,au,ak,ag,ah,.pointer (some ⟨lb,0,none⟩),.pointer (some ⟨lb,0,none⟩),.pointer (some ⟨lb,0,none⟩),.pointer (some ⟨lb,3,none⟩),aF,.int .i64 (es.length:Nat),aC,.int .i64 (tt:Nat),aH,aI,aJ,aG,aD,aE,ar,al,ai,aj],defers:=[] } from by kernel_rfl]
 refine wpAnyH_take (i:=8) (oi:=ab8) (v:=.pointer (some ⟨lb,0,none⟩)) (by kernel_rfl) qda (by kernel_rfl) (by kernel_rfl) (fun c a W h=>hP c _ _ _ W h) (Or.inl ⟨by kernel_rfl,fun W hW=>by kernel_rfl⟩) trivial ?_
 refine wpAnyH_take (i:=9) (oi:=ab9) (v:=.pointer (some ⟨lb,0,none⟩)) (by kernel_rfl) qda (by kernel_rfl) (by kernel_rfl) (fun c a W h=>hP c _ _ _ W h) (Or.inl ⟨by kernel_rfl,fun W hW=>by kernel_rfl⟩) trivial ?_
 refine wpAnyH_take (i:=10) (oi:=ab10) (v:=.pointer (some ⟨lb,2,none⟩)) (by kernel_rfl) qda (by kernel_rfl) (by kernel_rfl) (fun c a W h=>hP c _ _ _ W h) (Or.inl ⟨by kernel_rfl,fun W hW=>by kernel_rfl⟩) trivial ?_
 rw [show Act.put _ ab10.dst _={ tmps:=#[.pointer (some ⟨lb,0,none⟩),x1,x2,.int .i64 (tt:Nat),x4,x5,x6,x7,.int .i64 (es.length:Nat),x9,aa,ad,av,aw,ay,az,ap,aA,aB,aq,am,au,ak,ag,ah,.pointer (some ⟨lb,0,none⟩),.pointer (some ⟨lb,0,none⟩),.pointer (some ⟨lb,0,none⟩),.pointer (some ⟨lb,3,none⟩),aF,.int .i64 (es.length:Nat),aC,.int .i64 (tt:Nat),.pointer (some ⟨lb,0,none⟩),.pointer (some ⟨lb,0,none⟩),.pointer (some ⟨lb,2,none⟩),aG,aD,aE,ar,al,ai,aj],defers:=[] } from by kernel_rfl]
 refine wpAnyH_all (rs:=[4,11]) (by kernel_rfl) (by simp) (fun i hi=>?_)
 rcases List.mem_cons.1 hi with rfl | hi
 ·refine qcn (o:=ab4) (v:=ve) (w':=W) (by kernel_rfl) (by kernel_rfl) (qor rfl rfl (hl1.c3)) ?_
  rw [show Act.put _ ab4.dst _={ tmps:=#[.pointer (some ⟨lb,0,none⟩),x1,x2,.int .i64 (tt:Nat),x4,x5,x6,x7,.int .i64 (es.length:Nat),x9,aa,ad,av,aw,ay,az,ap,aA,aB,aq,am,au,ak,ag,ah,.pointer (some ⟨lb,0,none⟩),.pointer (some ⟨lb,0,none⟩),.pointer (some ⟨lb,0,none⟩),.pointer (some ⟨lb,3,none⟩),ve,.int .i64 (es.length:Nat),aC,.int .i64 (tt:Nat),.pointer (some ⟨lb,0,none⟩),.pointer (some ⟨lb,0,none⟩),.pointer (some ⟨lb,2,none⟩),aG,aD,aE,ar,al,ai,aj],defers:=[] } from by kernel_rfl]
  refine ⟨trivial,?_⟩
  refine wpAnyH_take (i:=6) (oi:=ab6) (v:=ve) (by kernel_rfl) qda (by kernel_rfl) (by kernel_rfl) (fun c a W h=>hP c _ _ _ W h) (Or.inl ⟨by kernel_rfl,fun W hW=>qli rfl rfl rfl hve hec⟩) trivial ?_
  rw [show Act.put _ ab6.dst _={ tmps:=#[.pointer (some ⟨lb,0,none⟩),x1,x2,.int .i64 (tt:Nat),x4,x5,x6,x7,.int .i64 (es.length:Nat),x9,aa,ad,av,aw,ay,az,ap,aA,aB,aq,am,au,ak,ag,ah,.pointer (some ⟨lb,0,none⟩),.pointer (some ⟨lb,0,none⟩),.pointer (some ⟨lb,0,none⟩),.pointer (some ⟨lb,3,none⟩),ve,.int .i64 (es.length:Nat),ve,.int .i64 (tt:Nat),.pointer (some ⟨lb,0,none⟩),.pointer (some ⟨lb,0,none⟩),.pointer (some ⟨lb,2,none⟩),aG,aD,aE,ar,al,ai,aj],defers:=[] } from by kernel_rfl]
  refine wpAnyH_all (rs:=[11]) (by kernel_rfl) (by simp) (fun i hi=>?_)
  obtain rfl:=List.mem_singleton.1 hi
  refine qcn (o:=ab11) (v:=vo) (w':=W) (by kernel_rfl) (by kernel_rfl) (qhn rfl rfl (hl1.c2)) ?_
  rw [show Act.put _ ab11.dst _={ tmps:=#[.pointer (some ⟨lb,0,none⟩),x1,x2,.int .i64 (tt:Nat),x4,x5,x6,x7,.int .i64 (es.length:Nat),x9,aa,ad,av,aw,ay,az,ap,aA,aB,aq,am,au,ak,ag,ah,.pointer (some ⟨lb,0,none⟩),.pointer (some ⟨lb,0,none⟩),.pointer (some ⟨lb,0,none⟩),.pointer (some ⟨lb,3,none⟩),ve,.int .i64 (es.length:Nat),ve,.int .i64 (tt:Nat),.pointer (some ⟨lb,0,none⟩),.pointer (some ⟨lb,0,none⟩),.pointer (some ⟨lb,2,none⟩),vo,aD,aE,ar,al,ai,aj],defers:=[] } from by kernel_rfl]
  refine ⟨trivial,?_⟩
  refine wpAnyH_take (i:=12) (oi:=ab12) (v:=.int .i64 (l.length:Nat)) (by kernel_rfl) qda (by kernel_rfl) (by kernel_rfl) (fun c a W h=>hP c _ _ _ W h) (Or.inl ⟨by kernel_rfl,fun W hW=>qtu rfl rfl hvo⟩) trivial ?_
  refine wpAnyH_take (i:=13) (oi:=ab13) (v:=.agg #[.int .i64 (tt:Nat),.int .i64 (l.length:Nat)]) (by kernel_rfl) qda (by kernel_rfl) (by kernel_rfl) (fun c a W h=>hP c _ _ _ W h) (Or.inl ⟨by kernel_rfl,fun W hW=>by kernel_rfl⟩) trivial ?_
  rw [show Act.put _ ab13.dst _={ tmps:=#[.pointer (some ⟨lb,0,none⟩),x1,x2,.int .i64 (tt:Nat),x4,x5,x6,x7,.int .i64 (es.length:Nat),x9,aa,ad,av,aw,ay,az,ap,aA,aB,aq,am,au,ak,ag,ah,.pointer (some ⟨lb,0,none⟩),.pointer (some ⟨lb,0,none⟩),.pointer (some ⟨lb,0,none⟩),.pointer (some ⟨lb,3,none⟩),ve,.int .i64 (es.length:Nat),ve,.int .i64 (tt:Nat),.pointer (some ⟨lb,0,none⟩),.pointer (some ⟨lb,0,none⟩),.pointer (some ⟨lb,2,none⟩),vo,.int .i64 (l.length:Nat),.agg #[.int .i64 (tt:Nat),.int .i64 (l.length:Nat)],ar,al,ai,aj],defers:=[] } from by kernel_rfl]
  refine wpAnyH_all (rs:=[14]) (by kernel_rfl) (by simp) (fun i hi=>?_)
  obtain rfl:=List.mem_singleton.1 hi
  refine qcn (o:=ab14) (v:=.slice (some ⟨W.heap.size,0,none⟩) 1 1) (w':=W.alloc (.cells #[.int .i64 (tt:Nat),.int .i64 (l.length:Nat)] 94)) (by kernel_rfl) (by kernel_rfl) (qll rfl rfl) ?_
  rw [show Act.put _ ab14.dst _={ tmps:=#[.pointer (some ⟨lb,0,none⟩),x1,x2,.int .i64 (tt:Nat),x4,x5,x6,x7,.int .i64 (es.length:Nat),x9,aa,ad,av,aw,ay,az,ap,aA,aB,aq,am,au,ak,ag,ah,.pointer (some ⟨lb,0,none⟩),.pointer (some ⟨lb,0,none⟩),.pointer (some ⟨lb,0,none⟩),.pointer (some ⟨lb,3,none⟩),ve,.int .i64 (es.length:Nat),ve,.int .i64 (tt:Nat),.pointer (some ⟨lb,0,none⟩),.pointer (some ⟨lb,0,none⟩),.pointer (some ⟨lb,2,none⟩),vo,.int .i64 (l.length:Nat),.agg #[.int .i64 (tt:Nat),.int .i64 (l.length:Nat)],.slice (some ⟨W.heap.size,0,none⟩) 1 1,al,ai,aj],defers:=[] } from by kernel_rfl]
  refine ⟨trivial,?_⟩
  rw [hW2]
  simp only [hg]
  exact qan (by kernel_rfl) TL
 ·obtain rfl:=List.mem_singleton.1 hi
  refine qcn (o:=ab11) (v:=vo) (w':=W) (by kernel_rfl) (by kernel_rfl) (qhn rfl rfl (hl1.c2)) ?_
  rw [show Act.put _ ab11.dst _={ tmps:=#[.pointer (some ⟨lb,0,none⟩),x1,x2,.int .i64 (tt:Nat),x4,x5,x6,x7,.int .i64 (es.length:Nat),x9,aa,ad,av,aw,ay,az,ap,aA,aB,aq,am,au,ak,ag,ah,.pointer (some ⟨lb,0,none⟩),.pointer (some ⟨lb,0,none⟩),.pointer (some ⟨lb,0,none⟩),.pointer (some ⟨lb,3,none⟩),aF,.int .i64 (es.length:Nat),aC,.int .i64 (tt:Nat),.pointer (some ⟨lb,0,none⟩),.pointer (some ⟨lb,0,none⟩),.pointer (some ⟨lb,2,none⟩),vo,aD,aE,ar,al,ai,aj],defers:=[] } from by kernel_rfl]
  refine ⟨trivial,?_⟩
  refine wpAnyH_take (i:=12) (oi:=ab12) (v:=.int .i64 (l.length:Nat)) (by kernel_rfl) qda (by kernel_rfl) (by kernel_rfl) (fun c a W h=>hP c _ _ _ W h) (Or.inl ⟨by kernel_rfl,fun W hW=>qtu rfl rfl hvo⟩) trivial ?_
  refine wpAnyH_take (i:=13) (oi:=ab13) (v:=.agg #[.int .i64 (tt:Nat),.int .i64 (l.length:Nat)]) (by kernel_rfl) qda (by kernel_rfl) (by kernel_rfl) (fun c a W h=>hP c _ _ _ W h) (Or.inl ⟨by kernel_rfl,fun W hW=>by kernel_rfl⟩) trivial ?_
  rw [show Act.put _ ab13.dst _={ tmps:=#[.pointer (some ⟨lb,0,none⟩),x1,x2,.int .i64 (tt:Nat),x4,x5,x6,x7,.int .i64 (es.length:Nat),x9,aa,ad,av,aw,ay,az,ap,aA,aB,aq,am,au,ak,ag,ah,.pointer (some ⟨lb,0,none⟩),.pointer (some ⟨lb,0,none⟩),.pointer (some ⟨lb,0,none⟩),.pointer (some ⟨lb,3,none⟩),aF,.int .i64 (es.length:Nat),aC,.int .i64 (tt:Nat),.pointer (some ⟨lb,0,none⟩),.pointer (some ⟨lb,0,none⟩),.pointer (some ⟨lb,2,none⟩),vo,.int .i64 (l.length:Nat),.agg #[.int .i64 (tt:Nat),.int .i64 (l.length:Nat)],ar,al,ai,aj],defers:=[] } from by kernel_rfl]
  refine wpAnyH_all (rs:=[4,14]) (by kernel_rfl) (by simp) (fun i hi=>?_)
  rcases List.mem_cons.1 hi with rfl | hi
  ·refine qcn (o:=ab4) (v:=ve) (w':=W) (by kernel_rfl) (by kernel_rfl) (qor rfl rfl (hl1.c3)) ?_
   rw [show Act.put _ ab4.dst _={ tmps:=#[.pointer (some ⟨lb,0,none⟩),x1,x2,.int .i64 (tt:Nat),x4,x5,x6,x7,.int .i64 (es.length:Nat),x9,aa,ad,av,aw,ay,az,ap,aA,aB,aq,am,au,ak,ag,ah,.pointer (some ⟨lb,0,none⟩),.pointer (some ⟨lb,0,none⟩),.pointer (some ⟨lb,0,none⟩),.pointer (some ⟨lb,3,none⟩),ve,.int .i64 (es.length:Nat),aC,.int .i64 (tt:Nat),.pointer (some ⟨lb,0,none⟩),.pointer (some ⟨lb,0,none⟩),.pointer (some ⟨lb,2,none⟩),vo,.int .i64 (l.length:Nat),.agg #[.int .i64 (tt:Nat),.int .i64 (l.length:Nat)],ar,al,ai,aj],defers:=[] } from by kernel_rfl]
   refine ⟨trivial,?_⟩
   refine wpAnyH_take (i:=6) (oi:=ab6) (v:=ve) (by kernel_rfl) qda (by kernel_rfl) (by kernel_rfl) (fun c a W h=>hP c _ _ _ W h) (Or.inl ⟨by kernel_rfl,fun W hW=>qli rfl rfl rfl hve hec⟩) trivial ?_
   rw [show Act.put _ ab6.dst _={ tmps:=#[.pointer (some ⟨lb,0,none⟩),x1,x2,.int .i64 (tt:Nat),x4,x5,x6,x7,.int .i64 (es.length:Nat),x9,aa,ad,av,aw,ay,az,ap,aA,aB,aq,am,au,ak,ag,ah,.pointer (some ⟨lb,0,none⟩),.pointer (some ⟨lb,0,none⟩),.pointer (some ⟨lb,0,none⟩),.pointer (some ⟨lb,3,none⟩),ve,.int .i64 (es.length:Nat),ve,.int .i64 (tt:Nat),.pointer (some ⟨lb,0,none⟩),.pointer (some ⟨lb,0,none⟩),.pointer (some ⟨lb,2,none⟩),vo,.int .i64 (l.length:Nat),.agg #[.int .i64 (tt:Nat),.int .i64 (l.length:Nat)],ar,al,ai,aj],defers:=[] } from by kernel_rfl]
   refine wpAnyH_all (rs:=[14]) (by kernel_rfl) (by simp) (fun i hi=>?_)
   obtain rfl:=List.mem_singleton.1 hi
   refine qcn (o:=ab14) (v:=.slice (some ⟨W.heap.size,0,none⟩) 1 1) (w':=W.alloc (.cells #[.int .i64 (tt:Nat),.int .i64 (l.length:Nat)] 94)) (by kernel_rfl) (by kernel_rfl) (qll rfl rfl) ?_
   rw [show Act.put _ ab14.dst _={ tmps:=#[.pointer (some ⟨lb,0,none⟩),x1,x2,.int .i64 (tt:Nat),x4,x5,x6,x7,.int .i64 (es.length:Nat),x9,aa,ad,av,aw,ay,az,ap,aA,aB,aq,am,au,ak,ag,ah,.pointer (some ⟨lb,0,none⟩),.pointer (some ⟨lb,0,none⟩),.pointer (some ⟨lb,0,none⟩),.pointer (some ⟨lb,3,none⟩),ve,.int .i64 (es.length:Nat),ve,.int .i64 (tt:Nat),.pointer (some ⟨lb,0,none⟩),.pointer (some ⟨lb,0,none⟩),.pointer (some ⟨lb,2,none⟩),vo,.int .i64 (l.length:Nat),.agg #[.int .i64 (tt:Nat),.int .i64 (l.length:Nat)],.slice (some ⟨W.heap.size,0,none⟩) 1 1,al,ai,aj],defers:=[] } from by kernel_rfl]
   refine ⟨trivial,?_⟩
   rw [hW2]
   simp only [hg]
   exact qan (by kernel_rfl) TL
  ·obtain rfl:=List.mem_singleton.1 hi
   refine qcn (o:=ab14) (v:=.slice (some ⟨W.heap.size,0,none⟩) 1 1) (w':=W.alloc (.cells #[.int .i64 (tt:Nat),.int .i64 (l.length:Nat)] 94)) (by kernel_rfl) (by kernel_rfl) (qll rfl rfl) ?_
   rw [show Act.put _ ab14.dst _={ tmps:=#[.pointer (some ⟨lb,0,none⟩),x1,x2,.int .i64 (tt:Nat),x4,x5,x6,x7,.int .i64 (es.length:Nat),x9,aa,ad,av,aw,ay,az,ap,aA,aB,aq,am,au,ak,ag,ah,.pointer (some ⟨lb,0,none⟩),.pointer (some ⟨lb,0,none⟩),.pointer (some ⟨lb,0,none⟩),.pointer (some ⟨lb,3,none⟩),aF,.int .i64 (es.length:Nat),aC,.int .i64 (tt:Nat),.pointer (some ⟨lb,0,none⟩),.pointer (some ⟨lb,0,none⟩),.pointer (some ⟨lb,2,none⟩),vo,.int .i64 (l.length:Nat),.agg #[.int .i64 (tt:Nat),.int .i64 (l.length:Nat)],.slice (some ⟨W.heap.size,0,none⟩) 1 1,al,ai,aj],defers:=[] } from by kernel_rfl]
   refine ⟨trivial,?_⟩
   have hl3:Lg B (W.alloc (.cells #[.int .i64 (tt:Nat),.int .i64 (l.length:Nat)] 94)) lb fb fv vo ve xs n R r l es:=by rw [hW2];exact hl
   refine wpAnyH_all (rs:=[4]) (by kernel_rfl) (by simp) (fun i hi=>?_)
   obtain rfl:=List.mem_singleton.1 hi
   refine qcn (o:=ab4) (v:=ve) (w':=(W.alloc (.cells #[.int .i64 (tt:Nat),.int .i64 (l.length:Nat)] 94))) (by kernel_rfl) (by kernel_rfl) (qor rfl rfl (hl3.c3)) ?_
   rw [show Act.put _ ab4.dst _={ tmps:=#[.pointer (some ⟨lb,0,none⟩),x1,x2,.int .i64 (tt:Nat),x4,x5,x6,x7,.int .i64 (es.length:Nat),x9,aa,ad,av,aw,ay,az,ap,aA,aB,aq,am,au,ak,ag,ah,.pointer (some ⟨lb,0,none⟩),.pointer (some ⟨lb,0,none⟩),.pointer (some ⟨lb,0,none⟩),.pointer (some ⟨lb,3,none⟩),ve,.int .i64 (es.length:Nat),aC,.int .i64 (tt:Nat),.pointer (some ⟨lb,0,none⟩),.pointer (some ⟨lb,0,none⟩),.pointer (some ⟨lb,2,none⟩),vo,.int .i64 (l.length:Nat),.agg #[.int .i64 (tt:Nat),.int .i64 (l.length:Nat)],.slice (some ⟨W.heap.size,0,none⟩) 1 1,al,ai,aj],defers:=[] } from by kernel_rfl]
   refine ⟨trivial,?_⟩
   refine wpAnyH_take (i:=6) (oi:=ab6) (v:=ve) (by kernel_rfl) qda (by kernel_rfl) (by kernel_rfl) (fun c a W h=>hP c _ _ _ W h) (Or.inl ⟨by kernel_rfl,fun W hW=>qli rfl rfl rfl hve hec⟩) trivial ?_
   rw [show Act.put _ ab6.dst _={ tmps:=#[.pointer (some ⟨lb,0,none⟩),x1,x2,.int .i64 (tt:Nat),x4,x5,x6,x7,.int .i64 (es.length:Nat),x9,aa,ad,av,aw,ay,az,ap,aA,aB,aq,am,au,ak,ag,ah,.pointer (some ⟨lb,0,none⟩),.pointer (some ⟨lb,0,none⟩),.pointer (some ⟨lb,0,none⟩),.pointer (some ⟨lb,3,none⟩),ve,.int .i64 (es.length:Nat),ve,.int .i64 (tt:Nat),.pointer (some ⟨lb,0,none⟩),.pointer (some ⟨lb,0,none⟩),.pointer (some ⟨lb,2,none⟩),vo,.int .i64 (l.length:Nat),.agg #[.int .i64 (tt:Nat),.int .i64 (l.length:Nat)],.slice (some ⟨W.heap.size,0,none⟩) 1 1,al,ai,aj],defers:=[] } from by kernel_rfl]
   rw [hW2]
   simp only [hg]
   exact qan (by kernel_rfl) TL
theorem qpl {es:List (Nat × Nat)}{s:Nat}(h:∀ p ∈ es,p.1≤s):inF es (s:Int)=es.length:=by
 unfold inF
 rw [List.countP_eq_length]
 intro p hp
 have:=h p hp
 simp
 omega
set_option maxHeartbeats 4000000 in
theorem qwq {B:Nat}{w:World}{lb fb:Nat}{fv vo ve u:Value}{xs:List Int}{n R:Nat}{r:Int}{l q:List (Opn × Value)}{es:List (Nat × Nat)}(h:Lg B w lb fb fv vo ve xs n R r l es) (hB:B≤w.heap.size) (hu:Os w u q) (hq:Cq (Ft lb fb fv vo ve) w q) (fm tt:Nat)
  (hs:es.Pairwise (fun p q=>p.1≤q.1)) (hin:∀ p ∈ es,p.1≤fm) (hop:opsAt es es.length=l.length) (hln:l.length+q.length≤10000000) (hen:es.length≤10000000) :
  Calls Tryz.prog 50 #[.pointer (some ⟨lb,0,none⟩),u,.int .i64 (fm:Nat),.int .i64 (tt:Nat)] w fun e w'=>e=.returned (.tuple #[])∧∃ vo' ve',Lg B w' lb fb fv vo' ve' xs n R r (l++q) (es++[(tt,(l++q).length)])∧Lx (Ft lb fb fv vo ve) (Ft lb fb fv vo' ve') w w':=by
 have HF:=hid (qhs h fm hs hen)
 rw [qpl hin] at HF
 have HL:=hid h
 have HU:=hid hu
 have HQ:=hid hq
 have HOP:=hid hop
 clear h hu hq hs hin hop
 go_enter Tryz.func50,Tryz.ntmps50
 go_wp2_with fail
 refine HF.out.mono ?_
 rintro e w1 ⟨rfl,b1⟩
 have B1:=hid b1
 have HL1:=hid (HL.out.below b1)
 have HU1:Hid (Os w1 u q):=hid ⟨HU.out.1.below b1,fun p hp=>(HU.out.2 p hp).below b1⟩
 have HQ1:=hid (HQ.out.step (Lx.of_below b1))
 have HB1:=hid (Nat.le_trans hB b1.size)
 clear b1
 go_wp2_with fail
 refine add_r1 HL1.out HB1.out (Nat.le_refl _) HOP.out HU1.out HQ1.out hln hen (fun _ _ _ _ _ h=>h) (fun vo' W hl2 hx2=>?_)
 have HL2:=hid hl2
 have X2:Hid (Lx (Ft lb fb fv vo ve) (Ft lb fb fv vo' ve) w1 W):=hid ((Lx.of_below (bd w1 1)).trans hx2)
 have HB2:=hid (Nat.le_trans HB1.out (Lx.size X2.out))
 clear hl2 hx2
 go_wp2_with fail
 refine add_r2 HL2.out HB2.out hen (fun _ _ _ _ _ h=>h) (fun nn ve' W3 hl3 hx3=>?_)
 have HL3:=hid hl3
 have X3:Hid (Lx (Ft lb fb fv vo' ve) (Ft lb fb fv vo' ve') W W3):=hid ((Lx.of_below (bd W 1)).trans hx3)
 clear hl3 hx3
 go_wp2_with fail
 go_end0
 have h3:=HL3.out
 rw [List.length_append] at h3
 exact ⟨rfl,vo',ve',h3,((Lx.of_below B1.out).trans X2.out).trans X3.out⟩
end Go.Proofs.YtkcjkncpaopjbaaGreatDoor
