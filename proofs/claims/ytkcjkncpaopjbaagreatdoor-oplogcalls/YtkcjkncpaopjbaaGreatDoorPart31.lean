/-
  Parts of the proof, one behind the other; what each proves stands at its head.
-/
import Derived.Test.YtkcjkncpaopjbaaGreatDoorPart4
import Derived.Test.YtkcjkncpaopjbaaGreatDoorPart30
import Derived.Test.YtkcjkncpaopjbaaGreatDoorPart26
import Derived.Test.YtkcjkncpaopjbaaGreatDoorPart22
import Derived.Test.YtkcjkncpaopjbaaGreatDoorPart18
import Derived.OrdersHeld

namespace Go.Proofs.YtkcjkncpaopjbaaGreatDoor
open Go.RowKit
set_option linter.unusedVariables false
set_option maxRecDepth 100000
def da0:Oper:={ dst:=some 17,op:=Op.fieldAddr 126 (Operand.tmp 4) 0,type:=0,pos := "op.go:126",after:=#[],guard:=none }
def da1:Oper:={ dst:=some 18,op:=Op.load 123 (Operand.tmp 17),type:=123,pos := "op.go:126",after:=#[{ on:=0,ground:=Ground.data }],guard:=none }
def da2:Oper:={ dst:=some 19,op:=Op.fieldAddr 126 (Operand.tmp 4) 0,type:=0,pos := "op.go:126",after:=#[],guard:=none }
def da3:Oper:={ dst:=some 20,op:=Op.load 123 (Operand.tmp 19),type:=123,pos := "op.go:126",after:=#[{ on:=2,ground:=Ground.data }],guard:=none }
def da4:Oper:={ dst:=some 21,op:=Op.call { callee:=Callee.value (Operand.func 94),args:=#[Operand.tmp 20],argTypes:=#[123] },type:=3,pos := "op.go:126",after:=#[{ on:=3,ground:=Ground.data }],guard:=none }
def da5:Oper:={ dst:=some 22,op:=Op.call { callee:=Callee.value (Operand.func 93),args:=#[Operand.tmp 18,Operand.tmp 21],argTypes:=#[123,3] },type:=9,pos := "op.go:126",after:=#[{ on:=1,ground:=Ground.data },{ on:=4,ground:=Ground.data },{ on:=4,ground:=Ground.chain }],guard:=none }
def da6:Oper:={ dst:=some 23,op:=Op.convert 9 36 (Operand.tmp 22),type:=36,pos := "op.go:126",after:=#[{ on:=5,ground:=Ground.data }],guard:=none }
def da7:Oper:={ dst:=some 24,op:=Op.call { callee:=Callee.value (Operand.func 92),args:=#[Operand.tmp 23],argTypes:=#[36] },type:=127,pos := "op.go:126",after:=#[{ on:=6,ground:=Ground.data },{ on:=5,ground:=Ground.chain }],guard:=none }
def da8:Oper:={ dst:=some 16,op:=Op.move (Operand.tmp 24),type:=127,pos := "op.go:126",after:=#[{ on:=7,ground:=Ground.data }],guard:=none }
def da9:Oper:={ dst:=some 25,op:=Op.extract (Operand.tmp 16) 0,type:=74,pos := "op.go:126",after:=#[{ on:=8,ground:=Ground.data }],guard:=none }
def da10:Oper:={ dst:=some 26,op:=Op.extract (Operand.tmp 16) 1,type:=4,pos := "op.go:126",after:=#[{ on:=8,ground:=Ground.data },{ on:=12,ground:=Ground.gcOnly Departure.lateStores }],guard:=none }
def da11:Oper:={ dst:=some 6,op:=Op.alloc 74,type:=0,pos := "op.go:126",after:=#[],guard:=none }
def da12:Oper:={ dst:=none,op:=Op.store 74 (Operand.tmp 6) (Operand.tmp 25),type:=0,pos := "op.go:126",after:=#[{ on:=11,ground:=Ground.data },{ on:=9,ground:=Ground.data },{ on:=7,ground:=Ground.chain },{ on:=0,ground:=Ground.phase },{ on:=1,ground:=Ground.phase },{ on:=2,ground:=Ground.phase },{ on:=3,ground:=Ground.phase },{ on:=4,ground:=Ground.phase },{ on:=5,ground:=Ground.phase },{ on:=6,ground:=Ground.phase },{ on:=7,ground:=Ground.phase },{ on:=8,ground:=Ground.phase },{ on:=9,ground:=Ground.phase },{ on:=10,ground:=Ground.textOnly Departure.lateStores },{ on:=11,ground:=Ground.phase }],guard:=none }
def da13:Oper:={ dst:=some 7,op:=Op.assign (Operand.tmp 26),type:=4,pos := "op.go:126",after:=#[{ on:=10,ground:=Ground.data },{ on:=12,ground:=Ground.chain },{ on:=0,ground:=Ground.phase },{ on:=1,ground:=Ground.phase },{ on:=2,ground:=Ground.phase },{ on:=3,ground:=Ground.phase },{ on:=4,ground:=Ground.phase },{ on:=5,ground:=Ground.phase },{ on:=6,ground:=Ground.phase },{ on:=7,ground:=Ground.phase },{ on:=8,ground:=Ground.phase },{ on:=9,ground:=Ground.phase },{ on:=10,ground:=Ground.phase },{ on:=11,ground:=Ground.phase },{ on:=12,ground:=Ground.phase }],guard:=none }
def das:Array Oper:=#[da0,da1,da2,da3,da4,da5,da6,da7,da8,da9,da10,da11,da12,da13]
theorem qey:Region.noSelect das=true:=by kernel_rfl
theorem qan {P:Program}{md:Region.Mode}{ops:Array Oper}{Q:Exit→Act→World→Prop}{S:World→Prop}{fuel:Nat}{l l':Array Bool}{a:Act}{w:World}(h:l=l') (k:wpAnyH P md ops Q S fuel l' a w):wpAnyH P md ops Q S fuel l a w:=by rw [h];exact k
theorem qtv {o:Oper}{a:Act}{x:Operand}{b i:Nat}{v:Value}{W:World}(ho:o.op=.load 123 x) (hx:a.eval x=.pointer (some ⟨b,i,none⟩)) (h:W.cell? ⟨b,i,none⟩=some v):(execOp a.eval o).run Tryz.prog W=.ok (.value v) W:=by
 unfold execOp
 simp only [ho,hx]
 simp [go_sem,h]
theorem qzu {o:Oper}{a:Act}{x:Operand}{s:ByteArray}{u:Value}{W W':World}(ho:o.op=.convert 9 36 x) (hx:a.eval x=.string s) (h:(convert 9 36 (.string s)).run Tryz.prog W=.ok u W'):(execOp a.eval o).run Tryz.prog W=.ok (.value u) W':=by
 unfold execOp
 simp only [ho,hx,Sem.run_bind,h,Result.andThen_ok,Sem.run_pure]
theorem Cur.fr {T:Nat}{S:Nat→Prop}{w w':World}{c:Nat}{xs:List Int}{lost:Bool}(h:Cur T w c xs lost) (hf:Fr S w w') (hc:¬ S c) (hb:∀ k,S k→∀ j x,w.cell? ⟨k,j,none⟩≠some (.int .u8 x)):Cur T w' c xs lost:=by
 obtain ⟨v,h1,a,cp,rfl,h3,h4,h5,h6,h7⟩:=h
 refine ⟨_,(hf.block c (Array.getElem?_eq_some_iff.1 h1).1 hc).trans h1,a,cp,rfl,h3,h4,h5,fun i hi=>?_,h7⟩
 obtain ⟨b,off,e1,e2⟩:=h6 i hi
 refine ⟨b,off,e1,?_⟩
 have hlt:=World.block_lt_of_cell? _ _ e2
 have hns:¬ S b:=fun hs=>hb b hs _ _ e2
 rw [World.cell?_of_block (w:=w) (hf.block b hlt hns)]
 exact e2
theorem qqz {a b c:World}{row:Option Nat}{p:Nat}(h:a.grownBy b row) (hf:Fr (fun k=>k=p) b c) (hp:a.heap.size≤p):a.grownBy c row :=
 ⟨hf.os.trans h.os,hf.tape.trans h.tape,hf.output.trans h.output,Nat.le_trans h.size hf.size,fun k hk hn=>(hf.block k (Nat.lt_of_lt_of_le hk h.size) (by omega)).trans (h.block k hk hn)⟩
theorem jah {w w':World}{v:Value}{l:List Ct}{p:Nat}(h:Cs w v l) (hf:Fr (fun k=>k=p) w w') (hn:l=[]∨v.ownBlock≠some p):Cs w' v l:=by
 rcases hn with rfl | hn
 ·exact h.none
 ·exact Sl.kept h (fun k hk hlt=>hf.block k hlt (fun e=>hn (by rw [←e];exact hk)))
theorem hb_st {ops:Array Oper}{Q:Exit→Act→World→Prop}{K:Act→World→Prop}{i:Nat}{p:Oper}{a:Act}{W:World}{x y:Operand}{b:Nat}{o o':Opn}{v v':Value}(hi:ops[i]?=some p) (hw:Region.wanted p (yielded ops a.tmps)=true) (ho:p.op=.store 74 x y) (hx:a.eval x=.pointer (some ⟨b,0,none⟩)) (hy:a.eval y=opv o v) (hv:∃ va n vc,v=.slice va n vc) (h:Ob W b o' v')
  (hk:K (a.put p.dst undef) (W.setRow b (opl o v))):wpOp Tryz.prog ops Q i K a W :=
 wpOp_step hi fun K' hK=>by
  rw [if_pos hw]
  exact wp_store_row 74 x y ho b (opl o v) hx hy 74 (opl o' v') h (by kernel_rfl) rfl (by obtain ⟨va,n,vc,rfl⟩:=hv;simp [Value.oneCell']) (hK _ _ hk)
set_option maxHeartbeats 8000000 in
theorem qxw {w:World}{r c:Nat}{q q2:St}{t:ByteArray}{o:Opn}{ok:Bool}{x0 x1 x2 x3 x5 x6 x7 x8 x9 aa ad ag ah ai aj aB x17 x18 x19 x20 x21 x22 aF aE aC aD ak al am ap aq ar au av aw ay az aA:Value}{Q:Exit→Act→World→Prop}(hr:w.heap[r]?=some (rdo c)) (hrc:r≠c) (hcu:Cu w c q) (ht:rt (mOwn q) q=(t,q2)) (hts:t.size≤1099511627776) (hd:decO Bnd.own (tx t)=(o,ok))
  (hL:∀ W,w.grownBy W (some c)→Lay W)
  (hP:∀ c t t' d W,Q (.panic c) { tmps:=t,defers:=d } W→Q (.panic c) { tmps:=t',defers:=d } W)
  (hQ:∀ pb u vo W,W.heap[r]?=some (rdo c)→w.grownBy W (some c)→Cu W c q2→Cs W vo o.cuts→(∀ k,vo.ownBlock=some k→w.heap.size≤k)→Ob W pb o vo→w.heap.size≤pb→Q .normal { tmps:=#[x0,x1,x2,x3,.pointer (some ⟨r,0,none⟩),x5,.pointer (some ⟨pb,0,none⟩),.bool ok,x8,x9,aa,ad,ag,ah,ai,aj,.tuple #[opv o vo,.bool ok],.pointer (some ⟨r,0,none⟩),.pointer (some ⟨c,0,none⟩),.pointer (some ⟨r,0,none⟩),.pointer (some ⟨c,0,none⟩),.int .i64 (q.1.length:Nat),.string t,u,.tuple #[opv o vo,.bool ok],opv o vo,.bool ok,ak,al,am,ap,aq,ar,au,av,aw,ay,az,aA],defers:=[] } W):(Code.region 5 das true).wp Tryz.prog Q { tmps:=#[x0,x1,x2,x3,.pointer (some ⟨r,0,none⟩),x5,x6,x7,x8,x9,aa,ad,ag,ah,ai,aj,aB,x17,x18,x19,x20,x21,x22,aF,aE,aC,aD,ak,al,am,ap,aq,ar,au,av,aw,ay,az,aA],defers:=[] } w:=by
 have hrl:r<w.heap.size:=(Array.getElem?_eq_some_iff.1 hr).1
 refine wp_region_held (S:=fun W=>W.heap[r]?=some (rdo c)) (by kernel_rfl) ?_
 change wpAnyH _ _ _ _ _ 14 _ _ (World.drew _)
 have hS:(World.drew w).heap[r]?=some (rdo c):=hr
 have A4:∀ (pb:Nat) (u:Value) (vo:Value) (W:World),W.heap[r]?=some (rdo c)→w.grownBy W (some c)→Cu W c q2→Cs W vo o.cuts→(∀ k,vo.ownBlock=some k→w.heap.size≤k)→Ob W pb Opn.zero (.slice none 0 0)→w.heap.size≤pb→pb≠c→(o.cuts=[]∨vo.ownBlock≠some pb)→wpAnyH Tryz.prog .any das Q (fun W=>W.heap[r]?=some (rdo c)) 5 #[true,true,true,true,true,true,true,true,false,false,false,true,false,false] { tmps:=#[x0,x1,x2,x3,.pointer (some ⟨r,0,none⟩),x5,.pointer (some ⟨pb,0,none⟩),x7,x8,x9,aa,ad,ag,ah,ai,aj,aB,.pointer (some ⟨r,0,none⟩),.pointer (some ⟨c,0,none⟩),.pointer (some ⟨r,0,none⟩),.pointer (some ⟨c,0,none⟩),.int .i64 (q.1.length:Nat),.string t,u,.tuple #[opv o vo,.bool ok],aC,aD,ak,al,am,ap,aq,ar,au,av,aw,ay,az,aA],defers:=[] } W:=by
  intro pb u vo W hs hg hc hk hn hob hpb hpc hne
  obtain ⟨va,vc,rfl,_⟩:=hk.form
  obtain ⟨vn,hvn⟩:∃ vn,o.cuts.length=vn:=⟨_,rfl⟩
  rw [hvn] at hk hn hne ⊢
  refine wpAnyH_take (i:=8) (oi:=da8) (v:=.tuple #[opv o (.slice va vn vc),.bool ok]) (by kernel_rfl) qey (by kernel_rfl) (by kernel_rfl) (fun c a W h=>hP c _ _ _ W h) (Or.inl ⟨by kernel_rfl,fun W hW=>by kernel_rfl⟩) hs ?_
  refine wpAnyH_take (i:=9) (oi:=da9) (v:=opv o (.slice va vn vc)) (by kernel_rfl) qey (by kernel_rfl) (by kernel_rfl) (fun c a W h=>hP c _ _ _ W h) (Or.inl ⟨by kernel_rfl,fun W hW=>by kernel_rfl⟩) hs ?_
  refine wpAnyH_take (i:=10) (oi:=da10) (v:=.bool ok) (by kernel_rfl) qey (by kernel_rfl) (by kernel_rfl) (fun c a W h=>hP c _ _ _ W h) (Or.inl ⟨by kernel_rfl,fun W hW=>by kernel_rfl⟩) hs ?_
  rw [show Act.put _ da10.dst _={ tmps:=#[x0,x1,x2,x3,.pointer (some ⟨r,0,none⟩),x5,.pointer (some ⟨pb,0,none⟩),x7,x8,x9,aa,ad,ag,ah,ai,aj,.tuple #[opv o (.slice va vn vc),.bool ok],.pointer (some ⟨r,0,none⟩),.pointer (some ⟨c,0,none⟩),.pointer (some ⟨r,0,none⟩),.pointer (some ⟨c,0,none⟩),.int .i64 (q.1.length:Nat),.string t,u,.tuple #[opv o (.slice va vn vc),.bool ok],opv o (.slice va vn vc),.bool ok,ak,al,am,ap,aq,ar,au,av,aw,ay,az,aA],defers:=[] } from by kernel_rfl]
  refine wpAnyH_all (rs:=[12]) (by kernel_rfl) (by simp) (fun i hi=>?_)
  obtain rfl:=List.mem_singleton.1 hi
  refine hb_st (p:=da12) (by kernel_rfl) (by kernel_rfl) rfl rfl rfl ⟨_,_,_,rfl⟩ hob ?_
  rw [show Act.put _ da12.dst _={ tmps:=#[x0,x1,x2,x3,.pointer (some ⟨r,0,none⟩),x5,.pointer (some ⟨pb,0,none⟩),x7,x8,x9,aa,ad,ag,ah,ai,aj,.tuple #[opv o (.slice va vn vc),.bool ok],.pointer (some ⟨r,0,none⟩),.pointer (some ⟨c,0,none⟩),.pointer (some ⟨r,0,none⟩),.pointer (some ⟨c,0,none⟩),.int .i64 (q.1.length:Nat),.string t,u,.tuple #[opv o (.slice va vn vc),.bool ok],opv o (.slice va vn vc),.bool ok,ak,al,am,ap,aq,ar,au,av,aw,ay,az,aA],defers:=[] } from by kernel_rfl]
  have hff:=Fr.of_row W pb (opl o (.slice va vn vc))
  have hs2:(W.setRow pb (opl o (.slice va vn vc))).heap[r]?=some (rdo c):=(hff.block r (Array.getElem?_eq_some_iff.1 hs).1 (by omega)).trans hs
  refine ⟨hs2,?_⟩
  refine wpAnyH_take (i:=13) (oi:=da13) (v:=.bool ok) (by kernel_rfl) qey (by kernel_rfl) (by kernel_rfl) (fun c a W h=>hP c _ _ _ W h) (Or.inl ⟨by kernel_rfl,fun W hW=>by kernel_rfl⟩) hs2 ?_
  rw [show Act.put _ da13.dst _={ tmps:=#[x0,x1,x2,x3,.pointer (some ⟨r,0,none⟩),x5,.pointer (some ⟨pb,0,none⟩),.bool ok,x8,x9,aa,ad,ag,ah,ai,aj,.tuple #[opv o (.slice va vn vc),.bool ok],.pointer (some ⟨r,0,none⟩),.pointer (some ⟨c,0,none⟩),.pointer (some ⟨r,0,none⟩),.pointer (some ⟨c,0,none⟩),.int .i64 (q.1.length:Nat),.string t,u,.tuple #[opv o (.slice va vn vc),.bool ok],opv o (.slice va vn vc),.bool ok,ak,al,am,ap,aq,ar,au,av,aw,ay,az,aA],defers:=[] } from by kernel_rfl]
  refine wpAnyH_done (by kernel_rfl) (hQ pb u _ _ hs2 ?_ ?_ ?_ hn (setRow_heap _ _ _ _ _ _ hob) hpb) _
  ·exact qqz hg hff hpb
  ·exact Cur.fr hc hff (fun e=>hpc e.symm) (hob.no_byte ⟨_,_,_,rfl⟩)
  ·exact jah hk hff hne
 have A3:∀ (pb:Nat) (u:Value) (W:World),W.heap[r]?=some (rdo c)→w.grownBy W (some c)→Cu W c q2→Bs W u (tx t)→Ob W pb Opn.zero (.slice none 0 0)→w.heap.size≤pb→pb≠c→wpAnyH Tryz.prog .any das Q (fun W=>W.heap[r]?=some (rdo c)) 6 #[true,true,true,true,true,true,true,false,false,false,false,true,false,false] { tmps:=#[x0,x1,x2,x3,.pointer (some ⟨r,0,none⟩),x5,.pointer (some ⟨pb,0,none⟩),x7,x8,x9,aa,ad,ag,ah,ai,aj,aB,.pointer (some ⟨r,0,none⟩),.pointer (some ⟨c,0,none⟩),.pointer (some ⟨r,0,none⟩),.pointer (some ⟨c,0,none⟩),.int .i64 (q.1.length:Nat),.string t,u,aE,aC,aD,ak,al,am,ap,aq,ar,au,av,aw,ay,az,aA],defers:=[] } W:=by
  intro pb u W hs hg hc hb hob hpb hpc
  refine wpAnyH_all (rs:=[7]) (by kernel_rfl) (by simp) (fun i hi=>?_)
  obtain rfl:=List.mem_singleton.1 hi
  refine qaq (o:=da7) (f:=92) (args:=#[u]) (D:=fun v W'=>∃ vo,v=.tuple #[opv o vo,.bool ok]∧Cs W' vo o.cuts∧Below W.heap.size W W'∧∀ k,vo.ownBlock=some k→W.heap.size≤k) (by kernel_rfl) (by kernel_rfl) (by kernel_rfl) ?hc7 ?_
  case hc7 =>
   have hcc:=qkt u (tx t) W (hL W hg) hb (by rw [qaw];exact hts)
   rw [hd] at hcc
   exact hcc.mono fun e W' ⟨v,h1,h2,h3,h4⟩=>⟨_,h1,v,rfl,h2,h3,h4⟩
  rintro v W2 ⟨vo,rfl,hk2,hB2,hn2⟩
  rw [show Act.put _ da7.dst _={ tmps:=#[x0,x1,x2,x3,.pointer (some ⟨r,0,none⟩),x5,.pointer (some ⟨pb,0,none⟩),x7,x8,x9,aa,ad,ag,ah,ai,aj,aB,.pointer (some ⟨r,0,none⟩),.pointer (some ⟨c,0,none⟩),.pointer (some ⟨r,0,none⟩),.pointer (some ⟨c,0,none⟩),.int .i64 (q.1.length:Nat),.string t,u,.tuple #[opv o vo,.bool ok],aC,aD,ak,al,am,ap,aq,ar,au,av,aw,ay,az,aA],defers:=[] } from by kernel_rfl]
  have hs2:W2.heap[r]?=some (rdo c):=(hB2.block r (Array.getElem?_eq_some_iff.1 hs).1).trans hs
  have hn3:∀ k,vo.ownBlock=some k→w.heap.size≤k:=fun k hk=>Nat.le_trans hg.size (hn2 k hk)
  exact ⟨hs2,qan (by kernel_rfl) (A4 pb u vo W2 hs2 (World.grownBy.trans hg (World.grownBy.of_below hB2)) (Cur.below hc hB2) hk2 hn3 (hob.below hB2) hpb hpc (.inr (fun e=>by have h1:=hn2 pb e;have h2:=hob.lt;omega)))⟩
 have A2:∀ (pb:Nat) (W:World),W.heap[r]?=some (rdo c)→w.grownBy W (some c)→Cu W c q2→Ob W pb Opn.zero (.slice none 0 0)→w.heap.size≤pb→pb≠c→wpAnyH Tryz.prog .any das Q (fun W=>W.heap[r]?=some (rdo c)) 7 #[true,true,true,true,true,true,false,false,false,false,false,true,false,false] { tmps:=#[x0,x1,x2,x3,.pointer (some ⟨r,0,none⟩),x5,.pointer (some ⟨pb,0,none⟩),x7,x8,x9,aa,ad,ag,ah,ai,aj,aB,.pointer (some ⟨r,0,none⟩),.pointer (some ⟨c,0,none⟩),.pointer (some ⟨r,0,none⟩),.pointer (some ⟨c,0,none⟩),.int .i64 (q.1.length:Nat),.string t,aF,aE,aC,aD,ak,al,am,ap,aq,ar,au,av,aw,ay,az,aA],defers:=[] } W:=by
  intro pb W hs hg hc hob hpb hpc
  refine wpAnyH_all (rs:=[6]) (by kernel_rfl) (by simp) (fun i hi=>?_)
  obtain rfl:=List.mem_singleton.1 hi
  obtain ⟨u,W2,hrun,hb2,hB2⟩:=tobytes t W hts
  refine qcn (o:=da6) (v:=u) (w':=W2) (by kernel_rfl) (by kernel_rfl) (qzu rfl rfl hrun) ?_
  rw [show Act.put _ da6.dst _={ tmps:=#[x0,x1,x2,x3,.pointer (some ⟨r,0,none⟩),x5,.pointer (some ⟨pb,0,none⟩),x7,x8,x9,aa,ad,ag,ah,ai,aj,aB,.pointer (some ⟨r,0,none⟩),.pointer (some ⟨c,0,none⟩),.pointer (some ⟨r,0,none⟩),.pointer (some ⟨c,0,none⟩),.int .i64 (q.1.length:Nat),.string t,u,aE,aC,aD,ak,al,am,ap,aq,ar,au,av,aw,ay,az,aA],defers:=[] } from by kernel_rfl]
  have hs2:W2.heap[r]?=some (rdo c):=(hB2.block r (Array.getElem?_eq_some_iff.1 hs).1).trans hs
  exact ⟨hs2,qan (by kernel_rfl) (A3 pb u W2 hs2 (World.grownBy.trans hg (World.grownBy.of_below hB2)) (Cur.below hc hB2) hb2 (hob.below hB2) hpb hpc)⟩
 have A1:∀ (pb:Nat) (W:World),W.heap[r]?=some (rdo c)→w.grownBy W (some c)→Cu W c q→Ob W pb Opn.zero (.slice none 0 0)→w.heap.size≤pb→pb≠c→wpAnyH Tryz.prog .any das Q (fun W=>W.heap[r]?=some (rdo c)) 8 #[true,true,true,true,true,false,false,false,false,false,false,true,false,false] { tmps:=#[x0,x1,x2,x3,.pointer (some ⟨r,0,none⟩),x5,.pointer (some ⟨pb,0,none⟩),x7,x8,x9,aa,ad,ag,ah,ai,aj,aB,.pointer (some ⟨r,0,none⟩),.pointer (some ⟨c,0,none⟩),.pointer (some ⟨r,0,none⟩),.pointer (some ⟨c,0,none⟩),.int .i64 (q.1.length:Nat),x22,aF,aE,aC,aD,ak,al,am,ap,aq,ar,au,av,aw,ay,az,aA],defers:=[] } W:=by
  intro pb W hs hg hc hob hpb hpc
  refine wpAnyH_all (rs:=[5]) (by kernel_rfl) (by simp) (fun i hi=>?_)
  obtain rfl:=List.mem_singleton.1 hi
  refine qaq (o:=da5) (f:=93) (args:=#[.pointer (some ⟨c,0,none⟩),.int .i64 (q.1.length:Nat)]) (D:=fun v W'=>v=.string t∧Cu W' c q2∧W.grownBy W' (some c)) (by kernel_rfl) (by kernel_rfl) (by kernel_rfl) ?hc5 ?_
  case hc5 =>
   have hcc:=qqb c q (mOwn q) W hc
   rw [ht] at hcc
   exact hcc.mono fun e W' ⟨h1,h2,h3⟩=>⟨_,h1,rfl,h2,h3⟩
  rintro v W2 ⟨rfl,hc2,hg2⟩
  rw [show Act.put _ da5.dst _={ tmps:=#[x0,x1,x2,x3,.pointer (some ⟨r,0,none⟩),x5,.pointer (some ⟨pb,0,none⟩),x7,x8,x9,aa,ad,ag,ah,ai,aj,aB,.pointer (some ⟨r,0,none⟩),.pointer (some ⟨c,0,none⟩),.pointer (some ⟨r,0,none⟩),.pointer (some ⟨c,0,none⟩),.int .i64 (q.1.length:Nat),.string t,aF,aE,aC,aD,ak,al,am,ap,aq,ar,au,av,aw,ay,az,aA],defers:=[] } from by kernel_rfl]
  have hs2:W2.heap[r]?=some (rdo c):=(hg2.block r (Array.getElem?_eq_some_iff.1 hs).1 (by simp;omega)).trans hs
  have hob2:Ob W2 pb Opn.zero (.slice none 0 0):=(hg2.block pb hob.lt (by simp;omega)).trans hob
  exact ⟨hs2,qan (by kernel_rfl) (A2 pb W2 hs2 (World.grownBy.trans hg hg2) hc2 hob2 hpb hpc)⟩
 have A0:∀ (pb:Nat) (W:World),W.heap[r]?=some (rdo c)→w.grownBy W (some c)→Cu W c q→Ob W pb Opn.zero (.slice none 0 0)→w.heap.size≤pb→pb≠c→wpAnyH Tryz.prog .any das Q (fun W=>W.heap[r]?=some (rdo c)) 9 #[true,true,true,true,false,false,false,false,false,false,false,true,false,false] { tmps:=#[x0,x1,x2,x3,.pointer (some ⟨r,0,none⟩),x5,.pointer (some ⟨pb,0,none⟩),x7,x8,x9,aa,ad,ag,ah,ai,aj,aB,.pointer (some ⟨r,0,none⟩),.pointer (some ⟨c,0,none⟩),.pointer (some ⟨r,0,none⟩),.pointer (some ⟨c,0,none⟩),x21,x22,aF,aE,aC,aD,ak,al,am,ap,aq,ar,au,av,aw,ay,az,aA],defers:=[] } W:=by
  intro pb W hs hg hc hob hpb hpc
  refine wpAnyH_all (rs:=[4]) (by kernel_rfl) (by simp) (fun i hi=>?_)
  obtain rfl:=List.mem_singleton.1 hi
  refine qaq (o:=da4) (f:=94) (args:=#[.pointer (some ⟨c,0,none⟩)]) (D:=fun v W'=>v=.int .i64 (q.1.length:Nat)∧W=W') (by kernel_rfl) (by kernel_rfl) (by kernel_rfl) ((qqx c q.1 q.2 W hc).mono fun e W' ⟨h1,h2⟩=>⟨_,h1,rfl,h2⟩) ?_
  rintro v W2 ⟨rfl,rfl⟩
  rw [show Act.put _ da4.dst _={ tmps:=#[x0,x1,x2,x3,.pointer (some ⟨r,0,none⟩),x5,.pointer (some ⟨pb,0,none⟩),x7,x8,x9,aa,ad,ag,ah,ai,aj,aB,.pointer (some ⟨r,0,none⟩),.pointer (some ⟨c,0,none⟩),.pointer (some ⟨r,0,none⟩),.pointer (some ⟨c,0,none⟩),.int .i64 (q.1.length:Nat),x22,aF,aE,aC,aD,ak,al,am,ap,aq,ar,au,av,aw,ay,az,aA],defers:=[] } from by kernel_rfl]
  exact ⟨hs,qan (by kernel_rfl) (A1 pb W hs hg hc hob hpb hpc)⟩
 have N4:∀ (u:Value) (vo:Value) (W:World),W.heap[r]?=some (rdo c)→w.grownBy W (some c)→Cu W c q2→Cs W vo o.cuts→(∀ k,vo.ownBlock=some k→w.heap.size≤k)→wpAnyH Tryz.prog .any das Q (fun W=>W.heap[r]?=some (rdo c)) 6 #[true,true,true,true,true,true,true,true,false,false,false,false,false,false] { tmps:=#[x0,x1,x2,x3,.pointer (some ⟨r,0,none⟩),x5,x6,x7,x8,x9,aa,ad,ag,ah,ai,aj,aB,.pointer (some ⟨r,0,none⟩),.pointer (some ⟨c,0,none⟩),.pointer (some ⟨r,0,none⟩),.pointer (some ⟨c,0,none⟩),.int .i64 (q.1.length:Nat),.string t,u,.tuple #[opv o vo,.bool ok],aC,aD,ak,al,am,ap,aq,ar,au,av,aw,ay,az,aA],defers:=[] } W:=by
  intro u vo W hs hg hc hk hn
  obtain ⟨va,vc,rfl,_⟩:=hk.form
  obtain ⟨vn,hvn⟩:∃ vn,o.cuts.length=vn:=⟨_,rfl⟩
  rw [hvn] at hk hn ⊢
  refine wpAnyH_take (i:=8) (oi:=da8) (v:=.tuple #[opv o (.slice va vn vc),.bool ok]) (by kernel_rfl) qey (by kernel_rfl) (by kernel_rfl) (fun c a W h=>hP c _ _ _ W h) (Or.inl ⟨by kernel_rfl,fun W hW=>by kernel_rfl⟩) hs ?_
  refine wpAnyH_take (i:=9) (oi:=da9) (v:=opv o (.slice va vn vc)) (by kernel_rfl) qey (by kernel_rfl) (by kernel_rfl) (fun c a W h=>hP c _ _ _ W h) (Or.inl ⟨by kernel_rfl,fun W hW=>by kernel_rfl⟩) hs ?_
  refine wpAnyH_take (i:=10) (oi:=da10) (v:=.bool ok) (by kernel_rfl) qey (by kernel_rfl) (by kernel_rfl) (fun c a W h=>hP c _ _ _ W h) (Or.inl ⟨by kernel_rfl,fun W hW=>by kernel_rfl⟩) hs ?_
  rw [show Act.put _ da10.dst _={ tmps:=#[x0,x1,x2,x3,.pointer (some ⟨r,0,none⟩),x5,x6,x7,x8,x9,aa,ad,ag,ah,ai,aj,.tuple #[opv o (.slice va vn vc),.bool ok],.pointer (some ⟨r,0,none⟩),.pointer (some ⟨c,0,none⟩),.pointer (some ⟨r,0,none⟩),.pointer (some ⟨c,0,none⟩),.int .i64 (q.1.length:Nat),.string t,u,.tuple #[opv o (.slice va vn vc),.bool ok],opv o (.slice va vn vc),.bool ok,ak,al,am,ap,aq,ar,au,av,aw,ay,az,aA],defers:=[] } from by kernel_rfl]
  refine wpAnyH_all (rs:=[11]) (by kernel_rfl) (by simp) (fun i hi=>?_)
  obtain rfl:=List.mem_singleton.1 hi
  refine qcn (o:=da11) (v:=.pointer (some ⟨W.heap.size,0,none⟩)) (by kernel_rfl) (by kernel_rfl) (qek rfl) ?_
  obtain ⟨pb,hpbe⟩:∃ pb,W.heap.size=pb:=⟨_,rfl⟩
  have hA:=ba W (opo Opn.zero (.slice none 0 0))
  have hs3:(W.alloc (opo Opn.zero (.slice none 0 0))).heap[r]?=some (rdo c):=(hA.block r (Array.getElem?_eq_some_iff.1 hs).1).trans hs
  have hob:=Ob.new W Opn.zero (.slice none 0 0)
  have hpb:w.heap.size≤pb:=by rw [←hpbe];exact hg.size
  have hpc:pb≠c:=by have:=hc.lt;omega
  have hne:o.cuts=[]∨(Value.slice va vn vc).ownBlock≠some pb:=by
   by_cases he:o.cuts=[]
   ·exact .inl he
   ·exact .inr (fun e=>by have:=hk.blk he e;omega)
  have hg3:=World.grownBy.trans hg (World.grownBy.of_below (row:=some c) hA)
  have hc3:=Cur.below hc hA
  have hk3:=hk.below hA
  rw [hpbe] at hob
  rw [hpbe]
  generalize W.alloc (opo Opn.zero (.slice none 0 0))=W3 at hA hs3 hob hg3 hc3 hk3 ⊢
  rw [show Act.put _ da11.dst _={ tmps:=#[x0,x1,x2,x3,.pointer (some ⟨r,0,none⟩),x5,.pointer (some ⟨pb,0,none⟩),x7,x8,x9,aa,ad,ag,ah,ai,aj,.tuple #[opv o (.slice va vn vc),.bool ok],.pointer (some ⟨r,0,none⟩),.pointer (some ⟨c,0,none⟩),.pointer (some ⟨r,0,none⟩),.pointer (some ⟨c,0,none⟩),.int .i64 (q.1.length:Nat),.string t,u,.tuple #[opv o (.slice va vn vc),.bool ok],opv o (.slice va vn vc),.bool ok,ak,al,am,ap,aq,ar,au,av,aw,ay,az,aA],defers:=[] } from by kernel_rfl]
  refine ⟨hs3,?_⟩
  refine wpAnyH_all (rs:=[12]) (by kernel_rfl) (by simp) (fun i hi=>?_)
  obtain rfl:=List.mem_singleton.1 hi
  refine hb_st (p:=da12) (by kernel_rfl) (by kernel_rfl) rfl rfl rfl ⟨_,_,_,rfl⟩ hob ?_
  rw [show Act.put _ da12.dst _={ tmps:=#[x0,x1,x2,x3,.pointer (some ⟨r,0,none⟩),x5,.pointer (some ⟨pb,0,none⟩),x7,x8,x9,aa,ad,ag,ah,ai,aj,.tuple #[opv o (.slice va vn vc),.bool ok],.pointer (some ⟨r,0,none⟩),.pointer (some ⟨c,0,none⟩),.pointer (some ⟨r,0,none⟩),.pointer (some ⟨c,0,none⟩),.int .i64 (q.1.length:Nat),.string t,u,.tuple #[opv o (.slice va vn vc),.bool ok],opv o (.slice va vn vc),.bool ok,ak,al,am,ap,aq,ar,au,av,aw,ay,az,aA],defers:=[] } from by kernel_rfl]
  have hff:=Fr.of_row W3 pb (opl o (.slice va vn vc))
  have hs2:(W3.setRow pb (opl o (.slice va vn vc))).heap[r]?=some (rdo c):=(hff.block r (Array.getElem?_eq_some_iff.1 hs3).1 (by omega)).trans hs3
  refine ⟨hs2,?_⟩
  refine wpAnyH_take (i:=13) (oi:=da13) (v:=.bool ok) (by kernel_rfl) qey (by kernel_rfl) (by kernel_rfl) (fun c a W h=>hP c _ _ _ W h) (Or.inl ⟨by kernel_rfl,fun W hW=>by kernel_rfl⟩) hs2 ?_
  rw [show Act.put _ da13.dst _={ tmps:=#[x0,x1,x2,x3,.pointer (some ⟨r,0,none⟩),x5,.pointer (some ⟨pb,0,none⟩),.bool ok,x8,x9,aa,ad,ag,ah,ai,aj,.tuple #[opv o (.slice va vn vc),.bool ok],.pointer (some ⟨r,0,none⟩),.pointer (some ⟨c,0,none⟩),.pointer (some ⟨r,0,none⟩),.pointer (some ⟨c,0,none⟩),.int .i64 (q.1.length:Nat),.string t,u,.tuple #[opv o (.slice va vn vc),.bool ok],opv o (.slice va vn vc),.bool ok,ak,al,am,ap,aq,ar,au,av,aw,ay,az,aA],defers:=[] } from by kernel_rfl]
  refine wpAnyH_done (by kernel_rfl) (hQ pb u _ _ hs2 ?_ ?_ ?_ hn (setRow_heap _ _ _ _ _ _ hob) hpb) _
  ·exact qqz hg3 hff hpb
  ·exact Cur.fr hc3 hff (fun e=>hpc e.symm) (hob.no_byte ⟨_,_,_,rfl⟩)
  ·exact jah hk3 hff hne
 have N3:∀ (u:Value) (W:World),W.heap[r]?=some (rdo c)→w.grownBy W (some c)→Cu W c q2→Bs W u (tx t)→wpAnyH Tryz.prog .any das Q (fun W=>W.heap[r]?=some (rdo c)) 7 #[true,true,true,true,true,true,true,false,false,false,false,false,false,false] { tmps:=#[x0,x1,x2,x3,.pointer (some ⟨r,0,none⟩),x5,x6,x7,x8,x9,aa,ad,ag,ah,ai,aj,aB,.pointer (some ⟨r,0,none⟩),.pointer (some ⟨c,0,none⟩),.pointer (some ⟨r,0,none⟩),.pointer (some ⟨c,0,none⟩),.int .i64 (q.1.length:Nat),.string t,u,aE,aC,aD,ak,al,am,ap,aq,ar,au,av,aw,ay,az,aA],defers:=[] } W:=by
  intro u W hs hg hc hb
  refine wpAnyH_all (rs:=[7,11]) (by kernel_rfl) (by simp) (fun i hi=>?_)
  rcases List.mem_cons.1 hi with rfl | hi
  ·skip
   refine qaq (o:=da7) (f:=92) (args:=#[u]) (D:=fun v W'=>∃ vo,v=.tuple #[opv o vo,.bool ok]∧Cs W' vo o.cuts∧Below W.heap.size W W'∧∀ k,vo.ownBlock=some k→W.heap.size≤k) (by kernel_rfl) (by kernel_rfl) (by kernel_rfl) ?hc7 ?_
   case hc7 =>
    have hcc:=qkt u (tx t) W (hL W hg) hb (by rw [qaw];exact hts)
    rw [hd] at hcc
    exact hcc.mono fun e W' ⟨v,h1,h2,h3,h4⟩=>⟨_,h1,v,rfl,h2,h3,h4⟩
   rintro v W2 ⟨vo,rfl,hk2,hB2,hn2⟩
   rw [show Act.put _ da7.dst _={ tmps:=#[x0,x1,x2,x3,.pointer (some ⟨r,0,none⟩),x5,x6,x7,x8,x9,aa,ad,ag,ah,ai,aj,aB,.pointer (some ⟨r,0,none⟩),.pointer (some ⟨c,0,none⟩),.pointer (some ⟨r,0,none⟩),.pointer (some ⟨c,0,none⟩),.int .i64 (q.1.length:Nat),.string t,u,.tuple #[opv o vo,.bool ok],aC,aD,ak,al,am,ap,aq,ar,au,av,aw,ay,az,aA],defers:=[] } from by kernel_rfl]
   have hs2:W2.heap[r]?=some (rdo c):=(hB2.block r (Array.getElem?_eq_some_iff.1 hs).1).trans hs
   have hn3:∀ k,vo.ownBlock=some k→w.heap.size≤k:=fun k hk=>Nat.le_trans hg.size (hn2 k hk)
   exact ⟨hs2,qan (by kernel_rfl) (N4  u vo W2 hs2 (World.grownBy.trans hg (World.grownBy.of_below hB2)) (Cur.below hc hB2) hk2 hn3 )⟩
  ·obtain rfl:=List.mem_singleton.1 hi
   refine qcn (o:=da11) (v:=.pointer (some ⟨W.heap.size,0,none⟩)) (by kernel_rfl) (by kernel_rfl) (qek rfl) ?_
   rw [show Act.put _ da11.dst _={ tmps:=#[x0,x1,x2,x3,.pointer (some ⟨r,0,none⟩),x5,.pointer (some ⟨W.heap.size,0,none⟩),x7,x8,x9,aa,ad,ag,ah,ai,aj,aB,.pointer (some ⟨r,0,none⟩),.pointer (some ⟨c,0,none⟩),.pointer (some ⟨r,0,none⟩),.pointer (some ⟨c,0,none⟩),.int .i64 (q.1.length:Nat),.string t,u,aE,aC,aD,ak,al,am,ap,aq,ar,au,av,aw,ay,az,aA],defers:=[] } from by kernel_rfl]
   have hA:=ba W (opo Opn.zero (.slice none 0 0))
   have hs2:(W.alloc (opo Opn.zero (.slice none 0 0))).heap[r]?=some (rdo c):=(hA.block r (Array.getElem?_eq_some_iff.1 hs).1).trans hs
   exact ⟨hs2,qan (by kernel_rfl) (A3 W.heap.size u _ hs2 (World.grownBy.trans hg (World.grownBy.of_below hA)) (Cur.below hc hA) (hb.below hA) (Ob.new W _ _) hg.size (by have:=hc.lt;omega))⟩
 have N2:∀ (W:World),W.heap[r]?=some (rdo c)→w.grownBy W (some c)→Cu W c q2→wpAnyH Tryz.prog .any das Q (fun W=>W.heap[r]?=some (rdo c)) 8 #[true,true,true,true,true,true,false,false,false,false,false,false,false,false] { tmps:=#[x0,x1,x2,x3,.pointer (some ⟨r,0,none⟩),x5,x6,x7,x8,x9,aa,ad,ag,ah,ai,aj,aB,.pointer (some ⟨r,0,none⟩),.pointer (some ⟨c,0,none⟩),.pointer (some ⟨r,0,none⟩),.pointer (some ⟨c,0,none⟩),.int .i64 (q.1.length:Nat),.string t,aF,aE,aC,aD,ak,al,am,ap,aq,ar,au,av,aw,ay,az,aA],defers:=[] } W:=by
  intro W hs hg hc
  refine wpAnyH_all (rs:=[6,11]) (by kernel_rfl) (by simp) (fun i hi=>?_)
  rcases List.mem_cons.1 hi with rfl | hi
  ·skip
   obtain ⟨u,W2,hrun,hb2,hB2⟩:=tobytes t W hts
   refine qcn (o:=da6) (v:=u) (w':=W2) (by kernel_rfl) (by kernel_rfl) (qzu rfl rfl hrun) ?_
   rw [show Act.put _ da6.dst _={ tmps:=#[x0,x1,x2,x3,.pointer (some ⟨r,0,none⟩),x5,x6,x7,x8,x9,aa,ad,ag,ah,ai,aj,aB,.pointer (some ⟨r,0,none⟩),.pointer (some ⟨c,0,none⟩),.pointer (some ⟨r,0,none⟩),.pointer (some ⟨c,0,none⟩),.int .i64 (q.1.length:Nat),.string t,u,aE,aC,aD,ak,al,am,ap,aq,ar,au,av,aw,ay,az,aA],defers:=[] } from by kernel_rfl]
   have hs2:W2.heap[r]?=some (rdo c):=(hB2.block r (Array.getElem?_eq_some_iff.1 hs).1).trans hs
   exact ⟨hs2,qan (by kernel_rfl) (N3  u W2 hs2 (World.grownBy.trans hg (World.grownBy.of_below hB2)) (Cur.below hc hB2) hb2 )⟩
  ·obtain rfl:=List.mem_singleton.1 hi
   refine qcn (o:=da11) (v:=.pointer (some ⟨W.heap.size,0,none⟩)) (by kernel_rfl) (by kernel_rfl) (qek rfl) ?_
   rw [show Act.put _ da11.dst _={ tmps:=#[x0,x1,x2,x3,.pointer (some ⟨r,0,none⟩),x5,.pointer (some ⟨W.heap.size,0,none⟩),x7,x8,x9,aa,ad,ag,ah,ai,aj,aB,.pointer (some ⟨r,0,none⟩),.pointer (some ⟨c,0,none⟩),.pointer (some ⟨r,0,none⟩),.pointer (some ⟨c,0,none⟩),.int .i64 (q.1.length:Nat),.string t,aF,aE,aC,aD,ak,al,am,ap,aq,ar,au,av,aw,ay,az,aA],defers:=[] } from by kernel_rfl]
   have hA:=ba W (opo Opn.zero (.slice none 0 0))
   have hs2:(W.alloc (opo Opn.zero (.slice none 0 0))).heap[r]?=some (rdo c):=(hA.block r (Array.getElem?_eq_some_iff.1 hs).1).trans hs
   exact ⟨hs2,qan (by kernel_rfl) (A2 W.heap.size  _ hs2 (World.grownBy.trans hg (World.grownBy.of_below hA)) (Cur.below hc hA) (Ob.new W _ _) hg.size (by have:=hc.lt;omega))⟩
 have N1:∀ (W:World),W.heap[r]?=some (rdo c)→w.grownBy W (some c)→Cu W c q→wpAnyH Tryz.prog .any das Q (fun W=>W.heap[r]?=some (rdo c)) 9 #[true,true,true,true,true,false,false,false,false,false,false,false,false,false] { tmps:=#[x0,x1,x2,x3,.pointer (some ⟨r,0,none⟩),x5,x6,x7,x8,x9,aa,ad,ag,ah,ai,aj,aB,.pointer (some ⟨r,0,none⟩),.pointer (some ⟨c,0,none⟩),.pointer (some ⟨r,0,none⟩),.pointer (some ⟨c,0,none⟩),.int .i64 (q.1.length:Nat),x22,aF,aE,aC,aD,ak,al,am,ap,aq,ar,au,av,aw,ay,az,aA],defers:=[] } W:=by
  intro W hs hg hc
  refine wpAnyH_all (rs:=[5,11]) (by kernel_rfl) (by simp) (fun i hi=>?_)
  rcases List.mem_cons.1 hi with rfl | hi
  ·skip
   refine qaq (o:=da5) (f:=93) (args:=#[.pointer (some ⟨c,0,none⟩),.int .i64 (q.1.length:Nat)]) (D:=fun v W'=>v=.string t∧Cu W' c q2∧W.grownBy W' (some c)) (by kernel_rfl) (by kernel_rfl) (by kernel_rfl) ?hc5 ?_
   case hc5 =>
    have hcc:=qqb c q (mOwn q) W hc
    rw [ht] at hcc
    exact hcc.mono fun e W' ⟨h1,h2,h3⟩=>⟨_,h1,rfl,h2,h3⟩
   rintro v W2 ⟨rfl,hc2,hg2⟩
   rw [show Act.put _ da5.dst _={ tmps:=#[x0,x1,x2,x3,.pointer (some ⟨r,0,none⟩),x5,x6,x7,x8,x9,aa,ad,ag,ah,ai,aj,aB,.pointer (some ⟨r,0,none⟩),.pointer (some ⟨c,0,none⟩),.pointer (some ⟨r,0,none⟩),.pointer (some ⟨c,0,none⟩),.int .i64 (q.1.length:Nat),.string t,aF,aE,aC,aD,ak,al,am,ap,aq,ar,au,av,aw,ay,az,aA],defers:=[] } from by kernel_rfl]
   have hs2:W2.heap[r]?=some (rdo c):=(hg2.block r (Array.getElem?_eq_some_iff.1 hs).1 (by simp;omega)).trans hs
   exact ⟨hs2,qan (by kernel_rfl) (N2  W2 hs2 (World.grownBy.trans hg hg2) hc2 )⟩
  ·obtain rfl:=List.mem_singleton.1 hi
   refine qcn (o:=da11) (v:=.pointer (some ⟨W.heap.size,0,none⟩)) (by kernel_rfl) (by kernel_rfl) (qek rfl) ?_
   rw [show Act.put _ da11.dst _={ tmps:=#[x0,x1,x2,x3,.pointer (some ⟨r,0,none⟩),x5,.pointer (some ⟨W.heap.size,0,none⟩),x7,x8,x9,aa,ad,ag,ah,ai,aj,aB,.pointer (some ⟨r,0,none⟩),.pointer (some ⟨c,0,none⟩),.pointer (some ⟨r,0,none⟩),.pointer (some ⟨c,0,none⟩),.int .i64 (q.1.length:Nat),x22,aF,aE,aC,aD,ak,al,am,ap,aq,ar,au,av,aw,ay,az,aA],defers:=[] } from by kernel_rfl]
   have hA:=ba W (opo Opn.zero (.slice none 0 0))
   have hs2:(W.alloc (opo Opn.zero (.slice none 0 0))).heap[r]?=some (rdo c):=(hA.block r (Array.getElem?_eq_some_iff.1 hs).1).trans hs
   exact ⟨hs2,qan (by kernel_rfl) (A1 W.heap.size  _ hs2 (World.grownBy.trans hg (World.grownBy.of_below hA)) (Cur.below hc hA) (Ob.new W _ _) hg.size (by have:=hc.lt;omega))⟩
 have N0:∀ (W:World),W.heap[r]?=some (rdo c)→w.grownBy W (some c)→Cu W c q→wpAnyH Tryz.prog .any das Q (fun W=>W.heap[r]?=some (rdo c)) 10 #[true,true,true,true,false,false,false,false,false,false,false,false,false,false] { tmps:=#[x0,x1,x2,x3,.pointer (some ⟨r,0,none⟩),x5,x6,x7,x8,x9,aa,ad,ag,ah,ai,aj,aB,.pointer (some ⟨r,0,none⟩),.pointer (some ⟨c,0,none⟩),.pointer (some ⟨r,0,none⟩),.pointer (some ⟨c,0,none⟩),x21,x22,aF,aE,aC,aD,ak,al,am,ap,aq,ar,au,av,aw,ay,az,aA],defers:=[] } W:=by
  intro W hs hg hc
  refine wpAnyH_all (rs:=[4,11]) (by kernel_rfl) (by simp) (fun i hi=>?_)
  rcases List.mem_cons.1 hi with rfl | hi
  ·skip
   refine qaq (o:=da4) (f:=94) (args:=#[.pointer (some ⟨c,0,none⟩)]) (D:=fun v W'=>v=.int .i64 (q.1.length:Nat)∧W=W') (by kernel_rfl) (by kernel_rfl) (by kernel_rfl) ((qqx c q.1 q.2 W hc).mono fun e W' ⟨h1,h2⟩=>⟨_,h1,rfl,h2⟩) ?_
   rintro v W2 ⟨rfl,rfl⟩
   rw [show Act.put _ da4.dst _={ tmps:=#[x0,x1,x2,x3,.pointer (some ⟨r,0,none⟩),x5,x6,x7,x8,x9,aa,ad,ag,ah,ai,aj,aB,.pointer (some ⟨r,0,none⟩),.pointer (some ⟨c,0,none⟩),.pointer (some ⟨r,0,none⟩),.pointer (some ⟨c,0,none⟩),.int .i64 (q.1.length:Nat),x22,aF,aE,aC,aD,ak,al,am,ap,aq,ar,au,av,aw,ay,az,aA],defers:=[] } from by kernel_rfl]
   exact ⟨hs,qan (by kernel_rfl) (N1  W hs hg hc )⟩
  ·obtain rfl:=List.mem_singleton.1 hi
   refine qcn (o:=da11) (v:=.pointer (some ⟨W.heap.size,0,none⟩)) (by kernel_rfl) (by kernel_rfl) (qek rfl) ?_
   rw [show Act.put _ da11.dst _={ tmps:=#[x0,x1,x2,x3,.pointer (some ⟨r,0,none⟩),x5,.pointer (some ⟨W.heap.size,0,none⟩),x7,x8,x9,aa,ad,ag,ah,ai,aj,aB,.pointer (some ⟨r,0,none⟩),.pointer (some ⟨c,0,none⟩),.pointer (some ⟨r,0,none⟩),.pointer (some ⟨c,0,none⟩),x21,x22,aF,aE,aC,aD,ak,al,am,ap,aq,ar,au,av,aw,ay,az,aA],defers:=[] } from by kernel_rfl]
   have hA:=ba W (opo Opn.zero (.slice none 0 0))
   have hs2:(W.alloc (opo Opn.zero (.slice none 0 0))).heap[r]?=some (rdo c):=(hA.block r (Array.getElem?_eq_some_iff.1 hs).1).trans hs
   exact ⟨hs2,qan (by kernel_rfl) (A0 W.heap.size  _ hs2 (World.grownBy.trans hg (World.grownBy.of_below hA)) (Cur.below hc hA) (Ob.new W _ _) hg.size (by have:=hc.lt;omega))⟩
 refine wpAnyH_take (i:=0) (oi:=da0) (v:=.pointer (some ⟨r,0,none⟩)) (by kernel_rfl) qey (by kernel_rfl) (by kernel_rfl) (fun c a W h=>hP c _ _ _ W h) (Or.inl ⟨by kernel_rfl,fun W hW=>by kernel_rfl⟩) hS ?_
 refine wpAnyH_take (i:=2) (oi:=da2) (v:=.pointer (some ⟨r,0,none⟩)) (by kernel_rfl) qey (by kernel_rfl) (by kernel_rfl) (fun c a W h=>hP c _ _ _ W h) (Or.inl ⟨by kernel_rfl,fun W hW=>by kernel_rfl⟩) hS ?_
 refine wpAnyH_take (i:=1) (oi:=da1) (v:=.pointer (some ⟨c,0,none⟩)) (by kernel_rfl) qey (by kernel_rfl) (by kernel_rfl) (fun c a W h=>hP c _ _ _ W h) (Or.inl ⟨by kernel_rfl,fun W hW=>qtv rfl rfl (by rw [cell_of_row W r 0 _ _ _ hW];rfl)⟩) hS ?_
 refine wpAnyH_take (i:=3) (oi:=da3) (v:=.pointer (some ⟨c,0,none⟩)) (by kernel_rfl) qey (by kernel_rfl) (by kernel_rfl) (fun c a W h=>hP c _ _ _ W h) (Or.inl ⟨by kernel_rfl,fun W hW=>qtv rfl rfl (by rw [cell_of_row W r 0 _ _ _ hW];rfl)⟩) hS ?_
 rw [show Act.put _ da3.dst _={ tmps:=#[x0,x1,x2,x3,.pointer (some ⟨r,0,none⟩),x5,x6,x7,x8,x9,aa,ad,ag,ah,ai,aj,aB,.pointer (some ⟨r,0,none⟩),.pointer (some ⟨c,0,none⟩),.pointer (some ⟨r,0,none⟩),.pointer (some ⟨c,0,none⟩),x21,x22,aF,aE,aC,aD,ak,al,am,ap,aq,ar,au,av,aw,ay,az,aA],defers:=[] } from by kernel_rfl]
 exact qan (by kernel_rfl) (N0 (World.drew w) hS (World.grownBy.drewN (World.grownBy.rfl' _ _) 1) hcu)
def Nw (B:Nat) (l:List (Opn × Value)):Prop:=∀ p ∈ l,∀ k,p.2.ownBlock=some k→B≤k
theorem Nw.nil (B:Nat):Nw B []:=fun p hp=>by cases hp
theorem Nw.snoc {B:Nat}{l:List (Opn × Value)}{p:Opn × Value}(h:Nw B l) (hp:∀ k,p.2.ownBlock=some k→B≤k):Nw B (l++[p]):=fun q hq=>by
 rcases List.mem_append.1 hq with hq | hq
 ·exact h q hq
 ·rw [List.mem_singleton.1 hq];exact hp
def DF (D:List Opn × Bool) (w:World) (e:Ending) (w':World):Prop:=∃ v l,e=.returned (.tuple #[v,.bool D.2])∧Os w' v l∧fsts l=D.1∧Below w.heap.size w w'∧Nw w.heap.size l
theorem DF.no {D:List Opn × Bool}{w w':World}(hd:D=([],false)) (hb:Below w.heap.size w w'):DF D w (.returned (.tuple #[.slice none 0 0,.bool false])) w':=by
 subst hd
 exact ⟨_,[],rfl,⟨Sl.nil _ _,fun p hp=>by cases hp⟩,rfl,hb,Nw.nil _⟩
theorem DF.yes {D:List Opn × Bool}{w w':World}{v:Value}{l:List (Opn × Value)}(hd:D=(fsts l,true)) (ho:Os w' v l) (hb:Below w.heap.size w w') (hn:Nw w.heap.size l):DF D w (.returned (.tuple #[v,.bool true])) w':=by
 subst hd
 exact ⟨_,l,rfl,ho,rfl,hb,hn⟩
set_option maxHeartbeats 4000000 in
theorem qhc (vb:Value) (xs:List Int) (w:World) (hL:Lay w) (h:Bs w vb xs) (hn:xs.length≤1099511627776) :
  Calls Tryz.prog 60 #[vb] w fun e w'=>DF (decA mOwn xs) w e w':=by
 have HB:=hid h
 have HL:=hid hL
 have HLN:=hid hn
 have HBY:=hid h.range
 have hrv:=qfe (m:=1048576) (s:=(xs,false)) h.range
 obtain ⟨N0,s1,hrn⟩:∃ N0 s1,rn 1048576 (xs,false)=(N0,s1):=⟨_,_,rfl⟩
 have hs1:=qln (m:=1048576) (s:=(xs,false)) ⟨h.range,fun e=>by cases e⟩
 have hs1l:=qbp 1048576 (xs,false)
 rw [hrn] at hrv hs1 hs1l
 obtain ⟨n,rfl⟩:∃ n:Nat,N0=n:=⟨N0.toNat,by have:=hrv.1;simp at this;omega⟩
 have hn20:n≤1048576:=by have:=hrv.2.2 (by decide);simp at this;omega
 have HRN:=hid hrn
 have HS1:=hid hs1
 have HS1L:=hid hs1l
 have HD:=hid (qwg (m:=mOwn) hrn)
 obtain ⟨D,hD⟩:∃ D,decA mOwn xs=D:=⟨_,rfl⟩
 rw [hD] at HD ⊢
 clear h hn hrv hrn hD hs1 hs1l hL
 go_enter Tryz.func60,Tryz.ntmps60
 go_wp2_with fail
 refine (qwo vb xs w HB.out (by have:=HLN.out;omega)).mono ?_
 rintro e w2 ⟨c,rfl,hcB,hc,b2⟩
 have HA:=ba w2 (rdo c)
 have X2:=hid (Cur.below hc HA)
 have B2:=hid (bt b2 HA)
 have R2:=hid (heap_alloc_new w2 (rdo c))
 have hrc:c≠w2.heap.size:=by have:=hc.lt;omega
 have hwr:w.heap.size≤w2.heap.size:=b2.size
 clear hc b2 HA
 obtain ⟨r,hr⟩:∃ r,w2.heap.size=r:=⟨_,rfl⟩
 obtain ⟨W2,hW2⟩:∃ W2,w2.alloc (rdo c)=W2:=⟨_,rfl⟩
 have x0:=cell_of_row _ _ 0 _ _ _ R2.out
 simp only [List.getElem?_toArray,List.getElem?_cons_zero] at x0
 rw [hW2,hr] at R2 x0
 rw [hW2] at X2 B2
 rw [hr] at hrc hwr
 go_upto_region 3 with fail
 clear hW2 hr
 go_wp2_with fail
 refine (qjz c (xs,false) 1048576 W2 X2.out).mono ?_
 rintro e w4 ⟨rfl,hx,hg⟩
 rw [HRN.out] at hx ⊢
 have B4:=hid (qaa B2.out (Fr.grown hg) hcB)
 have X4:=hid hx
 have R4:Hid (w4.heap[r]?=some (rdo c)):=(hg.block r (by have:=(Array.getElem?_eq_some_iff.1 R2.out).1;exact this) (by simp;omega)).trans R2.out
 clear hx hg X2 B2 R2 x0
 go_wp2
 go_loopw [5,14] (fun v i wr=>∃ (j:Nat) (l:List (Opn × Value)) (q:St),j≤n∧i=.int .i64 j∧(∃ ra rc,v=.slice ra j rc)∧l.length=j∧rdA mOwn j s1=some (fsts l,q)∧Cu wr c q∧Rw w.heap.size wr v l∧Below w.heap.size w wr∧wr.heap[r]?=some (rdo c)∧Nw w.heap.size l) (fun _ i _=>n - (intOf i).toNat)
 case atStart=>exact ⟨0,[],s1,Nat.zero_le _,rfl,⟨_,_,rfl⟩,rfl,rfl,X4.out,Rw.nil _ _,B4.out,R4.out,Nw.nil _⟩
 case round =>
  obtain ⟨j,l,q,hj,rfl,⟨ra,rc,rfl⟩,hll,hrd,hx,hrw,hb,hrr,hnw⟩:=hrel
  have HNW:=hid hnw
  clear hnw
  have HX:=hid hx
  have HR:=hid hrw
  have BB:=hid hb
  have HRD:=hid hrd
  have HLL:=hid hll
  have HRR:=hid hrr
  clear hrw hb hrd hll hx
  have x0:=cell_of_row wr r 0 _ _ _ hrr
  simp only [List.getElem?_toArray,List.getElem?_cons_zero] at x0
  clear hrr
  by_cases hlt:j<n
  ·have b1':(j:Int)<(n:Int):=by omega
   have hrr:=HRD.out
   rw [qqm s1 HS1.out (Nat.le_trans HS1L.out HLN.out) j] at hrr
   have hok:=qum s1 HS1.out (Nat.le_trans HS1L.out HLN.out) j _ _ hrr
   obtain ⟨t,q2,ht⟩:∃ t q2,rt (mOwn q) q=(t,q2):=⟨_,_,rfl⟩
   obtain ⟨oo,ok,hoo⟩:∃ oo ok,decO Bnd.own (tx t)=(oo,ok):=⟨_,_,rfl⟩
   have hst:=qdz mOwn j s1 q (fsts l) HRD.out
   have hsh:=(qfj (mOwn q) q hok.1.1).1
   rw [ht] at hst hsh
   rw [hoo] at hst
   have HST:=hid hst
   have HLE:Hid (l.length≤1048576):=by show _≤_;rw [HLL.out];omega
   have HT:=hid ht
   have HOO:=hid hoo
   have HSH:Hid (t.size≤1099511627776):=Nat.le_trans hsh hok.2
   clear ht hoo hst hsh hok hrr
   go_wp2_with fail
   refine qxw HRR.out hrc.symm HX.out HT.out HSH.out HOO.out (fun W hg=>HL.out.below (qaa BB.out (Fr.grown hg) hcB)) (fun _ _ _ _ _ h=>h) (fun pb u vo W hr6 hg6 hc6 hk6 hn6 ho6 hp6=>?_)
   have R6:=hid (HR.out.cur HX.out (by decide) hg6)
   have B6:=hid (qaa BB.out (Fr.grown hg6) hcB)
   have AW6:Hid (Aw (.slice ra j rc) (oo,vo)):=.inr (fun k hk e=>by
    have h1:=hn6 k e
    have h2:=(HR.out.1.lt k hk).2
    omega)
   obtain ⟨va,vc,rfl,_⟩:=hk6.form
   have HN6:Hid (∀ k,(Value.slice va oo.cuts.length vc).ownBlock=some k→w.heap.size≤k):=fun k hk=>Nat.le_trans BB.out.size (hn6 k hk)
   have RR6:=hid hr6
   have X6:=hid hc6
   have C6:=hid hk6
   have O6:=hid ho6
   have hrl:r<W.heap.size:=(Array.getElem?_eq_some_iff.1 hr6).1
   clear hr6 hg6 hc6 hk6 hn6 ho6 hp6 x0
   cases ok with
   | false =>
    have hd:D=([],false):=by
     have h1:=HD.out
     rw [qer mOwn (j+1) n s1 (by rw [HST.out];rfl) (by omega)] at h1
     exact h1
    have HDD:=hid hd
    clear hd
    go_wp2
    go_ret2
    exact DF.no HDD.out B6.out
   | true =>
    go_wp2_with (first
     | (refine qae rfl _ rfl _ rfl _ _ O6.out ?_)
     | (refine qdu rfl _ rfl oo _ rfl ?_;have X10:=hid (Cur.below X6.out (ba W (opo oo (.slice va oo.cuts.length vc))));have R10:=hid (R6.out.below (ba W (opo oo (.slice va oo.cuts.length vc))));have O10:=hid (Os.one W oo _ C6.out);have B10:=hid (bt B6.out (ba W (opo oo (.slice va oo.cuts.length vc))));have HS10:Hid (w.heap.size≤(W.alloc (opo oo (.slice va oo.cuts.length vc))).heap.size):=B10.out.size;have RR10:Hid ((W.alloc (opo oo (.slice va oo.cuts.length vc))).heap[r]?=some (rdo c)):=(Below.heap_alloc W _ r hrl).trans RR6.out)
     | (at_builtin;refine qdm rfl _ _ rfl w.heap.size (.slice ra j rc) l rfl R10.out _ (oo,.slice va oo.cuts.length vc) rfl O10.out AW6.out HLE.out HS10.out ?_;intro v11 w11 hR11 hf11 hv11;have R11:=hid hR11;have HF11:=hid hf11;obtain ⟨a11,c11,rfl⟩:=hR11.form;clear hR11 hf11 hv11))
    have X11:Cu w11 c q2:=Cur.fr X10.out HF11.out (fun e=>by
     obtain ⟨u,hu,_⟩:=X10.out
     exact qbh R10.out.1 hu (by decide) e) (fun k hk=>R10.out.2.1 k hk)
    have B11:Below w.heap.size w w11:=B10.out.trans (HF11.out.below (fun k hk e=>by have:=(R10.out.1.lt k e).1;omega) HS10.out)
    have RR11:w11.heap[r]?=some (rdo c):=(HF11.out.block r (Array.getElem?_eq_some_iff.1 RR10.out).1 (qbh R10.out.1 RR10.out (by decide))).trans RR10.out
    have hl1:(l++[(oo,Value.slice va oo.cuts.length vc)]).length=l.length+1:=by simp
    have hR:=R11.out
    rw [hl1] at hR
    have hlj:=HLL.out
    refine ⟨⟨j+1,l++[(oo,Value.slice va oo.cuts.length vc)],q2,by omega,by go_num,⟨a11,c11,by rw [hlj]⟩,by rw [hl1,hlj],?_,X11,hR,B11,RR11,HNW.out.snoc HN6.out⟩,by simp [intOf];omega⟩
    rw [HST.out]
    simp [fsts]
  ·obtain rfl:j=n:=by omega
   have b1':¬ (j:Int)<(j:Int):=by omega
   have hd0:=HD.out
   rw [HRD.out] at hd0
   obtain ⟨qs,qb⟩:=q
   go_wp2_with fail
   refine (qpp c qs qb wr HX.out).mono ?_
   rintro e w5 ⟨rfl,rfl⟩
   cases hz:(!qb && qs.isEmpty) with
   | false =>
    have hd:D=([],false):=by
     rw [hd0]
     simp only [hz]
     rfl
    have HDD:=hid hd
    clear hd hd0 hz
    go_wp2
    go_ret2
    exact DF.no HDD.out BB.out
   | true =>
    have hd:D=(fsts l,true):=by
     rw [hd0]
     simp only [hz]
     rfl
    have HDD:=hid hd
    clear hd hd0 hz
    go_wp2
    go_ret2
    exact DF.yes HDD.out HR.out.os BB.out HNW.out
end Go.Proofs.YtkcjkncpaopjbaaGreatDoor
