/-
  Parts of the proof, one behind the other; what each proves stands at its head.
-/
import Derived.Test.YtkcjkncpaopjbaaGreatDoorPart37
import Derived.Test.YtkcjkncpaopjbaaGreatDoorPart4
import Derived.OrdersHeld
import Derived.Test.YtkcjkncpaopjbaaGreatDoorPart38
import Derived.Test.YtkcjkncpaopjbaaGreatDoorPart14
import Derived.Test.YtkcjkncpaopjbaaGreatDoorPart35
import Derived.Test.YtkcjkncpaopjbaaGreatDoorPart39
import Derived.Test.YtkcjkncpaopjbaaGreatDoorPart36

namespace Go.Proofs.YtkcjkncpaopjbaaGreatDoor
open Go.RowKit
set_option linter.unusedVariables false
set_option maxRecDepth 100000
def ft0:Oper:={ dst:=some 6,op:=Op.move (Operand.tmp 0),type:=29,pos := "ref.go:96",after:=#[],guard:=none }
def ft1:Oper:={ dst:=some 7,op:=Op.nilCheck (Operand.tmp 6),type:=0,pos := "ref.go:96",after:=#[{ on:=0,ground:=Ground.data }],guard:=none }
def ft2:Oper:={ dst:=some 8,op:=Op.fieldAddr 65 (Operand.tmp 7) 0,type:=0,pos := "ref.go:96",after:=#[{ on:=1,ground:=Ground.data }],guard:=none }
def ft3:Oper:={ dst:=some 9,op:=Op.load 36 (Operand.tmp 8),type:=36,pos := "ref.go:96",after:=#[{ on:=2,ground:=Ground.data }],guard:=none }
def ft4:Oper:={ dst:=some 10,op:=Op.call { callee:=Callee.value (Operand.func 42),args:=#[Operand.tmp 9],argTypes:=#[36] },type:=36,pos := "ref.go:96",after:=#[{ on:=3,ground:=Ground.data }],guard:=none }
def ft5:Oper:={ dst:=some 11,op:=Op.move (Operand.tmp 0),type:=29,pos := "ref.go:96",after:=#[],guard:=none }
def ft6:Oper:={ dst:=some 12,op:=Op.nilCheck (Operand.tmp 11),type:=0,pos := "ref.go:96",after:=#[{ on:=5,ground:=Ground.data }],guard:=none }
def ft7:Oper:={ dst:=some 13,op:=Op.fieldAddr 65 (Operand.tmp 12) 1,type:=0,pos := "ref.go:96",after:=#[{ on:=6,ground:=Ground.data }],guard:=none }
def ft8:Oper:={ dst:=some 14,op:=Op.load 36 (Operand.tmp 13),type:=36,pos := "ref.go:96",after:=#[{ on:=7,ground:=Ground.data }],guard:=none }
def ft9:Oper:={ dst:=some 15,op:=Op.call { callee:=Callee.value (Operand.func 42),args:=#[Operand.tmp 14],argTypes:=#[36] },type:=36,pos := "ref.go:96",after:=#[{ on:=8,ground:=Ground.data },{ on:=4,ground:=Ground.chain }],guard:=none }
def ft10:Oper:={ dst:=some 16,op:=Op.move (Operand.tmp 0),type:=29,pos := "ref.go:96",after:=#[],guard:=none }
def ft11:Oper:={ dst:=some 17,op:=Op.nilCheck (Operand.tmp 16),type:=0,pos := "ref.go:96",after:=#[{ on:=10,ground:=Ground.data }],guard:=none }
def ft12:Oper:={ dst:=some 18,op:=Op.fieldAddr 65 (Operand.tmp 17) 2,type:=0,pos := "ref.go:96",after:=#[{ on:=11,ground:=Ground.data }],guard:=none }
def ft13:Oper:={ dst:=some 19,op:=Op.load 3 (Operand.tmp 18),type:=3,pos := "ref.go:96",after:=#[{ on:=12,ground:=Ground.data }],guard:=none }
def ft14:Oper:={ dst:=some 20,op:=Op.build 65 #[(0,Operand.tmp 10),(1,Operand.tmp 15),(2,Operand.tmp 19)],type:=65,pos := "ref.go:96",after:=#[{ on:=4,ground:=Ground.data },{ on:=9,ground:=Ground.data },{ on:=13,ground:=Ground.data }],guard:=none }
def ft15:Oper:={ dst:=some 21,op:=Op.box 65 (Operand.tmp 20),type:=29,pos := "ref.go:96",after:=#[{ on:=14,ground:=Ground.data }],guard:=none }
def ft16:Oper:={ dst:=some 5,op:=Op.assign (Operand.tmp 21),type:=29,pos := "ref.go:96",after:=#[{ on:=15,ground:=Ground.data },{ on:=9,ground:=Ground.chain },{ on:=0,ground:=Ground.phase },{ on:=1,ground:=Ground.phase },{ on:=2,ground:=Ground.phase },{ on:=3,ground:=Ground.phase },{ on:=4,ground:=Ground.phase },{ on:=5,ground:=Ground.phase },{ on:=6,ground:=Ground.phase },{ on:=7,ground:=Ground.phase },{ on:=8,ground:=Ground.phase },{ on:=9,ground:=Ground.phase },{ on:=10,ground:=Ground.phase },{ on:=11,ground:=Ground.phase },{ on:=12,ground:=Ground.phase },{ on:=13,ground:=Ground.phase },{ on:=14,ground:=Ground.phase },{ on:=15,ground:=Ground.phase }],guard:=none }
def fts:Array Oper:=#[ft0,ft1,ft2,ft3,ft4,ft5,ft6,ft7,ft8,ft9,ft10,ft11,ft12,ft13,ft14,ft15,ft16]
theorem qea:Region.noSelect fts=true:=by kernel_rfl
theorem qlj {o:Oper}{a:Act}{x:Operand}{b i:Nat}{v:Value}{W:World}(ho:o.op=.load 36 x) (hx:a.eval x=.pointer (some ⟨b,i,none⟩)) (h:W.cell? ⟨b,i,none⟩=some v):(execOp a.eval o).run Tryz.prog W=.ok (.value v) W:=by
 unfold execOp
 simp only [ho,hx]
 simp [go_sem,h]
theorem jas {o:Oper}{a:Act}{x:Operand}{b i:Nat}{v:Value}{W:World}(ho:o.op=.load 3 x) (hx:a.eval x=.pointer (some ⟨b,i,none⟩)) (h:W.cell? ⟨b,i,none⟩=some v):(execOp a.eval o).run Tryz.prog W=.ok (.value v) W:=by
 unfold execOp
 simp only [ho,hx]
 simp [go_sem,h]
theorem jat {o:Oper}{a:Act}{x:Operand}{u v z:Value}{W:World}(ho:o.op=.box 65 x) (hx:a.eval x=.agg #[u,v,z]):(execOp a.eval o).run Tryz.prog W=.ok (.value (.pointer (some ⟨W.heap.size,0,none⟩))) (W.alloc (.cells #[u,v,z] 65 (0,0))):=by
 unfold execOp
 simp only [ho,hx]
 simp [Instr.box,go_sem]
set_option maxHeartbeats 4000000 in
theorem jbt {B b R:Nat}{s l:Value}{xs ys:List Int}{w:World}{x1 x2 x3 x4 x5 x6 x7 x8 x9 x10 x11 x12 x13 x14 ak x16 x17 x18 x19 aj ai aa ad ag ah:Value}{Q:Exit→Act→World→Prop}(h:Re B w b s l xs ys R)
  (hP:∀ c t t' d W,Q (.panic c) { tmps:=t,defers:=d } W→Q (.panic c) { tmps:=t',defers:=d } W)
  (hQ:∀ s2 l2 g W,Re w.heap.size W g s2 l2 xs ys R→Below w.heap.size (World.drew w) W→Q .normal { tmps:=#[.pointer (some ⟨b,0,none⟩),x1,x2,x3,x4,.pointer (some ⟨g,0,none⟩),.pointer (some ⟨b,0,none⟩),.pointer (some ⟨b,0,none⟩),.pointer (some ⟨b,0,none⟩),s,s2,.pointer (some ⟨b,0,none⟩),.pointer (some ⟨b,0,none⟩),.pointer (some ⟨b,1,none⟩),l,l2,.pointer (some ⟨b,0,none⟩),.pointer (some ⟨b,0,none⟩),.pointer (some ⟨b,2,none⟩),.int .i64 R,.agg #[s2,l2,.int .i64 R],.pointer (some ⟨g,0,none⟩),aa,ad,ag,ah],defers:=[] } W):(Code.region 1 fts true).wp Tryz.prog Q { tmps:=#[.pointer (some ⟨b,0,none⟩),x1,x2,x3,x4,x5,x6,x7,x8,x9,x10,x11,x12,x13,x14,ak,x16,x17,x18,x19,aj,ai,aa,ad,ag,ah],defers:=[] } w:=by
 refine wp_region_held (S:=fun W=>Re B W b s l xs ys R) (by kernel_rfl) ?_
 change wpAnyH _ _ _ _ _ 17 _ _ (World.drew _)
 have hS:Re B (World.drew w) b s l xs ys R:=h.drewN 1
 clear h
 obtain ⟨W0,hW⟩:∃ W,World.drew w=W:=⟨_,rfl⟩
 rw [show w.heap.size=(World.drew w).heap.size from rfl,hW] at hQ
 rw [hW] at hS ⊢
 clear hW
 refine wpAnyH_take (i:=0) (oi:=ft0) (v:=.pointer (some ⟨b,0,none⟩)) (by kernel_rfl) qea (by kernel_rfl) (by kernel_rfl) (fun c a W h=>hP c _ _ _ W h) (Or.inl ⟨by kernel_rfl,fun W hW=>by kernel_rfl⟩) hS ?_
 rw [show Act.put _ ft0.dst _={ tmps:=#[.pointer (some ⟨b,0,none⟩),x1,x2,x3,x4,x5,.pointer (some ⟨b,0,none⟩),x7,x8,x9,x10,x11,x12,x13,x14,ak,x16,x17,x18,x19,aj,ai,aa,ad,ag,ah],defers:=[] } from by kernel_rfl]
 refine wpAnyH_take (i:=1) (oi:=ft1) (v:=.pointer (some ⟨b,0,none⟩)) (by kernel_rfl) qea (by kernel_rfl) (by kernel_rfl) (fun c a W h=>hP c _ _ _ W h) (Or.inl ⟨by kernel_rfl,fun W hW=>by kernel_rfl⟩) hS ?_
 rw [show Act.put _ ft1.dst _={ tmps:=#[.pointer (some ⟨b,0,none⟩),x1,x2,x3,x4,x5,.pointer (some ⟨b,0,none⟩),.pointer (some ⟨b,0,none⟩),x8,x9,x10,x11,x12,x13,x14,ak,x16,x17,x18,x19,aj,ai,aa,ad,ag,ah],defers:=[] } from by kernel_rfl]
 refine wpAnyH_take (i:=5) (oi:=ft5) (v:=.pointer (some ⟨b,0,none⟩)) (by kernel_rfl) qea (by kernel_rfl) (by kernel_rfl) (fun c a W h=>hP c _ _ _ W h) (Or.inl ⟨by kernel_rfl,fun W hW=>by kernel_rfl⟩) hS ?_
 rw [show Act.put _ ft5.dst _={ tmps:=#[.pointer (some ⟨b,0,none⟩),x1,x2,x3,x4,x5,.pointer (some ⟨b,0,none⟩),.pointer (some ⟨b,0,none⟩),x8,x9,x10,.pointer (some ⟨b,0,none⟩),x12,x13,x14,ak,x16,x17,x18,x19,aj,ai,aa,ad,ag,ah],defers:=[] } from by kernel_rfl]
 refine wpAnyH_take (i:=6) (oi:=ft6) (v:=.pointer (some ⟨b,0,none⟩)) (by kernel_rfl) qea (by kernel_rfl) (by kernel_rfl) (fun c a W h=>hP c _ _ _ W h) (Or.inl ⟨by kernel_rfl,fun W hW=>by kernel_rfl⟩) hS ?_
 rw [show Act.put _ ft6.dst _={ tmps:=#[.pointer (some ⟨b,0,none⟩),x1,x2,x3,x4,x5,.pointer (some ⟨b,0,none⟩),.pointer (some ⟨b,0,none⟩),x8,x9,x10,.pointer (some ⟨b,0,none⟩),.pointer (some ⟨b,0,none⟩),x13,x14,ak,x16,x17,x18,x19,aj,ai,aa,ad,ag,ah],defers:=[] } from by kernel_rfl]
 refine wpAnyH_take (i:=10) (oi:=ft10) (v:=.pointer (some ⟨b,0,none⟩)) (by kernel_rfl) qea (by kernel_rfl) (by kernel_rfl) (fun c a W h=>hP c _ _ _ W h) (Or.inl ⟨by kernel_rfl,fun W hW=>by kernel_rfl⟩) hS ?_
 rw [show Act.put _ ft10.dst _={ tmps:=#[.pointer (some ⟨b,0,none⟩),x1,x2,x3,x4,x5,.pointer (some ⟨b,0,none⟩),.pointer (some ⟨b,0,none⟩),x8,x9,x10,.pointer (some ⟨b,0,none⟩),.pointer (some ⟨b,0,none⟩),x13,x14,ak,.pointer (some ⟨b,0,none⟩),x17,x18,x19,aj,ai,aa,ad,ag,ah],defers:=[] } from by kernel_rfl]
 refine wpAnyH_take (i:=11) (oi:=ft11) (v:=.pointer (some ⟨b,0,none⟩)) (by kernel_rfl) qea (by kernel_rfl) (by kernel_rfl) (fun c a W h=>hP c _ _ _ W h) (Or.inl ⟨by kernel_rfl,fun W hW=>by kernel_rfl⟩) hS ?_
 rw [show Act.put _ ft11.dst _={ tmps:=#[.pointer (some ⟨b,0,none⟩),x1,x2,x3,x4,x5,.pointer (some ⟨b,0,none⟩),.pointer (some ⟨b,0,none⟩),x8,x9,x10,.pointer (some ⟨b,0,none⟩),.pointer (some ⟨b,0,none⟩),x13,x14,ak,.pointer (some ⟨b,0,none⟩),.pointer (some ⟨b,0,none⟩),x18,x19,aj,ai,aa,ad,ag,ah],defers:=[] } from by kernel_rfl]
 refine wpAnyH_take (i:=2) (oi:=ft2) (v:=.pointer (some ⟨b,0,none⟩)) (by kernel_rfl) qea (by kernel_rfl) (by kernel_rfl) (fun c a W h=>hP c _ _ _ W h) (Or.inl ⟨by kernel_rfl,fun W hW=>by kernel_rfl⟩) hS ?_
 rw [show Act.put _ ft2.dst _={ tmps:=#[.pointer (some ⟨b,0,none⟩),x1,x2,x3,x4,x5,.pointer (some ⟨b,0,none⟩),.pointer (some ⟨b,0,none⟩),.pointer (some ⟨b,0,none⟩),x9,x10,.pointer (some ⟨b,0,none⟩),.pointer (some ⟨b,0,none⟩),x13,x14,ak,.pointer (some ⟨b,0,none⟩),.pointer (some ⟨b,0,none⟩),x18,x19,aj,ai,aa,ad,ag,ah],defers:=[] } from by kernel_rfl]
 refine wpAnyH_take (i:=7) (oi:=ft7) (v:=.pointer (some ⟨b,1,none⟩)) (by kernel_rfl) qea (by kernel_rfl) (by kernel_rfl) (fun c a W h=>hP c _ _ _ W h) (Or.inl ⟨by kernel_rfl,fun W hW=>by kernel_rfl⟩) hS ?_
 rw [show Act.put _ ft7.dst _={ tmps:=#[.pointer (some ⟨b,0,none⟩),x1,x2,x3,x4,x5,.pointer (some ⟨b,0,none⟩),.pointer (some ⟨b,0,none⟩),.pointer (some ⟨b,0,none⟩),x9,x10,.pointer (some ⟨b,0,none⟩),.pointer (some ⟨b,0,none⟩),.pointer (some ⟨b,1,none⟩),x14,ak,.pointer (some ⟨b,0,none⟩),.pointer (some ⟨b,0,none⟩),x18,x19,aj,ai,aa,ad,ag,ah],defers:=[] } from by kernel_rfl]
 refine wpAnyH_take (i:=12) (oi:=ft12) (v:=.pointer (some ⟨b,2,none⟩)) (by kernel_rfl) qea (by kernel_rfl) (by kernel_rfl) (fun c a W h=>hP c _ _ _ W h) (Or.inl ⟨by kernel_rfl,fun W hW=>by kernel_rfl⟩) hS ?_
 rw [show Act.put _ ft12.dst _={ tmps:=#[.pointer (some ⟨b,0,none⟩),x1,x2,x3,x4,x5,.pointer (some ⟨b,0,none⟩),.pointer (some ⟨b,0,none⟩),.pointer (some ⟨b,0,none⟩),x9,x10,.pointer (some ⟨b,0,none⟩),.pointer (some ⟨b,0,none⟩),.pointer (some ⟨b,1,none⟩),x14,ak,.pointer (some ⟨b,0,none⟩),.pointer (some ⟨b,0,none⟩),.pointer (some ⟨b,2,none⟩),x19,aj,ai,aa,ad,ag,ah],defers:=[] } from by kernel_rfl]
 refine wpAnyH_take (i:=3) (oi:=ft3) (v:=s) (by kernel_rfl) qea (by kernel_rfl) (by kernel_rfl) (fun c a W h=>hP c _ _ _ W h) (Or.inl ⟨by kernel_rfl,fun W hW=>qlj rfl rfl (by rw [cell_of_row W b 0 _ _ _ hW.blk];rfl)⟩) hS ?_
 rw [show Act.put _ ft3.dst _={ tmps:=#[.pointer (some ⟨b,0,none⟩),x1,x2,x3,x4,x5,.pointer (some ⟨b,0,none⟩),.pointer (some ⟨b,0,none⟩),.pointer (some ⟨b,0,none⟩),s,x10,.pointer (some ⟨b,0,none⟩),.pointer (some ⟨b,0,none⟩),.pointer (some ⟨b,1,none⟩),x14,ak,.pointer (some ⟨b,0,none⟩),.pointer (some ⟨b,0,none⟩),.pointer (some ⟨b,2,none⟩),x19,aj,ai,aa,ad,ag,ah],defers:=[] } from by kernel_rfl]
 refine wpAnyH_take (i:=8) (oi:=ft8) (v:=l) (by kernel_rfl) qea (by kernel_rfl) (by kernel_rfl) (fun c a W h=>hP c _ _ _ W h) (Or.inl ⟨by kernel_rfl,fun W hW=>qlj rfl rfl (by rw [cell_of_row W b 1 _ _ _ hW.blk];rfl)⟩) hS ?_
 rw [show Act.put _ ft8.dst _={ tmps:=#[.pointer (some ⟨b,0,none⟩),x1,x2,x3,x4,x5,.pointer (some ⟨b,0,none⟩),.pointer (some ⟨b,0,none⟩),.pointer (some ⟨b,0,none⟩),s,x10,.pointer (some ⟨b,0,none⟩),.pointer (some ⟨b,0,none⟩),.pointer (some ⟨b,1,none⟩),l,ak,.pointer (some ⟨b,0,none⟩),.pointer (some ⟨b,0,none⟩),.pointer (some ⟨b,2,none⟩),x19,aj,ai,aa,ad,ag,ah],defers:=[] } from by kernel_rfl]
 refine wpAnyH_take (i:=13) (oi:=ft13) (v:=.int .i64 R) (by kernel_rfl) qea (by kernel_rfl) (by kernel_rfl) (fun c a W h=>hP c _ _ _ W h) (Or.inl ⟨by kernel_rfl,fun W hW=>jas rfl rfl (by rw [cell_of_row W b 2 _ _ _ hW.blk];rfl)⟩) hS ?_
 rw [show Act.put _ ft13.dst _={ tmps:=#[.pointer (some ⟨b,0,none⟩),x1,x2,x3,x4,x5,.pointer (some ⟨b,0,none⟩),.pointer (some ⟨b,0,none⟩),.pointer (some ⟨b,0,none⟩),s,x10,.pointer (some ⟨b,0,none⟩),.pointer (some ⟨b,0,none⟩),.pointer (some ⟨b,1,none⟩),l,ak,.pointer (some ⟨b,0,none⟩),.pointer (some ⟨b,0,none⟩),.pointer (some ⟨b,2,none⟩),.int .i64 R,aj,ai,aa,ad,ag,ah],defers:=[] } from by kernel_rfl]
 refine wpAnyH_all (rs:=[4]) (by kernel_rfl) (by simp) (fun i hi=>?_)
 obtain rfl:=List.mem_singleton.1 hi
 refine qaq (o:=ft4) (f:=42) (args:=#[s]) (D:=fun v V=>∃ g cap,v=.slice (some ⟨g,0,none⟩) xs.length cap∧V.ownsRow W0.heap.size 5 1 (.slice (some ⟨g,0,none⟩) xs.length cap) xs.length (cs xs)∧Below W0.heap.size W0 V) (by kernel_rfl) (by kernel_rfl) (by kernel_rfl) ?_ ?_
 ·exact (qet _ xs W0 (hS.os.bs hS.bs) (by have h1:=hS.len;have h2:=hS.lim;omega)).mono fun e V ⟨g,cap,h1,h2,h3⟩=>⟨_,h1,g,cap,rfl,h2,h3⟩
 rintro v W1 ⟨g1,c1,rfl,o1,b1⟩
 rw [show Act.put _ ft4.dst _={ tmps:=#[.pointer (some ⟨b,0,none⟩),x1,x2,x3,x4,x5,.pointer (some ⟨b,0,none⟩),.pointer (some ⟨b,0,none⟩),.pointer (some ⟨b,0,none⟩),s,.slice (some ⟨g1,0,none⟩) xs.length c1,.pointer (some ⟨b,0,none⟩),.pointer (some ⟨b,0,none⟩),.pointer (some ⟨b,1,none⟩),l,ak,.pointer (some ⟨b,0,none⟩),.pointer (some ⟨b,0,none⟩),.pointer (some ⟨b,2,none⟩),.int .i64 R,aj,ai,aa,ad,ag,ah],defers:=[] } from by kernel_rfl]
 have hS1:=hS.below b1
 refine ⟨hS1,?_⟩
 refine wpAnyH_all (rs:=[9]) (by kernel_rfl) (by simp) (fun i hi=>?_)
 obtain rfl:=List.mem_singleton.1 hi
 refine qaq (o:=ft9) (f:=42) (args:=#[l]) (D:=fun v V=>∃ g cap,v=.slice (some ⟨g,0,none⟩) ys.length cap∧V.ownsRow W1.heap.size 5 1 (.slice (some ⟨g,0,none⟩) ys.length cap) ys.length (cs ys)∧Below W1.heap.size W1 V) (by kernel_rfl) (by kernel_rfl) (by kernel_rfl) ?_ ?_
 ·exact (qet _ ys W1 (hS1.ol.bs hS1.bl) (by have h1:=hS1.len;have h2:=hS1.lim;omega)).mono fun e V ⟨g,cap,h1,h2,h3⟩=>⟨_,h1,g,cap,rfl,h2,h3⟩
 rintro v W2 ⟨g2,c2,rfl,o2,b2⟩
 rw [show Act.put _ ft9.dst _={ tmps:=#[.pointer (some ⟨b,0,none⟩),x1,x2,x3,x4,x5,.pointer (some ⟨b,0,none⟩),.pointer (some ⟨b,0,none⟩),.pointer (some ⟨b,0,none⟩),s,.slice (some ⟨g1,0,none⟩) xs.length c1,.pointer (some ⟨b,0,none⟩),.pointer (some ⟨b,0,none⟩),.pointer (some ⟨b,1,none⟩),l,.slice (some ⟨g2,0,none⟩) ys.length c2,.pointer (some ⟨b,0,none⟩),.pointer (some ⟨b,0,none⟩),.pointer (some ⟨b,2,none⟩),.int .i64 R,aj,ai,aa,ad,ag,ah],defers:=[] } from by kernel_rfl]
 have hS2:=hS1.below b2
 refine ⟨hS2,?_⟩
 refine wpAnyH_take (i:=14) (oi:=ft14) (v:=.agg #[.slice (some ⟨g1,0,none⟩) xs.length c1,.slice (some ⟨g2,0,none⟩) ys.length c2,.int .i64 R]) (by kernel_rfl) qea (by kernel_rfl) (by kernel_rfl) (fun c a W h=>hP c _ _ _ W h) (Or.inl ⟨by kernel_rfl,fun W hW=>by kernel_rfl⟩) hS2 ?_
 rw [show Act.put _ ft14.dst _={ tmps:=#[.pointer (some ⟨b,0,none⟩),x1,x2,x3,x4,x5,.pointer (some ⟨b,0,none⟩),.pointer (some ⟨b,0,none⟩),.pointer (some ⟨b,0,none⟩),s,.slice (some ⟨g1,0,none⟩) xs.length c1,.pointer (some ⟨b,0,none⟩),.pointer (some ⟨b,0,none⟩),.pointer (some ⟨b,1,none⟩),l,.slice (some ⟨g2,0,none⟩) ys.length c2,.pointer (some ⟨b,0,none⟩),.pointer (some ⟨b,0,none⟩),.pointer (some ⟨b,2,none⟩),.int .i64 R,.agg #[.slice (some ⟨g1,0,none⟩) xs.length c1,.slice (some ⟨g2,0,none⟩) ys.length c2,.int .i64 R],ai,aa,ad,ag,ah],defers:=[] } from by kernel_rfl]
 refine wpAnyH_all (rs:=[15]) (by kernel_rfl) (by simp) (fun i hi=>?_)
 obtain rfl:=List.mem_singleton.1 hi
 refine qcn (o:=ft15) (v:=.pointer (some ⟨W2.heap.size,0,none⟩)) (by kernel_rfl) (by kernel_rfl) (jat rfl rfl) ?_
 rw [show Act.put _ ft15.dst _={ tmps:=#[.pointer (some ⟨b,0,none⟩),x1,x2,x3,x4,x5,.pointer (some ⟨b,0,none⟩),.pointer (some ⟨b,0,none⟩),.pointer (some ⟨b,0,none⟩),s,.slice (some ⟨g1,0,none⟩) xs.length c1,.pointer (some ⟨b,0,none⟩),.pointer (some ⟨b,0,none⟩),.pointer (some ⟨b,1,none⟩),l,.slice (some ⟨g2,0,none⟩) ys.length c2,.pointer (some ⟨b,0,none⟩),.pointer (some ⟨b,0,none⟩),.pointer (some ⟨b,2,none⟩),.int .i64 R,.agg #[.slice (some ⟨g1,0,none⟩) xs.length c1,.slice (some ⟨g2,0,none⟩) ys.length c2,.int .i64 R],.pointer (some ⟨W2.heap.size,0,none⟩),aa,ad,ag,ah],defers:=[] } from by kernel_rfl]
 have hS3:=hS2.below (ba W2 (.cells #[.slice (some ⟨g1,0,none⟩) xs.length c1,.slice (some ⟨g2,0,none⟩) ys.length c2,.int .i64 R] 65 (0,0)))
 refine ⟨hS3,?_⟩
 refine wpAnyH_take (i:=16) (oi:=ft16) (v:=.pointer (some ⟨W2.heap.size,0,none⟩)) (by kernel_rfl) qea (by kernel_rfl) (by kernel_rfl) (fun c a W h=>hP c _ _ _ W h) (Or.inl ⟨by kernel_rfl,fun W hW=>by kernel_rfl⟩) hS3 ?_
 rw [show Act.put _ ft16.dst _={ tmps:=#[.pointer (some ⟨b,0,none⟩),x1,x2,x3,x4,.pointer (some ⟨W2.heap.size,0,none⟩),.pointer (some ⟨b,0,none⟩),.pointer (some ⟨b,0,none⟩),.pointer (some ⟨b,0,none⟩),s,.slice (some ⟨g1,0,none⟩) xs.length c1,.pointer (some ⟨b,0,none⟩),.pointer (some ⟨b,0,none⟩),.pointer (some ⟨b,1,none⟩),l,.slice (some ⟨g2,0,none⟩) ys.length c2,.pointer (some ⟨b,0,none⟩),.pointer (some ⟨b,0,none⟩),.pointer (some ⟨b,2,none⟩),.int .i64 R,.agg #[.slice (some ⟨g1,0,none⟩) xs.length c1,.slice (some ⟨g2,0,none⟩) ys.length c2,.int .i64 R],.pointer (some ⟨W2.heap.size,0,none⟩),aa,ad,ag,ah],defers:=[] } from by kernel_rfl]
 refine wpAnyH_done (by kernel_rfl) (hQ _ _ _ _ ⟨heap_alloc_new W2 _,Nat.le_trans b1.size b2.size,qau (qau o1 b2) (ba W2 _),qau (qgw o2 b1.size) (ba W2 _),hS.bs,hS.bl,fun k hk e=>?_,hS.len,hS.lim⟩ (bt (bt b1 b2) (ba W2 _))) _
 have h1:=(o1.lt k hk).2
 have h2:=(o2.lt k e).1
 omega
set_option maxHeartbeats 2000000 in
theorem qtb {B b R:Nat}{s lv:Value}{xs ys:List Int}{w:World}(h:Re B w b s lv xs ys R) (va:Value) (l:List (Opn × Value)) (hO:Os w va l) (hf:∀ p ∈ l,p.1.fine) (hn:l.length≤1000000) :
  Calls Tryz.prog 14 #[.pointer (some ⟨b,0,none⟩),va] w fun e w'=>e=.returned (.bool ((xap R (fsts l) xs ys).1==0))∧Below w.heap.size w w':=by
 have HRE:=hid h
 have HO:=hid hO
 have HF:=hid hf
 obtain ⟨a,c,rfl,_,_⟩:=Sl.form hO.1
 obtain ⟨z,hz⟩:∃ z,(xap R (fsts l) xs ys).1=z:=⟨_,rfl⟩
 have HZ:=hid hz
 rw [hz]
 clear h hO hf hz
 go_enter Tryz.func14,Tryz.ntmps14
 go_wp2_with fail
 refine jbt HRE.out (fun _ _ _ _ _ h=>h) (fun s2 l2 g W hre hb=>?_)
 have R1:=hid hre
 have B1:Hid (Below w.heap.size w W):=hid (bt (bd w 1) hb)
 have O1:=hid (show Os W (.slice a l.length c) l from ⟨HO.out.1.below B1.out,fun p hp=>(HO.out.2 p hp).below B1.out⟩)
 clear hre hb
 go_wp2_with fail
 refine (qip B1.out.size R1.out _ l O1.out HF.out hn).mono ?_
 rintro e w2 ⟨rfl,s3,l3,hr3,hx3⟩
 rw [HZ.out]
 have B2:Hid (Below w.heap.size w w2):=hid (B1.out.trans (hx3.fr.below (fun k hk e=>by have:=(R1.out.inside e).1;omega) B1.out.size))
 clear hr3 hx3
 go_wp2
 go_ret
 exact ⟨rfl,B2.out⟩
def CX (B lb fb R:Nat) (fv vo ve:Value) (r:Int) (Fs:List (List Opn)) (n:Nat) (l:List (Opn × Value)) (w:World) (e:Ending) (w':World):Prop :=
 (10+szF (partsP Fs.flatten)≤R∧e=.returned (.int .i64 0)∧∃ fv' ve',Lo B w' lb fb fv' vo ve' r (partsP Fs.flatten) (10+szF (partsP Fs.flatten)) R l∧Lx (Ft lb fb fv vo ve) (Ft lb fb fv' vo ve') w w') ∨
 (R<10+szF (partsP Fs.flatten)∧e=.returned (.int .i64 14)∧∃ fv',Lo B w' lb fb fv' vo ve r Fs n R l∧Lx (Ft lb fb fv vo ve) (Ft lb fb fv' vo ve) w w')
structure Ck (w:World) (r:Int) (Ps:List (List Opn)) (b e p:Value) (us:List Value) (k:Nat) (wr:World):Prop where
 bo:Ow w.heap.size wr b (lby r (Ps.take k))
 eo:wr.ownsRow w.heap.size 94 2 e (endsF (Ps.take k)).length ((endsF (Ps.take k)).flatMap endc)
 po:Pl w.heap.size wr p us
 bw:Below w.heap.size w wr
theorem Ck.below {w:World}{r:Int}{Ps:List (List Opn)}{b e p:Value}{us:List Value}{k:Nat}{wr w':World}(h:Ck w r Ps b e p us k wr) (hb:Below wr.heap.size wr w'):Ck w r Ps b e p us k w' :=
 ⟨qau h.bo hb,qaz h.eo (Fr.of_below (S:=fun _=>False) hb) (fun _ _ e=>e),qaz h.po (Fr.of_below (S:=fun _=>False) hb) (fun _ _ e=>e),bt h.bw hb⟩
theorem Ck.app1 {w:World}{r:Int}{Ps:List (List Opn)}{b e p b':Value}{us:List Value}{k:Nat}{wr w':World}{ys:List Int}(h:Ck w r Ps b e p us k wr) (hown:Ow w.heap.size w' b' ys) (hg:wr.grownBy w' b.ownBlock) :
  Ow w.heap.size w' b' ys∧w'.ownsRow w.heap.size 94 2 e (endsF (Ps.take k)).length ((endsF (Ps.take k)).flatMap endc)∧Pl w.heap.size w' p us∧Below w.heap.size w w':=by
 have hf:Fr (fun k=>b.ownBlock=some k) wr w':=Fr.of_grown hg (fun k e=>e)
 exact ⟨hown,qaz h.eo hf (fun k hk e=>qcw h.eo h.bo (by decide) hk e),qaz h.po hf (fun k hk e=>qcw h.po h.bo (by decide) hk e),h.bw.trans (hf.below (fun k hk e=>by have:=(h.bo.lt k e).1;omega) h.bw.size)⟩
theorem Ck.app2 {w:World}{r:Int}{Ps:List (List Opn)}{e p b e':Value}{us:List Value}{k:Nat}{w1 w2:World}{x:Obj}(hk:k<Ps.length) (h:Ow w.heap.size w1 b (lby r (Ps.take (k+1)))∧w1.ownsRow w.heap.size 94 2 e (endsF (Ps.take k)).length ((endsF (Ps.take k)).flatMap endc)∧Pl w.heap.size w1 p us∧Below w.heap.size w w1)
  (hown:w2.ownsRow w.heap.size 94 2 e' ((endsF (Ps.take k)).length+1) ((endsF (Ps.take k)).flatMap endc++[.int .i64 ((10+szF (Ps.take (k+1)):Nat):Int),.int .i64 (((Ps.take (k+1)).flatten.length:Nat):Int)])) (hg:(w1.alloc x).grownBy w2 e.ownBlock):Ck w r Ps b e' p us (k+1) w2:=by
 obtain ⟨hb,he,hp,hw⟩:=h
 have ha:=ba w1 x
 have hb:=qau hb ha
 have he:=qaz he (Fr.of_below (S:=fun _=>False) ha) (fun _ _ e=>e)
 have hp:=qaz hp (Fr.of_below (S:=fun _=>False) ha) (fun _ _ e=>e)
 have hf:Fr (fun k=>e.ownBlock=some k) (w1.alloc x) w2:=Fr.of_grown hg (fun k e=>e)
 have es:endsF (Ps.take (k+1))=endsF (Ps.take k)++[(10+szF (Ps.take (k+1)),(Ps.take (k+1)).flatten.length)]:=by
  have h1:=List.take_succ_eq_append_getElem hk
  rw [h1,qem]
 refine ⟨qaz hb hf (fun k hk e=>qcw hb he (by decide) hk e),?_,qaz hp hf (fun k hk e=>qcw hp he (by decide) hk e),bt hw ha |>.trans (hf.below (fun k hk e=>by have:=(he.lt k e).1;omega) (Nat.le_trans hw.size ha.size))⟩
 rw [es,List.length_append,List.flatMap_append]
 exact hown
theorem qxm {o:Oper}{a:Act}{x:Operand}{p q:Int}{W:World}(ho:o.op=.buildSlice 79 1 #[(0,x)]) (hx:a.eval x=.agg #[.int .i64 p,.int .i64 q]):(execOp a.eval o).run Tryz.prog W=.ok (.value (.slice (some ⟨W.heap.size,0,none⟩) 1 1)) (W.alloc (.cells #[.int .i64 p,.int .i64 q] 94)):=by
 unfold execOp
 simp only [ho,List.map_toArray,List.map_cons,List.map_nil,hx]
 kernel_rfl
theorem qwx (p q:Int):∀ x ∈ [Value.int .i64 p,Value.int .i64 q],x.oneCell'=true:=by
 intro x hx
 rcases List.mem_cons.1 hx with rfl | hx
 ·rfl
 ·rw [List.mem_singleton.1 hx];rfl
theorem Pl.at {B:Nat}{w:World}{v:Value}{us:List Value}(h:Pl B w v us) {i:Nat}(hi:i<us.length):∃ g c,v=.slice (some ⟨g,0,none⟩) us.length c∧w.cell? ⟨g,i,none⟩=some (us[i]):=by
 rcases h.2 with ⟨_,h2⟩ | ⟨g,cap,cur,hv,_,hg,_,_,_,ht⟩
 ·omega
 ·refine ⟨g,cap,hv,?_⟩
  rw [cell_of_row w g _ _ _ _ hg]
  have:(cur.toList.take (us.length*1))[i]?=us[i]?:=by rw [ht]
  rw [List.getElem?_take,if_pos (by omega),List.getElem?_eq_getElem hi] at this
  simpa using this
set_option maxHeartbeats 16000000 in
theorem qpt {B:Nat}{w:World}{lb fb:Nat}{fv vo ve:Value}{r:Int}{Fs:List (List Opn)}{n R:Nat}{l:List (Opn × Value)}(h:Lo B w lb fb fv vo ve r Fs n R l) (hL:Lay w) (hB:B≤w.heap.size) :
  Calls Tryz.prog 19 #[.pointer (some ⟨lb,0,none⟩)] w fun e w'=>CX B lb fb R fv vo ve r Fs n l w e w':=by
 have HL:=hid h
 have HY:=hid hL
 have hbd:=h.bounds
 have hs:=qcp Fs
 have HS:=hid hs
 have HA:=hid h.all
 have hro:∀ o ∈ Fs.flatten,rightO o=true:=fun o ho=>by
  obtain ⟨f,hf,hm⟩:=List.mem_flatten.1 ho
  exact (h.good f hf).2.1 o hm
 have HRO:=hid hro
 obtain ⟨va,vc,rfl,hvc⟩:=qbe h.lg.ro
 obtain ⟨Q,hQ⟩:∃ Q,l.length=Q:=⟨_,rfl⟩
 have HQ:=hid hQ
 have hb2:=hbd.2
 clear h hL hs hro
 go_enter Tryz.func19,Tryz.ntmps19
 go_wp2_with fail
 refine jca HL.out.lg HS.out HA.out (by omega) (fun _ _ _ _ _ h=>h) (fun W hW=>?_)
 have BW:=hid ((bd w 1).trans hW:Below w.heap.size w W)
 have L1:=hid (HL.out.below BW.out)
 have c1:=L1.out.lg.c1
 clear hW
 go_wp2_with fail
 refine (qga r W (HY.out.low BW.out HY.out.two) L1.out.r0 L1.out.r1).mono ?_
 rintro e w2 ⟨v2,rfl,ho2,b2⟩
 obtain ⟨a2,c2,rfl,_⟩:=ho2.form
 have hfb:lby r []=C.frame (fb0 r):=by rw [qcy];simp [C.cat]
 have HF2:=hid ho2
 have B2:=hid b2
 have LW:Hid (Lay W):=hid (HY.out.low BW.out HY.out.two)
 have HFB:=hid hfb
 have HP:=hid (qur (.slice va l.length vc) l W w2 (LW.out.low b2 LW.out.two) L1.out.lg.os b2 L1.out.right (by have:=L1.out.bounds;omega))
 rw [hQ] at HP ⊢
 obtain ⟨X,hX⟩:∃ X,(C.frame (fb0 r)).length=X:=⟨_,rfl⟩
 have hX10:X=10:=by rw [←hX,←hfb,qpj L1.out.r0 L1.out.r1]
 rw [hX]
 have HX:=hid hX
 clear ho2 b2 hfb hX
 go_wp2_with fail
 refine HP.out.mono ?_
 rintro e w3 ⟨v3,rfl,us,ps,hpl,hul,hos,hps,hb3⟩
 obtain ⟨Ps,hPs⟩:∃ Ps,partsP Fs.flatten=Ps:=⟨_,rfl⟩
 have hps2:ps.map fsts=Ps:=by rw [hps,L1.out.fl,hPs]
 have hgd:Good Ps:=by rw [←hPs];exact qge HRO.out
 have hfl:Ps.flatten=Fs.flatten:=by rw [←hPs];exact qfm _
 have hpn:Ps.length≤1048576:=by
  have h1:=qsb HRO.out
  rw [hPs] at h1
  have h2:=L1.out.len
  have h3:=L1.out.bounds
  omega
 have hfn:Ps.flatten.length≤1048576:=by rw [hfl,←L1.out.len];exact L1.out.bounds.1
 obtain ⟨a3,c3,rfl,hc3⟩:=qbe hpl
 have HOS:=hid hos
 have HPS:=hid hps2
 have HPP:=hid hPs
 have HGD:=hid hgd
 have HFL:=hid hfl
 have huP:us.length=Ps.length:=by rw [hul,←hps2,List.length_map]
 have CK:Hid (Ck W r Ps (.slice a2 X c2) (.slice none 0 0) (.slice a3 us.length c3) us 0 w3):=hid ⟨by
   rw [List.take_zero,HFB.out,←HX.out]
   exact qau HF2.out hb3,⟨rfl,.inl ⟨rfl,rfl⟩⟩,qgw hpl B2.out.size,bt B2.out hb3⟩
 subst hX10
 obtain ⟨M,hM⟩:∃ M,us.length=M:=⟨_,rfl⟩
 have HUL:=hid hul
 have HM:=hid hM
 have hMP:M=Ps.length:=by rw [←hM];exact huP
 have hM2:M≤1048576:=by omega
 rw [hM] at CK ⊢
 have HMP:=hid hMP
 have HPN:=hid hpn
 have HFN:=hid hfn
 clear hpl hul hos hps hb3 hps2 hPs hgd hfl hpn hfn huP hM hMP HP
 go_wp2
 go_loopw [4,5,6,27] (fun b e c i wr=>∃ k:Nat,i=.int .i64 k∧k≤M∧c=.int .i64 ((Ps.take k).flatten.length:Nat)∧Ck W r Ps b e (.slice a3 M c3) us k wr) (fun _ _ _ i _=>M - (intOf i).toNat)
 case atStart=>exact ⟨0,rfl,Nat.zero_le _,rfl,CK.out⟩
 case round =>
  obtain ⟨k,rfl,hk,rfl,hck⟩:=hrel
  have K0:=hid hck
  obtain ⟨ab,cb,rfl,_⟩:=hck.bo.form
  obtain ⟨ae,ce,rfl,_⟩:=qbe hck.eo
  clear hck CK
  obtain ⟨N,hN⟩:∃ N,(lby r (Ps.take k)).length=N:=⟨_,rfl⟩
  obtain ⟨Cc,hC⟩:∃ Cc,(Ps.take k).flatten.length=Cc:=⟨_,rfl⟩
  have HN:=hid hN
  have HC:=hid hC
  rw [hN] at K0 ⊢
  rw [hC] at ⊢
  by_cases hlt:k<M
  ·have hlt':(k:Int)<(M:Int):=by omega
   have hkP:k<Ps.length:=by have:=HMP.out;omega
   have hku:k<us.length:=by rw [HM.out];exact hlt
   have hkps:k<ps.length:=by have:=HUL.out;omega
   obtain ⟨g,c,e3,hcell⟩:=Pl.at K0.out.po hku
   rw [HM.out] at e3
   simp only [Value.slice.injEq] at e3
   obtain ⟨rfl,-,rfl⟩:=e3
   obtain ⟨u,hu⟩:∃ u,us[k]=u:=⟨_,rfl⟩
   obtain ⟨qq,hqq⟩:∃ qq,ps[k]=qq:=⟨_,rfl⟩
   have ho:=HOS.out k hkps hku
   rw [hu,hqq] at ho
   rw [hu] at hcell
   have hf:fsts qq=Ps[k]:=by
    have h1:=HPS.out
    have h2:(ps.map fsts)[k]'(by rw [List.length_map];exact hkps)=Ps[k]:=by simp only [h1]
    rw [List.getElem_map,hqq] at h2
    exact h2
   have hok:=HGD.out _ (List.getElem_mem hkP)
   have hql:qq.length≤65536:=by
    have h1:=qfq (fsts qq)
    rw [hf] at h1
    have h2:(fsts qq).length=qq.length:=fstsL qq
    rw [hf] at h2
    have:=hok.2.2
    omega
   have HO:=hid (ho.later K0.out.bw)
   obtain ⟨ua,uc,rfl,_,_⟩:=Sl.form ho.1
   obtain ⟨m,hm⟩:∃ m,qq.length=m:=⟨_,rfl⟩
   have hm65:m≤65536:=by rw [←hm];exact hql
   have HFA:=hid (qjl _ qq wr (LW.out.low K0.out.bw LW.out.two) HO.out (fun p hp=>(qde (hok.2.1 p.1 (by rw [←hf];exact List.mem_map.2 ⟨p,hp,rfl⟩))).1) (by omega))
   have hfr0:frE (fsts qq)=0:=by rw [hf];exact qyz hok
   have hfrB:frB (fsts qq)=C.frame (encA Ps[k]):=by unfold frB;rw [hfr0,hf];rfl
   rw [hfr0,hfrB,hm] at HFA
   rw [hm] at hcell
   have hst:Ps.take (k+1)=Ps.take k++[Ps[k]]:=List.take_succ_eq_append_getElem hkP
   have hlb:lby r (Ps.take (k+1))=lby r (Ps.take k)++C.frame (encA Ps[k]):=by rw [hst,qfo]
   obtain ⟨F,hF⟩:∃ F,(C.frame (encA Ps[k])).length=F:=⟨_,rfl⟩
   have hF2:F≤65544:=by rw [←hF,C.frame_length];have:=hok.2.2;omega
   have hNF:N+F=10+szF (Ps.take (k+1)):=by
    rw [←qbo L1.out.r0 L1.out.r1,hlb,List.length_append,hF,HN.out]
   have hCm:Cc+m=(Ps.take (k+1)).flatten.length:=by
    rw [hst,List.flatten_append,List.length_append,HC.out]
    simp only [List.flatten_cons,List.flatten_nil,List.append_nil]
    rw [←hf,fstsL,hm]
   have hCC:Cc≤1048576:=by
    have e:=congrArg List.length (congrArg List.flatten (List.take_append_drop k Ps))
    rw [List.flatten_append,List.length_append,HC.out] at e
    have:=HFN.out
    omega
   have hN47:N≤1000000000:=by
    have h1:=qbo L1.out.r0 L1.out.r1 (Ps.take k)
    have h2:=qxg (HGD.out.take k)
    rw [HC.out,List.length_take] at h2
    rw [HN.out] at h1
    omega
   have hek:(endsF (Ps.take k)).length≤1048576:=by rw [qcg,List.length_take];have:=HPN.out;omega
   have HLB:=hid hlb
   have HNF:=hid hNF
   have HCM:=hid hCm
   have HFF:=hid hF
   have hk':k+1≤M:=hlt
   clear hu hqq ho hf hok hm hfr0 hfrB hst hlb hF hNF hCm
   go_wp2_with fail
   refine HFA.out.mono ?_
   rintro e w6 ⟨v6,rfl,hb6,b6⟩
   have K6:=hid (K0.out.below b6)
   have BO6:Hid (w6.ownsRow W.heap.size 5 1 (.slice ab N cb) N (cs (lby r (Ps.take k)))):=hid (by have:=K6.out.bo;unfold Ow at this;rwa [HN.out] at this)
   obtain ⟨a6,c6,rfl⟩:=hb6.form
   rw [HFF.out] at hb6
   have V6:=hid hb6
   have S6:Hid (W.heap.size≤w6.heap.size):=hid K6.out.bw.size
   have hFb:N+(C.frame (encA Ps[k])).length≤140737488355328:=by rw [HFF.out];omega
   obtain ⟨EN,hEN⟩:∃ EN,(endsF (Ps.take k)).length=EN:=⟨_,rfl⟩
   have HEN:=hid hEN
   rw [hEN] at hek ⊢
   have hbE:(EN+1)*16≤140737488355328:=by omega
   have hmE:EN+1≤maxLen:=by unfold maxLen;omega
   rw [HFF.out]
   clear hb6 b6 HFA K0 hEN
   go_wp2_with (first
    | (at_builtin;refine qag rfl _ _ rfl W.heap.size _ N _ rfl BO6.out _ _ rfl V6.out hFb S6.out ?_;intro v7 w7 hown7 hg7 hv7;rw [HFF.out] at hown7;obtain ⟨a7,c7,rfl⟩:=qcx hown7;have P7:=hid (K6.out.app1 (ys:=lby r (Ps.take (k+1))) (by unfold Ow;rw [HLB.out,List.length_append,HN.out,HFF.out];exact hown7) hg7);have EO7:Hid ((w7.alloc (.cells #[.int .i64 ((N+F:Nat):Int),.int .i64 ((Cc:Int)+(m:Int))] 94)).ownsRow W.heap.size 94 2 (.slice ae EN ce) EN ((endsF (Ps.take k)).flatMap endc)):=hid (by have h1:=qaz P7.out.2.1 (Fr.of_below (S:=fun _=>False) (ba w7 (.cells #[.int .i64 ((N+F:Nat):Int),.int .i64 ((Cc:Int)+(m:Int))] 94))) (fun _ _ e=>e);rw [HEN.out] at h1;exact h1);have SL7:=hid (Sl.lit (sz:=2) w7 94 #[.int .i64 ((N+F:Nat):Int),.int .i64 ((Cc:Int)+(m:Int))] 1 (by decide) rfl);have ONE7:=hid (qwx ((N+F:Nat):Int) ((Cc:Int)+(m:Int)));have S7:=hid (Nat.le_trans P7.out.2.2.2.size (ba w7 (.cells #[.int .i64 ((N+F:Nat):Int),.int .i64 ((Cc:Int)+(m:Int))] 94)).size);clear hown7 hg7 hv7)
    | (refine qkc rfl (qxm (p:=((N+F:Nat):Int)) (q:=(Cc:Int)+(m:Int)) rfl rfl) ?_)
    | (at_builtin;refine qbc 79 94 2 16 _ Tryz.underlying79 qqy rfl (Nat.succ_pos 1) rfl _ _ rfl W.heap.size (.slice ae EN ce) _ _ rfl EO7.out _ 1 _ rfl SL7.out ONE7.out hbE hmE S7.out ?_;intro v9 w9 hown9 hg9 hv9;obtain ⟨a9,c9,rfl⟩:=qcx hown9;have HO9:=hid hown9;have HG9:=hid hg9;clear hown9 hg9 hv9)
    | fail)
   go_roundw
   case rel =>
    refine ⟨k+1,by go_num,hk',?_,Ck.app2 hkP P7.out ?_ (by rw [HEN.out];exact HG9.out)⟩
    ·have h1:=HCM.out
     rw [←h1]
     first | rfl | (congr 1)
    ·have h:=HO9.out
     rw [HEN.out,←HNF.out,←HCM.out]
     exact h
   case measure=>simp [intOf];omega
  ·have hlt':¬ (k:Int)<(M:Int):=by omega
   have e1:k=M:=by omega
   subst e1
   have htk:Ps.take k=Ps:=List.take_of_length_le (by have:=HMP.out;omega)
   have hbo:=K0.out.bo
   have heo:=K0.out.eo
   rw [htk] at hbo heo
   have hN:=HN.out
   rw [htk] at hN
   have L2:=hid (L1.out.below K0.out.bw)
   have hby:=qvh HGD.out L1.out.r0 L1.out.r1
   have V2:=hid (hbo.bs hby)
   have EO:=hid heo
   have BW2:=hid K0.out.bw
   have S2:Hid (B≤wr.heap.size):=hid (Nat.le_trans hB (Nat.le_trans BW.out.size BW2.out.size))
   have hNs:Hid (N=10+szF Ps):=hid (by rw [←hN,qbo L1.out.r0 L1.out.r1])
   have HNN:=hid hN
   have heE:(endsF Ps).length=(endsF (Ps.take k)).length:=by rw [htk]
   rw [←heE]
   clear hbo heo hN hby htk K0 heE
   by_cases hfit:N≤R
   ·have hrep:repS R (lby r Ps) (lby r Fs) n=(0,lby r Ps,N):=by unfold repS;rw [HNN.out,if_pos hfit]
    have HRP:=hid hrep
    clear hrep
    have c0:=L2.out.lg.c0
    go_wp2_with fail
    refine (qco S2.out L2.out.lg.fi _ (lby r Ps) V2.out).mono ?_
    rintro e w6 ⟨he,ho⟩
    have he':=he.out HRP.out
    obtain ⟨fv',hfi,hfx⟩:=ho.out HRP.out
    subst he'
    obtain ⟨hl6,hx6⟩:=L2.out.lg.file hfi hfx
    rw [hQ] at hl6 hx6
    have hown6:=EO.out
    have hB6:Fr (fun k=>k=fb∨fv.ownBlock=some k) wr w6:=hfx.1
    have heo6:=qaz hown6 hB6 (fun k hk e=>e.elim (fun e=>qbh hown6 L2.out.lg.fi.1 (by decide) (e▸hk)) (fun e=>by
     have h1:=(hown6.lt k hk).1
     have h2:=(L1.out.lg.fi.own.lt k e).2
     omega))
    have hops:=hl6.ops (w':=w6) (vo':=.slice va Q vc) (l':=l) hl6.ro (Fr.refl _ _) (fun k hk=>.inl hk) hl6.cu
    have heo7:=ownsRow_setCell_other (a:=⟨lb,2,none⟩) heo6 (qbh heo6 hl6.blk (by decide)) (.slice va Q vc)
    have hend:=hops.1.ends2 (es':=endsF Ps) (qgw heo7 (Nat.le_trans hB BW.out.size)) (fun p hp=>by
     by_cases h0:p.1.cuts=[]
     ·exact .inl h0
     ·refine .inr (fun k hk e=>?_)
      have h1:=(heo7.lt k hk).1
      have h2:=(L1.out.lg.cu p hp).1.blk h0 e
      omega)
    have X7:=hid (((Lx.of_below (BW.out.trans (BW2.out.mono BW.out.size)):Lx (Ft lb fb fv (.slice va Q vc) ve) (Ft lb fb fv (.slice va Q vc) ve) w wr).trans hx6).trans hops.2)
    have HVE:Hid (∀ k,Value.ownBlock (.slice ae (endsF Ps).length ce)=some k→w.heap.size≤k):=hid (fun k hk=>Nat.le_trans BW.out.size (heo7.lt k hk).1)
    have H6:=hid hl6.blk
    have H7:=hid hops.1.blk
    have HEND:=hid hend
    clear he ho hfi hfx hl6 hx6 hown6 hB6 heo6 hops heo7 hend
    go_wp2_with (first | (refine qdv rfl (qtr rfl rfl rfl ⟨_,_,_,rfl⟩ H6.out) ?_) | (refine qdv rfl (qts rfl rfl rfl ⟨_,_,_,rfl⟩ H7.out) ?_) | fail)
    go_ret
    refine .inl ⟨by rw [HPP.out,←hNs.out];exact hfit,rfl,fv',.slice ae (endsF Ps).length ce,?_,?_⟩
    ·rw [HPP.out,←hNs.out,hQ]
     exact ⟨HEND.out,by rw [L1.out.fl,HFL.out],HGD.out,L1.out.r0,L1.out.r1,by rw [HNN.out];exact Nat.le_refl _⟩
    ·rw [hQ]
     refine ⟨X7.out.fr.trans (Fr.of_set _ lb 3 _) (fun i hi e=>by subst e;exact .inl rfl),fun k hk=>?_⟩
     rcases hk with e | e | e | e | e
     ·exact X7.out.new k (.inl e)
     ·exact X7.out.new k (.inr (.inl e))
     ·exact X7.out.new k (.inr (.inr (.inl e)))
     ·exact X7.out.new k (.inr (.inr (.inr (.inl e))))
     ·exact .inr (HVE.out k e)
   ·have hrep:repS R (lby r Ps) (lby r Fs) n=(14,lby r Fs,n):=by unfold repS;rw [HNN.out,if_neg hfit]
    have HRP:=hid hrep
    clear hrep
    have c0:=L2.out.lg.c0
    go_wp2_with fail
    refine (qco S2.out L2.out.lg.fi _ (lby r Ps) V2.out).mono ?_
    rintro e w6 ⟨he,ho⟩
    have he':=he.out HRP.out
    obtain ⟨fv',hfi,hfx⟩:=ho.out HRP.out
    subst he'
    obtain ⟨hl6,hx6⟩:=L2.out.lg.file hfi hfx
    have HL6:=hid hl6
    have X6:=hid ((Lx.of_below (BW.out.trans (BW2.out.mono BW.out.size)):Lx (Ft lb fb fv (.slice va l.length vc) ve) (Ft lb fb fv (.slice va l.length vc) ve) w wr).trans hx6)
    clear he ho hfi hfx hl6 hx6
    go_wp2_with fail
    go_ret
    exact .inr ⟨by rw [HPP.out,←hNs.out];omega,rfl,fv',⟨HL6.out,L1.out.fl,L1.out.good,L1.out.r0,L1.out.r1,L1.out.ns⟩,X6.out⟩
def XO (B b R:Nat) (s l:Value) (xs ys:List Int) (w:World) (e:Ending) (w':World):Prop :=
 (Tl (xs++ys) none∧e=.returned (.tuple #[tdv 0 (.slice none 0 0) (.slice none 0 0),.int .i64 20])∧Below w.heap.size w w') ∨
 ∃ r Fs vf ve lls,Tl (xs++ys) (some (r,Fs))∧Good Fs∧0≤r∧r≤15∧10+szF Fs≤(xs++ys).length∧e=.returned (.tuple #[tdv r vf ve,.int .i64 0])∧To w.heap.size w' vf ve Fs lls ∧
  Ro B b R s l w (rtrim ((10+szF Fs:Nat):Int) xs ys).2.1 (rtrim ((10+szF Fs:Nat):Int) xs ys).2.2 w'
theorem Tk.fr {S:Nat→Prop}{w w':World}{b:Nat}{r:Int}{vf ve:Value}(h:Tk w b r vf ve) (hf:Fr S w w') (hs:¬ S b):Tk w' b r vf ve:=(hf.block b h.lt hs).trans h
set_option maxHeartbeats 4000000 in
theorem qta {B b R:Nat}{s l:Value}{xs ys:List Int}{w:World}(h:Re B w b s l xs ys R) :
  Calls Tryz.prog 24 #[.pointer (some ⟨b,0,none⟩)] w fun e w'=>XO B b R s l xs ys w e w':=by
 have HF:=hid h
 have HLN:Hid ((xs++ys).length≤1099511627776):=hid (by have h1:=h.len;have h2:=h.lim;rw [List.length_append];omega)
 clear h
 go_enter Tryz.func24,Tryz.ntmps24
 go_upto_region 1 with (first
  | (refine qbx rfl rfl ?_;intro w1 hr1 hb1 hlt1;have HR:=hid hr1;have BB:=hid hb1;have HLT:=hid hlt1;clear hr1 hb1 hlt1))
 obtain ⟨rb,hrb⟩:∃ r,w.heap.size=r:=⟨_,rfl⟩
 have hrB:w.heap.size≤rb:=Nat.le_of_eq hrb
 rw [hrb] at HR HLT ⊢
 clear hrb
 have F1:=hid (HF.out.below BB.out)
 go_wp2_with fail
 refine (qfl F1.out).mono ?_
 rintro e w2 ⟨v2,rfl,ho2,b2⟩
 have V2:=hid (ho2.bs (F1.out.bs.append F1.out.bl))
 have HBY:=hid V2.out.range
 have F2:=hid (F1.out.below b2)
 have B2:=hid (bt BB.out b2)
 have R2:=hid (HR.out.below b2)
 obtain ⟨a2,c2,rfl⟩:=V2.out.form
 obtain ⟨N,hN⟩:∃ N,(xs++ys).length=N:=⟨_,rfl⟩
 have HN:=hid hN
 rw [hN] at V2 HLN ⊢
 clear ho2 b2 F1 HR hN
 go_wp2_with fail
 refine (qin _ (xs++ys) w2 V2.out (by rw [HN.out];exact HLN.out)).mono ?_
 rintro e w3 (⟨htl,rfl,b3⟩ | ⟨r,Fs,vf,ve,lls,htl,hgd,hr0,hr1,hsz,rfl,hto,b3⟩)
 ·have HT:=hid htl
  have B3:=hid (bt B2.out b3)
  have R3:=hid (R2.out.below b3)
  clear htl b3
  go_wp2_with (first
   | (refine qbx rfl rfl ?_;intro w4 hr4 hb4 hlt4;have HK:=hid hr4;have B4:=hid (bt B3.out hb4);have R4:=hid (R3.out.below hb4);have HS4:Hid (rb<w3.heap.size):=hid (R3.out.lt);clear hr4 hb4 hlt4)
   | (refine qas rfl rfl rfl rfl ⟨⟨_,_,_,rfl⟩,⟨_,_,_,rfl⟩⟩ HK.out ?_;intro w5 hr5 hf5;have R5:=hid (R4.out.fr hf5 (fun e=>by have:=HS4.out;omega));have B5:=hid (qaa B4.out hf5 (by have:=HS4.out;omega));clear hr5 hf5 HK)
   | (refine qas rfl rfl rfl rfl ⟨⟨_,_,_,rfl⟩,⟨_,_,_,rfl⟩⟩ R5.out ?_;intro w6 hr6 hf6;have R6:=hid hr6;have B6:=hid (qaa B5.out hf6 hrB);clear hr6 hf6)
   | fail)
  refine bodyPost_ret (qbz rfl _ _ rfl R6.out) rfl ?_
  exact .inl ⟨HT.out,rfl,B6.out⟩
 ·have HT:=hid htl
  have HGD:=hid hgd
  have HR0:=hid hr0
  have HR1:=hid hr1
  have HSZ:=hid hsz
  have B3:=hid (bt B2.out b3)
  have R3:=hid (R2.out.below b3)
  have F3:=hid (F2.out.below b3)
  have V3:=hid (V2.out.below b3)
  have TO3:=hid hto
  have HW2:Hid (w.heap.size≤w2.heap.size):=hid B2.out.size
  have HSF:Hid ((∃ va n vc,vf=.slice va n vc)∧∃ va n vc,ve=.slice va n vc):=hid (by
   obtain ⟨us,_,h2,_⟩:=hto.us
   obtain ⟨va,vc,e,_⟩:=h2.form
   obtain ⟨va2,vc2,e2,_⟩:=hto.ends.form
   exact ⟨⟨_,_,_,e⟩,⟨_,_,_,e2⟩⟩)
  have hs3:=hid b3.size
  clear htl hgd hr0 hr1 hsz b3 hto
  go_upto_region 5 with (first
   | (refine qbx rfl rfl ?_;intro w4 hr4 hb4 hlt4;have HK:=hid hr4;have HB4:=hid hb4;clear hr4 hb4 hlt4)
   | (refine qas rfl rfl rfl rfl HSF.out HK.out ?_;intro w5 hr5 hf5;have K5:=hid hr5;have HB5:=hid (qaa HB4.out hf5 (Nat.le_refl _));clear hr5 hf5 HK HB4)
   | fail)
  obtain ⟨tb,htb⟩:∃ r,w3.heap.size=r:=⟨_,rfl⟩
  have F5:=hid (F3.out.below HB5.out)
  have V5:=hid (V3.out.below HB5.out)
  have R5:=hid (R3.out.below HB5.out)
  have TO5:=hid (TO3.out.below HB5.out)
  have B5:=hid (bt B3.out HB5.out)
  have HTB:Hid (rb<tb∧w2.heap.size≤tb):=hid ⟨by rw [←htb];exact R3.out.lt,by rw [←htb];exact hs3.out⟩
  rw [htb] at K5 ⊢
  clear htb F3 V3 R3 B3 TO3 HB5 hs3
  go_wp2_with fail
  refine (qic _ (xs++ys) w5 V5.out (by rw [HN.out];exact HLN.out)).mono ?_
  rintro e w6 ⟨v6,fs,p,t,rfl,hsp,hls,b6⟩
  have hp:=tl_pos hsp HBY.out HT.out
  have F6:=hid (F5.out.below b6)
  have R6:=hid (R5.out.below b6)
  have K6:=hid (K5.out.below b6)
  have TO6:=hid (TO5.out.below b6)
  have B6:=hid (bt B5.out b6)
  obtain ⟨a6,c6,rfl⟩:=hls.form
  subst hp
  clear hsp hls b6 F5 V5 R5 K5 TO5 B5
  go_wp2_with fail
  refine (qtz F6.out ((10+szF Fs:Nat):Int)).mono ?_
  rintro e w7 ⟨rfl,s',l',he7,hx7⟩
  have HE7:=hid he7
  have HX7:=hid hx7
  have HRL:=hid (F6.out.lt)
  have HIN:Hid (∀ k,(k=b∨s.ownBlock=some k∨l.ownBlock=some k)→k<w.heap.size):=hid (fun k hk=>(HF.out.inside hk).2)
  have R7:=hid (R6.out.fr hx7.fr (fun e=>by have:=HIN.out _ e;omega))
  have K7:=hid (K6.out.fr hx7.fr (fun e=>by have:=HIN.out _ e;have:=HTB.out;omega))
  have TO7:=hid (TO6.out.kept hx7.fr (fun k e=>by have:=HIN.out _ e;have:=HW2.out;omega))
  have X7:=hid ((Rx.of_below B6.out).trans hx7)
  have R6L:=hid R6.out.lt
  have HNW:Hid (∀ k,s'.ownBlock=some k∨l'.ownBlock=some k→k<w.heap.size∨w6.heap.size≤k):=hid (fun k hk=>(hx7.new k hk).elim (fun e=>.inl (HIN.out _ (.inr (.inl e)))) (fun e=>e.elim (fun e=>.inl (HIN.out _ (.inr (.inr e)))) .inr))
  obtain ⟨E7,hE7⟩:∃ E7,(rtrim ((10+szF Fs:Nat):Int) xs ys).1=E7:=⟨_,rfl⟩
  rw [hE7]
  clear he7 hx7 hE7 R6 K6 TO6 B6 F6
  go_wp2_with (first
   | (refine qfb rfl rfl rfl K7.out ?_)
   | (refine qas rfl rfl rfl rfl HSF.out R7.out ?_;intro w8 hr8 hf8;have R8:=hid hr8;have HF8:=hid hf8;clear hr8 hf8)
   | fail)
  refine bodyPost_ret (qbz rfl _ _ rfl R8.out) rfl ?_
  refine .inr ⟨r,Fs,vf,ve,lls,HT.out,HGD.out,HR0.out,HR1.out,HSZ.out,rfl,(TO7.out.kept HF8.out (fun k e=>by have:=HTB.out;have:=R2.out.lt;omega)).base HW2.out,s',l',?_,?_⟩
  ·exact HE7.out.of_block (fun k hk=>HF8.out.block k (HE7.out.inside hk).2 (fun e=>by
    subst e
    rcases hk with hk | hk
    ·have h1:=HIN.out _ (.inl hk);omega
    ·rcases HNW.out _ hk with e | e
     ·omega
     ·have:=R6L.out;omega))
  ·exact ⟨X7.out.fr.trans HF8.out (fun i hi e=>by omega),X7.out.new⟩
def Rb (mb:Nat) (s lz:Value) (k:Nat):Prop:=k=mb∨s.ownBlock=some k∨lz.ownBlock=some k
structure Iw (B C lb fb mb n R:Nat) (fv vo ve s lz:Value) (r:Int) (Fs:List (List Opn)) (l:List (Opn × Value)) (xs ys:List Int) (W:World):Prop where
 lo:Lo B W lb fb fv vo ve r Fs n R l
 re:Re C W mb s lz xs ys R
 sep:∀ k,Ft lb fb fv vo ve k→¬ Rb mb s lz k
 cut:∀ p ∈ l,p.1.cuts=[]∨∀ k,p.2.ownBlock=some k→¬ Rb mb s lz k
section
variable {B C lb fb mb n R:Nat} {fv vo ve s lz:Value} {r:Int} {Fs:List (List Opn)} {l:List (Opn × Value)} {xs ys:List Int} {w w':World}
theorem Re.rb (h:Re C w mb s lz xs ys R) {k:Nat}(hk:Rb mb s lz k):C≤k∧k<w.heap.size:=h.inside hk
theorem Iw.below (h:Iw B C lb fb mb n R fv vo ve s lz r Fs l xs ys w) (hb:Below w.heap.size w w'):Iw B C lb fb mb n R fv vo ve s lz r Fs l xs ys w':=⟨h.lo.below hb,h.re.below hb,h.sep,h.cut⟩
theorem Iw.log {lb' n':Nat}{fv' vo' ve':Value}{Fs':List (List Opn)}{l':List (Opn × Value)}{S:Nat→Prop}(h:Iw B C lb fb mb n R fv vo ve s lz r Fs l xs ys w) (hs:∀ k,S k→Ft lb fb fv vo ve k) (x:Lx S (Ft lb' fb fv' vo' ve') w w') (lo':Lo B w' lb' fb fv' vo' ve' r Fs' n' R l')
  (hl:∀ p ∈ l',p ∈ l∨p.1.cuts=[]∨∀ k,p.2.ownBlock=some k→w.heap.size≤k):Iw B C lb' fb mb n' R fv' vo' ve' s lz r Fs' l' xs ys w':=by
 refine ⟨lo',h.re.of_block (fun k hk=>x.fr.block k (h.re.rb hk).2 (fun e=>h.sep k (hs k e) hk)),fun k hk e=>?_,fun p hp=>?_⟩
 ·rcases x.new k hk with e2 | e2
  ·exact h.sep k (hs k e2) e
  ·have:=(h.re.rb e).2;omega
 ·rcases hl p hp with e | e | e
  ·exact h.cut p e
  ·exact .inl e
  ·exact .inr (fun k hk e2=>by have h1:=e k hk;have h2:=(h.re.rb e2).2;omega)
theorem Iw.ref {s' lz':Value}{xs' ys':List Int}(h:Iw B C lb fb mb n R fv vo ve s lz r Fs l xs ys w) (x:Rx mb s lz s' lz' w w') (re':Re C w' mb s' lz' xs' ys' R):Iw B C lb fb mb n R fv vo ve s' lz' r Fs l xs' ys' w':=by
 have hn:∀ k,Rb mb s' lz' k→Rb mb s lz k∨w.heap.size≤k:=fun k hk=>by
  rcases hk with e | e
  ·exact .inl (.inl e)
  ·rcases x.new k e with e2 | e2 | e2
   ·exact .inl (.inr (.inl e2))
   ·exact .inl (.inr (.inr e2))
   ·exact .inr e2
 refine ⟨h.lo.side (S:=Rb mb s lz) x.fr (fun k hk e=>h.sep k e hk) h.cut,re',fun k hk e=>?_,fun p hp=>?_⟩
 ·rcases hn k e with e2 | e2
  ·exact h.sep k hk e2
  ·have:=(h.lo.lg.inside hk).2;omega
 ·by_cases hc:p.1.cuts=[]
  ·exact .inl hc
  ·refine .inr (fun k hk e=>?_)
   rcases hn k e with e2 | e2
   ·rcases h.cut p hp with e3 | e3
    ·exact hc e3
    ·exact e3 k hk e2
   ·have:=(h.lo.lg.cu p hp).1.blk hc hk;omega
theorem Rx.low {D:Nat}{s' lz':Value}(x:Rx mb s lz s' lz' w w') (h:Re C w mb s lz xs ys R) (hD:D≤C) (hw:D≤w.heap.size):Below D w w':=x.fr.below (fun k hk e=>by have:=(h.rb e).1;omega) hw
end
theorem jal {R:Nat}{Fs:List (List Opn)}{q:List Opn}{xs ys:List Int}{r:Int}(h:xs++ys=lby r Fs) (h0:0≤r) (h1:r≤15):(xap R q xs ys).1=apE R Fs q∧(xap R q xs ys).2.1++(xap R q xs ys).2.2=lby r (apF R Fs q)∧(xap R q xs ys).2.1=xs:=by
 have hl:=congrArg List.length h
 rw [List.length_append,qbo h0 h1] at hl
 by_cases hz:frE q=0
 ·have e1:xap R q xs ys=rapp R (C.frame (encA q)) xs ys:=by unfold xap;rw [if_neg (by simp [hz])]
  rw [e1]
  unfold rapp
  rw [C.frame_length]
  by_cases hr:10+szF Fs+(8+(encA q).length)≤R
  ·have e2:apE R Fs q=0:=by unfold apE;rw [if_neg (by simp [hz]),if_pos hr]
   have e3:apF R Fs q=Fs++[q]:=by unfold apF;rw [if_pos e2]
   rw [if_pos (by omega),e2,e3,qfo,←h]
   exact ⟨rfl,by rw [List.append_assoc],rfl⟩
  ·have e2:apE R Fs q=14:=by unfold apE;rw [if_neg (by simp [hz]),if_neg hr]
   have e3:apF R Fs q=Fs:=by unfold apF;rw [if_neg (by rw [e2];decide)]
   rw [if_neg (by omega),e2,e3]
   exact ⟨rfl,h,rfl⟩
 ·have e1:xap R q xs ys=(frE q,xs,ys):=by unfold xap;rw [if_pos hz]
  have e2:apE R Fs q=frE q:=by unfold apE;rw [if_pos hz]
  have e3:apF R Fs q=Fs:=by unfold apF;rw [if_neg (by rw [e2];exact hz)]
  rw [e1,e2,e3]
  exact ⟨rfl,h,rfl⟩
theorem jce (R:Nat) (Fs:List (List Opn)) (q:List Opn):(apF R Fs q).flatten.length≤Fs.flatten.length+q.length:=by
 unfold apF
 split
 ·rw [List.flatten_append,List.length_append];simp
 ·omega
theorem qzl {xs ys:List Int}(keep:Int):(xs++ys).take (left keep (xs++ys) xs.length)=xs++ys.take (min keep.toNat ys.length):=by
 have e:left keep (xs++ys) xs.length=xs.length+min keep.toNat ys.length:=by unfold left;rw [List.length_append];omega
 rw [e,List.take_append,List.take_of_length_le (by omega),Nat.add_sub_cancel_left]
theorem qzs {r:Int}{Fs:List (List Opn)}(hg:Good Fs) (h0:0≤r) (h1:r≤15):Tl (lby r Fs) (some (r,Fs)):=by
 have:=Tl.of hg h0 h1 (Og.cut qte)
 simpa using this
def wiF (b n:Nat):List (List Opn)→Nat
 | []=>0
 | f::fs=>(if b+(8+(encA f).length)≤n then f.length else 0)+wiF (b+(8+(encA f).length)) n fs
theorem qwu (n:Nat) (f:List Opn):∀ (Fs:List (List Opn)) (b:Nat),wiF b n (Fs++[f])=wiF b n Fs+(if b+szF Fs+(8+(encA f).length)≤n then f.length else 0):=by
 intro Fs
 induction Fs with
 | nil =>
  intro b
  show wiF b n [f]=wiF b n []+_
  rw [wiF,wiF,qol,Nat.add_zero,Nat.zero_add]
  rfl
 | cons g Fs ih =>
  intro b
  show wiF b n (g::(Fs++[f]))=_
  rw [wiF,ih,wiF,qcv,show b+(8+(encA g).length)+szF Fs=b+(8+(encA g).length+szF Fs) by omega]
  omega
theorem qwv (n:Nat):∀ (Fs:List (List Opn)) (b o:Nat),wiF b n Fs=(Fs.take (inF (endsFrom b o Fs) (n:Nat))).flatten.length:=by
 intro Fs
 induction Fs with
 | nil=>intro b o;rfl
 | cons f Fs ih =>
  intro b o
  have hi:=ih (b+(8+(encA f).length)) (o+f.length)
  rw [wiF,endsFrom]
  by_cases h:b+(8+(encA f).length)≤n
  ·have e:inF ((b+(8+(encA f).length),o+f.length)::endsFrom (b+(8+(encA f).length)) (o+f.length) Fs) (n:Nat)=inF (endsFrom (b+(8+(encA f).length)) (o+f.length) Fs) (n:Nat)+1:=by
    unfold inF
    rw [List.countP_cons_of_pos (by simp;omega)]
   rw [e,if_pos h,List.take_succ_cons,List.flatten_cons,List.length_append,hi]
  ·have e0:inF (endsFrom (b+(8+(encA f).length)) (o+f.length) Fs) (n:Nat)=0:=by
    unfold inF
    rw [List.countP_eq_zero]
    intro p hp
    have:=(qeb Fs _ _ p hp).1
    simp
    omega
   have e:inF ((b+(8+(encA f).length),o+f.length)::endsFrom (b+(8+(encA f).length)) (o+f.length) Fs) (n:Nat)=0:=by
    unfold inF at e0 ⊢
    rw [List.countP_cons_of_neg (by simp;omega),e0]
   rw [e,if_neg h,hi,e0]
   rfl
theorem wiF_sy (Fs:List (List Opn)) (n:Nat):wiF 10 n Fs=syF Fs n:=by
 unfold syF
 rw [qhp Fs _ (by have:=qvl (endsF Fs) (n:Nat);rw [qcg] at this;exact this)]
 exact qwv n Fs 10 0
theorem jbw {Fs:List (List Opn)}{i:Nat}(hi:i<Fs.length):(endsF Fs)[i]?=some (10+szF (Fs.take i)+(8+(encA Fs[i]).length),(Fs.take (i+1)).flatten.length):=by
 have e:endsF Fs=endsF (Fs.take (i+1))++endsFrom (10+szF (Fs.take (i+1))) (0+(Fs.take (i+1)).flatten.length) (Fs.drop (i+1)):=by
  unfold endsF
  rw [←qdy,List.take_append_drop]
 have hl:(endsF (Fs.take (i+1))).length=i+1:=by rw [qcg,List.length_take];omega
 rw [e,List.getElem?_append_left (by omega)]
 have hs:Fs.take (i+1)=Fs.take i++[Fs[i]]:=List.take_succ_eq_append_getElem hi
 have e2:=qem (Fs.take i) Fs[i]
 rw [←hs] at e2
 have hl2:(endsF (Fs.take i)).length=i:=by rw [qcg,List.length_take];omega
 rw [e2,List.getElem?_append_right (by omega),hl2,Nat.sub_self]
 simp only [List.getElem?_cons_zero,Option.some.injEq,Prod.mk.injEq,and_true]
 rw [hs,qbw,qdd]
 omega
set_option maxHeartbeats 4000000 in
theorem qrn {B:Nat}{vf ve:Value}{Fs:List (List Opn)}{lls:List (List (Opn × Value))}(r:Int) (m:Nat) (w:World) (h:To B w vf ve Fs lls) (hz:szF Fs≤1048576) (hm:m≤1048576) :
  Calls Tryz.prog 34 #[tdv r vf ve,.int .i64 m] w fun e w'=>e=.returned (.int .i64 (syF Fs m:Nat))∧Below w.heap.size w w':=by
 have hlen:Fs.length=lls.length:=by rw [←h.fl];simp
 have hszp:=qgc Fs
 have HW:=hid (wiF_sy Fs m)
 have HFL:=hid h.fl
 obtain ⟨n,hnn⟩:∃ n,Fs.length=n:=⟨_,rfl⟩
 have HN:=hid hnn
 have hll:lls.length=n:=by omega
 have HLN:=hid hll
 have ho:=h.oss
 have he:=h.ends
 obtain ⟨a,c,e1,_,_⟩:=h.oss.form
 obtain ⟨ea,ec,e2,_,_⟩:=h.ends.form
 rw [hll] at e1
 rw [hnn] at e2 he
 subst e1
 subst e2
 have hnm:n≤1048576:=by omega
 have HA1:=hid (ba w (.cells #[.int .i64 r,.slice a n c,.slice ea n ec] 55 (0,0)))
 obtain ⟨-,tc1,tc2⟩:=(show Tk (w.alloc (.cells #[.int .i64 r,.slice a n c,.slice ea n ec] 55 (0,0))) w.heap.size r (.slice a n c) (.slice ea n ec) from heap_alloc_new w _).cells
 have O1:=hid (ho.below HA1.out)
 have E1:=hid (he.below HA1.out)
 obtain ⟨w1,hw1⟩:∃ w1,w.alloc (.cells #[.int .i64 r,.slice a n c,.slice ea n ec] 55 (0,0))=w1:=⟨_,rfl⟩
 rw [hw1] at HA1 O1 E1 tc1 tc2
 have HW1:=hid hw1
 have HSP:=hid hszp
 clear h hlen hszp hnn hw1 hll ho he
 go_enter Tryz.func34,Tryz.ntmps34
 go_wp2
 rw [HW1.out]
 go_loopw [5,6] (fun s i wr=>∃ (k A:Nat),i=.int .i64 k∧k≤n∧s=.int .i64 A∧A=wiF 10 m (Fs.take k)∧A≤(Fs.take k).flatten.length∧w1=wr) (fun _ i _=>n - (intOf i).toNat)
 case atStart=>exact ⟨0,0,rfl,Nat.zero_le _,rfl,rfl,Nat.le_refl _,rfl⟩
 case round =>
  obtain ⟨k,A,rfl,hk,rfl,hA,hAl,rfl⟩:=hrel
  have HA:=hid hA
  have HAL:=hid hAl
  clear hA hAl
  by_cases hlt:k<n
  ·have hlt':(k:Int)<(n:Int):=by omega
   have hx:k<Fs.length:=by rw [HN.out];exact hlt
   have hy:k<lls.length:=by rw [HLN.out];exact hlt
   obtain ⟨b,off,c',u,e1,hbl,hc,ho⟩:=O1.out.at hy
   rw [HLN.out] at e1
   simp only [Value.slice.injEq] at e1
   obtain ⟨rfl,-,rfl⟩:=e1
   obtain ⟨b2,off2,c2,e2,_,_,hbl2,hc2⟩:=E1.out.inv (by omega) (by decide)
   simp only [Value.slice.injEq] at e2
   obtain ⟨rfl,-,rfl⟩:=e2
   have hea:=hc2 k (.int .i64 ((10+szF (Fs.take k)+(8+(encA Fs[k]).length):Nat):Int)) (by rw [List.getElem?_map,jbw hx];rfl)
   obtain ⟨E,hE⟩:∃ E,10+szF (Fs.take k)+(8+(encA Fs[k]).length)=E:=⟨_,rfl⟩
   rw [hE] at hea
   obtain ⟨f,hf⟩:∃ f,Fs[k]=f:=⟨_,rfl⟩
   have hfl:(lls[k]).length=f.length:=by
    have h1:(lls.map fsts)[k]?=Fs[k]?:=by rw [HFL.out]
    rw [List.getElem?_map,List.getElem?_eq_getElem hy,List.getElem?_eq_getElem hx,hf] at h1
    simp only [Option.map_some,Option.some.injEq] at h1
    rw [←h1]
    simp [fsts]
   obtain ⟨ua,uc,rfl,_,_⟩:=ho.1.form
   rw [hfl] at hc
   have hst:Fs.take (k+1)=Fs.take k++[f]:=by rw [List.take_succ_eq_append_getElem hx,hf]
   have hwi:=qwu m f (Fs.take k) 10
   rw [←hst,←hf,hE,hf] at hwi
   have hft:(Fs.take (k+1)).flatten.length=(Fs.take k).flatten.length+f.length:=by rw [hst,List.flatten_append,List.length_append];simp
   have hfa:(Fs.take (k+1)).flatten.length≤1048576:=by
    have h1:=congrArg (fun x=>(List.flatten x).length) (List.take_append_drop (k+1) Fs)
    simp only [List.flatten_append,List.length_append] at h1
    have h2:=HSP.out
    omega
   obtain ⟨L,hL⟩:∃ L,f.length=L:=⟨_,rfl⟩
   rw [hL] at hc hwi hft
   have hAb:A≤1048576:=by have:=HAL.out;omega
   have hLb:L≤1048576:=by omega
   have HWI:=hid hwi
   have HFT:=hid hft
   have hEb:E≤2097152:=by
    have h1:=qiw Fs (k+1)
    rw [hst,qbw,qdd,←hf] at h1
    omega
   clear ho hfl hst hwi hft hfa hE hf hL hbl hbl2 hc2
   by_cases hle:E≤m
   ·have hle':(E:Int)≤(m:Int):=by omega
    go_wp2
    go_roundw
    case rel=>exact ⟨k+1,A+L,by go_num,hlt,by go_num,by rw [HWI.out,if_pos hle,HA.out],by rw [HFT.out];have:=HAL.out;omega,by first | rfl | trivial⟩
    case measure=>simp [intOf];omega
   ·have hle':¬ (E:Int)≤(m:Int):=by omega
    go_wp2
    go_roundw
    case rel=>exact ⟨k+1,A,by go_num,hlt,rfl,by rw [HWI.out,if_neg hle,HA.out];rfl,by rw [HFT.out];have:=HAL.out;omega,by first | rfl | trivial⟩
    case measure=>simp [intOf];omega
  ·have hlt':¬ (k:Int)<(n:Int):=by omega
   have htk:Fs.take k=Fs:=List.take_of_length_le (by rw [HN.out];omega)
   go_wp2
   go_ret
   have hA:=HA.out
   rw [htk,HW.out] at hA
   exact ⟨by rw [hA];rfl,HA1.out⟩
end Go.Proofs.YtkcjkncpaopjbaaGreatDoor
