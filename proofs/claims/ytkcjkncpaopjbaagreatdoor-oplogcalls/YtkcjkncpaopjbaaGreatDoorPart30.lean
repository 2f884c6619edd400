/-
  Parts of the proof, one behind the other; what each proves stands at its head.
-/
import Derived.Test.YtkcjkncpaopjbaaGreatDoorPart20
import Derived.Test.YtkcjkncpaopjbaaGreatDoorPart13
import Derived.Test.YtkcjkncpaopjbaaGreatDoorPart23
import Derived.Deep.MidRow
import Derived.Test.YtkcjkncpaopjbaaGreatDoorPart26
import Derived.Test.YtkcjkncpaopjbaaGreatDoorPart18
import Derived.Test.YtkcjkncpaopjbaaGreatDoorPart6
import Derived.Test.YtkcjkncpaopjbaaGreatDoorPart7
import Derived.Test.YtkcjkncpaopjbaaGreatDoorPart12
import Derived.Test.YtkcjkncpaopjbaaGreatDoorPart25
import Derived.Test.YtkcjkncpaopjbaaGreatDoorPart16
import Derived.Test.YtkcjkncpaopjbaaGreatDoorPart10

namespace Go.Proofs.YtkcjkncpaopjbaaGreatDoor
open Go.RowKit
set_option linter.unusedVariables false
set_option maxRecDepth 100000
theorem qba {p:Oper}{a:Act}{W:World}{x:Operand}{b off:Nat}{o:Opn}{v:Value}(ho:p.op=.load 74 x) (hx:a.eval x=.pointer (some ⟨b,off,none⟩)) (hc:∀ i,i<20→W.cell? ⟨b,off+i,none⟩=(opl o v)[i]?):(execOp a.eval p).run Tryz.prog W=.ok (.value (opv o v)) W:=by
 have h:=run_loadAt_mid (P:=Tryz.prog) W b off 74 (opl o v).toList _ (fun j u hj=>by
  have hl:j<20:=(List.getElem?_eq_some_iff.1 hj).1
  rw [hc j hl]
  simpa using hj) Tryz.underlying74 rfl (by kernel_rfl)
 unfold execOp
 simp only [ho,hx,Sem.run_bind,h,Result.andThen_ok,Sem.run_pure]
theorem qja {p:Oper}{a:Act}{W:World}{x y:Operand}{b off n c j:Nat}(ho:p.op=.indexAddr 38 x y) (hx:a.eval x=.slice (some ⟨b,off,none⟩) n c) (hy:a.eval y=.int .i64 (j:Nat)) (hj:j<n):(execOp a.eval p).run Tryz.prog W=.ok (.value (.pointer (some ⟨b,off+j*20,none⟩))) W:=by
 have h1:(j:Int)<(n:Int):=by omega
 have h2:(0:Int)≤(j:Int):=by omega
 unfold execOp
 simp only [ho,hx,hy]
 simp [go_sem,h1,h2]
def mp0:Oper:={ dst:=some 17,op:=Op.move (Operand.tmp 0),type:=38,pos := "ref.go:148",after:=#[],guard:=none }
def mp1:Oper:={ dst:=some 18,op:=Op.move (Operand.tmp 5),type:=3,pos := "ref.go:148",after:=#[],guard:=none }
def mp2:Oper:={ dst:=some 19,op:=Op.indexAddr 38 (Operand.tmp 17) (Operand.tmp 18),type:=0,pos := "ref.go:148",after:=#[{ on:=0,ground:=Ground.data },{ on:=1,ground:=Ground.data }],guard:=none }
def mp3:Oper:={ dst:=some 20,op:=Op.load 74 (Operand.tmp 19),type:=74,pos := "ref.go:148",after:=#[{ on:=2,ground:=Ground.data }],guard:=none }
def mp4:Oper:={ dst:=some 21,op:=Op.move (Operand.tmp 1),type:=38,pos := "ref.go:148",after:=#[],guard:=none }
def mp5:Oper:={ dst:=some 22,op:=Op.move (Operand.tmp 5),type:=3,pos := "ref.go:148",after:=#[],guard:=none }
def mp6:Oper:={ dst:=some 23,op:=Op.indexAddr 38 (Operand.tmp 21) (Operand.tmp 22),type:=0,pos := "ref.go:148",after:=#[{ on:=4,ground:=Ground.data },{ on:=5,ground:=Ground.data }],guard:=none }
def mp7:Oper:={ dst:=some 24,op:=Op.load 74 (Operand.tmp 23),type:=74,pos := "ref.go:148",after:=#[{ on:=6,ground:=Ground.data }],guard:=none }
def mp8:Oper:={ dst:=some 25,op:=Op.call { callee:=Callee.value (Operand.func 37),args:=#[Operand.tmp 20,Operand.tmp 24],argTypes:=#[74,74] },type:=4,pos := "ref.go:148",after:=#[{ on:=3,ground:=Ground.data },{ on:=7,ground:=Ground.data }],guard:=none }
def mp9:Oper:={ dst:=some 26,op:=Op.unOp UnOp.not 4 (Operand.tmp 25),type:=4,pos := "ref.go:148",after:=#[{ on:=8,ground:=Ground.data }],guard:=none }
def mps:Array Oper:=#[mp0,mp1,mp2,mp3,mp4,mp5,mp6,mp7,mp8,mp9]
theorem mp_lex:Region.lexB .any mps=true:=by kernel_rfl
theorem qtq (w:World) (b1 o1 c1 b2 o2 c2 n j:Nat) (o:Opn) (v:Value) (p:Opn) (u:Value) (r:Bool) {x2 x3 x4 x6 x7 x8 x9 x10 x11 x12 x13 x14 x15 x16 x17 x18 x19 x20 x21 x22 x23 x24 x25 x26:Value}{Q:Exit→Act→World→Prop}(hj:j<n) (hn:n≤maxLen) (hb1:b1<w.heap.size) (hb2:b2<w.heap.size) (h1:∀ i,i<20→w.cell? ⟨b1,o1+j*20+i,none⟩=(opl o v)[i]?) (h2:∀ i,i<20→w.cell? ⟨b2,o2+j*20+i,none⟩=(opl p u)[i]?) (hC:Cs w v o.cuts) (hD:Cs w u p.cuts) (hr:r=true ↔ o=p)
  (hQ:∀ W,Below w.heap.size w W→Q .normal { tmps:=#[.slice (some ⟨b1,o1,none⟩) n c1,.slice (some ⟨b2,o2,none⟩) n c2,x2,x3,x4,.int .i64 (j:Nat),x6,x7,x8,x9,x10,x11,x12,x13,x14,x15,x16,.slice (some ⟨b1,o1,none⟩) n c1,.int .i64 (j:Nat),.pointer (some ⟨b1,o1+j*20,none⟩),opv o v,.slice (some ⟨b2,o2,none⟩) n c2,.int .i64 (j:Nat),.pointer (some ⟨b2,o2+j*20,none⟩),opv p u,.bool r,.bool (!r)],defers:=[] } W):(Code.region 6 mps true).wp Tryz.prog Q { tmps:=#[.slice (some ⟨b1,o1,none⟩) n c1,.slice (some ⟨b2,o2,none⟩) n c2,x2,x3,x4,.int .i64 (j:Nat),x6,x7,x8,x9,x10,x11,x12,x13,x14,x15,x16,x17,x18,x19,x20,x21,x22,x23,x24,x25,x26],defers:=[] } w:=by
 refine wp_region_quiet (C:=fun W=>Below w.heap.size w W) (by kernel_rfl) mp_lex (Below.refl _ _).drew ?_
 change wpQuiet _ _ _ _ [mp0,mp1,mp2,mp3,mp4,mp5,mp6,mp7,mp8,mp9] _
 refine qah (.slice (some ⟨b1,o1,none⟩) n c1) { tmps:=#[.slice (some ⟨b1,o1,none⟩) n c1,.slice (some ⟨b2,o2,none⟩) n c2,x2,x3,x4,.int .i64 (j:Nat),x6,x7,x8,x9,x10,x11,x12,x13,x14,x15,x16,.slice (some ⟨b1,o1,none⟩) n c1,x18,x19,x20,x21,x22,x23,x24,x25,x26],defers:=[] } (by kernel_rfl) (fun W hW=>by kernel_rfl) (by kernel_rfl) ?_
 refine qah (.int .i64 (j:Nat)) { tmps:=#[.slice (some ⟨b1,o1,none⟩) n c1,.slice (some ⟨b2,o2,none⟩) n c2,x2,x3,x4,.int .i64 (j:Nat),x6,x7,x8,x9,x10,x11,x12,x13,x14,x15,x16,.slice (some ⟨b1,o1,none⟩) n c1,.int .i64 (j:Nat),x19,x20,x21,x22,x23,x24,x25,x26],defers:=[] } (by kernel_rfl) (fun W hW=>by kernel_rfl) (by kernel_rfl) ?_
 refine qah (.pointer (some ⟨b1,o1+j*20,none⟩)) { tmps:=#[.slice (some ⟨b1,o1,none⟩) n c1,.slice (some ⟨b2,o2,none⟩) n c2,x2,x3,x4,.int .i64 (j:Nat),x6,x7,x8,x9,x10,x11,x12,x13,x14,x15,x16,.slice (some ⟨b1,o1,none⟩) n c1,.int .i64 (j:Nat),.pointer (some ⟨b1,o1+j*20,none⟩),x20,x21,x22,x23,x24,x25,x26],defers:=[] } (by kernel_rfl) (fun W hW=>qja rfl rfl rfl hj) (by kernel_rfl) ?_
 refine qah (opv o v) { tmps:=#[.slice (some ⟨b1,o1,none⟩) n c1,.slice (some ⟨b2,o2,none⟩) n c2,x2,x3,x4,.int .i64 (j:Nat),x6,x7,x8,x9,x10,x11,x12,x13,x14,x15,x16,.slice (some ⟨b1,o1,none⟩) n c1,.int .i64 (j:Nat),.pointer (some ⟨b1,o1+j*20,none⟩),opv o v,x21,x22,x23,x24,x25,x26],defers:=[] } (by kernel_rfl) (fun W hW=>qba rfl rfl (fun i hi=>(hW.cell hb1).trans (h1 i hi))) (by kernel_rfl) ?_
 refine qah (.slice (some ⟨b2,o2,none⟩) n c2) { tmps:=#[.slice (some ⟨b1,o1,none⟩) n c1,.slice (some ⟨b2,o2,none⟩) n c2,x2,x3,x4,.int .i64 (j:Nat),x6,x7,x8,x9,x10,x11,x12,x13,x14,x15,x16,.slice (some ⟨b1,o1,none⟩) n c1,.int .i64 (j:Nat),.pointer (some ⟨b1,o1+j*20,none⟩),opv o v,.slice (some ⟨b2,o2,none⟩) n c2,x22,x23,x24,x25,x26],defers:=[] } (by kernel_rfl) (fun W hW=>by kernel_rfl) (by kernel_rfl) ?_
 refine qah (.int .i64 (j:Nat)) { tmps:=#[.slice (some ⟨b1,o1,none⟩) n c1,.slice (some ⟨b2,o2,none⟩) n c2,x2,x3,x4,.int .i64 (j:Nat),x6,x7,x8,x9,x10,x11,x12,x13,x14,x15,x16,.slice (some ⟨b1,o1,none⟩) n c1,.int .i64 (j:Nat),.pointer (some ⟨b1,o1+j*20,none⟩),opv o v,.slice (some ⟨b2,o2,none⟩) n c2,.int .i64 (j:Nat),x23,x24,x25,x26],defers:=[] } (by kernel_rfl) (fun W hW=>by kernel_rfl) (by kernel_rfl) ?_
 refine qah (.pointer (some ⟨b2,o2+j*20,none⟩)) { tmps:=#[.slice (some ⟨b1,o1,none⟩) n c1,.slice (some ⟨b2,o2,none⟩) n c2,x2,x3,x4,.int .i64 (j:Nat),x6,x7,x8,x9,x10,x11,x12,x13,x14,x15,x16,.slice (some ⟨b1,o1,none⟩) n c1,.int .i64 (j:Nat),.pointer (some ⟨b1,o1+j*20,none⟩),opv o v,.slice (some ⟨b2,o2,none⟩) n c2,.int .i64 (j:Nat),.pointer (some ⟨b2,o2+j*20,none⟩),x24,x25,x26],defers:=[] } (by kernel_rfl) (fun W hW=>qja rfl rfl rfl hj) (by kernel_rfl) ?_
 refine qah (opv p u) { tmps:=#[.slice (some ⟨b1,o1,none⟩) n c1,.slice (some ⟨b2,o2,none⟩) n c2,x2,x3,x4,.int .i64 (j:Nat),x6,x7,x8,x9,x10,x11,x12,x13,x14,x15,x16,.slice (some ⟨b1,o1,none⟩) n c1,.int .i64 (j:Nat),.pointer (some ⟨b1,o1+j*20,none⟩),opv o v,.slice (some ⟨b2,o2,none⟩) n c2,.int .i64 (j:Nat),.pointer (some ⟨b2,o2+j*20,none⟩),opv p u,x25,x26],defers:=[] } (by kernel_rfl) (fun W hW=>qba rfl rfl (fun i hi=>(hW.cell hb2).trans (h2 i hi))) (by kernel_rfl) ?_
 refine qeg (f:=37) (args:=#[opv o v,opv p u]) (.bool r) { tmps:=#[.slice (some ⟨b1,o1,none⟩) n c1,.slice (some ⟨b2,o2,none⟩) n c2,x2,x3,x4,.int .i64 (j:Nat),x6,x7,x8,x9,x10,x11,x12,x13,x14,x15,x16,.slice (some ⟨b1,o1,none⟩) n c1,.int .i64 (j:Nat),.pointer (some ⟨b1,o1+j*20,none⟩),opv o v,.slice (some ⟨b2,o2,none⟩) n c2,.int .i64 (j:Nat),.pointer (some ⟨b2,o2+j*20,none⟩),opv p u,.bool r,x26],defers:=[] } (by kernel_rfl) (fun W=>by kernel_rfl) (fun W hW=>(qhl o p v u W (hC.below hW) (hD.below hW)).mono fun _ _ ⟨q,e1,e2,e3⟩=>⟨by rw [e1,Bool.eq_iff_iff.2 (e2.trans hr.symm)],bt hW e3⟩) (by kernel_rfl) ?_
 refine qah (.bool (!r)) { tmps:=#[.slice (some ⟨b1,o1,none⟩) n c1,.slice (some ⟨b2,o2,none⟩) n c2,x2,x3,x4,.int .i64 (j:Nat),x6,x7,x8,x9,x10,x11,x12,x13,x14,x15,x16,.slice (some ⟨b1,o1,none⟩) n c1,.int .i64 (j:Nat),.pointer (some ⟨b1,o1+j*20,none⟩),opv o v,.slice (some ⟨b2,o2,none⟩) n c2,.int .i64 (j:Nat),.pointer (some ⟨b2,o2+j*20,none⟩),opv p u,.bool r,.bool (!r)],defers:=[] } (by kernel_rfl) (fun W hW=>by kernel_rfl) (by kernel_rfl) ?_
 exact hQ
abbrev fsts (l:List (Opn × Value)):List Opn:=l.map Prod.fst
theorem qms {xs ys:List (Opn × Value)}{k:Nat}(h1:k<xs.length) (h2:k<ys.length) (h:fsts (xs.take k)=fsts (ys.take k)) (he:(xs[k]).1=(ys[k]).1):fsts (xs.take (k+1))=fsts (ys.take (k+1)):=by
 rw [List.take_succ_eq_append_getElem h1,List.take_succ_eq_append_getElem h2]
 unfold fsts at *
 rw [List.map_append,List.map_append,h]
 simp [he]
set_option maxHeartbeats 2000000 in
theorem qgd (a b:Value) (xs ys:List (Opn × Value)) (w:World) (h1:Os w a xs) (h2:Os w b ys) :
  Calls Tryz.prog 16 #[a,b] w fun e w'=>∃ r,e=.returned (.bool r)∧(r=true ↔ fsts xs=fsts ys)∧Below w.heap.size w w':=by
 have l1:=Sl.len h1.1
 have l2:=Sl.len h2.1
 unfold maxLen at l1 l2
 by_cases hl:xs.length=ys.length
 ·by_cases hz:xs.length=0
  ·have e1:xs=[]:=List.eq_nil_of_length_eq_zero hz
   have e2:ys=[]:=List.eq_nil_of_length_eq_zero (by omega)
   subst e1 e2
   obtain ⟨a1,c1,rfl,_⟩:=Sl.form h1.1
   obtain ⟨a2,c2,rfl,_⟩:=Sl.form h2.1
   clear h1 h2 l1 l2 hl hz
   go_enter Tryz.func16,Tryz.ntmps16
   go_wp2
   refine wp_loop_rounds 1 ?_
   rw [rounds_succ]
   go_wp2
   go_ret
   exact ⟨true,rfl,by simp,Below.refl _ _⟩
  ·obtain ⟨b1,o1,c1,rfl,_,_,hb1,hc1⟩:=h1.inv (by omega)
   obtain ⟨b2,o2,c2,rfl,_,_,hb2,hc2⟩:=h2.inv (by omega)
   rw [←hl]
   obtain ⟨n,hn⟩:∃ n,xs.length=n:=⟨_,rfl⟩
   have HL:Hid (ys.length=n):=by rw [←hl];exact hn
   have HN:Hid (xs.length=n):=hn
   have HC1:=hid hc1
   have HC2:=hid hc2
   have HV1:=hid h1.2
   have HV2:=hid h2.2
   have HB1:=hid hb1
   have HB2:=hid hb2
   rw [hn]
   rw [hn] at hz l1
   clear hn hl h1 h2 hc1 hc2 hb1 hb2
   have hnn:((n:Int) != (n:Int))=false:=by simp
   go_enter Tryz.func16,Tryz.ntmps16
   go_wp2
   go_loopw [5] (fun i wr=>∃ k:Nat,k≤n∧i=.int .i64 k∧Below w.heap.size w wr∧fsts (xs.take k)=fsts (ys.take k)) (fun i _=>n - (intOf i).toNat)
   case atStart=>exact ⟨0,Nat.zero_le _,rfl,Below.refl _ _,by simp⟩
   case round =>
    obtain ⟨k,hk,rfl,hb,ht⟩:=hrel
    have HT:=hid ht
    have BB:=hid hb
    clear ht hb
    by_cases hlt:k<n
    ·have hx:k<xs.length:=by have:=HN.out;omega
     have hy:k<ys.length:=by have:=HL.out;omega
     have g1:=HC1.out k hx
     have g2:=HC2.out k hy
     have v1:=HV1.out _ (List.getElem_mem hx)
     have v2:=HV2.out _ (List.getElem_mem hy)
     obtain ⟨⟨p1,p2⟩,hp⟩:∃ p,xs[k]=p:=⟨_,rfl⟩
     obtain ⟨⟨q1,q2⟩,hq⟩:∃ p,ys[k]=p:=⟨_,rfl⟩
     rw [hp] at g1 v1
     rw [hq] at g2 v2
     have HP:=hid hp
     have HQ:=hid hq
     dsimp only at g1 g2 v1 v2
     obtain ⟨r,hr⟩:∃ r:Bool,r=true ↔ p1=q1:=by
      by_cases h:p1=q1
      ·exact ⟨true,by simp [h]⟩
      ·exact ⟨false,by simp [h]⟩
     have HRR:=hid hr
     have b1':(k:Int)<(n:Int):=by omega
     have G1:=hid g1
     have G2:=hid g2
     have V1:=hid v1
     have V2:=hid v2
     clear hp hq g1 g2 v1 v2 hr
     go_upto_region 6 with fail
     refine qtq wr b1 o1 c1 b2 o2 c2 n k p1 p2 q1 q2 r hlt (by unfold maxLen;omega) (Nat.lt_of_lt_of_le HB1.out BB.out.size) (Nat.lt_of_lt_of_le HB2.out BB.out.size) (fun i hi=>(BB.out.cell HB1.out).trans (G1.out i hi)) (fun i hi=>(BB.out.cell HB2.out).trans (G2.out i hi)) (V1.out.below BB.out) (V2.out.below BB.out) HRR.out (fun W hW=>?_)
     have BW:=hid (bt BB.out hW)
     clear hW
     cases r
     ·go_wp2
      go_ret
      refine ⟨false,rfl,⟨fun h=>(by cases h),fun h=>?_⟩,BW.out⟩
      have h3:(fsts xs)[k]?=(fsts ys)[k]?:=by rw [h]
      unfold fsts at h3
      rw [List.getElem?_map,List.getElem?_map,List.getElem?_eq_getElem hx,List.getElem?_eq_getElem hy,HP.out,HQ.out] at h3
      simp at h3
      exact HRR.out.2 h3
     ·go_wp2
      go_roundw
      case rel =>
       refine ⟨k+1,by omega,by go_num,BW.out,qms hx hy HT.out ?_⟩
       rw [HP.out,HQ.out]
       exact HRR.out.1 rfl
      case measure=>simp [intOf];omega
    ·have b1':¬ (k:Int)<(n:Int):=by omega
     go_wp2
     go_ret
     have e1:k=n:=by omega
     have h3:=HT.out
     rw [List.take_of_length_le (by have:=HN.out;omega),List.take_of_length_le (by have:=HL.out;omega)] at h3
     exact Or.inr ⟨rfl,h3,BB.out⟩
 ·have hne:((xs.length:Int) != (ys.length:Int))=true:=by simp;omega
  obtain ⟨a1,c1,rfl,_⟩:=Sl.form h1.1
  obtain ⟨a2,c2,rfl,_⟩:=Sl.form h2.1
  clear h1 h2
  go_enter Tryz.func16,Tryz.ntmps16
  go_wp2
  go_ret
  refine ⟨false,rfl,⟨fun h=>(by cases h),fun h=>?_⟩,Below.refl _ _⟩
  have:=congrArg List.length h
  simp at this
  exact absurd this hl
theorem qzd {o:Opn}(h:rightO o=true):(encT o).length≤5010:=by
 have hb:=qdq h
 have hs:(M.str (encO o)).size=(encO o).length:=by
  have:=congrArg List.length (qgl hb)
  rw [qaw] at this
  exact this
 have h1:=qha h
 have h2:=(M.sz_pos (M.str (encO o)).size).2
 unfold encT
 rw [qbf,hs] at *
 omega
theorem qwb:∀ (l:List Opn),(∀ q ∈ l,rightO q=true)→(l.flatMap encT).length≤5010*l.length:=by
 intro l
 induction l with
 | nil=>intro _;simp
 | cons o l ih =>
  intro h
  have h1:=qzd (h o List.mem_cons_self)
  have h2:=ih (fun q hq=>h q (List.mem_cons_of_mem _ hq))
  rw [List.flatMap_cons,List.length_append,List.length_cons]
  omega
theorem qlm {p:Oper}{ac:Act}{W:World}{x:Operand}{v:Value}{xs:List Int}(ho:p.op=.convert 36 9 x) (hx:ac.eval x=v) (h:Bs W v xs):(execOp ac.eval p).run Tryz.prog W=.ok (.value (.string (M.str xs))) W:=by
 unfold execOp
 simp only [ho,hx,Sem.run_bind,qme h,Result.andThen_ok,Sem.run_pure]
set_option maxHeartbeats 4000000 in
theorem qgz (va:Value) (l:List (Opn × Value)) (w:World) (hL:Lay w) (hO:Os w va l) (hf:∀ p ∈ l,p.1.fine) (hn:l.length≤1000000) :
  Calls Tryz.prog 69 #[va] w fun e w'=>∃ u,e=.returned (.tuple #[u,.bool ((fsts l).all rightO)])∧Bs w' u (if (fsts l).all rightO then encA (fsts l) else [])∧Below w.heap.size w w'∧w'.ownsRow w.heap.size 5 1 u (if (fsts l).all rightO then encA (fsts l) else []).length (cs (if (fsts l).all rightO then encA (fsts l) else [])):=by
 obtain ⟨a,c,rfl,_,_⟩:=Sl.form hO.1
 obtain ⟨n,hnn⟩:∃ n,l.length=n:=⟨_,rfl⟩
 have HN:=hid hnn
 have hcell:∀ i (h:i<l.length),∃ b off,a=some ⟨b,off,none⟩∧b<w.heap.size∧∀ j,j<20→w.cell? ⟨b,off+i*20+j,none⟩=(opl (l[i]).1 (l[i]).2)[j]?:=by
  intro i h
  obtain ⟨b,off,c',e,_,_,hb,hc⟩:=hO.inv (by omega)
  simp only [Value.slice.injEq] at e
  exact ⟨b,off,e.1,hb,hc i h⟩
 have HCE:=hid hcell
 have HV:=hid hO.2
 have HF:=hid hf
 have HL:=hid hL
 have HOS:=hid hO.1
 rw [hnn] at hn ⊢
 obtain ⟨T,hT⟩:∃ T,(fsts l).all rightO=T:=⟨_,rfl⟩
 rw [hT]
 have HT:=hid hT
 obtain ⟨X,hX⟩:∃ X,(if T then encA (fsts l) else [])=X:=⟨_,rfl⟩
 rw [hX]
 have HX:=hid hX
 clear hcell hO hf hL hnn hT hX
 have HA:=hid (ba w (.cells #[.slice none 0 0] 133))
 have hW1:Wr w.heap.size (w.alloc (.cells #[.slice none 0 0] 133)) w.heap.size (.slice none 0 0) []:=⟨heap_alloc_new w _,World.ownsRow_nil _ _ _ _,fun x hx=>by cases hx⟩
 have HI:=hid (qcd w.heap.size w.heap.size (.slice none 0 0) [] [(n:Int)] _ hW1 HA.out.size (by intro x hx;rw [List.mem_singleton.1 hx];unfold Num49;omega) (by simp) (by simp) (by simp))
 rw [show (w.alloc (.cells #[.slice none 0 0] 133)).heap.size=w.heap.size+1 by simp] at HI
 clear hW1
 go_enter Tryz.func69,Tryz.ntmps69
 go_wp2_with fail
 refine HI.out.mono ?_
 rintro e w2 ⟨rfl,v2,hW2,hx2⟩
 have hb2:Below w.heap.size (w.alloc (.cells #[.slice none 0 0] 133)) w2:=hx2.1.below (fun k hk hs=>by
  rcases hs with hs | hs
  ·omega
  ·cases hs) HA.out.size
 have HB2:=hid (HA.out.trans hb2)
 have HW2:=hid hW2
 clear hW2 hx2 hb2 HI
 go_wp2
 go_loopw [16] (fun i wr=>∃ (k:Nat) (v':Value),k≤n∧i=.int .i64 k∧Wr w.heap.size wr w.heap.size v' (M.enc (n:Int)++(fsts (l.take k)).flatMap encT)∧Below w.heap.size w wr∧∀ q ∈ fsts (l.take k),rightO q=true) (fun i _=>n - (intOf i).toNat)
 case atStart=>exact ⟨0,v2,Nat.zero_le _,rfl,by simpa using HW2.out,HB2.out,fun q hq=>by simp at hq⟩
 case round =>
  obtain ⟨k,v4,hk,rfl,hw4,hb4,hr4⟩:=hrel
  have HW4:=hid hw4
  have B4:=hid hb4
  have HR4:=hid hr4
  clear hw4 hb4 hr4
  by_cases hlt:k<n
  ·have hx:k<l.length:=by have:=HN.out;omega
   obtain ⟨b,off,ha,hbl,hc⟩:=HCE.out k hx
   subst ha
   obtain ⟨⟨o,v⟩,hp⟩:∃ p,l[k]=p:=⟨_,rfl⟩
   have hfin:=HF.out _ (List.getElem_mem hx)
   have hcs:=HV.out _ (List.getElem_mem hx)
   rw [hp] at hc hfin hcs
   dsimp only at hc hfin hcs
   have HP:=hid hp
   have HC:Hid (∀ j,j<20→wr.cell? ⟨b,off+k*20+j,none⟩=(opl o v)[j]?):=hid (fun j hj=>(B4.out.cell hbl).trans (hc j hj))
   have HFI:=hid hfin
   have HCS:=hid (hcs.below B4.out)
   have hvf:∃ va n vc,v=.slice va n vc:=by
    obtain ⟨va,vc,e,_⟩:=hcs.form
    exact ⟨va,_,vc,e⟩
   have HVF:=hid hvf
   have HA5:=hid (ba wr (opo o v))
   have HO5:=hid (Ob.new wr o v)
   have HCS5:=hid (HCS.out.below HA5.out)
   have HL5:=hid ((HL.out.below B4.out).below HA5.out)
   have HW5:=hid (HW4.out.below HA5.out)
   have B5:=hid (bt B4.out HA5.out)
   have b1':(k:Int)<(n:Int):=by omega
   clear hp hc hfin hcs hvf hbl
   cases hr:rightO o
   ·have HE:=hid (qvz o v _ HL5.out HCS5.out HFI.out hr)
    have hTf:false=T:=by
     rw [←HT.out]
     symm
     rw [List.all_eq_false]
     refine ⟨o,?_,by rw [hr];decide⟩
     have:=List.getElem_mem hx
     rw [HP.out] at this
     exact List.mem_map.2 ⟨_,this,rfl⟩
    have HTF:=hid hTf
    clear hr hTf
    go_wp2_with (first | (refine qak _ rfl (qba rfl rfl HC.out) ?_) | (refine qch rfl _ _ rfl 0 o v HVF.out rfl rfl ?_) | (refine qae rfl _ rfl wr.heap.size rfl o v HO5.out ?_) | fail)
    refine HE.out.mono ?_
    rintro e w6 ⟨rfl,b6⟩
    have B6:=hid (bt B5.out b6)
    clear b6 HE
    go_wp2
    go_ret2
    have ht:=HTF.out
    subst ht
    have hx':=HX.out
    subst hx'
    exact ⟨_,rfl,Bs.nil _,B6.out,⟨rfl,.inl ⟨rfl,rfl⟩⟩⟩
   ·have HE:=hid (qks o v _ HL5.out HCS5.out HFI.out hr)
    have HRI:=hid hr
    clear hr
    go_wp2_with (first | (refine qak _ rfl (qba rfl rfl HC.out) ?_) | (refine qch rfl _ _ rfl 0 o v HVF.out rfl rfl ?_) | (refine qae rfl _ rfl wr.heap.size rfl o v HO5.out ?_) | fail)
    refine HE.out.mono ?_
    rintro e w6 ⟨u6,rfl,hown6,b6⟩
    have B6:=hid (bt B5.out b6)
    have HW6:=hid (HW5.out.below b6)
    have HU6:=hid (Bs.of_own hown6 (qdq HRI.out))
    have hlk:(fsts (l.take k)).length=k:=by unfold fsts;rw [List.length_map,List.length_take];omega
    have htl:=qwb _ HR4.out
    rw [hlk] at htl
    have hsz:=(M.sz_pos (n:Int)).2
    have hsm:(M.str (encO o)).size≤1099511627776:=by
     have:=congrArg List.length (qgl (qdq HRI.out))
     rw [qaw] at this
     have:=qha HRI.out
     omega
    have HTW:=hid (qtj w.heap.size w.heap.size v4 _ (M.str (encO o)) w6 HW6.out B6.out.size hsm (by rw [List.length_append,M.enc_length];omega))
    clear b6 HE hown6 hlk htl hsz hsm
    go_wp2_with (first | (refine qak _ rfl (qlm rfl rfl HU6.out) ?_) | fail)
    refine HTW.out.mono ?_
    rintro e w7 ⟨rfl,v7,hw7,hx7⟩
    have hb7:Below w.heap.size w6 w7:=hx7.1.below (fun q hq hs=>by
     rcases hs with hs | hs
     ·omega
     ·have:=(HW6.out.2.1.lt q hs).1
      omega) B6.out.size
    have B7:=hid (B6.out.trans hb7)
    have HW7:=hid hw7
    clear hw7 hx7 hb7 HTW
    go_wp2
    go_roundw
    case rel =>
     have htk:fsts (l.take (k+1))=fsts (l.take k)++[o]:=by
      unfold fsts
      rw [List.take_succ_eq_append_getElem hx,List.map_append,HP.out]
      rfl
     refine ⟨k+1,v7,by omega,by go_num,?_,B7.out,fun q hq=>?_⟩
     ·rw [htk,List.flatMap_append,←List.append_assoc]
      have:=HW7.out
      simpa [encT] using this
     ·rw [htk] at hq
      rcases List.mem_append.1 hq with hq | hq
      ·exact HR4.out q hq
      ·rw [List.mem_singleton.1 hq];exact HRI.out
    case measure=>simp [intOf];omega
  ·have b1':¬ (k:Int)<(n:Int):=by omega
   have e1:k=n:=by omega
   have htk:l.take k=l:=List.take_of_length_le (by have:=HN.out;omega)
   rw [htk] at HW4 HR4
   have hTt:T=true:=by rw [←HT.out,List.all_eq_true];exact HR4.out
   have HTT:=hid hTt
   obtain ⟨hc4,hf4,a4,c4,hv4,_⟩:=HW4.out.cell
   obtain ⟨N4,hN4⟩:∃ N,(M.enc (n:Int)++(fsts l).flatMap encT).length=N:=⟨_,rfl⟩
   rw [hN4] at hv4
   clear hN4
   subst hv4
   clear htk hTt e1
   go_wp2
   go_ret2
   have ht:=HTT.out
   subst ht
   have hx':=HX.out
   subst hx'
   have hb:=Bs.of_own HW4.out.2.1 HW4.out.2.2
   have hlf:((fsts l).length:Int)=(n:Int):=by unfold fsts;rw [List.length_map,HN.out]
   have ho:=HW4.out.2.1
   simp only [if_true]
   unfold encA
   rw [hlf]
   exact ⟨_,rfl,hb,B4.out,ho⟩
theorem qhj {w w0:World}{ops:Array Oper}{rest:List Oper}{o:Oper}{a:Act}{Q:Exit→Act→World→Prop}(hgd:o.guard=none) (s x:Operand)
  (ho:o.op=.call { callee:=.builtin .append,args:=#[s,x],argTypes:=#[36,36] })
  {v:Value} {xs:List Int} {k:Nat} (hs:a.eval s=v) (hW:En w0.heap.size w v xs k) (u:Value) {ys:List Int} (hx:a.eval x=u) (hu:Bs w u ys) (hul:ys.length≤1099511627776) (hk:k≤100)
  (hB:Below w0.heap.size w0 w)
  (h:∀ va n vc w',En w0.heap.size w' (.slice va n vc) (xs++ys) (k+1)→Below w0.heap.size w0 w'→wpList Tryz.prog ops Q rest (a.put o.dst (.slice va n vc)) w') :
  wpList Tryz.prog ops Q (o::rest) a w:=by
 have hl:=hW.2.1
 have hkk:k*1099511627776≤100*1099511627776:=Nat.mul_le_mul_right _ hk
 refine qag hgd s x ho w0.heap.size v xs.length xs hs hW.1 u ys hx hu (by omega) hB.size ?_
 intro v' w' h1 h2 _
 have hE:En w0.heap.size w' v' (xs++ys) (k+1):=⟨by rw [List.length_append];exact h1,by rw [List.length_append,Nat.add_mul];omega,fun z hz=>by
  rcases List.mem_append.1 hz with hz | hz
  ·exact hW.2.2 z hz
  ·exact hu.range z hz⟩
 have hB':Below w0.heap.size w0 w':=Below.grown hB h2 hB.size (fun j hj=>(hW.1.lt j hj).1)
 obtain ⟨va,n,vc,rfl⟩:=hE.form
 exact h va n vc w' hE hB'
def fb0 (r:Int):List Int:=encA []++M.enc r
theorem qcz {r:Int}(h0:0≤r) (h1:r≤15):(fb0 r).length=2:=by
 unfold fb0 encA
 rw [List.length_append,List.length_append,M.enc_length,M.enc_length]
 have e1:M.sz r=1:=by unfold M.sz;rw [if_pos (by omega)]
 have e2:M.sz (([]:List Opn).length:Int)=1:=by decide
 rw [e1,e2]
 rfl
theorem qhu {r:Int}(h0:0≤r) (h1:r≤15):Byt (fb0 r):=by
 unfold fb0 encA
 refine Byt.append (Byt.append (M.enc_byte _ (by decide) (by decide)) (fun x hx=>by cases hx)) (M.enc_byte _ h0 (by omega))
set_option maxHeartbeats 2000000 in
theorem qga (r:Int) (w:World) (hL:Lay w) (h0:0≤r) (h1:r≤15) :
  Calls Tryz.prog 41 #[.int .i64 r] w fun e w'=>∃ v',e=.returned v'∧Ow w.heap.size w' v' (C.frame (fb0 r))∧Below w.heap.size w w':=by
 have HL:=hid hL
 have HE:=hid (qgz (.slice none 0 0) [] w hL ⟨Sl.nil _ _,fun p hp=>by cases hp⟩ (fun p hp=>by cases hp) (by simp))
 have hx:(fsts []).all rightO=true:=rfl
 rw [hx] at HE
 simp only [if_true] at HE
 have e0:(fsts [])=[]:=rfl
 rw [e0] at HE
 have e1:(encA []).length=1:=by decide
 rw [e1] at HE
 have HBY:=hid (qhu h0 h1)
 have hlen:=qcz h0 h1
 have HLEN:=hid hlen
 have hz:M.sz r=1:=by unfold M.sz;rw [if_pos (by omega)]
 have HP:=hid (fun W=>qup r W h0 (by omega))
 have hel:(M.enc r).length=1:=by rw [M.enc_length,hz]
 have HEL:=hid hel
 have hb0:fb0 r=encA []++M.enc r:=rfl
 have HB0:=hid hb0
 obtain ⟨fb,hfb⟩:∃ fb,fb0 r=fb:=⟨_,rfl⟩
 rw [hfb] at HBY HLEN HB0 ⊢
 clear hL hlen hz hel hb0 hfb h0 h1 e1 e0 hx
 go_enter Tryz.func41,Tryz.ntmps41
 go_wp2_with fail
 refine HE.out.mono ?_
 rintro e w1 ⟨u1,rfl,_,b1,o1⟩
 have B1:=hid b1
 obtain ⟨a1,c1,rfl,_⟩:=qbb o1
 have O1:=hid o1
 clear b1 o1 HE
 go_wp2_with fail
 refine (HP.out w1).mono ?_
 rintro e w2 ⟨u2,rfl,hb2,b2⟩
 have B2:=hid (bt B1.out b2)
 have O2:=hid (qau O1.out b2)
 obtain ⟨a2,c2,rfl⟩:=hb2.form
 have U2:=hid hb2
 clear hb2 b2 HP
 go_wp2_with (at_builtin;refine qag rfl _ _ rfl w.heap.size (.slice a1 1 c1) 1 (encA []) rfl O2.out _ (M.enc r) rfl U2.out (by rw [HEL.out];decide) B2.out.size ?_;intro v3 w3 hown3 hg3 hv3;have O3:=hid hown3;have G3:=hid hg3;obtain ⟨a3,c3,rfl,_⟩:=qbb hown3;clear hown3 hg3 hv3)
 have hown:w3.ownsRow w.heap.size 5 1 (.slice a3 (1+(M.enc r).length) c3) (1+(M.enc r).length) (cs fb):=by rw [HB0.out];exact O3.out
 have B3:Hid (Below w.heap.size w w3):=hid (Below.grown B2.out G3.out B2.out.size (fun k hk=>(O2.out.lt k hk).1))
 refine (qjk _ fb w3 (Bs.of_own hown HBY.out) (by rw [HLEN.out];decide)).mono ?_
 rintro e w4 ⟨u4,rfl,o4,b4⟩
 have B4:=hid (B3.out.trans (b4.mono B3.out.size))
 have hfl:8+fb.length=(C.frame fb).length:=(C.frame_length fb).symm
 rw [hfl] at o4
 have O4:Hid (Ow w.heap.size w4 u4 (C.frame fb)):=hid (Ow.mono o4 B3.out.size)
 clear o4 b4 hfl
 go_wp2
 go_ret
 exact ⟨_,rfl,O4.out,B4.out⟩
def frE (l:List Opn):Int:=if l.all rightO=false∨l=[] then 10 else if 65536<(encA l).length then 14 else 0
def frB (l:List Opn):List Int:=if frE l=0 then C.frame (encA l) else []
set_option maxHeartbeats 2000000 in
theorem qjl (va:Value) (l:List (Opn × Value)) (w:World) (hL:Lay w) (hO:Os w va l) (hf:∀ p ∈ l,p.1.fine) (hn:l.length≤1000000) :
  Calls Tryz.prog 46 #[va] w fun e w'=>∃ v',e=.returned (.tuple #[v',.int .i64 (frE (fsts l))])∧Bs w' v' (frB (fsts l))∧Below w.heap.size w w':=by
 have HE:=hid (qgz va l w hL hO hf hn)
 obtain ⟨a,c,rfl,_,_⟩:=Sl.form hO.1
 have hll:(fsts l).length=l.length:=by simp [fsts]
 have hnil:fsts l=[] ↔ l.length=0:=by rw [←hll];exact List.length_eq_zero_iff.symm
 obtain ⟨F,hF⟩:∃ F,fsts l=F:=⟨_,rfl⟩
 rw [hF] at HE hnil ⊢
 have HNIL:=hid hnil
 obtain ⟨n,hnn⟩:∃ n,l.length=n:=⟨_,rfl⟩
 rw [hnn] at HE HNIL ⊢
 clear hL hO hf hn hll hnil hF hnn
 cases hT:F.all rightO with
 | false =>
  have he:frE F=10:=by unfold frE;rw [if_pos (.inl hT)]
  have hb:frB F=[]:=by unfold frB;rw [he];rfl
  rw [he,hb]
  rw [hT] at HE
  simp only [Bool.false_eq_true,if_false] at HE
  clear he hb
  go_enter Tryz.func46,Tryz.ntmps46
  go_wp2_with fail
  refine HE.out.mono ?_
  rintro e w1 ⟨u1,rfl,_,b1,o1⟩
  have B1:=hid b1
  clear b1 o1 HE
  go_wp2
  go_ret2
  exact ⟨_,rfl,Bs.nil _,B1.out⟩
 | true =>
  rw [hT] at HE
  simp only [if_true] at HE
  by_cases h0:n=0
  ·have he:frE F=10:=by unfold frE;rw [if_pos (.inr (HNIL.out.2 h0))]
   have hb:frB F=[]:=by unfold frB;rw [he];rfl
   rw [he,hb]
   subst h0
   clear he hb
   go_enter Tryz.func46,Tryz.ntmps46
   go_wp2_with fail
   refine HE.out.mono ?_
   rintro e w1 ⟨u1,rfl,_,b1,o1⟩
   have B1:=hid b1
   clear b1 o1 HE
   go_wp2
   go_ret2
   exact ⟨_,rfl,Bs.nil _,B1.out⟩
  ·have hne:F≠[]:=fun e=>h0 (HNIL.out.1 e)
   have hz:((n:Int)==0)=false:=by simp;omega
   by_cases hbig:65536<(encA F).length
   ·have he:frE F=14:=by unfold frE;rw [if_neg (by rw [hT];simp [hne]),if_pos hbig]
    have hb:frB F=[]:=by unfold frB;rw [he];rfl
    rw [he,hb]
    have HBIG:=hid hbig
    clear he hb hbig hne
    go_enter Tryz.func46,Tryz.ntmps46
    go_wp2_with fail
    refine HE.out.mono ?_
    rintro e w1 ⟨u1,rfl,hb1,b1,o1⟩
    have B1:=hid b1
    have U1:=hid hb1
    clear b1 o1 HE hb1
    go_wp2_with fail
    refine (qpn u1 _ w1 U1.out HBIG.out).mono ?_
    rintro e w2 ⟨rfl,rfl⟩
    go_wp2
    go_ret2
    exact ⟨_,rfl,Bs.nil _,B1.out⟩
   ·have he:frE F=0:=by unfold frE;rw [if_neg (by rw [hT];simp [hne]),if_neg hbig]
    have hb:frB F=C.frame (encA F):=by unfold frB;rw [he];rfl
    rw [he,hb]
    have HBIG:=hid (Nat.le_of_not_lt hbig)
    clear he hb hbig hne
    go_enter Tryz.func46,Tryz.ntmps46
    go_wp2_with fail
    refine HE.out.mono ?_
    rintro e w1 ⟨u1,rfl,hb1,b1,o1⟩
    have B1:=hid b1
    have U1:=hid hb1
    clear b1 o1 HE hb1
    go_wp2_with fail
    refine (qyy u1 _ w1 U1.out HBIG.out).mono ?_
    rintro e w2 ⟨u2,rfl,hb2,b2⟩
    have B2:=hid (bt B1.out b2)
    have U2:=hid hb2
    clear hb2 b2
    go_wp2
    go_ret2
    exact ⟨_,rfl,U2.out,B2.out⟩
def rfS (xs:List Int):Int × St:=rn 15 (rn 0 (xs,false)).2
def rfV (xs:List Int):Int:=(rfS xs).1
def rfO (xs:List Int):Bool:=!(rfS xs).2.2 && (rfS xs).2.1.isEmpty
set_option maxHeartbeats 2000000 in
theorem qls (va:Value) (xs:List Int) (w:World) (h:Bs w va xs) (hn:xs.length≤140737488355328) :
  Calls Tryz.prog 59 #[va] w fun e w'=>e=.returned (.tuple #[.int .i64 (rfV xs),.bool (rfO xs)])∧Below w.heap.size w w':=by
 have HA:=hid (qwo va xs w h hn)
 have HX:=hid (show rfV xs=M.numV 15 (M.numS 0 xs)∧rfO xs=(!(M.numL 15 (M.numS 0 xs) (M.numL 0 xs false)) && (M.numS 15 (M.numS 0 xs)).isEmpty) from ⟨rfl,rfl⟩)
 obtain ⟨V,hV⟩:∃ V,rfV xs=V:=⟨_,rfl⟩
 obtain ⟨O,hO⟩:∃ O,rfO xs=O:=⟨_,rfl⟩
 rw [hV,hO] at HX ⊢
 clear h hV hO
 go_enter Tryz.func59,Tryz.ntmps59
 go_wp2_with fail
 refine HA.out.mono ?_
 rintro e w1 ⟨b,rfl,hb,hc,b1⟩
 have C1:=hid hc
 have B1:=hid b1
 clear hc b1 HA
 go_wp2_with fail
 refine (qlv b xs false 0 w1 C1.out).mono ?_
 rintro e w2 ⟨rfl,hc2,hg2⟩
 have C2:=hid hc2
 have B2:=hid (bg B1.out hg2 hb)
 clear hc2 hg2 C1
 go_wp2_with fail
 refine (qlv b _ _ 15 w2 C2.out).mono ?_
 rintro e w3 ⟨rfl,hc3,hg3⟩
 have C3:=hid hc3
 have B3:=hid (bg B2.out hg3 hb)
 clear hc3 hg3 C2
 go_wp2_with fail
 refine (qpp b _ _ w3 C3.out).mono ?_
 rintro e w4 ⟨rfl,rfl⟩
 rw [←HX.out.1,←HX.out.2]
 go_wp2
 go_ret2
 exact ⟨rfl,B3.out⟩
theorem qlx:(Tryz.prog.info? 74).map (fun i=>(i.zero,i.size,i.bytes))=some (some (opv Opn.zero (.slice none 0 0)),20,192):=by kernel_rfl
theorem Cs.keeps {w w':World}{v:Value}{l:List Ct}(h:Cs w v l) (hk:Keeps w w'):Cs w' v l:=by
 obtain ⟨h0,a,c,h1,h2,h3,h4,h5⟩:=h
 refine ⟨h0,a,c,h1,h2,h3,h4,fun j u hu=>?_⟩
 obtain ⟨b,off,e1,e2⟩:=h5 j u hu
 have hm:u ∈ l.flatMap cutc:=List.mem_of_getElem? hu
 obtain ⟨q,_,hq⟩:=List.mem_flatMap.1 hm
 simp at hq
 rcases hq with rfl | rfl | rfl | rfl<;>exact ⟨b,off,e1,hk _ _ _ e2⟩
theorem Cs.blk {w:World}{v:Value}{l:List Ct}(h:Cs w v l) (hl:l≠[]) {k:Nat}(hk:v.ownBlock=some k):k<w.heap.size:=by
 obtain ⟨b,off,c,rfl,_,_,hb,_⟩:=Sl.inv h (List.length_pos_iff.2 hl) (by decide)
 simp [Value.ownBlock] at hk
 omega
theorem Cs.none {w w':World}{v:Value}(h:Cs w v []):Cs w' v []:=by
 obtain ⟨h0,a,c,h1,h2,h3,h4,h5⟩:=h
 exact ⟨h0,a,c,h1,h2,h3,h4,fun j u hu=>by simp at hu⟩
def Aw (v:Value) (p:Opn × Value):Prop:=p.1.cuts=[]∨∀ k,v.ownBlock=some k→p.2.ownBlock≠some k
theorem Aw.kept {w w':World}{v:Value}{p:Opn × Value}(h:Aw v p) (hc:Cs w p.2 p.1.cuts) (hf:Fr (fun k=>v.ownBlock=some k) w w'):Cs w' p.2 p.1.cuts:=by
 rcases h with h | h
 ·rw [h] at hc ⊢;exact hc.none
 ·exact Sl.kept hc (fun k hk hlt=>hf.block k hlt (fun e=>h k e hk))
theorem Aw.moved {w:World}{v v':Value}{p:Opn × Value}(h:Aw v p) (hc:Cs w p.2 p.1.cuts) (hv:v'.ownBlock=v.ownBlock∨v'.ownBlock=some w.heap.size):Aw v' p:=by
 by_cases he:p.1.cuts=[]
 ·exact .inl he
 ·refine .inr (fun k hk e=>?_)
  rcases hv with hv | hv
  ·exact (h.resolve_left he) k (by rw [←hv];exact hk) e
  ·rw [hv] at hk
   simp at hk
   have:=hc.blk he e
   omega
def Rw (B:Nat) (w:World) (v:Value) (l:List (Opn × Value)):Prop :=
 w.ownsRow B 74 20 v l.length (l.flatMap opc)∧Clean w v∧∀ p ∈ l,Cs w p.2 p.1.cuts∧Aw v p
theorem Rw.nil (B:Nat) (w:World):Rw B w (.slice none 0 0) []:=⟨World.ownsRow_nil _ _ _ _,Clean.nil w,fun p hp=>by cases hp⟩
theorem Rw.made {B:Nat}{w:World}(hB:B≤w.heap.size):Rw B (w.alloc (.cells #[] 74)) (.slice (some ⟨w.heap.size,0,none⟩) 0 0) []:=by
 refine ⟨World.ownsRow_made w #[] 0 hB (Nat.zero_le _) rfl,qhd (heap_alloc_new w _) (fun u hu=>by simp at hu),fun p hp=>by cases hp⟩
theorem Rw.form {B:Nat}{w:World}{v:Value}{l:List (Opn × Value)}(h:Rw B w v l):∃ a c,v=.slice a l.length c:=by
 obtain ⟨a,c,e,_⟩:=(Sl.of_own h.1).form
 exact ⟨a,c,e⟩
theorem Rw.os {B:Nat}{w:World}{v:Value}{l:List (Opn × Value)}(h:Rw B w v l):Os w v l:=⟨Sl.of_own h.1,fun p hp=>(h.2.2 p hp).1⟩
theorem Rw.below {B:Nat}{w w':World}{v:Value}{l:List (Opn × Value)}(h:Rw B w v l) (hb:Below w.heap.size w w'):Rw B w' v l :=
 ⟨qaz h.1 (Fr.of_below hb:Fr (fun _=>False) _ _) (fun _ _ h=>h),h.2.1.kept (fun k hk=>hb.block k (h.1.lt k hk).2),fun p hp=>⟨(h.2.2 p hp).1.below hb,(h.2.2 p hp).2⟩⟩
theorem Rw.cur {B T c:Nat}{w w':World}{v:Value}{l:List (Opn × Value)}{xs:List Int}{lost:Bool}(h:Rw B w v l) (hc:Cur T w c xs lost) (hT:T≠74) (hg:w.grownBy w' (some c)):Rw B w' v l:=by
 have hk:=hc.keeps hg
 obtain ⟨u,hu,_⟩:=hc
 have hne:v.ownBlock≠some c:=qbh h.1 hu hT
 have hf:Fr (fun k=>k=c) w w':=Fr.of_grown hg (fun k e=>by simp at e;exact e.symm)
 exact ⟨qaz h.1 hf (fun k hk e=>hne (by rw [←e];exact hk)),h.2.1.kept (fun k hk=>hf.block k (h.1.lt k hk).2 (fun e=>hne (by rw [←e];exact hk))),fun p hp=>⟨(h.2.2 p hp).1.keeps hk,(h.2.2 p hp).2⟩⟩
theorem quw {p:Opn × Value}{w:World}{l:List Ct}(h:Cs w p.2 l):(∀ u ∈ opc p,u.oneCell'=true)∧∀ u ∈ opc p,NoB u:=by
 obtain ⟨o,v⟩:=p
 obtain ⟨a,c,rfl,_⟩:=h.form
 constructor
 ·intro u hu
  simp [opl] at hu
  rcases hu with rfl | rfl | rfl | rfl | rfl | rfl | rfl | rfl | rfl | rfl | rfl | rfl | rfl | rfl | rfl | rfl | rfl | rfl | rfl | rfl<;>rfl
 ·intro u hu x e
  subst e
  simp [opl] at hu
theorem qdm {w:World}{ops:Array Oper}{rest:List Oper}{o:Oper}{a:Act}{Q:Exit→Act→World→Prop}(hgd:o.guard=none) (s x:Operand)
  (ho:o.op=.call { callee:=.builtin .append,args:=#[s,x],argTypes:=#[38,38] })
  (B:Nat) (v:Value) (l:List (Opn × Value)) (hs:a.eval s=v) (hR:Rw B w v l) (u:Value) (p:Opn × Value) (hx:a.eval x=u) (hu:Os w u [p]) (hp:Aw v p) (hlen:l.length≤1048576) (hB:B≤w.heap.size)
  (h:∀ v' w',Rw B w' v' (l++[p])→Fr (fun k=>v.ownBlock=some k) w w'→(v'.ownBlock=v.ownBlock∨v'.ownBlock=some w.heap.size)→wpList Tryz.prog ops Q rest (a.put o.dst v') w') :
  wpList Tryz.prog ops Q (o::rest) a w:=by
 have hcp:=hu.2 p (List.mem_singleton.2 rfl)
 obtain ⟨k1,k2⟩:=quw hcp
 refine qex 38 74 20 192 _ Tryz.underlying38 qlx rfl (by decide) hgd s x ho B v l.length (l.flatMap opc) hs hR.1 u 1 (opc p) hx (by have:=hu.1;simpa using this) k1 (by decide) (by omega) (by unfold maxLen;omega) hB hR.2.1
  (fun z hz x e=>by subst e;simp [Value.cells,opl] at hz) k2 ?_
 intro v' w' h1 h2 h3 h4
 have hf:Fr (fun k=>v.ownBlock=some k) w w':=Fr.of_grown h2 (fun k e=>e)
 refine h v' w' ⟨?_,h4,?_⟩ hf h3
 ·rw [List.length_append,List.flatMap_append];simpa using h1
 ·intro q hq
  have hqq:Cs w q.2 q.1.cuts∧Aw v q:=by
   rcases List.mem_append.1 hq with hq | hq
   ·exact hR.2.2 q hq
   ·rw [List.mem_singleton.1 hq];exact ⟨hcp,hp⟩
  exact ⟨hqq.2.kept hqq.1 hf,hqq.2.moved hqq.1 h3⟩
abbrev endc (p:Nat × Nat):List Value:=[.int .i64 p.1,.int .i64 p.2]
theorem qrd (p:Nat × Nat):(endc p).length=2:=rfl
def Ft (lb fb:Nat) (fv vo ve:Value) (k:Nat):Prop:=k=lb∨k=fb∨fv.ownBlock=some k∨vo.ownBlock=some k∨ve.ownBlock=some k
structure Lx (S S':Nat→Prop) (w w':World):Prop where
 fr:Fr S w w'
 new:∀ k,S' k→S k∨w.heap.size≤k
theorem Lx.of_below {S:Nat→Prop}{w w':World}(h:Below w.heap.size w w'):Lx S S w w':=⟨Fr.of_below h,fun k h=>.inl h⟩
theorem Lx.trans {S S1 S2:Nat→Prop}{a b c:World}(h:Lx S S1 a b) (k:Lx S1 S2 b c):Lx S S2 a c:=by
 refine ⟨h.fr.trans k.fr ?_,?_⟩
 ·intro i hi hs
  rcases h.new i hs with e | e
  ·exact e
  ·omega
 ·intro i hs
  have:=h.fr.size
  rcases k.new i hs with e | e
  ·exact h.new i e
  ·exact .inr (by omega)
theorem Lx.size {S S':Nat→Prop}{w w':World}(h:Lx S S' w w'):w.heap.size≤w'.heap.size:=h.fr.size
theorem Lx.below {S S':Nat→Prop}{B:Nat}{w w':World}(h:Lx S S' w w') (hs:∀ k,S k→B≤k) (hB:B≤w.heap.size):Below B w w' :=
 h.fr.below (fun k hk e=>by have:=hs k e;omega) hB
def Cq (S:Nat→Prop) (w:World) (l:List (Opn × Value)):Prop:=∀ p ∈ l,Cs w p.2 p.1.cuts∧(p.1.cuts=[]∨∀ k,p.2.ownBlock=some k→¬ S k)
theorem Cq.nil (S:Nat→Prop) (w:World):Cq S w []:=fun p hp=>by cases hp
theorem Cq.step {S S':Nat→Prop}{w w':World}{l:List (Opn × Value)}(h:Cq S w l) (x:Lx S S' w w'):Cq S' w' l:=by
 intro p hp
 obtain ⟨hc,hs⟩:=h p hp
 rcases hs with hs | hs
 ·rw [hs] at hc ⊢
  exact ⟨hc.none,.inl rfl⟩
 ·by_cases h0:p.1.cuts=[]
  ·rw [h0] at hc ⊢
   exact ⟨hc.none,.inl rfl⟩
  ·refine ⟨Sl.kept hc (fun k hk hlt=>x.fr.block k hlt (hs k hk)),.inr (fun k hk e=>?_)⟩
   have hlt:=hc.blk h0 hk
   rcases x.new k e with e | e
   ·exact hs k hk e
   ·omega
theorem Cq.append {S:Nat→Prop}{w:World}{l q:List (Opn × Value)}(h:Cq S w l) (k:Cq S w q):Cq S w (l++q):=fun p hp=>(List.mem_append.1 hp).elim (h p) (k p)
structure Lg (B:Nat) (w:World) (lb fb:Nat) (fv vo ve:Value) (xs:List Int) (n R:Nat) (r:Int) (l:List (Opn × Value)) (es:List (Nat × Nat)):Prop where
 blk:w.heap[lb]?=some (.cells #[.pointer (some ⟨fb,0,none⟩),.int .i64 r,vo,ve] 81 (0,0))
 base:B≤lb
 fi:Fi B w fb fv xs n R
 ro:w.ownsRow B 74 20 vo l.length (l.flatMap opc)
 re:w.ownsRow B 94 2 ve es.length (es.flatMap endc)
 cu:Cq (Ft lb fb fv vo ve) w l
section
variable {B:Nat} {w w':World} {lb fb:Nat} {fv vo ve:Value} {xs:List Int} {n R:Nat} {r:Int} {l:List (Opn × Value)} {es:List (Nat × Nat)}
theorem Lg.lt (h:Lg B w lb fb fv vo ve xs n R r l es):lb<w.heap.size:=(Array.getElem?_eq_some_iff.1 h.blk).1
theorem Lg.nf (h:Lg B w lb fb fv vo ve xs n R r l es):lb≠fb:=fun e=>by
 have h1:=h.blk
 rw [e,h.fi.1] at h1
 simp at h1
theorem Lg.nv (h:Lg B w lb fb fv vo ve xs n R r l es):fv.ownBlock≠some lb:=qbh h.fi.own h.blk (by decide)
theorem Lg.no (h:Lg B w lb fb fv vo ve xs n R r l es):vo.ownBlock≠some lb:=qbh h.ro h.blk (by decide)
theorem Lg.ne (h:Lg B w lb fb fv vo ve xs n R r l es):ve.ownBlock≠some lb:=qbh h.re h.blk (by decide)
theorem Lg.of (h:Lg B w lb fb fv vo ve xs n R r l es):vo.ownBlock≠some fb:=qbh h.ro h.fi.1 (by decide)
theorem Lg.ef (h:Lg B w lb fb fv vo ve xs n R r l es):ve.ownBlock≠some fb:=qbh h.re h.fi.1 (by decide)
theorem qcw {e e' sz sz' m m':Nat}{v v':Value}{c c':List Value}(h:w.ownsRow B e sz v m c) (h':w.ownsRow B e' sz' v' m' c') (he:e≠e') {k:Nat}(hk:v.ownBlock=some k):v'.ownBlock≠some k:=by
 rcases h.2 with ⟨rfl,_⟩ | ⟨g,cap,cur,rfl,_,hg,_⟩
 ·cases hk
 ·simp [Value.ownBlock] at hk
  subst hk
  exact qbh h' hg he
theorem Lg.inside (h:Lg B w lb fb fv vo ve xs n R r l es) {k:Nat}(hk:Ft lb fb fv vo ve k):B≤k∧k<w.heap.size:=by
 rcases hk with rfl | rfl | hk | hk | hk
 ·exact ⟨h.base,h.lt⟩
 ·exact ⟨h.fi.2.1,h.fi.lt⟩
 ·exact h.fi.own.lt k hk
 ·exact h.ro.lt k hk
 ·exact h.re.lt k hk
theorem Lg.below (h:Lg B w lb fb fv vo ve xs n R r l es) (hb:Below w.heap.size w w'):Lg B w' lb fb fv vo ve xs n R r l es:=by
 have hk:∀ k,Ft lb fb fv vo ve k→w'.heap[k]?=w.heap[k]?:=fun k hk=>hb.block k (h.inside hk).2
 have hF:Fr (fun _=>False) w w':=Fr.of_below hb
 exact ⟨(hk lb (.inl rfl)).trans h.blk,h.base,h.fi.below hb,qaz h.ro hF (fun _ _ e=>e),qaz h.re hF (fun _ _ e=>e),h.cu.step (Lx.of_below hb)⟩
theorem Lg.drewN (h:Lg B w lb fb fv vo ve xs n R r l es) (m:Nat):Lg B (w.drewN m) lb fb fv vo ve xs n R r l es:=h.below (bd w m)
theorem Lg.fr {S':Nat→Prop}(h:Lg B w lb fb fv vo ve xs n R r l es) (x:Lx (Ft lb fb fv vo ve) S' w w') (hB:B≤w.heap.size):Below B w w':=x.below (fun k hk=>(h.inside hk).1) hB
theorem Lg.os (h:Lg B w lb fb fv vo ve xs n R r l es):Os w vo l:=⟨Sl.of_own h.ro,fun p hp=>(h.cu p hp).1⟩
theorem Lg.cells (h:Lg B w lb fb fv vo ve xs n R r l es) :
  ∃ a c a2 c2,vo=.slice a l.length c∧ve=.slice a2 es.length c2∧l.length≤c∧es.length≤c2∧w.cell? ⟨lb,0,none⟩=some (.pointer (some ⟨fb,0,none⟩))∧w.cell? ⟨lb,1,none⟩=some (.int .i64 r)∧w.cell? ⟨lb,2,none⟩=some (.slice a l.length c)∧w.cell? ⟨lb,3,none⟩=some (.slice a2 es.length c2)∧w.frozen? ⟨lb,2,none⟩=false∧w.frozen? ⟨lb,3,none⟩=false:=by
 have f1:∃ a c,vo=.slice a l.length c∧l.length≤c:=by
  rcases h.ro.2 with ⟨h1,h2⟩ | ⟨g,cap,cur,hv,_,_,hc,_⟩
  ·exact ⟨none,0,by rw [h1,h2],by omega⟩
  ·exact ⟨_,cap,hv,hc⟩
 have f2:∃ a c,ve=.slice a es.length c∧es.length≤c:=by
  rcases h.re.2 with ⟨h1,h2⟩ | ⟨g,cap,cur,hv,_,_,hc,_⟩
  ·exact ⟨none,0,by rw [h1,h2],by omega⟩
  ·exact ⟨_,cap,hv,hc⟩
 obtain ⟨a,c,e,hc⟩:=f1
 obtain ⟨a2,c2,e2,hc2⟩:=f2
 refine ⟨a,c,a2,c2,e,e2,hc,hc2,?_,?_,?_,?_,frozen_of_row w lb 2 _ _ h.blk,frozen_of_row w lb 3 _ _ h.blk⟩
 ·rw [cell_of_row w lb 0 _ _ _ h.blk];rfl
 ·rw [cell_of_row w lb 1 _ _ _ h.blk];rfl
 ·rw [cell_of_row w lb 2 _ _ _ h.blk,←e];rfl
 ·rw [cell_of_row w lb 3 _ _ _ h.blk,←e2];rfl
theorem Lg.file {fv':Value}{xs':List Int}{n':Nat}(h:Lg B w lb fb fv vo ve xs n R r l es) (hf:Fi B w' fb fv' xs' n' R) (hx:Fx fb fv fv' w w') :
  Lg B w' lb fb fv' vo ve xs' n' R r l es∧Lx (Ft lb fb fv vo ve) (Ft lb fb fv' vo ve) w w':=by
 have x:Lx (Ft lb fb fv vo ve) (Ft lb fb fv' vo ve) w w':=by
  refine ⟨hx.1.mono (fun k hk=>?_),fun k hk=>?_⟩
  ·rcases hk with rfl | hk
   ·exact .inr (.inl rfl)
   ·exact .inr (.inr (.inl hk))
  ·rcases hk with rfl | rfl | hk | hk | hk
   ·exact .inl (.inl rfl)
   ·exact .inl (.inr (.inl rfl))
   ·exact (hx.2 k hk).imp (fun e=>.inr (.inr (.inl e))) id
   ·exact .inl (.inr (.inr (.inr (.inl hk))))
   ·exact .inl (.inr (.inr (.inr (.inr hk))))
 refine ⟨⟨?_,h.base,hf,?_,?_,h.cu.step x⟩,x⟩
 ·rw [hx.block h.lt h.nf h.nv];exact h.blk
 ·refine qaz h.ro hx.1 (fun k hk e=>?_)
  rcases e with rfl | e
  ·exact h.of hk
  ·exact qcw h.ro h.fi.own (by decide) hk e
 ·refine qaz h.re hx.1 (fun k hk e=>?_)
  rcases e with rfl | e
  ·exact h.ef hk
  ·exact qcw h.re h.fi.own (by decide) hk e
theorem Lg.ops {vo':Value}{l':List (Opn × Value)}(h:Lg B w lb fb fv vo ve xs n R r l es) (hown:w'.ownsRow B 74 20 vo' l'.length (l'.flatMap opc)) (hfr:Fr (fun k=>vo.ownBlock=some k) w w')
  (hv:∀ k,vo'.ownBlock=some k→vo.ownBlock=some k∨w.heap.size≤k) (hq:Cq (Ft lb fb fv vo ve) w l') :
  Lg B (w'.setCell ⟨lb,2,none⟩ vo') lb fb fv vo' ve xs n R r l' es∧Lx (Ft lb fb fv vo ve) (Ft lb fb fv vo' ve) w (w'.setCell ⟨lb,2,none⟩ vo'):=by
 have hb':w'.heap[lb]?=some (.cells #[.pointer (some ⟨fb,0,none⟩),.int .i64 r,vo,ve] 81 (0,0)):=by rw [hfr.block lb h.lt h.no];exact h.blk
 have hne':vo'.ownBlock≠some lb:=fun e=>by
  rcases hv lb e with e | e
  ·exact h.no e
  ·have:=h.lt;omega
 have hx:Fr (fun k=>k=lb∨vo.ownBlock=some k) w (w'.setCell ⟨lb,2,none⟩ vo'):=(hfr.mono (fun k e=>.inr e)).trans ((Fr.of_set w' lb 2 vo').mono (fun k e=>.inl e)) (fun _ _ h=>h)
 have x:Lx (Ft lb fb fv vo ve) (Ft lb fb fv vo' ve) w (w'.setCell ⟨lb,2,none⟩ vo'):=by
  refine ⟨hx.mono (fun k hk=>?_),fun k hk=>?_⟩
  ·rcases hk with rfl | hk
   ·exact .inl rfl
   ·exact .inr (.inr (.inr (.inl hk)))
  ·rcases hk with rfl | rfl | hk | hk | hk
   ·exact .inl (.inl rfl)
   ·exact .inl (.inr (.inl rfl))
   ·exact .inl (.inr (.inr (.inl hk)))
   ·exact (hv k hk).imp (fun e=>.inr (.inr (.inr (.inl e)))) id
   ·exact .inl (.inr (.inr (.inr (.inr hk))))
 refine ⟨⟨by rw [heap_setCell_same w' lb 2 _ _ vo' hb'];simp,h.base,?_,ownsRow_setCell_other hown hne' _,?_,hq.step x⟩,x⟩
 ·refine h.fi.of_block (fun k hk=>hx.block k ?_ (fun e=>?_))
  ·rcases hk with rfl | hk
   ·exact h.fi.lt
   ·exact (h.fi.own.lt k hk).2
  ·rcases e with rfl | e
   ·rcases hk with hk | hk
    ·exact h.nf hk
    ·exact h.nv hk
   ·rcases hk with rfl | hk
    ·exact h.of e
    ·exact qcw h.ro h.fi.own (by decide) e hk
 ·refine qaz h.re hx (fun k hk e=>?_)
  rcases e with rfl | e
  ·exact h.ne hk
  ·exact qcw h.ro h.re (by decide) e hk
theorem Lg.ends {ve':Value}{es':List (Nat × Nat)}(h:Lg B w lb fb fv vo ve xs n R r l es) (hown:w'.ownsRow B 94 2 ve' es'.length (es'.flatMap endc)) (hfr:Fr (fun k=>ve.ownBlock=some k) w w')
  (hv:∀ k,ve'.ownBlock=some k→ve.ownBlock=some k∨w.heap.size≤k) :
  Lg B (w'.setCell ⟨lb,3,none⟩ ve') lb fb fv vo ve' xs n R r l es'∧Lx (Ft lb fb fv vo ve) (Ft lb fb fv vo ve') w (w'.setCell ⟨lb,3,none⟩ ve'):=by
 have hb':w'.heap[lb]?=some (.cells #[.pointer (some ⟨fb,0,none⟩),.int .i64 r,vo,ve] 81 (0,0)):=by rw [hfr.block lb h.lt h.ne];exact h.blk
 have hne':ve'.ownBlock≠some lb:=fun e=>by
  rcases hv lb e with e | e
  ·exact h.ne e
  ·have:=h.lt;omega
 have hx:Fr (fun k=>k=lb∨ve.ownBlock=some k) w (w'.setCell ⟨lb,3,none⟩ ve'):=(hfr.mono (fun k e=>.inr e)).trans ((Fr.of_set w' lb 3 ve').mono (fun k e=>.inl e)) (fun _ _ h=>h)
 have x:Lx (Ft lb fb fv vo ve) (Ft lb fb fv vo ve') w (w'.setCell ⟨lb,3,none⟩ ve'):=by
  refine ⟨hx.mono (fun k hk=>?_),fun k hk=>?_⟩
  ·rcases hk with rfl | hk
   ·exact .inl rfl
   ·exact .inr (.inr (.inr (.inr hk)))
  ·rcases hk with rfl | rfl | hk | hk | hk
   ·exact .inl (.inl rfl)
   ·exact .inl (.inr (.inl rfl))
   ·exact .inl (.inr (.inr (.inl hk)))
   ·exact .inl (.inr (.inr (.inr (.inl hk))))
   ·exact (hv k hk).imp (fun e=>.inr (.inr (.inr (.inr e)))) id
 refine ⟨⟨by rw [heap_setCell_same w' lb 3 _ _ ve' hb'];simp,h.base,?_,?_,ownsRow_setCell_other hown hne' _,h.cu.step x⟩,x⟩
 ·refine h.fi.of_block (fun k hk=>hx.block k ?_ (fun e=>?_))
  ·rcases hk with rfl | hk
   ·exact h.fi.lt
   ·exact (h.fi.own.lt k hk).2
  ·rcases e with rfl | e
   ·rcases hk with hk | hk
    ·exact h.nf hk
    ·exact h.nv hk
   ·rcases hk with rfl | hk
    ·exact h.ef e
    ·exact qcw h.re h.fi.own (by decide) e hk
 ·refine qaz h.ro hx (fun k hk e=>?_)
  rcases e with rfl | e
  ·exact h.no hk
  ·exact qcw h.ro h.re (by decide) hk e
theorem Lg.fresh (hf:Fi B w fb fv xs n R) (hB:B≤w.heap.size) (r:Int) :
  Lg B (w.alloc (.cells #[.pointer (some ⟨fb,0,none⟩),.int .i64 r,.slice none 0 0,.slice none 0 0] 81 (0,0))) w.heap.size fb fv (.slice none 0 0) (.slice none 0 0) xs n R r [] [] :=
 ⟨heap_alloc_new w _,hB,hf.below (ba w _),⟨rfl,.inl ⟨rfl,rfl⟩⟩,⟨rfl,.inl ⟨rfl,rfl⟩⟩,Cq.nil _ _⟩
end
end Go.Proofs.YtkcjkncpaopjbaaGreatDoor
