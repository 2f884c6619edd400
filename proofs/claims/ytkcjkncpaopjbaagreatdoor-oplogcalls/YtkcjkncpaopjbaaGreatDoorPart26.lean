/-
  Parts of the proof, one behind the other; what each proves stands at its head.
-/
import Derived.Test.YtkcjkncpaopjbaaGreatDoorPart25
import Derived.Test.YtkcjkncpaopjbaaGreatDoorPart22
import Derived.Test.YtkcjkncpaopjbaaGreatDoorPart17
import Derived.Test.YtkcjkncpaopjbaaGreatDoorPart6
import Derived.Test.YtkcjkncpaopjbaaGreatDoorPart23
import Derived.Test.YtkcjkncpaopjbaaGreatDoorPart20
import Derived.Test.YtkcjkncpaopjbaaGreatDoorPart10
import Derived.Test.YtkcjkncpaopjbaaGreatDoorPart13

namespace Go.Proofs.YtkcjkncpaopjbaaGreatDoor
open Go.RowKit
set_option linter.unusedVariables false
set_option maxRecDepth 100000
structure AllN (o:Opn):Prop where
 k:Num49 o.k
 ir:Num49 o.ir
 im:Num49 o.im
 t:Num49 o.t
 br:Num49 o.br
 bm:Num49 o.bm
 pr:Num49 o.pr
 pm:Num49 o.pm
 sr:Num49 o.sr
 sm:Num49 o.sm
 lr:Num49 o.lr
 lm:Num49 o.lm
 li:Num49 o.li
 gr:Num49 o.gr
 gm:Num49 o.gm
 gi:Num49 o.gi
 key:o.key.size≤549755813888
 text:o.text.size≤549755813888
theorem qgg {o:Opn}{f:Nat}(h:goodF o f=true):rightF o f=true∨noughtF o f=true:=by
 unfold goodF at h
 split at h
 ·exact .inl h
 ·exact .inr h
theorem alln {o:Opn}(h:rightO o=true):AllN o:=by
 obtain ⟨⟨p1,p2,p3⟩,hg⟩:=qbn h
 have q1:=qbm p1
 have q2:0≤o.ir∧o.ir<16∧1≤o.t∧o.t≤1099511627776:=by simpa [rs] using p2
 have q3:=six p3
 have f0:0≤o.br∧o.br<16∧0≤o.bm∧o.bm≤1048576:=by
  rcases qgg (hg 0 (by decide)) with h | h
  ·have:=qbm h;omega
  ·simp [noughtF] at h;omega
 have f1:0≤o.pr∧o.pr<16∧0≤o.pm∧o.pm≤1048576:=by
  rcases qgg (hg 1 (by decide)) with h | h
  ·have:=qgv h;omega
  ·simp [noughtF] at h;omega
 have f2:o.key.size≤549755813888:=by
  rcases qgg (hg 2 (by decide)) with h | h
  ·simp [rightF,K.right,qaw] at h;omega
  ·have:o.key.size=0:=by simpa only [noughtF,decide_eq_true_eq] using h
   omega
 have f3:0≤o.sr∧o.sr<16∧0≤o.sm∧o.sm≤1048576:=by
  rcases qgg (hg 3 (by decide)) with h | h
  ·have:=qbm h;omega
  ·simp [noughtF] at h;omega
 have f4:0≤o.lr∧o.lr<16∧0≤o.lm∧o.lm≤1048576∧0≤o.li∧o.li<64:=by
  rcases qgg (hg 4 (by decide)) with h | h
  ·exact qdi h
  ·simp [noughtF] at h;omega
 have f5:0≤o.gr∧o.gr<16∧0≤o.gm∧o.gm≤1048576∧0≤o.gi∧o.gi<64:=by
  rcases qgg (hg 5 (by decide)) with h | h
  ·exact qdi h
  ·simp [noughtF] at h;omega
 have f6:o.text.size≤549755813888:=by
  rcases qgg (hg 6 (by decide)) with h | h
  ·simp [rightF] at h;omega
  ·have:o.text.size=0:=by simpa only [noughtF,decide_eq_true_eq] using h
   omega
 constructor<;>first | (unfold Num49;omega) | assumption
def En (B:Nat) (w:World) (v:Value) (xs:List Int) (k:Nat):Prop:=w.ownsRow B 5 1 v xs.length (cs xs)∧xs.length≤k*1099511627776∧∀ x ∈ xs,0≤x∧x<256
theorem En.below {B:Nat}{w w':World}{v:Value}{xs:List Int}{k:Nat}(h:En B w v xs k) (hb:Below w.heap.size w w'):En B w' v xs k:=⟨qau h.1 hb,h.2⟩
theorem En.form {B:Nat}{w:World}{v:Value}{xs:List Int}{k:Nat}(h:En B w v xs k):∃ a n c,v=.slice a n c:=by
 obtain ⟨a,c,e,_⟩:=qbb h.1
 exact ⟨a,_,c,e⟩
theorem qaf {w w0:World}{ops:Array Oper}{rest:List Oper}{o:Oper}{a:Act}{Q:Exit→Act→World→Prop}(hgd:o.guard=none) (s x:Operand)
  (ho:o.op=.call { callee:=.builtin .append,args:=#[s,x],argTypes:=#[36,36] })
  {v:Value} {xs:List Int} {k:Nat} (hs:a.eval s=v) (hW:En w0.heap.size w v xs k) (u:Value) {ys:List Int} (hx:a.eval x=u) (hu:Bs w u ys) (hul:ys.length≤1099511627776) (hk:k≤100)
  (hB:Below w0.heap.size w0 w) {b:Nat} {p:Opn} {pv:Value} (hO:Ob w b p pv)
  (h:∀ va n vc w',En w0.heap.size w' (.slice va n vc) (xs++ys) (k+1)→Ob w' b p pv→Below w0.heap.size w0 w'→wpList Tryz.prog ops Q rest (a.put o.dst (.slice va n vc)) w') :
  wpList Tryz.prog ops Q (o::rest) a w:=by
 have hl:=hW.2.1
 have hkk:k*1099511627776≤100*1099511627776:=Nat.mul_le_mul_right _ hk
 refine qag hgd s x ho w0.heap.size v xs.length xs hs hW.1 u ys hx hu (by omega) hB.size ?_
 intro v' w' h1 h2 _
 have hE:En w0.heap.size w' v' (xs++ys) (k+1):=⟨by rw [List.length_append];exact h1,by rw [List.length_append,Nat.add_mul];omega,fun z hz=>by
  rcases List.mem_append.1 hz with hz | hz
  ·exact hW.2.2 z hz
  ·exact hu.range z hz⟩
 have hO':Ob w' b p pv:=(h2.block b hO.lt (fun e=>qbh hW.1 hO (by decide) e.symm)).trans hO
 have hB':Below w0.heap.size w0 w':=Below.grown hB h2 hB.size (fun j hj=>(hW.1.lt j hj).1)
 obtain ⟨va,n,vc,rfl⟩:=hE.form
 exact h va n vc w' hE hO' hB'
def Gv (e:List Int) (w:World) (z:Ending) (w':World):Prop:=∃ va n vc,z=.returned (.slice va n vc)∧Bs w' (.slice va n vc) e∧e.length≤1099511627776∧Below w.heap.size w w'
theorem Gv.mk {e:List Int}{w w':World}{v:Value}(h:Mk e w v w') (hr:∀ x ∈ e,0≤x∧x<256) (hl:e.length≤1099511627776):Gv e w (.returned v) w':=by
 obtain ⟨a,c,rfl,_⟩:=qbb h.1
 exact ⟨a,_,c,rfl,Bs.of_own h.1 hr,hl,h.2⟩
theorem qjq {n:Int}(h:Num49 n):∀ x ∈ M.enc n,0≤x∧x<256:=M.enc_byte n h.1 h.2
theorem qbs (n:Int):(M.enc n).length≤7:=by rw [M.enc_length];exact (M.sz_pos n).2
theorem qhb {a b:Int}(h1:Num49 a) (h2:Num49 b):∀ x ∈ en2 a b,0≤x∧x<256:=fun x hx=>(List.mem_append.1 hx).elim (qjq h1 x) (qjq h2 x)
theorem en3_b {a b c:Int}(h1:Num49 a) (h2:Num49 b) (h3:Num49 c):∀ x ∈ en3 a b c,0≤x∧x<256:=fun x hx=>(List.mem_append.1 hx).elim (qhb h1 h2 x) (qjq h3 x)
theorem qez (n:Int) (w:World) (h:Num49 n):Calls Tryz.prog 84 #[.int .i64 n] w fun z w'=>Gv (M.enc n) w z w' :=
 (xnumb n w h).mono fun _ _ ⟨v,h1,h2⟩=>by subst h1;exact Gv.mk h2 (qjq h) (by have:=qbs n;omega)
theorem qfa (r n:Int) (w:World) (h1:Num49 r) (h2:Num49 n):Calls Tryz.prog 110 #[idv r n] w fun z w'=>Gv (en2 r n) w z w' :=
 (qdg r n w h1 h2).mono fun _ _ ⟨v,e,h⟩=>by subst e;exact Gv.mk h (qhb h1 h2) (by unfold en2;rw [List.length_append];have:=qbs r;have:=qbs n;omega)
theorem qla (r n i:Int) (w:World) (h1:Num49 r) (h2:Num49 n) (h3:Num49 i):Calls Tryz.prog 111 #[chv r n i] w fun z w'=>Gv (en3 r n i) w z w' :=
 (qtc r n i w h1 h2 h3).mono fun _ _ ⟨v,e,h⟩=>by subst e;exact Gv.mk h (en3_b h1 h2 h3) (by unfold en3;rw [List.length_append,List.length_append];have:=qbs r;have:=qbs n;have:=qbs i;omega)
theorem qim (s:ByteArray) (w:World) (h:s.size≤549755813888):Calls Tryz.prog 86 #[.string s] w fun z w'=>Gv (M.encText s) w z w' :=
 (qlr s w (by omega)).mono fun _ _ ⟨v,e,hb,hB⟩=>by
  subst e
  obtain ⟨a,c,rfl⟩:=hb.form
  exact ⟨a,_,c,rfl,hb,by rw [qbf];have:=(M.sz_pos s.size).2;omega,hB⟩
theorem qwi {w:World}{v:Value}{l:List Ct}(h:Cs w v l) {j:Nat}(hj:j<l.length):∃ gb off c,v=.slice (some ⟨gb,off,none⟩) l.length c∧w.cell? ⟨gb,off+j*4,none⟩=some (.int .i64 l[j].r)∧w.cell? ⟨gb,off+j*4+1,none⟩=some (.int .i64 l[j].n)∧w.cell? ⟨gb,off+j*4+2,none⟩=some (.int .i64 l[j].f)∧w.cell? ⟨gb,off+j*4+3,none⟩=some (.int .i64 l[j].t):=by
 obtain ⟨gb,off,c,e,_,_,_,hc⟩:=Sl.inv h (by omega) (by decide)
 have hat:∀ m,m<4→(l.flatMap cutc)[j*4+m]?=(cutc l[j])[m]?:=fun m hm=>by
  have hgen:∀ (l:List Ct) (j:Nat) (hj:j<l.length),(l.flatMap cutc)[j*4+m]?=(cutc l[j])[m]?:=by
   intro l
   induction l with
   | nil=>intro j hj;simp at hj
   | cons a r ih =>
    intro j hj
    rw [List.flatMap_cons]
    cases j with
    | zero=>rw [List.getElem?_append_left (by simp;omega)];simp
    | succ j =>
     rw [List.getElem?_append_right (by simp;omega)]
     have hx:=ih j (by simpa using hj)
     have he:(j+1)*4+m - (cutc a).length=j*4+m:=by simp;omega
     rw [he,hx]
     simp
  exact hgen l j hj
 refine ⟨gb,off,c,e,hc (j*4) _ (by have:=hat 0 (by decide);simpa using this),?_,?_,?_⟩
 ·rw [Nat.add_assoc];exact hc (j*4+1) _ (by rw [hat 1 (by decide)];rfl)
 ·rw [Nat.add_assoc];exact hc (j*4+2) _ (by rw [hat 2 (by decide)];rfl)
 ·rw [Nat.add_assoc];exact hc (j*4+3) _ (by rw [hat 3 (by decide)];rfl)
def Ev (xs:List Int) (w:World) (z:Ending) (w':World):Prop:=∃ va n vc,z=.returned (.tuple #[.slice va n vc,.bool true])∧Bs w' (.slice va n vc) xs∧Below w.heap.size w w'
theorem Ev.mk {xs ys:List Int}{w w':World}{va:Option Addr}{n vc k:Nat}(h:En w.heap.size w' (.slice va n vc) ys k) (he:ys=xs) (hb:Below w.heap.size w w'):Ev xs w (.returned (.tuple #[.slice va n vc,.bool true])) w':=by
 subst he
 exact ⟨va,n,vc,rfl,Bs.of_own h.1 h.2.2,hb⟩
set_option maxHeartbeats 8000000 in
theorem xenc1 (A:Value) (o:Opn) (v:Value) (hA:A=opv o v) (w:World) (hC:Cs w v o.cuts) (hfin:o.fine) (hR:rightO o=true) (hk:o.k=1):Calls Tryz.prog 85 #[A] w fun z w'=>Ev (encO o) w z w':=by
 have HEQ:Hid (encO o=(M.enc o.k++M.enc o.ir++M.enc o.im++M.enc o.t)++(told 1).flatMap (encF o)):=by show encO o=_;unfold encO;rw [hk]
 have HAA:=hid hA
 have HC:=hid hC
 have HFIN:=hid hfin
 have HRI:=hid hR
 have AN:=hid (alln hR)
 clear hA hC hfin
 go_enter Tryz.func85,Tryz.ntmps85
 go_wp2_with (first | (refine qac rfl _ rfl A rfl o v HAA.out ?_;intro w1 hob hb1 hlt1;have HO1:=hid hob;have B1:=hid hb1;clear hob hb1 hlt1) | (refine qae rfl _ rfl _ rfl _ _ HO1.out ?_))
 refine (qcb o v w1 (HC.out.below B1.out) HFIN.out).mono ?_
 rintro e w2 ⟨rfl,b2⟩
 rw [HRI.out]
 have HO2:=hid (HO1.out.below b2)
 have B2:=hid (bt B1.out b2)
 clear b2 hR
 go_wp2_with fail
 refine qhv (b:=w.heap.size) (o:=o) (v:=v) (e1:=M.enc o.k) (e2:=en2 o.ir o.im) HO2.out (fun W=>xnumb o.k W AN.out.k) (fun W=>qdg o.ir o.im W AN.out.ir AN.out.im) (qhb AN.out.ir AN.out.im) (by unfold en2;rw [List.length_append];have:=qbs o.k;have:=qbs o.ir;have:=qbs o.im;omega) (fun _ _ _ _ _ h=>h) (fun v1 v2 v3 W3 ho hb=>?_)
 have HW:Hid (En w.heap.size W3 v3 (M.enc o.k++en2 o.ir o.im) 1):=⟨qdj ho B2.out.size,by unfold en2;rw [List.length_append,List.length_append];have:=qbs o.k;have:=qbs o.ir;have:=qbs o.im;omega,fun x hx=>(List.mem_append.1 hx).elim (qjq AN.out.k x) (qhb AN.out.ir AN.out.im x)⟩
 have HO:=hid (HO2.out.below hb)
 have BB:=hid (bt B2.out hb)
 obtain ⟨va3,n3,vc3,hv3⟩:=HW.out.form
 subst hv3
 clear ho hb HO1 HO2 B1 B2
 go_upto_region 4 with fail
 go_upto_region 5 with (first | (refine qcm rfl rfl HO.out rfl ?_) | (go_at_call 84;refine (qez o.t _ AN.out.t).mono ?_;rintro e w9 ⟨ua,un,uc,rfl,hu,hul,hb⟩;replace HO:=hid (HO.out.below hb);replace HW:=hid (HW.out.below hb);replace BB:=hid (bt BB.out hb);have HU:=hid hu;have HUL:=hid hul;clear hu hul hb) | (at_builtin;refine qaf rfl _ _ rfl rfl HW.out _ rfl HU.out HUL.out (by decide) BB.out HO.out ?_;intro va9 n9 vc9 w9 hw hob hbb;replace HW:=hid hw;replace HO:=hid hob;replace BB:=hid hbb;clear hw hob hbb))
 go_upto_region 7 with (first | (refine qad rfl rfl HO.out rfl ?_))
 go_upto_region 11 with (first | (refine qad rfl rfl HO.out rfl ?_))
 go_upto_region 12 with (first | (refine qad rfl rfl HO.out rfl ?_))
 go_upto_region 13 with (first | (refine qdb rfl rfl HO.out rfl ?_) | (go_at_call 110;refine (qfa o.pr o.pm _ AN.out.pr AN.out.pm).mono ?_;rintro e w9 ⟨ua,un,uc,rfl,hu,hul,hb⟩;replace HO:=hid (HO.out.below hb);replace HW:=hid (HW.out.below hb);replace BB:=hid (bt BB.out hb);have HU:=hid hu;have HUL:=hid hul;clear hu hul hb) | (at_builtin;refine qaf rfl _ _ rfl rfl HW.out _ rfl HU.out HUL.out (by decide) BB.out HO.out ?_;intro va9 n9 vc9 w9 hw hob hbb;replace HW:=hid hw;replace HO:=hid hob;replace BB:=hid hbb;clear hw hob hbb))
 go_upto_region 14 with (first | (refine qef rfl rfl HO.out rfl ?_) | (go_at_call 86;refine (qim o.key _ AN.out.key).mono ?_;rintro e w9 ⟨ua,un,uc,rfl,hu,hul,hb⟩;replace HO:=hid (HO.out.below hb);replace HW:=hid (HW.out.below hb);replace BB:=hid (bt BB.out hb);have HU:=hid hu;have HUL:=hid hul;clear hu hul hb) | (at_builtin;refine qaf rfl _ _ rfl rfl HW.out _ rfl HU.out HUL.out (by decide) BB.out HO.out ?_;intro va9 n9 vc9 w9 hw hob hbb;replace HW:=hid hw;replace HO:=hid hob;replace BB:=hid hbb;clear hw hob hbb))
 go_upto_region 16 with (first | (refine qad rfl rfl HO.out rfl ?_))
 go_upto_region 24 with (first | (refine qad rfl rfl HO.out rfl ?_))
 go_upto_region 29 with (first | (refine qad rfl rfl HO.out rfl ?_))
 go_wp2
 go_ret2
 refine Ev.mk HW.out ?_ BB.out
 rw [HEQ.out]
 simp [told,encF,en2,List.append_assoc]
set_option maxHeartbeats 8000000 in
theorem xenc2 (A:Value) (o:Opn) (v:Value) (hA:A=opv o v) (w:World) (hC:Cs w v o.cuts) (hfin:o.fine) (hR:rightO o=true) (hk:o.k=2):Calls Tryz.prog 85 #[A] w fun z w'=>Ev (encO o) w z w':=by
 have HEQ:Hid (encO o=(M.enc o.k++M.enc o.ir++M.enc o.im++M.enc o.t)++(told 2).flatMap (encF o)):=by show encO o=_;unfold encO;rw [hk]
 have HAA:=hid hA
 have HC:=hid hC
 have HFIN:=hid hfin
 have HRI:=hid hR
 have AN:=hid (alln hR)
 clear hA hC hfin
 go_enter Tryz.func85,Tryz.ntmps85
 go_wp2_with (first | (refine qac rfl _ rfl A rfl o v HAA.out ?_;intro w1 hob hb1 hlt1;have HO1:=hid hob;have B1:=hid hb1;clear hob hb1 hlt1) | (refine qae rfl _ rfl _ rfl _ _ HO1.out ?_))
 refine (qcb o v w1 (HC.out.below B1.out) HFIN.out).mono ?_
 rintro e w2 ⟨rfl,b2⟩
 rw [HRI.out]
 have HO2:=hid (HO1.out.below b2)
 have B2:=hid (bt B1.out b2)
 clear b2 hR
 go_wp2_with fail
 refine qhv (b:=w.heap.size) (o:=o) (v:=v) (e1:=M.enc o.k) (e2:=en2 o.ir o.im) HO2.out (fun W=>xnumb o.k W AN.out.k) (fun W=>qdg o.ir o.im W AN.out.ir AN.out.im) (qhb AN.out.ir AN.out.im) (by unfold en2;rw [List.length_append];have:=qbs o.k;have:=qbs o.ir;have:=qbs o.im;omega) (fun _ _ _ _ _ h=>h) (fun v1 v2 v3 W3 ho hb=>?_)
 have HW:Hid (En w.heap.size W3 v3 (M.enc o.k++en2 o.ir o.im) 1):=⟨qdj ho B2.out.size,by unfold en2;rw [List.length_append,List.length_append];have:=qbs o.k;have:=qbs o.ir;have:=qbs o.im;omega,fun x hx=>(List.mem_append.1 hx).elim (qjq AN.out.k x) (qhb AN.out.ir AN.out.im x)⟩
 have HO:=hid (HO2.out.below hb)
 have BB:=hid (bt B2.out hb)
 obtain ⟨va3,n3,vc3,hv3⟩:=HW.out.form
 subst hv3
 clear ho hb HO1 HO2 B1 B2
 go_upto_region 4 with fail
 go_upto_region 5 with (first | (refine qcm rfl rfl HO.out rfl ?_) | (go_at_call 84;refine (qez o.t _ AN.out.t).mono ?_;rintro e w9 ⟨ua,un,uc,rfl,hu,hul,hb⟩;replace HO:=hid (HO.out.below hb);replace HW:=hid (HW.out.below hb);replace BB:=hid (bt BB.out hb);have HU:=hid hu;have HUL:=hid hul;clear hu hul hb) | (at_builtin;refine qaf rfl _ _ rfl rfl HW.out _ rfl HU.out HUL.out (by decide) BB.out HO.out ?_;intro va9 n9 vc9 w9 hw hob hbb;replace HW:=hid hw;replace HO:=hid hob;replace BB:=hid hbb;clear hw hob hbb))
 go_upto_region 6 with (first | (refine qad rfl rfl HO.out rfl ?_))
 go_upto_region 7 with (first | (refine qew rfl rfl HO.out rfl ?_) | (go_at_call 110;refine (qfa o.br o.bm _ AN.out.br AN.out.bm).mono ?_;rintro e w9 ⟨ua,un,uc,rfl,hu,hul,hb⟩;replace HO:=hid (HO.out.below hb);replace HW:=hid (HW.out.below hb);replace BB:=hid (bt BB.out hb);have HU:=hid hu;have HUL:=hid hul;clear hu hul hb) | (at_builtin;refine qaf rfl _ _ rfl rfl HW.out _ rfl HU.out HUL.out (by decide) BB.out HO.out ?_;intro va9 n9 vc9 w9 hw hob hbb;replace HW:=hid hw;replace HO:=hid hob;replace BB:=hid hbb;clear hw hob hbb))
 go_upto_region 11 with (first | (refine qad rfl rfl HO.out rfl ?_))
 go_upto_region 12 with (first | (refine qad rfl rfl HO.out rfl ?_))
 go_upto_region 13 with (first | (refine qdb rfl rfl HO.out rfl ?_) | (go_at_call 110;refine (qfa o.pr o.pm _ AN.out.pr AN.out.pm).mono ?_;rintro e w9 ⟨ua,un,uc,rfl,hu,hul,hb⟩;replace HO:=hid (HO.out.below hb);replace HW:=hid (HW.out.below hb);replace BB:=hid (bt BB.out hb);have HU:=hid hu;have HUL:=hid hul;clear hu hul hb) | (at_builtin;refine qaf rfl _ _ rfl rfl HW.out _ rfl HU.out HUL.out (by decide) BB.out HO.out ?_;intro va9 n9 vc9 w9 hw hob hbb;replace HW:=hid hw;replace HO:=hid hob;replace BB:=hid hbb;clear hw hob hbb))
 go_upto_region 14 with (first | (refine qef rfl rfl HO.out rfl ?_) | (go_at_call 86;refine (qim o.key _ AN.out.key).mono ?_;rintro e w9 ⟨ua,un,uc,rfl,hu,hul,hb⟩;replace HO:=hid (HO.out.below hb);replace HW:=hid (HW.out.below hb);replace BB:=hid (bt BB.out hb);have HU:=hid hu;have HUL:=hid hul;clear hu hul hb) | (at_builtin;refine qaf rfl _ _ rfl rfl HW.out _ rfl HU.out HUL.out (by decide) BB.out HO.out ?_;intro va9 n9 vc9 w9 hw hob hbb;replace HW:=hid hw;replace HO:=hid hob;replace BB:=hid hbb;clear hw hob hbb))
 go_upto_region 16 with (first | (refine qad rfl rfl HO.out rfl ?_))
 go_upto_region 24 with (first | (refine qad rfl rfl HO.out rfl ?_))
 go_upto_region 29 with (first | (refine qad rfl rfl HO.out rfl ?_))
 go_wp2
 go_ret2
 refine Ev.mk HW.out ?_ BB.out
 rw [HEQ.out]
 simp [told,encF,en2,List.append_assoc]
set_option maxHeartbeats 8000000 in
theorem xenc3 (A:Value) (o:Opn) (v:Value) (hA:A=opv o v) (w:World) (hC:Cs w v o.cuts) (hfin:o.fine) (hR:rightO o=true) (hk:o.k=3):Calls Tryz.prog 85 #[A] w fun z w'=>Ev (encO o) w z w':=by
 have HEQ:Hid (encO o=(M.enc o.k++M.enc o.ir++M.enc o.im++M.enc o.t)++(told 3).flatMap (encF o)):=by show encO o=_;unfold encO;rw [hk]
 have HAA:=hid hA
 have HC:=hid hC
 have HFIN:=hid hfin
 have HRI:=hid hR
 have AN:=hid (alln hR)
 clear hA hC hfin
 go_enter Tryz.func85,Tryz.ntmps85
 go_wp2_with (first | (refine qac rfl _ rfl A rfl o v HAA.out ?_;intro w1 hob hb1 hlt1;have HO1:=hid hob;have B1:=hid hb1;clear hob hb1 hlt1) | (refine qae rfl _ rfl _ rfl _ _ HO1.out ?_))
 refine (qcb o v w1 (HC.out.below B1.out) HFIN.out).mono ?_
 rintro e w2 ⟨rfl,b2⟩
 rw [HRI.out]
 have HO2:=hid (HO1.out.below b2)
 have B2:=hid (bt B1.out b2)
 clear b2 hR
 go_wp2_with fail
 refine qhv (b:=w.heap.size) (o:=o) (v:=v) (e1:=M.enc o.k) (e2:=en2 o.ir o.im) HO2.out (fun W=>xnumb o.k W AN.out.k) (fun W=>qdg o.ir o.im W AN.out.ir AN.out.im) (qhb AN.out.ir AN.out.im) (by unfold en2;rw [List.length_append];have:=qbs o.k;have:=qbs o.ir;have:=qbs o.im;omega) (fun _ _ _ _ _ h=>h) (fun v1 v2 v3 W3 ho hb=>?_)
 have HW:Hid (En w.heap.size W3 v3 (M.enc o.k++en2 o.ir o.im) 1):=⟨qdj ho B2.out.size,by unfold en2;rw [List.length_append,List.length_append];have:=qbs o.k;have:=qbs o.ir;have:=qbs o.im;omega,fun x hx=>(List.mem_append.1 hx).elim (qjq AN.out.k x) (qhb AN.out.ir AN.out.im x)⟩
 have HO:=hid (HO2.out.below hb)
 have BB:=hid (bt B2.out hb)
 obtain ⟨va3,n3,vc3,hv3⟩:=HW.out.form
 subst hv3
 clear ho hb HO1 HO2 B1 B2
 go_upto_region 4 with fail
 go_upto_region 5 with (first | (refine qcm rfl rfl HO.out rfl ?_) | (go_at_call 84;refine (qez o.t _ AN.out.t).mono ?_;rintro e w9 ⟨ua,un,uc,rfl,hu,hul,hb⟩;replace HO:=hid (HO.out.below hb);replace HW:=hid (HW.out.below hb);replace BB:=hid (bt BB.out hb);have HU:=hid hu;have HUL:=hid hul;clear hu hul hb) | (at_builtin;refine qaf rfl _ _ rfl rfl HW.out _ rfl HU.out HUL.out (by decide) BB.out HO.out ?_;intro va9 n9 vc9 w9 hw hob hbb;replace HW:=hid hw;replace HO:=hid hob;replace BB:=hid hbb;clear hw hob hbb))
 go_upto_region 7 with (first | (refine qad rfl rfl HO.out rfl ?_))
 go_upto_region 8 with (first | (refine qad rfl rfl HO.out rfl ?_))
 go_upto_region 9 with (first | (refine qfy rfl rfl HO.out rfl ?_) | (go_at_call 110;refine (qfa o.sr o.sm _ AN.out.sr AN.out.sm).mono ?_;rintro e w9 ⟨ua,un,uc,rfl,hu,hul,hb⟩;replace HO:=hid (HO.out.below hb);replace HW:=hid (HW.out.below hb);replace BB:=hid (bt BB.out hb);have HU:=hid hu;have HUL:=hid hul;clear hu hul hb) | (at_builtin;refine qaf rfl _ _ rfl rfl HW.out _ rfl HU.out HUL.out (by decide) BB.out HO.out ?_;intro va9 n9 vc9 w9 hw hob hbb;replace HW:=hid hw;replace HO:=hid hob;replace BB:=hid hbb;clear hw hob hbb))
 go_upto_region 10 with (first | (refine qfc rfl rfl HO.out rfl ?_) | (go_at_call 111;refine (qla o.lr o.lm o.li _ AN.out.lr AN.out.lm AN.out.li).mono ?_;rintro e w9 ⟨ua,un,uc,rfl,hu,hul,hb⟩;replace HO:=hid (HO.out.below hb);replace HW:=hid (HW.out.below hb);replace BB:=hid (bt BB.out hb);have HU:=hid hu;have HUL:=hid hul;clear hu hul hb) | (at_builtin;refine qaf rfl _ _ rfl rfl HW.out _ rfl HU.out HUL.out (by decide) BB.out HO.out ?_;intro va9 n9 vc9 w9 hw hob hbb;replace HW:=hid hw;replace HO:=hid hob;replace BB:=hid hbb;clear hw hob hbb))
 go_upto_region 11 with (first | (refine qev rfl rfl HO.out rfl ?_) | (go_at_call 111;refine (qla o.gr o.gm o.gi _ AN.out.gr AN.out.gm AN.out.gi).mono ?_;rintro e w9 ⟨ua,un,uc,rfl,hu,hul,hb⟩;replace HO:=hid (HO.out.below hb);replace HW:=hid (HW.out.below hb);replace BB:=hid (bt BB.out hb);have HU:=hid hu;have HUL:=hid hul;clear hu hul hb) | (at_builtin;refine qaf rfl _ _ rfl rfl HW.out _ rfl HU.out HUL.out (by decide) BB.out HO.out ?_;intro va9 n9 vc9 w9 hw hob hbb;replace HW:=hid hw;replace HO:=hid hob;replace BB:=hid hbb;clear hw hob hbb))
 go_upto_region 14 with (first | (refine qad rfl rfl HO.out rfl ?_))
 go_upto_region 15 with (first | (refine qad rfl rfl HO.out rfl ?_))
 go_upto_region 16 with (first | (refine qis rfl rfl HO.out rfl ?_) | (go_at_call 86;refine (qim o.text _ AN.out.text).mono ?_;rintro e w9 ⟨ua,un,uc,rfl,hu,hul,hb⟩;replace HO:=hid (HO.out.below hb);replace HW:=hid (HW.out.below hb);replace BB:=hid (bt BB.out hb);have HU:=hid hu;have HUL:=hid hul;clear hu hul hb) | (at_builtin;refine qaf rfl _ _ rfl rfl HW.out _ rfl HU.out HUL.out (by decide) BB.out HO.out ?_;intro va9 n9 vc9 w9 hw hob hbb;replace HW:=hid hw;replace HO:=hid hob;replace BB:=hid hbb;clear hw hob hbb))
 go_upto_region 24 with (first | (refine qad rfl rfl HO.out rfl ?_))
 go_upto_region 29 with (first | (refine qad rfl rfl HO.out rfl ?_))
 go_wp2
 go_ret2
 refine Ev.mk HW.out ?_ BB.out
 rw [HEQ.out]
 simp [told,encF,en2,List.append_assoc]
set_option maxHeartbeats 8000000 in
theorem xenc4 (A:Value) (o:Opn) (v:Value) (hA:A=opv o v) (w:World) (hC:Cs w v o.cuts) (hfin:o.fine) (hR:rightO o=true) (hk:o.k=4):Calls Tryz.prog 85 #[A] w fun z w'=>Ev (encO o) w z w':=by
 have HEQ:Hid (encO o=(M.enc o.k++M.enc o.ir++M.enc o.im++M.enc o.t)++(told 4).flatMap (encF o)):=by show encO o=_;unfold encO;rw [hk]
 have hcr:(1≤o.cuts.length∧o.cuts.length≤16)∧∀ c ∈ o.cuts,rct c=true:=by
  have hg:=(qbn hR).2 7 (by decide)
  unfold goodF at hg
  rw [hk,if_pos (by decide)] at hg
  simpa [rightF] using hg
 obtain ⟨L,hL⟩:∃ L,o.cuts.length=L:=⟨_,rfl⟩
 have HLN:=hid hL
 have HCT:=hid hcr.2
 have hL1:1≤L∧L≤16:=by rw [←hL];exact hcr.1
 have hvf:∃ va vc,v=.slice va L vc:=by
  obtain ⟨a,c,e,_⟩:=hC.form
  exact ⟨a,c,by rw [e,hL]⟩
 have HNL:Hid (Num49 (L:Int)):=⟨by omega,by omega⟩
 clear hL hcr
 have HAA:=hid hA
 have HC:=hid hC
 have HFIN:=hid hfin
 have HRI:=hid hR
 have AN:=hid (alln hR)
 clear hA hC hfin
 go_enter Tryz.func85,Tryz.ntmps85
 go_wp2_with (first | (refine qac rfl _ rfl A rfl o v HAA.out ?_;intro w1 hob hb1 hlt1;have HO1:=hid hob;have B1:=hid hb1;clear hob hb1 hlt1) | (refine qae rfl _ rfl _ rfl _ _ HO1.out ?_))
 refine (qcb o v w1 (HC.out.below B1.out) HFIN.out).mono ?_
 rintro e w2 ⟨rfl,b2⟩
 rw [HRI.out]
 have HO2:=hid (HO1.out.below b2)
 have B2:=hid (bt B1.out b2)
 clear b2 hR
 go_wp2_with fail
 refine qhv (b:=w.heap.size) (o:=o) (v:=v) (e1:=M.enc o.k) (e2:=en2 o.ir o.im) HO2.out (fun W=>xnumb o.k W AN.out.k) (fun W=>qdg o.ir o.im W AN.out.ir AN.out.im) (qhb AN.out.ir AN.out.im) (by unfold en2;rw [List.length_append];have:=qbs o.k;have:=qbs o.ir;have:=qbs o.im;omega) (fun _ _ _ _ _ h=>h) (fun v1 v2 v3 W3 ho hb=>?_)
 have HW:Hid (En w.heap.size W3 v3 (M.enc o.k++en2 o.ir o.im) 1):=⟨qdj ho B2.out.size,by unfold en2;rw [List.length_append,List.length_append];have:=qbs o.k;have:=qbs o.ir;have:=qbs o.im;omega,fun x hx=>(List.mem_append.1 hx).elim (qjq AN.out.k x) (qhb AN.out.ir AN.out.im x)⟩
 have HO:=hid (HO2.out.below hb)
 have BB:=hid (bt B2.out hb)
 obtain ⟨va3,n3,vc3,hv3⟩:=HW.out.form
 subst hv3
 clear ho hb HO1 HO2 B1 B2
 obtain ⟨cva,cvc,hvf⟩:=hvf
 go_upto_region 4 with fail
 go_upto_region 5 with (first | (refine qcm rfl rfl HO.out rfl ?_) | (go_at_call 84;refine (qez o.t _ AN.out.t).mono ?_;rintro e w9 ⟨ua,un,uc,rfl,hu,hul,hb⟩;replace HO:=hid (HO.out.below hb);replace HW:=hid (HW.out.below hb);replace BB:=hid (bt BB.out hb);have HU:=hid hu;have HUL:=hid hul;clear hu hul hb) | (at_builtin;refine qaf rfl _ _ rfl rfl HW.out _ rfl HU.out HUL.out (by decide) BB.out HO.out ?_;intro va9 n9 vc9 w9 hw hob hbb;replace HW:=hid hw;replace HO:=hid hob;replace BB:=hid hbb;clear hw hob hbb))
 go_upto_region 7 with (first | (refine qad rfl rfl HO.out rfl ?_))
 go_upto_region 11 with (first | (refine qad rfl rfl HO.out rfl ?_))
 go_upto_region 14 with (first | (refine qad rfl rfl HO.out rfl ?_))
 go_upto_region 16 with (first | (refine qad rfl rfl HO.out rfl ?_))
 go_upto_region 17 with (first | (refine qad rfl rfl HO.out rfl ?_))
 subst hvf
 go_upto_region 18 with (first | (refine qbv rfl rfl HO.out rfl ?_) | (go_at_call 84;refine (qez (L:Int) _ HNL.out).mono ?_;rintro e w9 ⟨ua,un,uc,rfl,hu,hul,hb⟩;replace HO:=hid (HO.out.below hb);replace HW:=hid (HW.out.below hb);replace BB:=hid (bt BB.out hb);have HU:=hid hu;have HUL:=hid hul;clear hu hul hb) | (at_builtin;refine qaf rfl _ _ rfl rfl HW.out _ rfl HU.out HUL.out (by decide) BB.out HO.out ?_;intro va9 n9 vc9 w9 hw hob hbb;replace HW:=hid hw;replace HO:=hid hob;replace BB:=hid hbb;clear hw hob hbb))
 go_upto_region 19 with fail
 obtain ⟨acc,hE,hacc⟩:∃ acc,En w.heap.size w9 (.slice va9 n9 vc9) acc 3∧acc=M.enc o.k++en2 o.ir o.im++M.enc o.t++M.enc (L:Int):=⟨_,HW.out,rfl⟩
 have HACC:=hid hacc
 have HE:=hid hE
 clear hE hacc HW
 go_loopw [4,5] (fun out i wr=>∃ (j:Nat) (va:Option Addr) (n8 vc:Nat),j≤L∧i=.int .i64 j∧out=.slice va n8 vc∧En w.heap.size wr (.slice va n8 vc) (acc++(o.cuts.take j).flatMap enC) (3+3*j)∧Ob wr w.heap.size o (.slice cva L cvc)∧Below w.heap.size w wr) (fun _ i _=>L - (intOf i).toNat)
 case atStart=>exact ⟨0,_,_,_,Nat.zero_le _,rfl,rfl,by simpa using HE.out,HO.out,BB.out⟩
 case round =>
  obtain ⟨j,va,n8,vc,hj,rfl,rfl,hw,hob,hbb⟩:=hrel
  have HW:=hid hw
  have HO:=hid hob
  have BB:=hid hbb
  clear hw hob hbb
  by_cases hlt:j<L
  ·have b1':(j:Int)<(L:Int):=by omega
   have hjl:j<o.cuts.length:=by rw [HLN.out];exact hlt
   obtain ⟨gb,off,cc,hv,d0,d1,d2,d3⟩:=qwi HC.out hjl
   simp only [Value.slice.injEq] at hv
   obtain ⟨rfl,-,rfl⟩:=hv
   have hct:=qqn (HCT.out _ (List.getElem_mem hjl))
   have hst:=qnp o.cuts j hjl
   obtain ⟨ct,hcte⟩:∃ ct,o.cuts[j]=ct:=⟨_,rfl⟩
   rw [hcte] at d0 d1 d2 d3 hct hst
   have HST:=hid hst
   have N0:=hid (hct ct.r (by simp))
   have N1:=hid (hct ct.n (by simp))
   have N2:=hid (hct ct.f (by simp))
   have N3:=hid (hct ct.t (by simp))
   have D2:=hid d2
   have D3:=hid d3
   have HG:=World.block_lt_of_cell? _ _ d0
   have K1:Hid (3+3*j≤100):=by show _≤_;omega
   have K2:Hid (3+3*j+1≤100):=by show _≤_;omega
   have K3:Hid (3+3*j+1+1≤100):=by show _≤_;omega
   have c0:wr.cell? ⟨gb,off+j*4,none⟩=some (.int .i64 ct.r):=(BB.out.cell (p:=⟨gb,off+j*4,none⟩) HG).trans d0
   have c1:wr.cell? ⟨gb,off+j*4+1,none⟩=some (.int .i64 ct.n):=(BB.out.cell (p:=⟨gb,off+j*4+1,none⟩) HG).trans d1
   clear hct hcte hst d0 d1 d2 d3
   go_upto_region 22 with (first | (refine qbv rfl rfl HO.out rfl ?_) | (go_at_call 110;refine (qfa ct.r ct.n _ N0.out N1.out).mono ?_;rintro e w9 ⟨ua,un,uc,rfl,hu,hul,hb⟩;replace HO:=hid (HO.out.below hb);replace HW:=hid (HW.out.below hb);replace BB:=hid (bt BB.out hb);have HU:=hid hu;have HUL:=hid hul;clear hu hul hb) | (at_builtin;refine qaf rfl _ _ rfl rfl HW.out _ rfl HU.out HUL.out K1.out BB.out HO.out ?_;intro va9 n9 vc9 w9 hw hob hbb;replace HW:=hid hw;replace HO:=hid hob;replace BB:=hid hbb;clear hw hob hbb))
   have c2:w9.cell? ⟨gb,off+j*4+2,none⟩=some (.int .i64 ct.f):=by rw [BB.out.cell HG];exact D2.out
   clear c0 c1
   go_upto_region 23 with (first | (refine qbv rfl rfl HO.out rfl ?_) | (go_at_call 84;refine (qez ct.f _ N2.out).mono ?_;rintro e w9 ⟨ua,un,uc,rfl,hu,hul,hb⟩;replace HO:=hid (HO.out.below hb);replace HW:=hid (HW.out.below hb);replace BB:=hid (bt BB.out hb);have HU:=hid hu;have HUL:=hid hul;clear hu hul hb) | (at_builtin;refine qaf rfl _ _ rfl rfl HW.out _ rfl HU.out HUL.out K2.out BB.out HO.out ?_;intro va9 n9 vc9 w9 hw hob hbb;replace HW:=hid hw;replace HO:=hid hob;replace BB:=hid hbb;clear hw hob hbb))
   have c3:w9.cell? ⟨gb,off+j*4+3,none⟩=some (.int .i64 ct.t):=by rw [BB.out.cell HG];exact D3.out
   clear c2
   go_wp2_with (first | (refine qbv rfl rfl HO.out rfl ?_) | (go_at_call 84;refine (qez ct.t _ N3.out).mono ?_;rintro e w9 ⟨ua,un,uc,rfl,hu,hul,hb⟩;replace HO:=hid (HO.out.below hb);replace HW:=hid (HW.out.below hb);replace BB:=hid (bt BB.out hb);have HU:=hid hu;have HUL:=hid hul;clear hu hul hb) | (at_builtin;refine qaf rfl _ _ rfl rfl HW.out _ rfl HU.out HUL.out K3.out BB.out HO.out ?_;intro va9 n9 vc9 w9 hw hob hbb;replace HW:=hid hw;replace HO:=hid hob;replace BB:=hid hbb;clear hw hob hbb))
   refine ⟨⟨j+1,_,_,_,by omega,by go_num,rfl,?_,HO.out,BB.out⟩,by simp [intOf];omega⟩
   have h:=HW.out
   rw [HST.out,←List.append_assoc]
   rw [show 3+3*(j+1)=3+3*j+1+1+1 by omega]
   simpa [enC,en2,List.append_assoc] using h
  ·obtain rfl:j=L:=by omega
   have b1':¬ (j:Int)<(j:Int):=by omega
   go_upto_region 24 with (first | (refine qbv rfl rfl HO.out rfl ?_))
   go_upto_region 29 with (first | (refine qad rfl rfl HO.out rfl ?_))
   go_wp2
   go_ret2
   refine Ev.mk HW.out ?_ BB.out
   rw [HEQ.out,HACC.out,List.take_of_length_le (by rw [HLN.out];exact Nat.le_refl _)]
   have hl:=HLN.out
   simp [told,encF,en2,hl,List.append_assoc]
set_option maxHeartbeats 8000000 in
theorem xenc5 (A:Value) (o:Opn) (v:Value) (hA:A=opv o v) (w:World) (hC:Cs w v o.cuts) (hfin:o.fine) (hR:rightO o=true) (hk:o.k=5):Calls Tryz.prog 85 #[A] w fun z w'=>Ev (encO o) w z w':=by
 have HEQ:Hid (encO o=(M.enc o.k++M.enc o.ir++M.enc o.im++M.enc o.t)++(told 5).flatMap (encF o)):=by show encO o=_;unfold encO;rw [hk]
 have HAA:=hid hA
 have HC:=hid hC
 have HFIN:=hid hfin
 have HRI:=hid hR
 have AN:=hid (alln hR)
 clear hA hC hfin
 go_enter Tryz.func85,Tryz.ntmps85
 go_wp2_with (first | (refine qac rfl _ rfl A rfl o v HAA.out ?_;intro w1 hob hb1 hlt1;have HO1:=hid hob;have B1:=hid hb1;clear hob hb1 hlt1) | (refine qae rfl _ rfl _ rfl _ _ HO1.out ?_))
 refine (qcb o v w1 (HC.out.below B1.out) HFIN.out).mono ?_
 rintro e w2 ⟨rfl,b2⟩
 rw [HRI.out]
 have HO2:=hid (HO1.out.below b2)
 have B2:=hid (bt B1.out b2)
 clear b2 hR
 go_wp2_with fail
 refine qhv (b:=w.heap.size) (o:=o) (v:=v) (e1:=M.enc o.k) (e2:=en2 o.ir o.im) HO2.out (fun W=>xnumb o.k W AN.out.k) (fun W=>qdg o.ir o.im W AN.out.ir AN.out.im) (qhb AN.out.ir AN.out.im) (by unfold en2;rw [List.length_append];have:=qbs o.k;have:=qbs o.ir;have:=qbs o.im;omega) (fun _ _ _ _ _ h=>h) (fun v1 v2 v3 W3 ho hb=>?_)
 have HW:Hid (En w.heap.size W3 v3 (M.enc o.k++en2 o.ir o.im) 1):=⟨qdj ho B2.out.size,by unfold en2;rw [List.length_append,List.length_append];have:=qbs o.k;have:=qbs o.ir;have:=qbs o.im;omega,fun x hx=>(List.mem_append.1 hx).elim (qjq AN.out.k x) (qhb AN.out.ir AN.out.im x)⟩
 have HO:=hid (HO2.out.below hb)
 have BB:=hid (bt B2.out hb)
 obtain ⟨va3,n3,vc3,hv3⟩:=HW.out.form
 subst hv3
 clear ho hb HO1 HO2 B1 B2
 go_upto_region 4 with fail
 go_upto_region 5 with (first | (refine qcm rfl rfl HO.out rfl ?_) | (go_at_call 84;refine (qez o.t _ AN.out.t).mono ?_;rintro e w9 ⟨ua,un,uc,rfl,hu,hul,hb⟩;replace HO:=hid (HO.out.below hb);replace HW:=hid (HW.out.below hb);replace BB:=hid (bt BB.out hb);have HU:=hid hu;have HUL:=hid hul;clear hu hul hb) | (at_builtin;refine qaf rfl _ _ rfl rfl HW.out _ rfl HU.out HUL.out (by decide) BB.out HO.out ?_;intro va9 n9 vc9 w9 hw hob hbb;replace HW:=hid hw;replace HO:=hid hob;replace BB:=hid hbb;clear hw hob hbb))
 go_upto_region 7 with (first | (refine qad rfl rfl HO.out rfl ?_))
 go_upto_region 8 with (first | (refine qad rfl rfl HO.out rfl ?_))
 go_upto_region 9 with (first | (refine qfy rfl rfl HO.out rfl ?_) | (go_at_call 110;refine (qfa o.sr o.sm _ AN.out.sr AN.out.sm).mono ?_;rintro e w9 ⟨ua,un,uc,rfl,hu,hul,hb⟩;replace HO:=hid (HO.out.below hb);replace HW:=hid (HW.out.below hb);replace BB:=hid (bt BB.out hb);have HU:=hid hu;have HUL:=hid hul;clear hu hul hb) | (at_builtin;refine qaf rfl _ _ rfl rfl HW.out _ rfl HU.out HUL.out (by decide) BB.out HO.out ?_;intro va9 n9 vc9 w9 hw hob hbb;replace HW:=hid hw;replace HO:=hid hob;replace BB:=hid hbb;clear hw hob hbb))
 go_upto_region 10 with (first | (refine qfc rfl rfl HO.out rfl ?_) | (go_at_call 111;refine (qla o.lr o.lm o.li _ AN.out.lr AN.out.lm AN.out.li).mono ?_;rintro e w9 ⟨ua,un,uc,rfl,hu,hul,hb⟩;replace HO:=hid (HO.out.below hb);replace HW:=hid (HW.out.below hb);replace BB:=hid (bt BB.out hb);have HU:=hid hu;have HUL:=hid hul;clear hu hul hb) | (at_builtin;refine qaf rfl _ _ rfl rfl HW.out _ rfl HU.out HUL.out (by decide) BB.out HO.out ?_;intro va9 n9 vc9 w9 hw hob hbb;replace HW:=hid hw;replace HO:=hid hob;replace BB:=hid hbb;clear hw hob hbb))
 go_upto_region 11 with (first | (refine qev rfl rfl HO.out rfl ?_) | (go_at_call 111;refine (qla o.gr o.gm o.gi _ AN.out.gr AN.out.gm AN.out.gi).mono ?_;rintro e w9 ⟨ua,un,uc,rfl,hu,hul,hb⟩;replace HO:=hid (HO.out.below hb);replace HW:=hid (HW.out.below hb);replace BB:=hid (bt BB.out hb);have HU:=hid hu;have HUL:=hid hul;clear hu hul hb) | (at_builtin;refine qaf rfl _ _ rfl rfl HW.out _ rfl HU.out HUL.out (by decide) BB.out HO.out ?_;intro va9 n9 vc9 w9 hw hob hbb;replace HW:=hid hw;replace HO:=hid hob;replace BB:=hid hbb;clear hw hob hbb))
 go_upto_region 12 with (first | (refine qad rfl rfl HO.out rfl ?_))
 go_upto_region 13 with (first | (refine qdb rfl rfl HO.out rfl ?_) | (go_at_call 110;refine (qfa o.pr o.pm _ AN.out.pr AN.out.pm).mono ?_;rintro e w9 ⟨ua,un,uc,rfl,hu,hul,hb⟩;replace HO:=hid (HO.out.below hb);replace HW:=hid (HW.out.below hb);replace BB:=hid (bt BB.out hb);have HU:=hid hu;have HUL:=hid hul;clear hu hul hb) | (at_builtin;refine qaf rfl _ _ rfl rfl HW.out _ rfl HU.out HUL.out (by decide) BB.out HO.out ?_;intro va9 n9 vc9 w9 hw hob hbb;replace HW:=hid hw;replace HO:=hid hob;replace BB:=hid hbb;clear hw hob hbb))
 go_upto_region 14 with (first | (refine qef rfl rfl HO.out rfl ?_) | (go_at_call 86;refine (qim o.key _ AN.out.key).mono ?_;rintro e w9 ⟨ua,un,uc,rfl,hu,hul,hb⟩;replace HO:=hid (HO.out.below hb);replace HW:=hid (HW.out.below hb);replace BB:=hid (bt BB.out hb);have HU:=hid hu;have HUL:=hid hul;clear hu hul hb) | (at_builtin;refine qaf rfl _ _ rfl rfl HW.out _ rfl HU.out HUL.out (by decide) BB.out HO.out ?_;intro va9 n9 vc9 w9 hw hob hbb;replace HW:=hid hw;replace HO:=hid hob;replace BB:=hid hbb;clear hw hob hbb))
 go_upto_region 16 with (first | (refine qad rfl rfl HO.out rfl ?_))
 go_upto_region 24 with (first | (refine qad rfl rfl HO.out rfl ?_))
 go_upto_region 29 with (first | (refine qad rfl rfl HO.out rfl ?_))
 go_wp2
 go_ret2
 refine Ev.mk HW.out ?_ BB.out
 rw [HEQ.out]
 simp [told,encF,en2,List.append_assoc]
set_option maxHeartbeats 8000000 in
theorem xenc6 (A:Value) (o:Opn) (v:Value) (hA:A=opv o v) (w:World) (hC:Cs w v o.cuts) (hfin:o.fine) (hR:rightO o=true) (hk:o.k=6):Calls Tryz.prog 85 #[A] w fun z w'=>Ev (encO o) w z w':=by
 have HEQ:Hid (encO o=(M.enc o.k++M.enc o.ir++M.enc o.im++M.enc o.t)++(told 6).flatMap (encF o)):=by show encO o=_;unfold encO;rw [hk]
 have HN1:Hid (Num49 1):=⟨by decide,by decide⟩
 have HN0:Hid (Num49 0):=⟨by decide,by decide⟩
 have HAA:=hid hA
 have HC:=hid hC
 have HFIN:=hid hfin
 have HRI:=hid hR
 have AN:=hid (alln hR)
 clear hA hC hfin
 go_enter Tryz.func85,Tryz.ntmps85
 go_wp2_with (first | (refine qac rfl _ rfl A rfl o v HAA.out ?_;intro w1 hob hb1 hlt1;have HO1:=hid hob;have B1:=hid hb1;clear hob hb1 hlt1) | (refine qae rfl _ rfl _ rfl _ _ HO1.out ?_))
 refine (qcb o v w1 (HC.out.below B1.out) HFIN.out).mono ?_
 rintro e w2 ⟨rfl,b2⟩
 rw [HRI.out]
 have HO2:=hid (HO1.out.below b2)
 have B2:=hid (bt B1.out b2)
 clear b2 hR
 go_wp2_with fail
 refine qhv (b:=w.heap.size) (o:=o) (v:=v) (e1:=M.enc o.k) (e2:=en2 o.ir o.im) HO2.out (fun W=>xnumb o.k W AN.out.k) (fun W=>qdg o.ir o.im W AN.out.ir AN.out.im) (qhb AN.out.ir AN.out.im) (by unfold en2;rw [List.length_append];have:=qbs o.k;have:=qbs o.ir;have:=qbs o.im;omega) (fun _ _ _ _ _ h=>h) (fun v1 v2 v3 W3 ho hb=>?_)
 have HW:Hid (En w.heap.size W3 v3 (M.enc o.k++en2 o.ir o.im) 1):=⟨qdj ho B2.out.size,by unfold en2;rw [List.length_append,List.length_append];have:=qbs o.k;have:=qbs o.ir;have:=qbs o.im;omega,fun x hx=>(List.mem_append.1 hx).elim (qjq AN.out.k x) (qhb AN.out.ir AN.out.im x)⟩
 have HO:=hid (HO2.out.below hb)
 have BB:=hid (bt B2.out hb)
 obtain ⟨va3,n3,vc3,hv3⟩:=HW.out.form
 subst hv3
 clear ho hb HO1 HO2 B1 B2
 go_upto_region 4 with fail
 go_upto_region 5 with (first | (refine qcm rfl rfl HO.out rfl ?_) | (go_at_call 84;refine (qez o.t _ AN.out.t).mono ?_;rintro e w9 ⟨ua,un,uc,rfl,hu,hul,hb⟩;replace HO:=hid (HO.out.below hb);replace HW:=hid (HW.out.below hb);replace BB:=hid (bt BB.out hb);have HU:=hid hu;have HUL:=hid hul;clear hu hul hb) | (at_builtin;refine qaf rfl _ _ rfl rfl HW.out _ rfl HU.out HUL.out (by decide) BB.out HO.out ?_;intro va9 n9 vc9 w9 hw hob hbb;replace HW:=hid hw;replace HO:=hid hob;replace BB:=hid hbb;clear hw hob hbb))
 go_upto_region 6 with (first | (refine qad rfl rfl HO.out rfl ?_))
 go_upto_region 7 with (first | (refine qew rfl rfl HO.out rfl ?_) | (go_at_call 110;refine (qfa o.br o.bm _ AN.out.br AN.out.bm).mono ?_;rintro e w9 ⟨ua,un,uc,rfl,hu,hul,hb⟩;replace HO:=hid (HO.out.below hb);replace HW:=hid (HW.out.below hb);replace BB:=hid (bt BB.out hb);have HU:=hid hu;have HUL:=hid hul;clear hu hul hb) | (at_builtin;refine qaf rfl _ _ rfl rfl HW.out _ rfl HU.out HUL.out (by decide) BB.out HO.out ?_;intro va9 n9 vc9 w9 hw hob hbb;replace HW:=hid hw;replace HO:=hid hob;replace BB:=hid hbb;clear hw hob hbb))
 go_upto_region 11 with (first | (refine qad rfl rfl HO.out rfl ?_))
 go_upto_region 14 with (first | (refine qad rfl rfl HO.out rfl ?_))
 go_upto_region 16 with (first | (refine qad rfl rfl HO.out rfl ?_))
 go_upto_region 24 with (first | (refine qad rfl rfl HO.out rfl ?_))
 go_upto_region 26 with (first | (refine qad rfl rfl HO.out rfl ?_))
 go_wp2_with (refine qiu rfl rfl HO.out rfl ?_)
 ·have HFL:Hid (o.flag=true):=by first | assumption | (simp_all;done)
  refine (qez 1 _ HN1.out).mono ?_
  rintro e w9 ⟨ua,un,uc,rfl,hu,hul,hb⟩
  replace HO:=hid (HO.out.below hb)
  replace HW:=hid (HW.out.below hb)
  replace BB:=hid (bt BB.out hb)
  have HU:=hid hu
  have HUL:=hid hul
  clear hu hul hb
  go_wp2_with ((at_builtin;refine qaf rfl _ _ rfl rfl HW.out _ rfl HU.out HUL.out (by decide) BB.out HO.out ?_;intro va9 n9 vc9 w9 hw hob hbb;replace HW:=hid hw;replace HO:=hid hob;replace BB:=hid hbb;clear hw hob hbb))
  go_ret2
  refine Ev.mk HW.out ?_ BB.out
  rw [HEQ.out]
  simp [told,encF,en2,HFL.out,List.append_assoc]
 ·have HFL:Hid (o.flag=false):=by first | assumption | (simp_all;done)
  refine (qez 0 _ HN0.out).mono ?_
  rintro e w9 ⟨ua,un,uc,rfl,hu,hul,hb⟩
  replace HO:=hid (HO.out.below hb)
  replace HW:=hid (HW.out.below hb)
  replace BB:=hid (bt BB.out hb)
  have HU:=hid hu
  have HUL:=hid hul
  clear hu hul hb
  go_wp2_with ((at_builtin;refine qaf rfl _ _ rfl rfl HW.out _ rfl HU.out HUL.out (by decide) BB.out HO.out ?_;intro va9 n9 vc9 w9 hw hob hbb;replace HW:=hid hw;replace HO:=hid hob;replace BB:=hid hbb;clear hw hob hbb))
  go_ret2
  refine Ev.mk HW.out ?_ BB.out
  rw [HEQ.out]
  simp [told,encF,en2,HFL.out,List.append_assoc]
theorem qoa (A:Value) (o:Opn) (v:Value) (hA:A=opv o v) (w:World) (hC:Cs w v o.cuts) (hfin:o.fine) (hR:rightO o=true):Calls Tryz.prog 85 #[A] w fun z w'=>Ev (encO o) w z w':=by
 rcases six (qbn hR).1.2.2 with hk | hk | hk | hk | hk | hk
 ·exact xenc1 A o v hA w hC hfin hR hk
 ·exact xenc2 A o v hA w hC hfin hR hk
 ·exact xenc3 A o v hA w hC hfin hR hk
 ·exact xenc4 A o v hA w hC hfin hR hk
 ·exact xenc5 A o v hA w hC hfin hR hk
 ·exact xenc6 A o v hA w hC hfin hR hk
set_option maxHeartbeats 4000000 in
theorem qrl (A:Value) (o:Opn) (v:Value) (hA:A=opv o v) (w:World) (hC:Cs w v o.cuts) (hfin:o.fine) (hR:rightO o=false):Calls Tryz.prog 85 #[A] w fun z w'=>z=.returned (.tuple #[.slice none 0 0,.bool false])∧Below w.heap.size w w':=by
 have HAA:=hid hA
 have HC:=hid hC
 have HFIN:=hid hfin
 have HRI:=hid hR
 clear hA hC hfin
 go_enter Tryz.func85,Tryz.ntmps85
 go_wp2_with (first | (refine qac rfl _ rfl A rfl o v HAA.out ?_;intro w1 hob hb1 hlt1;have HO1:=hid hob;have B1:=hid hb1;clear hob hb1 hlt1) | (refine qae rfl _ rfl _ rfl _ _ HO1.out ?_))
 refine (qcb o v w1 (HC.out.below B1.out) HFIN.out).mono ?_
 rintro e w2 ⟨rfl,b2⟩
 rw [HRI.out]
 have B2:=hid (bt B1.out b2)
 clear b2 hR
 go_wp2
 go_ret2
 exact ⟨rfl,B2.out⟩
theorem qch {ops:Array Oper}{rest:List Oper}{p:Oper}{a:Act}{W:World}{Q:Exit→Act→World→Prop}(hgd:p.guard=none) (x y:Operand) (ho:p.op=.store 74 x y) (k0:Int) (o:Opn) (v:Value) (hv:∃ va n vc,v=.slice va n vc)
  (hx:a.eval x=.pointer (some ⟨W.heap.size,0,none⟩)) (hy:a.eval y=opv o v)
  (hk:wpList Tryz.prog ops Q rest (a.put p.dst undef) (W.alloc (opo o v))):wpList Tryz.prog ops Q (p::rest) a (W.alloc (.cells (zopc k0) 74)) :=
 qdl hgd x y ho (zopc k0) (opl o v) hx hy rfl rfl (by obtain ⟨va,n,vc,rfl⟩:=hv;simp [Value.oneCell']) hk
theorem qxl (o:Opn) (v:Value) (w:World):(Instr.buildSlice 38 1 #[(0,opv o v)]).run Tryz.prog w=.ok (.slice (some ⟨w.heap.size,0,none⟩) 1 1) (w.alloc (opo o v)):=by kernel_rfl
theorem qdu {ops:Array Oper}{rest:List Oper}{p:Oper}{a:Act}{w:World}{Q:Exit→Act→World→Prop}(hgd:p.guard=none) (x:Operand) (ho:p.op=.buildSlice 38 1 #[(0,x)]) (o:Opn) (v:Value) (hx:a.eval x=opv o v)
  (hk:wpList Tryz.prog ops Q rest (a.put p.dst (.slice (some ⟨w.heap.size,0,none⟩) 1 1)) (w.alloc (opo o v))):wpList Tryz.prog ops Q (p::rest) a w:=by
 refine wpList_plain hgd fun K hK=>?_
 unfold Oper.wp execOp
 have e:(Array.map (fun ((i,x):Nat × Operand)=>(i,a.eval x)) #[(0,x)])=#[(0,opv o v)]:=by simp [hx]
 simp only [ho,e,Sem.run_bind,qxl,Result.andThen_ok]
 exact hK _ _ hk
theorem Os.one (w:World) (o:Opn) (v:Value) (h:Cs w v o.cuts):Os (w.alloc (opo o v)) (.slice (some ⟨w.heap.size,0,none⟩) 1 1) [(o,v)] :=
 ⟨Sl.lit w 74 (opl o v) 1 (by decide) rfl,fun p hp=>by rw [List.mem_singleton.1 hp];exact h.below (ba w _)⟩
theorem qrr {o:Opn}(h:small o=true):o.fine∧o.cuts.length≤40:=by
 unfold small at h
 simp at h
 exact ⟨⟨by omega,by omega⟩,h.2⟩
theorem qha {o:Opn}(h:rightO o=true):(encO o).length≤5000:=by
 have h1:=qnm o (told o.k) (qdc _) (qce h)
 have h2:=qgm o.k
 have s1:=(M.sz_pos o.k).2
 have s2:=(M.sz_pos o.ir).2
 have s3:=(M.sz_pos o.im).2
 have s4:=(M.sz_pos o.t).2
 unfold encO
 simp only [List.length_append,M.enc_length]
 omega
theorem qcl {a b:List Int}(ha:K.Byt a) (hb:K.Byt b):K.Byt (a++b):=fun x hx=>(List.mem_append.1 hx).elim (ha x) (hb x)
theorem qbq {x:Int}(h0:0≤x) (h1:x≤1099511627776):K.Byt (M.enc x):=M.enc_byte x h0 (by omega)
theorem qri {α:Type}{f:α→List Int}:∀ {l:List α},(∀ x ∈ l,K.Byt (f x))→K.Byt (l.flatMap f):=fun h x hx=>by
 obtain ⟨y,hy,hx⟩:=List.mem_flatMap.1 hx
 exact h y hy x hx
theorem qzf {o:Opn}{f:Nat}(hf:f≤8) (h:rightF o f=true):K.Byt (encF o f):=by
 rcases nine hf with rfl | rfl | rfl | rfl | rfl | rfl | rfl | rfl | rfl
 ·have:=qbm (r:=o.br) (n:=o.bm) h
  exact qcl (qbq (by omega) (by omega)) (qbq (by omega) (by omega))
 ·have:=qgv (r:=o.pr) (n:=o.pm) h
  exact qcl (qbq (by omega) (by omega)) (qbq (by omega) (by omega))
 ·simp [rightF,K.right,qaw] at h
  exact qcq _ (by omega)
 ·have:=qbm (r:=o.sr) (n:=o.sm) h
  exact qcl (qbq (by omega) (by omega)) (qbq (by omega) (by omega))
 ·have:=qdi (r:=o.lr) (n:=o.lm) (i:=o.li) h
  exact qcl (qcl (qbq (by omega) (by omega)) (qbq (by omega) (by omega))) (qbq (by omega) (by omega))
 ·have:=qdi (r:=o.gr) (n:=o.gm) (i:=o.gi) h
  exact qcl (qcl (qbq (by omega) (by omega)) (qbq (by omega) (by omega))) (qbq (by omega) (by omega))
 ·simp [rightF] at h
  exact qcq _ (by omega)
 ·simp [rightF] at h
  refine qcl (qbq (by omega) (by omega)) (qri fun c hc=>?_)
  have:=h.2 c hc
  simp [rct,ro] at this
  exact qcl (qcl (qcl (qbq (by omega) (by omega)) (qbq (by omega) (by omega))) (qbq (by omega) (by omega))) (qbq (by omega) (by omega))
 ·refine qbq ?_ ?_<;>split<;>omega
theorem qub {t r:Int}(h:rs t r=true):0≤t∧t≤1099511627776:=by
 simp [rs] at h
 omega
theorem qdq {o:Opn}(h:rightO o=true):K.Byt (encO o):=by
 have hp:=(qbn h).1
 have h1:=qbm hp.1
 have h2:=qub hp.2.1
 have h3:=six hp.2.2
 refine qcl (qcl (qcl (qcl (qbq ?_ ?_) (qbq ?_ ?_)) (qbq ?_ ?_)) (qbq ?_ ?_)) (qri fun f hf=>qzf (qdc _ f hf) (qce h f hf))
 all_goals omega
end Go.Proofs.YtkcjkncpaopjbaaGreatDoor

namespace Go.Proofs.YtkcjkncpaopjbaaGreatDoor
set_option linter.unusedVariables false
set_option maxRecDepth 100000
def encT (o:Opn):List Int:=M.encText (M.str (encO o))
def encA (l:List Opn):List Int:=M.enc l.length++l.flatMap encT
def rdA (m:St→Int):Nat→St→Option (List Opn × St)
 | 0,s=>some ([],s)
 | j+1,s=>match rdA m j s with
  | none=>none
  | some (l,q)=>if (decO Bnd.own (tx (rt (m q) q).1)).2 then some (l++[(decO Bnd.own (tx (rt (m q) q).1)).1],(rt (m q) q).2) else none
def decA (m:St→Int) (b:List Int):List Opn × Bool :=
 match rdA m (rn 1048576 (b,false)).1.toNat (rn 1048576 (b,false)).2 with
 | none=>([],false)
 | some (l,q)=>if !q.2 && q.1.isEmpty then (l,true) else ([],false)
theorem qdz (m:St→Int) (j:Nat) (s q:St) (l:List Opn) (h:rdA m j s=some (l,q)) :
  rdA m (j+1) s=if (decO Bnd.own (tx (rt (m q) q).1)).2 then some (l++[(decO Bnd.own (tx (rt (m q) q).1)).1],(rt (m q) q).2) else none:=by
 show (match rdA m j s with | none=>none | some (l,q)=>_)=_
 rw [h]
theorem qer (m:St→Int) (j k:Nat) (s:St) (h:rdA m j s=none) (hk:j≤k):rdA m k s=none:=by
 induction k with
 | zero =>
  obtain rfl:j=0:=by omega
  exact h
 | succ k ih =>
  by_cases e:j=k+1
  ·rw [←e];exact h
  ·show (match rdA m k s with | none=>none | some (l,q)=>_)=_
   rw [ih (by omega)]
theorem qtm {n:Int}{xs:List Int}(h:(xs.length:Int)<n) (lost:Bool):M.takeV n xs=[]∧M.takeS n xs=[]∧M.takeL n xs lost=true:=by
 have:M.takeOk n xs=false:=by simp [M.takeOk];omega
 simp [M.takeV,M.takeS,M.takeL,this]
theorem jav {s:St}(hv:K.Byt s.1) (hl:s.1.length≤1099511627776):rt (s.1.length:Nat) s=rt G48 s:=by
 obtain ⟨xs,l⟩:=s
 dsimp only at hv hl ⊢
 unfold rt M.textV M.textS M.textL
 dsimp only
 by_cases hf:M.fo xs=true
 ·by_cases h1:M.fn xs≤(xs.length:Nat)
  ·have a1:M.numOk (xs.length:Nat) xs=true:=by simp [M.numOk,hf,h1]
   have a2:M.numOk G48 xs=true:=by simp [M.numOk,hf];show M.fn xs≤281474976710656;omega
   simp only [M.numV,M.numS,M.numL,a1,a2]
  ·have a1:M.numOk (xs.length:Nat) xs=false:=by simp [M.numOk,hf];omega
   by_cases h2:M.fn xs≤G48
   ·have a2:M.numOk G48 xs=true:=by simp [M.numOk,hf];exact h2
    have hd:((xs.drop (M.fc xs)).length:Int)<M.fn xs:=by rw [List.length_drop];omega
    obtain ⟨e1,e2,e3⟩:=qtm hd l
    simp only [M.numV,M.numS,M.numL,a1,a2,if_true,if_false,e1,e2,e3,Bool.false_eq_true]
    simp [M.takeV,M.takeS,M.takeL,M.takeOk]
   ·have a2:M.numOk G48 xs=false:=by simp [M.numOk,hf];omega
    simp only [M.numV,M.numS,M.numL,a1,a2]
 ·have hf':M.fo xs=false:=by simpa using hf
  have a1:M.numOk (xs.length:Nat) xs=false:=by simp [M.numOk,hf']
  have a2:M.numOk G48 xs=false:=by simp [M.numOk,hf']
  simp only [M.numV,M.numS,M.numL,a1,a2]
def mOwn (q:St):Int:=(q.1.length:Nat)
def mRef (q:St):Int:=G48
theorem qum (s:St) (hv:Vl s) (hl:s.1.length≤1099511627776):∀ j l q,rdA mRef j s=some (l,q)→Vl q∧q.1.length≤1099511627776:=by
 intro j
 induction j with
 | zero=>intro l q h;simp [rdA] at h;obtain ⟨_,rfl⟩:=h;exact ⟨hv,hl⟩
 | succ j ih =>
  intro l q h
  cases h0:rdA mRef j s with
  | none=>rw [qer mRef j (j+1) s h0 (by omega)] at h;cases h
  | some p =>
   obtain ⟨l0,q0⟩:=p
   obtain ⟨i1,i2⟩:=ih l0 q0 h0
   rw [qdz mRef j s q0 l0 h0] at h
   split at h
   ·simp at h
    obtain ⟨_,rfl⟩:=h
    exact ⟨rt_vl i1,Nat.le_trans (qfj _ _ i1.1).2 i2⟩
   ·cases h
theorem qqm (s:St) (hv:Vl s) (hl:s.1.length≤1099511627776):∀ j,rdA mOwn j s=rdA mRef j s:=by
 intro j
 induction j with
 | zero=>rfl
 | succ j ih =>
  cases h0:rdA mRef j s with
  | none=>rw [qer mRef j (j+1) s h0 (by omega),qer mOwn j (j+1) s (by rw [ih,h0]) (by omega)]
  | some p =>
   obtain ⟨l0,q0⟩:=p
   obtain ⟨i1,i2⟩:=qum s hv hl j l0 q0 h0
   rw [qdz mRef j s q0 l0 h0,qdz mOwn j s q0 l0 (by rw [ih,h0])]
   have e:rt (mOwn q0) q0=rt (mRef q0) q0:=jav i1.1 i2
   rw [e]
theorem jaw {o:Opn}(h:rightO o=true) (r:List Int):rt G48 (encT o++r,false)=(M.str (encO o),(r,false)):=by
 have hb:=qdq h
 have hs:(M.str (encO o)).size=(encO o).length:=by
  have:=congrArg List.length (qgl hb)
  rw [qaw] at this
  exact this
 have:=qha h
 exact qot (by rw [hs];show ((encO o).length:Int)≤281474976710656;omega) (by rw [hs];omega) r
theorem qyc (l:List Opn) (h:∀ o ∈ l,rightO o=true) (r:List Int):∀ k,k≤l.length→rdA mRef k (l.flatMap encT++r,false)=some (l.take k,((l.drop k).flatMap encT++r,false)):=by
 intro k
 induction k with
 | zero=>intro _;simp [rdA]
 | succ k ih =>
  intro hk
  have hlt:k<l.length:=by omega
  have h0:=ih (by omega)
  rw [qdz mRef k _ _ _ h0]
  have hr:=h _ (List.getElem_mem hlt)
  have hd:(l.drop k).flatMap encT++r=encT (l[k])++((l.drop (k+1)).flatMap encT++r):=by
   rw [List.drop_eq_getElem_cons hlt,List.flatMap_cons,List.append_assoc]
  rw [hd]
  have ht:rt (mRef (encT l[k]++((l.drop (k+1)).flatMap encT++r),false)) (encT l[k]++((l.drop (k+1)).flatMap encT++r),false)=(M.str (encO l[k]),((l.drop (k+1)).flatMap encT++r,false)):=jaw hr _
  rw [ht]
  dsimp only
  rw [qgl (qdq hr),qjs jac hr]
  simp only [if_true]
  rw [List.take_succ_eq_append_getElem hlt]
theorem qul (s:St) (hv:Vl s) (hl:s.1.length≤1099511627776):∀ j l q,rdA mRef j s=some (l,q)→q.2=false→s.2=false∧s.1=l.flatMap encT++q.1∧l.length=j∧∀ o ∈ l,rightO o=true:=by
 intro j
 induction j with
 | zero=>intro l q h hq;simp [rdA] at h;obtain ⟨rfl,rfl⟩:=h;exact ⟨hq,by simp,rfl,fun o ho=>by cases ho⟩
 | succ j ih =>
  intro l q h hq
  cases h0:rdA mRef j s with
  | none=>rw [qer mRef j (j+1) s h0 (by omega)] at h;cases h
  | some p =>
   obtain ⟨l0,q0⟩:=p
   have hok:=qum s hv hl j l0 q0 h0
   rw [qdz mRef j s q0 l0 h0] at h
   split at h
   ·rename_i hd
    simp at h
    obtain ⟨rfl,rfl⟩:=h
    have hs:=qfi (mRef q0) hok.1
    obtain ⟨e1,e2⟩:=hs.2 hq
    obtain ⟨i1,i2,i3,i4⟩:=ih l0 q0 h0 e1
    have htb:K.Byt (tx (rt (mRef q0) q0).1):=fun x hx=>M.ofStr_byte _ x hx
    obtain ⟨d1,d2⟩:=qhy Bnd.own htb hd
    refine ⟨i1,?_,by simp [i3],fun o ho=>?_⟩
    ·have he:encT (decO Bnd.own (tx (rt (mRef q0) q0).1)).1=M.encText (rt (mRef q0) q0).1:=by unfold encT;rw [d2,qto]
     generalize (decO Bnd.own (tx (rt (mRef q0) q0).1)).1=X at he
     rw [List.flatMap_append,List.append_assoc,show [X].flatMap encT=encT X from by simp,he,←e2]
     exact i2
    ·rcases List.mem_append.1 ho with ho | ho
     ·exact i4 o ho
     ·rw [List.mem_singleton.1 ho];exact d1
   ·cases h
theorem qwd (l:List Opn) (hl:l.length≤1048576) (r:List Int):rn 1048576 (encA l++r,false)=((l.length:Int),(l.flatMap encT++r,false)):=by
 unfold encA
 rw [List.append_assoc]
 exact qbg (by omega) (by omega) (by omega) _
theorem qwf (l:List Opn) (h:∀ o ∈ l,rightO o=true) (hl:l.length≤1048576):decA mRef (encA l)=(l,true):=by
 have h1:=qwd l hl []
 rw [List.append_nil] at h1
 unfold decA
 rw [h1]
 dsimp only
 rw [Int.toNat_natCast,qyc l h [] l.length (Nat.le_refl _)]
 simp
theorem qsr {b:List Int}(hb:K.Byt b) (hn:b.length≤1099511627776) (h:(decA mRef b).2=true):encA (decA mRef b).1=b∧(∀ o ∈ (decA mRef b).1,rightO o=true)∧(decA mRef b).1.length≤1048576:=by
 have hv:Vl (b,false):=⟨hb,fun e=>by cases e⟩
 have hs:=qbd 1048576 hv
 have hr:=qfe (m:=1048576) (s:=(b,false)) hb
 unfold decA at h ⊢
 cases h0:rdA mRef (rn 1048576 (b,false)).1.toNat (rn 1048576 (b,false)).2 with
 | none=>rw [h0] at h;cases h
 | some p =>
  obtain ⟨l,q⟩:=p
  rw [h0] at h
  dsimp only at h ⊢
  split at h
  ·rename_i hq
   rw [if_pos hq]
   simp at hq
   obtain ⟨s1,s2,s3,s4⟩:=qul _ hs.1 (Nat.le_trans (qbp 1048576 (b,false)) hn) _ _ _ h0 hq.1
   obtain ⟨_,e2⟩:=hs.2 s1
   dsimp only
   refine ⟨?_,s4,by have:=hr.2.2 (by decide);omega⟩
   unfold encA
   have hN:((l.length:Nat):Int)=(rn 1048576 (b,false)).1:=by rw [s3];exact Int.toNat_of_nonneg hr.1
   have e3:b=M.enc (rn 1048576 (b,false)).1++(rn 1048576 (b,false)).2.1:=e2
   rw [s2,hq.2,List.append_nil] at e3
   rw [hN]
   exact e3.symm
  ·cases h
theorem qjt {b:List Int}(hb:K.Byt b) (hn:b.length≤1099511627776):decA mOwn b=decA mRef b:=by
 have hv:Vl (b,false):=⟨hb,fun e=>by cases e⟩
 unfold decA
 rw [qqm _ (qln hv) (Nat.le_trans (qbp 1048576 (b,false)) hn)]
end Go.Proofs.YtkcjkncpaopjbaaGreatDoor

namespace Go.Proofs.YtkcjkncpaopjbaaGreatDoor
open Go.RowKit
set_option linter.unusedVariables false
set_option maxRecDepth 100000
theorem qzh:(decO Bnd.own []).2=false:=by decide
theorem jau (m:Int):rt m ([],true)=(⟨#[]⟩,([],true)):=by
 unfold rt
 rfl
theorem qyb {m:St→Int}{j:Nat}{s q:St}{l:List Opn}(h:rdA m j s=some (l,q)) (hq:q=([],true)):rdA m (j+1) s=none:=by
 rw [qdz m j s q l h,hq,jau]
 have:tx ⟨#[]⟩=[]:=rfl
 rw [this,qzh]
 rfl
theorem qwg {m:St→Int}{xs:List Int}{n:Nat}{s1:St}(h:rn 1048576 (xs,false)=((n:Int),s1)) :
  decA m xs=match rdA m n s1 with | none=>([],false) | some (l,q)=>if !q.2 && q.1.isEmpty then (l,true) else ([],false):=by
 unfold decA
 rw [h]
 rfl
end Go.Proofs.YtkcjkncpaopjbaaGreatDoor
