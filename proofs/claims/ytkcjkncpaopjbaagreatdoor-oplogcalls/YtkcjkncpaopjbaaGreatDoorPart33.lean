/-
  Parts of the proof, one behind the other; what each proves stands at its head.
-/
import Derived.Test.YtkcjkncpaopjbaaGreatDoorPart32
import Derived.Test.YtkcjkncpaopjbaaGreatDoorPart30
import Derived.Test.YtkcjkncpaopjbaaGreatDoorPart31
import Derived.Deep.MidRow
import Derived.Test.YtkcjkncpaopjbaaGreatDoorPart29
import Derived.Test.YtkcjkncpaopjbaaGreatDoorPart26
import Derived.Test.YtkcjkncpaopjbaaGreatDoorPart22

namespace Go.Proofs.YtkcjkncpaopjbaaGreatDoor
open Go.RowKit
set_option linter.unusedVariables false
set_option maxRecDepth 100000
theorem Fr.of_setCells (g:Nat):∀ (vs:List Value) (o:Nat) (w:World),Fr (fun k=>k=g) w (w.setCells g o vs)
 | [],_,w=>Fr.refl _ w
 | v::r,o,w=>(Fr.of_set w g o v).trans (Fr.of_setCells g r (o+1) _) (fun _ _ h=>h)
theorem qib (g:Nat) (t:TypeId):∀ (vs:List Value) (o:Nat) (w:World) (cur:Array Value),w.heap[g]?=some (.cells cur t (0,0)) →
  ∃ cur',(w.setCells g o vs).heap[g]?=some (.cells cur' t (0,0))∧cur'.size=cur.size∧(∀ j,j<o→cur'[j]?=cur[j]?)∧∀ j,j<vs.length→o+j<cur.size→cur'[o+j]?=vs[j]?
 | [],o,w,cur,hg=>⟨cur,hg,rfl,fun _ _=>rfl,fun j hj=>by cases hj⟩
 | v::r,o,w,cur,hg=>by
  obtain ⟨cur',h1,h2,h3,h4⟩:=qib g t r (o+1) (w.setCell ⟨g,o,none⟩ v) (cur.setIfInBounds o v) (heap_setCell_same w g o cur t v hg)
  refine ⟨cur',h1,by rw [h2,Array.size_setIfInBounds],fun j hj=>?_,fun j hj hs=>?_⟩
  ·rw [h3 j (by omega),Array.getElem?_setIfInBounds]
   rw [if_neg (by omega)]
  ·cases j with
   | zero =>
    rw [Nat.add_zero,h3 o (by omega),Array.getElem?_setIfInBounds,if_pos rfl,if_pos (by simpa using hs)]
    rfl
   | succ j =>
    have:=h4 j (by simpa using hj) (by rw [Array.size_setIfInBounds];omega)
    rw [show o+(j+1)=o+1+j by omega,this]
    rfl
def Nn (B:Nat) (v:Value) (l:List (Opn × Value)):Prop:=(∀ k,v.ownBlock=some k→B≤k)∧Nw B l
theorem qeh (p:Opn × Value):(opc p).length=20:=rfl
theorem qxp {cur cur':Array Value}{l:List (Opn × Value)}{p:Opn × Value}{n:Nat}(hs:cur'.size=cur.size) (hc:cur.size=n*20) (hl:l.length<n) (ht:cur.toList.take (l.length*20)=l.flatMap opc)
  (h1:∀ j,j<l.length*20→cur'[j]?=cur[j]?) (h2:∀ j,j<(opc p).length→l.length*20+j<cur.size→cur'[l.length*20+j]?=(opc p)[j]?):cur'.toList.take ((l.length+1)*20)=(l++[p]).flatMap opc:=by
 have hfl:=qbj opc 20 qeh l
 have hfm:(l++[p]).flatMap opc=l.flatMap opc++opc p:=by rw [List.flatMap_append,List.flatMap_cons,List.flatMap_nil,List.append_nil]
 rw [hfm]
 apply List.ext_getElem?
 intro j
 rw [List.getElem?_take]
 by_cases hj:j<(l.length+1)*20
 ·rw [if_pos hj]
  by_cases hj2:j<l.length*20
  ·rw [List.getElem?_append_left (by omega),←ht,List.getElem?_take,if_pos hj2,Array.getElem?_toList,Array.getElem?_toList,h1 j hj2]
  ·rw [List.getElem?_append_right (by omega),hfl,Array.getElem?_toList]
   have hlen:=qeh p
   have:=h2 (j - l.length*20) (by omega) (by omega)
   rw [show l.length*20+(j - l.length*20)=j by omega] at this
   exact this
 ·rw [if_neg hj,List.getElem?_eq_none]
  rw [List.length_append,hfl,qeh]
  omega
theorem qhh {ops:Array Oper}{rest:List Oper}{p:Oper}{a:Act}{w:World}{Q:Exit→Act→World→Prop}(hgd:p.guard=none) (x y:Operand) (ho:p.op=.store 74 x y)
  (g off:Nat) (hx:a.eval x=.pointer (some ⟨g,off,none⟩)) (o:Opn) (u:Value) (hu:∃ va n vc,u=.slice va n vc) (hy:a.eval y=opv o u) (cur:Array Value) (hg:w.heap[g]?=some (.cells cur 74 (0,0))) (hs:off+20≤cur.size)
  (hk:∀ W' cur',W'.heap[g]?=some (.cells cur' 74 (0,0))→cur'.size=cur.size→(∀ j,j<off→cur'[j]?=cur[j]?)→(∀ j,j<(opc (o,u)).length→off+j<cur.size→cur'[off+j]?=(opc (o,u))[j]?)→Fr (fun k=>k=g) w W'→wpList Tryz.prog ops Q rest (a.put p.dst undef) W'):wpList Tryz.prog ops Q (p::rest) a w:=by
 have hth:w.there g off (opl o u).size:=fun j hj=>by
  have hj':j<20:=hj
  refine ⟨?_,frozen_of_row w _ _ _ _ hg⟩
  rw [cell_of_row w _ _ _ _ _ hg,Array.getElem?_eq_getElem (by omega)]
  rfl
 refine wpList_store_mid hgd 74 x y ho g off (opl o u) hx hy hth (by kernel_rfl) (by obtain ⟨va,n,vc,rfl⟩:=hu;simp [Value.oneCell']) ?_
 obtain ⟨cur',h1,h2,h3,h4⟩:=qib g 74 (opl o u).toList off w cur hg
 exact hk _ cur' h1 h2 h3 h4 (Fr.of_setCells g _ _ w)
set_option maxHeartbeats 4000000 in
theorem qku (v:Value) (l:List (Opn × Value)) (w:World) (hO:Os w v l) (hf:∀ p ∈ l,p.1.fine∧p.1.cuts.length≤100000) (hn:l.length≤10000000) :
  Calls Tryz.prog 51 #[v] w fun e w'=>∃ v',e=.returned v'∧∃ l',Os w' v' l'∧fsts l'=fsts l∧Nn w.heap.size v' l'∧Below w.heap.size w w':=by
 obtain ⟨a,c,rfl,_,_⟩:=Sl.form hO.1
 obtain ⟨n,hnn⟩:∃ n,l.length=n:=⟨_,rfl⟩
 have HN:=hid hnn
 have hcell:∀ i (h:i<l.length),∃ b off,a=some ⟨b,off,none⟩∧b<w.heap.size∧∀ j,j<20→w.cell? ⟨b,off+i*20+j,none⟩=(opl (l[i]).1 (l[i]).2)[j]?:=by
  intro i h
  obtain ⟨b,off,c',e,_,_,hb,hc⟩:=hO.inv (by omega)
  simp only [Value.slice.injEq] at e
  exact ⟨b,off,e.1,hb,hc i h⟩
 have HCE:=hid hcell
 have HV:=hid hO.2
 have HF:=hid hf
 rw [hnn] at hn ⊢
 obtain ⟨i0,hi,hz0,hz1,hz2⟩:=info_parts qlx
 have hmk:i0.bytes*n≤281474976710656:=by rw [hz2];omega
 have hkm:n≤maxLen:=by unfold maxLen;omega
 clear hcell hO hf hnn
 go_enter Tryz.func51,Tryz.ntmps51
 go_wp2_with (at_make;refine wpList_make_full _ rfl (.tmp 7) (.tmp 7) 38 rfl w.heap.size 74 i0 _ 20 Tryz.underlying38 hi hz0 hz1 .i64 .i64 _ _ n rfl rfl rfl rfl hmk hkm (Nat.le_refl _) ?_;intro w2 hown hgrow)
 have hb2:Below w.heap.size w w2:=(Below.refl _ w).grown hgrow (Nat.le_refl _) (by intro k hk;cases hk)
 have hrow:∃ cur:Array Value,w2.heap[w.heap.size]?=some (.cells cur 74 (0,0))∧cur.size=n*20:=by
  rcases hown.2 with ⟨e,_⟩ | ⟨g',cap,cur,e,_,hg,_,_,hcs,_⟩
  ·cases e
  ·simp only [Value.slice.injEq,Option.some.injEq,Addr.mk.injEq,and_true,true_and] at e
   obtain ⟨rfl,rfl⟩:=e
   exact ⟨cur,hg,hcs⟩
 have HR2:=hid hrow
 have HB2:=hid hb2
 clear hown hgrow hrow hb2 hz0 hz1 hz2 hi hmk i0
 go_loopw [11] (fun i wr=>∃ (k:Nat) (l':List (Opn × Value)) (cur:Array Value),k≤n∧i=.int .i64 k∧l'.length=k∧fsts l'=fsts (l.take k)∧wr.heap[w.heap.size]?=some (.cells cur 74 (0,0))∧cur.size=n*20∧cur.toList.take (k*20)=l'.flatMap opc∧(∀ p ∈ l',Cs wr p.2 p.1.cuts)∧Nw (w.heap.size+1) l'∧Below w.heap.size w wr) (fun i _=>n - (intOf i).toNat)
 case atStart =>
  obtain ⟨cur,h1,h2⟩:=HR2.out
  exact ⟨0,[],cur,Nat.zero_le _,rfl,rfl,rfl,h1,h2,(by simp),(fun p hp=>by cases hp),Nw.nil _,HB2.out⟩
 case round =>
  obtain ⟨k,l',cur,hk,rfl,hl',hfs,hcur,hcs,hct,hcu,hnw,hb⟩:=hrel
  have HL:=hid hl'
  have HFS:=hid hfs
  have HCUR:=hid hcur
  have HCS0:=hid hcs
  have HCT:=hid hct
  have HCU:=hid hcu
  have HNW:=hid hnw
  have B4:=hid hb
  clear hl' hfs hcur hcs hct hcu hnw hb
  by_cases hlt:k<n
  ·have hx:k<l.length:=by have:=HN.out;omega
   obtain ⟨b,off,ha,hbl,hc⟩:=HCE.out k hx
   subst ha
   obtain ⟨⟨o,v⟩,hp⟩:∃ p,l[k]=p:=⟨_,rfl⟩
   have hfin:=HF.out _ (List.getElem_mem hx)
   have hcs:=HV.out _ (List.getElem_mem hx)
   rw [hp] at hc hfin hcs
   dsimp only at hc hfin hcs
   have HP:=hid hp
   have HC:Hid (∀ j,j<20→wr.cell? ⟨b,off+k*20+j,none⟩=(opl o v)[j]?):=hid (fun j hj=>(B4.out.cell hbl).trans (hc j hj))
   have HFI:=hid hfin
   have HCS:=hid (hcs.below B4.out)
   have hvf:∃ va n vc,v=.slice va n vc:=by
    obtain ⟨va,vc,e,_⟩:=hcs.form
    exact ⟨va,_,vc,e⟩
   have HVF:=hid hvf
   have HA5:=hid (ba wr (opo o v))
   have HO5:=hid (Ob.new wr o v)
   have HCS5:=hid (HCS.out.below HA5.out)
   have B5:=hid (bt B4.out HA5.out)
   have HCU5:Hid (∀ p ∈ l',Cs (wr.alloc (opo o v)) p.2 p.1.cuts):=hid (fun p hp=>(HCU.out p hp).below HA5.out)
   have HCUR5:Hid ((wr.alloc (opo o v)).heap[w.heap.size]?=some (.cells cur 74 (0,0))):=hid ((HA5.out.block _ (Array.getElem?_eq_some_iff.1 HCUR.out).1).trans HCUR.out)
   have HS5:Hid (w.heap.size+1≤(wr.alloc (opo o v)).heap.size):=hid (by have:=(Array.getElem?_eq_some_iff.1 HCUR5.out).1;omega)
   have b1':(k:Int)<(n:Int):=by omega
   clear hp hc hfin hcs hvf hbl
   have HE:=hid (qwk (opv o v) o v rfl _ HCS5.out HFI.out.1 HFI.out.2)
   go_wp2_with (first | (refine qak _ rfl (qba rfl rfl HC.out) ?_) | (refine qch rfl _ _ rfl 0 o v HVF.out rfl rfl ?_) | (refine qae rfl _ rfl wr.heap.size rfl o v HO5.out ?_) | fail)
   refine HE.out.mono ?_
   rintro e w6 ⟨u,rfl,hcs6,hb6,hnu⟩
   obtain ⟨ua,uc,hu,_⟩:=hcs6.form
   have HU:=hid hcs6
   have HNU:Hid (∀ k,u.ownBlock=some k→w.heap.size+1≤k):=hid (fun k hk=>Nat.le_trans HS5.out (hnu k hk))
   have HUF:Hid (∃ va n vc,u=.slice va n vc):=hid ⟨_,_,_,hu⟩
   have B6:=hid (bt B5.out hb6)
   have HCUR6:Hid (w6.heap[w.heap.size]?=some (.cells cur 74 (0,0))):=hid ((hb6.block _ (Array.getElem?_eq_some_iff.1 HCUR5.out).1).trans HCUR5.out)
   have HCU6:Hid (∀ p ∈ l',Cs w6 p.2 p.1.cuts):=hid (fun p hp=>(HCU5.out p hp).below hb6)
   have HTH:Hid (k*20+20≤cur.size):=hid (by have:=HCS0.out;omega)
   clear HE hcs6 hb6 hnu HCU5 HCUR5 HO5 HCS5 hu
   go_wp2_with (first | (refine qhh rfl _ _ rfl w.heap.size (k*20) rfl o u HUF.out rfl cur HCUR6.out HTH.out ?_;intro w7 cur' h71 h72 h73 h74 h75;have C7:=hid h71;have S7:=hid h72;have A7:=hid h73;have N7:=hid h74;have F7:=hid h75;clear h71 h72 h73 h74 h75) | fail)
   go_roundw
   case rel =>
    have hl:=HL.out
    subst hl
    have htk:fsts (l.take (l'.length+1))=fsts (l.take l'.length)++[o]:=by
     unfold fsts
     rw [List.take_succ_eq_append_getElem hx,List.map_append,HP.out]
     rfl
    have hcs7:∀ p ∈ l'++[(o,u)],Cs w7 p.2 p.1.cuts:=by
     intro p hp
     have hnp:∀ k,p.2.ownBlock=some k→w.heap.size+1≤k:=by
      rcases List.mem_append.1 hp with hp | hp
      ·exact HNW.out p hp
      ·rw [List.mem_singleton.1 hp];exact HNU.out
     have hcp:Cs w6 p.2 p.1.cuts:=by
      rcases List.mem_append.1 hp with hp | hp
      ·exact HCU6.out p hp
      ·rw [List.mem_singleton.1 hp];exact HU.out
     exact Sl.kept hcp (fun k hk hlt=>F7.out.block k hlt (by have:=hnp k hk;omega))
    refine ⟨l'.length+1,l'++[(o,u)],cur',by omega,by go_num,by simp,?_,C7.out,S7.out.trans HCS0.out,qxp S7.out HCS0.out hlt HCT.out A7.out N7.out,hcs7,HNW.out.snoc HNU.out,?_⟩
    ·rw [htk,←HFS.out]
     simp [fsts]
    ·exact B6.out.trans (F7.out.below (fun k hk e=>by omega) B6.out.size)
   case measure=>simp [intOf];omega
  ·have b1':¬ (k:Int)<(n:Int):=by omega
   have e1:k=n:=by omega
   subst e1
   have htk:l.take k=l:=List.take_of_length_le (by have:=HN.out;omega)
   rw [htk] at HFS
   go_wp2
   go_ret
   refine ⟨_,rfl,l',⟨?_,HCU.out⟩,HFS.out,⟨fun k hk=>by simp [Value.ownBlock] at hk;omega,fun p hp q hq=>Nat.le_of_succ_le (HNW.out p hp q hq)⟩,B4.out⟩
   have hl:=HL.out
   subst hl
   refine ⟨qbj opc 20 qeh l',some ⟨w.heap.size,0,none⟩,l'.length,rfl,Nat.le_refl _,hkm,(fun e=>by cases e),fun j u hu=>⟨_,0,rfl,?_⟩⟩
   rw [Nat.zero_add,cell_of_row wr _ _ _ _ _ HCUR.out]
   rw [←HCT.out,List.getElem?_take] at hu
   by_cases hj:j<l'.length*20
   ·rw [if_pos hj] at hu;simpa using hu
   ·rw [if_neg hj] at hu;cases hu
def DB (D:List Opn × Bool) (w:World) (e:Ending) (w':World):Prop:=∃ v l,e=.returned (.tuple #[v,.bool D.2])∧Os w' v l∧fsts l=D.1∧Below w.heap.size w w'∧Nn w.heap.size v l
theorem DB.no {D:List Opn × Bool}{w w':World}(hd:D=([],false)) (hb:Below w.heap.size w w'):DB D w (.returned (.tuple #[.slice none 0 0,.bool false])) w':=by
 subst hd
 exact ⟨_,[],rfl,⟨Sl.nil _ _,fun p hp=>by cases hp⟩,rfl,hb,fun k hk=>by (cases hk),Nw.nil _⟩
theorem DB.yes {D:List Opn × Bool}{w w':World}{v:Value}{l:List (Opn × Value)}(hd:D=(fsts l,true)) (ho:Rw w.heap.size w' v l) (hn:Nw w.heap.size l) (hb:Below w.heap.size w w'):DB D w (.returned (.tuple #[v,.bool true])) w':=by
 subst hd
 exact ⟨v,l,rfl,ho.os,rfl,hb,fun k hk=>(ho.1.lt k hk).1,hn⟩
set_option maxHeartbeats 4000000 in
theorem qoc (vb:Value) (xs:List Int) (w:World) (h:Bs w vb xs) (hn:xs.length≤1099511627776) :
  Calls Tryz.prog 65 #[vb] w fun e w'=>DB (decA mRef xs) w e w':=by
 have HB:=hid h
 have HLN:=hid hn
 have HBY:=hid h.range
 have hrv:=qfe (m:=1048576) (s:=(xs,false)) h.range
 obtain ⟨N0,s1,hrn⟩:∃ N0 s1,rn 1048576 (xs,false)=(N0,s1):=⟨_,_,rfl⟩
 rw [hrn] at hrv
 obtain ⟨n,rfl⟩:∃ n:Nat,N0=n:=⟨N0.toNat,by have:=hrv.1;simp at this;omega⟩
 have hn20:n≤1048576:=by have:=hrv.2.2 (by decide);simp at this;omega
 have HRN:=hid hrn
 have HD:=hid (qwg (m:=mRef) hrn)
 obtain ⟨D,hD⟩:∃ D,decA mRef xs=D:=⟨_,rfl⟩
 rw [hD] at HD ⊢
 clear h hn hrv hrn hD
 go_enter Tryz.func65,Tryz.ntmps65
 go_wp2_with fail
 refine (qet vb xs w HB.out (by have:=HLN.out;omega)).mono ?_
 rintro e w2 ⟨g,cap,rfl,hown,b2⟩
 have hbs:=Bs.of_own hown HBY.out
 have HA3:=ba w2 (.cells #[.slice (some ⟨g,0,none⟩) xs.length cap,.bool false] 109)
 have HX:Hid (Cx (w2.alloc (.cells #[.slice (some ⟨g,0,none⟩) xs.length cap,.bool false] 109)) w2.heap.size (xs,false)):=hid ⟨⟨_,heap_alloc_new w2 _,hbs.below HA3⟩,⟨HBY.out,fun e=>by cases e⟩,HLN.out⟩
 have BB:=hid (bt b2 HA3)
 have hcB:w.heap.size≤w2.heap.size:=b2.size
 clear hown b2 HA3 hbs
 go_wp2_with fail
 refine (qfs w2.heap.size (xs,false) 1048576 _ HX.out).mono ?_
 rintro e w4 ⟨rfl,hx,hg⟩
 obtain ⟨c,hc⟩:∃ c,w2.heap.size=c:=⟨_,rfl⟩
 rw [hc] at hx hg hcB ⊢
 rw [HRN.out] at hx ⊢
 have B4:=hid (qaa BB.out (Fr.grown hg) hcB)
 have X4:=hid (Cx.below hx (ba w4 (.cells #[] 74)))
 have hs4:w.heap.size≤w4.heap.size:=B4.out.size
 have R4:=hid (Rw.made (w:=w4) hs4)
 have BB4:=hid (bt B4.out (ba w4 (.cells #[] 74)))
 clear hx hg hc HX BB
 go_wp2
 go_loopw [6,7] (fun r i wr=>∃ (j:Nat) (l:List (Opn × Value)) (q:St),j≤n∧i=.int .i64 j∧(∃ ra rc,r=.slice ra j rc)∧l.length=j∧rdA mRef j s1=some (fsts l,q)∧Cx wr c q∧Rw w.heap.size wr r l∧Nw w.heap.size l∧Below w.heap.size w wr) (fun _ i _=>n - (intOf i).toNat)
 case atStart=>exact ⟨0,[],s1,Nat.zero_le _,rfl,⟨_,_,rfl⟩,rfl,rfl,X4.out,R4.out,Nw.nil _,BB4.out⟩
 case round =>
  obtain ⟨j,l,q,hj,rfl,⟨ra,rc,rfl⟩,hll,hrd,hx,hr,hnw,hb⟩:=hrel
  have HNW:=hid hnw
  have HX:=hid hx
  have HR:=hid hr
  have BB:=hid hb
  have HRD:=hid hrd
  have HLL:=hid hll
  clear hr hb hrd hll hnw
  obtain ⟨qs,qb⟩:=q
  obtain ⟨⟨cv,hcv,hcb⟩,hvl,hql⟩:=hx
  have hql':qs.length≤1099511627776:=hql
  clear hql
  have HVL:=hid hvl
  obtain ⟨ca,cc,rfl⟩:=hcb.form
  have k0:=cell_of_row wr c 0 _ _ _ hcv
  have k1:=cell_of_row wr c 1 _ _ _ hcv
  simp only [List.getElem?_toArray,List.getElem?_cons_zero,List.getElem?_cons_succ] at k0 k1
  have HCV:=hid hcv
  clear hcv hcb hvl
  by_cases hlt:j<n
  ·have b1':(j:Int)<(n:Int):=by omega
   cases qb with
   | true =>
    have hq:qs=[]:=HVL.out.2 rfl
    subst hq
    have hd:D=([],false):=by
     have h1:=HD.out
     rw [qer mRef (j+1) n s1 (qyb HRD.out rfl) (by omega)] at h1
     exact h1
    have HDD:=hid hd
    clear hd
    go_wp2
    go_ret2
    exact DB.no HDD.out BB.out
   | false =>
    obtain ⟨t,q2,ht⟩:∃ t q2,rt (mRef (qs,false)) (qs,false)=(t,q2):=⟨_,_,rfl⟩
    have hst:=qdz mRef j s1 (qs,false) (fsts l) HRD.out
    have hsh:=(qfj (mRef (qs,false)) (qs,false) HVL.out.1).1
    rw [ht] at hst hsh
    have htb:K.Byt (tx t):=fun x hx=>M.ofStr_byte _ x hx
    have NT:=hid (qsy c (qs,false) 281474976710656 wr HX.out)
    have ht':rt 281474976710656 (qs,false)=(t,q2):=ht
    rw [ht'] at NT
    have HT:=hid ht
    have HST:=hid hst
    have HLE:Hid (l.length≤1048576):=by show _≤_;rw [HLL.out];omega
    have HSH:Hid (t.size≤1099511627776):=by show _≤_;simp at hsh;omega
    have HTB:=hid htb
    clear ht hst hsh htb ht'
    go_wp2_with fail
    refine NT.out.mono ?_
    rintro e w5 ⟨rfl,hx5,hg5⟩
    have HBS:=hid (BB.out.size)
    have R5:=hid (HR.out.cur HX.out.1 (by decide) hg5)
    have B5:=hid (qaa BB.out (Fr.grown hg5) hcB)
    have X5:=hid hx5
    clear hx5 hg5 k0 k1 NT
    obtain ⟨u6,w6,hrun,hb6,hB6⟩:=tobytes t w5 HSH.out
    have hb6l:=hb6.len
    have X6:=hid (X5.out.below hB6)
    have R6:=hid (R5.out.below hB6)
    have B6:=hid (bt B5.out hB6)
    have U6:=hid hb6
    have hs6:=B6.out.size
    obtain ⟨ua,uc,rfl⟩:=hb6.form
    clear hb6 hB6 hb6l X5 R5 B5
    go_wp2_with fail
    refine (qob _ (tx t) w6 U6.out (by rw [qaw];exact HSH.out)).mono ?_
    rintro e w7 ⟨vo,rfl,hcs,b7,hnew⟩
    rw [qwe ref_ok jac HTB.out] at hcs ⊢
    obtain ⟨⟨oo,ok⟩,hoo⟩:∃ z,decO Bnd.own (tx t)=z:=⟨_,rfl⟩
    rw [hoo] at hcs ⊢
    have hst:=HST.out
    rw [hoo] at hst
    have HST:=hid hst
    have X7:=hid (X6.out.below b7)
    have R7:=hid (R6.out.below b7)
    have B7:=hid (bt B6.out b7)
    have C7:=hid hcs
    have AW7:Hid (Aw (.slice ra j rc) (oo,vo)):=.inr (fun k hk e=>by
     have h1:=hnew k e
     have h2:=(R6.out.1.lt k hk).2
     omega)
    have NU7:Hid (∀ k,vo.ownBlock=some k→w.heap.size≤k):=hid (fun k hk=>Nat.le_trans B6.out.size (hnew k hk))
    obtain ⟨va,vc,rfl,_⟩:=hcs.form
    clear hcs b7 hnew hst hoo X6 R6 B6 U6 hrun
    cases ok with
    | false =>
     have hd:D=([],false):=by
      have h1:=HD.out
      rw [qer mRef (j+1) n s1 (by rw [HST.out];rfl) (by omega)] at h1
      exact h1
     have HDD:=hid hd
     clear hd
     go_wp2_with (first
      | (refine qby rfl rfl ?_;intro w8 ho8 hb8 hlt8;have HO8:=hid ho8;have B8:=hid (bt B7.out hb8);have hp8:w.heap.size≤w7.heap.size:=B7.out.size;clear ho8 hb8 hlt8)
      | (refine qaj rfl rfl rfl rfl ⟨_,_,_,rfl⟩ HO8.out ?_;intro w9 ho9 hf9;have B9:=hid (qaa B8.out hf9 hp8);clear ho9 hf9))
     go_ret2
     exact DB.no HDD.out B9.out
    | true =>
     have HRB:Hid (w.heap.size≤w7.heap.size):=B7.out.size
     go_wp2_with (first
      | (refine qby rfl rfl ?_;intro w8 ho8 hb8 hlt8;have HO8:=hid ho8;have HB8:=hid hb8;clear ho8 hb8 hlt8)
      | (refine qaj rfl rfl rfl rfl ⟨_,_,_,rfl⟩ HO8.out ?_;intro w9 ho9 hf9;have HO9:=hid ho9;have b79:=qaa HB8.out hf9 (Nat.le_refl _);have X9:=hid (X7.out.below b79);have R9:=hid (R7.out.below b79);have C9:=hid (C7.out.below b79);have B9:=hid (bt B7.out b79);clear ho9 hf9 b79)
      | (refine qae rfl _ rfl _ rfl _ _ HO9.out ?_)
      | (refine qdu rfl _ rfl oo _ rfl ?_;have X10:=hid (X9.out.below (ba w9 (opo oo (.slice va oo.cuts.length vc))));have R10:=hid (R9.out.below (ba w9 (opo oo (.slice va oo.cuts.length vc))));have O10:=hid (Os.one w9 oo _ C9.out);have B10:=hid (bt B9.out (ba w9 (opo oo (.slice va oo.cuts.length vc))));have HS10:Hid (w.heap.size≤(w9.alloc (opo oo (.slice va oo.cuts.length vc))).heap.size):=B10.out.size)
      | (at_builtin;refine qdm rfl _ _ rfl w.heap.size (.slice ra j rc) l rfl R10.out _ (oo,.slice va oo.cuts.length vc) rfl O10.out AW7.out HLE.out HS10.out ?_;intro v11 w11 hR11 hf11 hv11;have R11:=hid hR11;have HF11:=hid hf11;obtain ⟨a11,c11,rfl⟩:=hR11.form;clear hR11 hf11 hv11))
     have X11:Cx w11 c q2:=X10.out.fr HF11.out (fun e=>by
      obtain ⟨⟨u,hu,_⟩,_⟩:=X10.out
      exact qbh R10.out.1 hu (by decide) e) (fun k hk=>R10.out.2.1 k hk)
     have B11:Below w.heap.size w w11:=B10.out.trans (HF11.out.below (fun k hk e=>by have:=(R10.out.1.lt k e).1;omega) HS10.out)
     have hl1:(l++[(oo,Value.slice va oo.cuts.length vc)]).length=l.length+1:=by simp
     have hR:=R11.out
     rw [hl1] at hR
     have hlj:=HLL.out
     refine ⟨⟨j+1,l++[(oo,Value.slice va oo.cuts.length vc)],q2,by omega,by go_num,⟨a11,c11,by rw [hlj]⟩,by rw [hl1,hlj],?_,X11,hR,HNW.out.snoc NU7.out,B11⟩,by simp [intOf];omega⟩
     rw [HST.out,if_pos trivial]
     simp [fsts]
  ·obtain rfl:j=n:=by omega
   have b1':decide ((j:Int)<(j:Int))=false:=by simp
   have hd0:=HD.out
   rw [HRD.out] at hd0
   cases qb with
   | true =>
    have hd:D=([],false):=hd0
    have HDD:=hid hd
    clear hd hd0
    go_wp2
    go_ret2
    exact DB.no HDD.out BB.out
   | false =>
    by_cases hq:0<qs.length
    ·have hd:D=([],false):=by
      rw [hd0]
      cases qs with
      | nil=>simp at hq
      | cons x r=>rfl
     have HDD:=hid hd
     have hq':(0:Int)<(qs.length:Int):=by omega
     clear hd hd0
     obtain ⟨Z,hZ⟩:∃ Z,qs.length=Z:=⟨_,rfl⟩
     rw [hZ] at hq hq' k0
     clear hZ
     go_wp2
     go_ret2
     exact DB.no HDD.out BB.out
    ·obtain rfl:qs=[]:=List.eq_nil_of_length_eq_zero (by omega)
     have hd:D=(fsts l,true):=hd0
     have HDD:=hid hd
     clear hd hd0
     simp only [List.length_nil] at k0
     go_wp2
     go_ret2
     exact DB.yes HDD.out HR.out HNW.out BB.out
set_option maxHeartbeats 2000000 in
theorem qnq (v:Value) (l:List Ct) (w:World) (hC:Cs w v l) (hl:l.length≤100000) :
  Calls Tryz.prog 74 #[v] w fun e w'=>∃ u,e=.returned u∧w'.ownsRow w.heap.size 111 4 u l.length (l.flatMap cutc)∧Below w.heap.size w w':=by
 obtain ⟨a,c,rfl,_,_⟩:=hC.form
 have HA:=hid (ba w (.cells #[] 111))
 have HC:=hid (hC.below HA.out)
 have HO:Hid ((w.alloc (.cells #[] 111)).ownsRow w.heap.size 111 4 (.slice (some ⟨w.heap.size,0,none⟩) 0 0) 0 []):=hid (World.ownsRow_made w #[] 0 (Nat.le_refl _) (Nat.zero_le _) rfl)
 have H1C:Hid (∀ x ∈ l.flatMap cutc,x.oneCell'=true):=hid (fun x hx=>by
  obtain ⟨c,_,hx⟩:=List.mem_flatMap.1 hx
  simp at hx
  rcases hx with rfl | rfl | rfl | rfl<;>rfl)
 obtain ⟨n,hn⟩:∃ n,l.length=n:=⟨_,rfl⟩
 have hb:(0+n)*32≤140737488355328:=by omega
 have hm:0+n≤maxLen:=by unfold maxLen;omega
 have hSl:Hid (Sl 4 (w.alloc (.cells #[] 111)) (.slice a n c) n (l.flatMap cutc)):=hid (by have:=HC.out;unfold Cs at this;rwa [hn] at this)
 have HS:=hid HA.out.size
 rw [hn]
 clear hC hl hn HC
 go_enter Tryz.func74,Tryz.ntmps74
 go_wp2_with (first | (at_builtin;refine qbc 72 111 4 32 _ Tryz.underlying72 qik rfl (Nat.succ_pos 3) rfl _ _ rfl w.heap.size (.slice (some ⟨w.heap.size,0,none⟩) 0 0) _ [] rfl HO.out _ n (l.flatMap cutc) rfl hSl.out H1C.out hb hm HS.out ?_;intro v5 w5 hown5 hg5 hv5;rw [Nat.zero_add,List.nil_append] at hown5;obtain ⟨a5,c5,rfl⟩:=qcx hown5;have HO5:=hid hown5;have HG5:=hid hg5;clear hown5 hg5 hv5) | fail)
 have B5:Hid (Below w.heap.size w w5):=hid (HA.out.trans ((Fr.of_grown (S:=fun k=>w.heap.size≤k) HG5.out (fun k e=>by simp [Value.ownBlock] at e;omega)).below (fun k hk e=>by omega) HS.out))
 go_ret
 exact ⟨_,rfl,HO5.out,B5.out⟩
set_option maxHeartbeats 2000000 in
theorem qst (A:Value) (o:Opn) (v:Value) (hA:A=opv o v) (w:World) (hC:Cs w v o.cuts) (hl:o.cuts.length≤100000) :
  Calls Tryz.prog 45 #[A] w fun e w'=>∃ u,e=.returned (opv o u)∧Cs w' u o.cuts∧Below w.heap.size w w'∧∀ k,u.ownBlock=some k→w.heap.size≤k:=by
 subst hA
 obtain ⟨va,vc,hv,_⟩:=hC.form
 have HV:Hid (∃ va n vc,v=.slice va n vc):=hid ⟨_,_,_,hv⟩
 have HA:=hid (ba w (opo o v))
 have HO:=hid (Ob.new w o v)
 have HC:=hid (hC.below HA.out)
 clear hC hv
 go_enter Tryz.func45,Tryz.ntmps45
 have hrb:(w.alloc (opo o v)).heap.size=w.heap.size+1:=by simp
 have HRB:=hid hrb
 clear hrb
 go_wp2_with (first
  | (have hh2:=HR2.out;refine qby rfl rfl ?_;intro w3 ho3 hb3 hlt3;clear hh2;have HL3:=hid ho3;have HR3:=hid (HR2.out.below hb3);have HO3:=hid (HO2.out.below hb3);have HC3:=hid (HC2.out.below hb3);have B3:=hid (bt B2.out hb3);have LT3:=hid hlt3;clear ho3 hb3 hlt3)
  | (refine qby rfl rfl ?_;intro w2 ho2 hb2 hlt2;rw [HRB.out] at ho2 hlt2;have HR2:=hid ho2;have HO2:=hid (HO.out.below hb2);have HC2:=hid (HC.out.below hb2);have B2:=hid (bt HA.out hb2);have LT2:=hid hlt2;clear ho2 hb2 hlt2)
  | (refine qae rfl _ rfl w.heap.size rfl o v HO2.out ?_)
  | (refine qaj rfl rfl rfl rfl HV.out HL3.out ?_;intro w4 ho4 hf4;have HL4:=hid ho4;have HF4:=hid hf4;have HO4:=hid (HO3.out.fr hf4 (fun e=>by have h2:=LT2.out;omega));clear ho4 hf4)
  | (refine qam rfl rfl rfl HO4.out ?_)
  | fail)
 have B4:=hid (qaa B3.out HF4.out (by have h2:=LT2.out;omega))
 have hq:w.heap.size+1<w2.heap.size:=LT2.out
 have HR4:=hid (HR3.out.fr HF4.out (fun e=>by omega))
 obtain ⟨ua,uc,rfl,_⟩:=HC3.out.form
 have HC4:Hid (Cs w4 (.slice ua o.cuts.length uc) o.cuts):=hid (by
  by_cases h0:o.cuts=[]
  ·have:=HC3.out
   rw [h0] at this ⊢
   exact this.none
  ·refine Sl.kept HC3.out (fun k hk hlt=>HF4.out.block k hlt (fun e=>?_))
   have h1:=HC2.out.blk h0 hk
   omega)
 obtain ⟨q,hqq⟩:∃ q,w2.heap.size=q:=⟨_,rfl⟩
 rw [hqq] at HL4 hq ⊢
 clear hqq HF4 HL3 HR3 HC3 HC2 HO2 HR2 HO3 HO HC
 refine (qnq _ o.cuts w4 HC4.out hl).mono ?_
 rintro e w5 ⟨u5,rfl,ho5,b5⟩
 have HU5:=hid ho5
 have HL5:=hid (HL4.out.below b5)
 have HR5:=hid (HR4.out.below b5)
 have B5:=hid (bt B4.out b5)
 have H45:=hid B4.out.size
 obtain ⟨a5,c5,rfl⟩:=qcx ho5
 clear ho5 b5 HL4 HR4 HO4
 go_wp2_with (first
  | (refine qed o.cuts rfl rfl rfl rfl HL5.out ?_;intro w6 ho6 hf6;have HL6:Hid (Ob w6 q o (.slice a5 o.cuts.length c5)):=hid ho6;have HR6:=hid (HR5.out.fr hf6 (fun e=>by omega));have HF6:=hid hf6;clear ho6 hf6)
  | (refine qae rfl _ rfl q rfl o (.slice a5 o.cuts.length c5) HL6.out ?_)
  | (refine qaj rfl rfl rfl rfl ⟨_,_,_,rfl⟩ HR6.out ?_;intro w7 ho7 hf7;have HR7:=hid ho7;have HF7:=hid hf7;clear ho7 hf7)
  | fail)
 have B7:=hid (qaa (qaa B5.out HF6.out (by omega)) HF7.out (by omega))
 refine bodyPost_ret (results_cell_row rfl _ _ (w.heap.size+1) 74 (opl o (.slice a5 o.cuts.length c5)) (0,0) _ rfl HR7.out Tryz.underlying74 rfl (by kernel_rfl)) rfl ?_
 have hu6:=qaz HU5.out HF6.out (fun k hk e=>qbh HU5.out HL5.out (by decide) (e▸hk))
 have hu7:=qaz hu6 HF7.out (fun k hk e=>qbh hu6 HR6.out (by decide) (e▸hk))
 exact ⟨_,rfl,Sl.of_own hu7,B7.out,fun k hk=>Nat.le_trans H45.out (HU5.out.lt k hk).1⟩
def YX (w:World) (l:List (Opn × Value)) (v':Value) (w':World):Prop:=∃ l',Rw w.heap.size w' v' l'∧fsts l'=fsts l∧Nw w.heap.size l'∧Below w.heap.size w w'
set_option maxHeartbeats 4000000 in
theorem qjv (v:Value) (l:List (Opn × Value)) (w:World) (hO:Os w v l) (hf:∀ p ∈ l,p.1.cuts.length≤100000) (hn:l.length≤1048576) :
  Calls Tryz.prog 11 #[v] w fun e w'=>∃ v',e=.returned v'∧YX w l v' w':=by
 obtain ⟨a,c,rfl,_,_⟩:=Sl.form hO.1
 obtain ⟨n,hnn⟩:∃ n,l.length=n:=⟨_,rfl⟩
 have HN:=hid hnn
 have HO:=hid hO
 have HF:=hid hf
 rw [hnn] at hn HO ⊢
 have HR:=hid (Rw.made (B:=w.heap.size) (w:=w) (Nat.le_refl _))
 have HA:=hid (ba w (.cells #[] 74))
 clear hO hf hnn
 go_enter Tryz.func11,Tryz.ntmps11
 go_wp2
 go_loopw [3,4] (fun o i wr=>∃ (k:Nat) (l':List (Opn × Value)),i=.int .i64 k∧k≤n∧Rw w.heap.size wr o l'∧l'.length=k∧fsts l'=fsts (l.take k)∧Nw w.heap.size l'∧Below w.heap.size w wr) (fun _ i _=>n - (intOf i).toNat)
 case atStart=>exact ⟨0,[],rfl,Nat.zero_le _,HR.out,rfl,rfl,Nw.nil _,HA.out⟩
 case round =>
  obtain ⟨k,l',rfl,hk,hr,hl',hfs,hnw,hb⟩:=hrel
  have R0:=hid hr
  obtain ⟨ao,co,rfl⟩:=hr.form
  have HL':=hid hl'
  have HFS:=hid hfs
  have HNW:=hid hnw
  have B0:=hid hb
  rw [hl'] at R0
  rw [hl']
  clear hr hl' hfs hnw hb HR HA
  by_cases hlt:k<n
  ·have hlt':(k:Int)<(n:Int):=by omega
   have hx:k<l.length:=by rw [HN.out];exact hlt
   obtain ⟨b,off,c',e1,_,_,hbl,hc⟩:=HO.out.inv (by rw [HN.out];omega)
   rw [HN.out] at e1
   simp only [Value.slice.injEq] at e1
   obtain ⟨rfl,-,rfl⟩:=e1
   have hc:=hc k hx
   obtain ⟨⟨o,u⟩,hp⟩:∃ p,l[k]=p:=⟨_,rfl⟩
   have hcs:=HO.out.2 _ (List.getElem_mem hx)
   have hcl:=HF.out _ (List.getElem_mem hx)
   rw [hp] at hc hcs hcl
   dsimp only at hc hcs hcl
   have HP:=hid hp
   have HC:Hid (∀ j,j<20→wr.cell? ⟨b,off+k*20+j,none⟩=(opl o u)[j]?):=hid (fun j hj=>(B0.out.cell hbl).trans (hc j hj))
   have HCP:=hid (qst (opv o u) o u rfl wr (hcs.below B0.out) hcl)
   clear hp hc hcs hcl
   go_wp2_with (first | (refine qak _ rfl (qba rfl rfl HC.out) ?_) | fail)
   refine HCP.out.mono ?_
   rintro e w6 ⟨u6,rfl,hcs6,b6,hu6⟩
   have hA:=ba w6 (opo o u6)
   have O7:=hid (Os.one w6 o u6 hcs6)
   have R7:=hid ((R0.out.below b6).below hA)
   have B7:=hid (bt (bt B0.out b6) hA)
   have S7:=hid B7.out.size
   have AW7:Hid (Aw (.slice ao k co) (o,u6)):=hid (.inr (fun j hj e=>by
    have h1:=hu6 j e
    have h2:=(R0.out.1.lt j hj).2
    omega))
   have HU6:Hid (∀ j,u6.ownBlock=some j→w.heap.size≤j):=hid (fun j hj=>Nat.le_trans B0.out.size (hu6 j hj))
   have hlen:l'.length≤1048576:=by have:=HL'.out;omega
   clear HCP hcs6 b6 hu6 hA
   go_wp2_with (first
    | (refine qdu rfl _ rfl o u6 rfl ?_)
    | (at_builtin;refine qdm rfl _ _ rfl w.heap.size (.slice ao k co) l' rfl R7.out _ (o,u6) rfl O7.out AW7.out hlen S7.out ?_;intro v9 w9 hR9 hf9 hv9;have R9:=hid hR9;have HF9:=hid hf9;obtain ⟨a9,c9,rfl⟩:=hR9.form;clear hR9 hf9 hv9)
    | fail)
   have B9:Hid (Below w.heap.size w w9):=hid (B7.out.trans (HF9.out.below (fun j hj e=>by have:=(R7.out.1.lt j e).1;omega) S7.out))
   go_roundw
   case rel =>
    refine ⟨k+1,l'++[(o,u6)],by go_num,hlt,by have h9:=R9.out;rw [List.length_append] at h9;exact h9,by rw [List.length_append,HL'.out];rfl,?_,HNW.out.snoc HU6.out,B9.out⟩
    have htk:fsts (l.take (k+1))=fsts (l.take k)++[o]:=by
     unfold fsts
     rw [List.take_succ_eq_append_getElem hx,List.map_append,HP.out]
     rfl
    rw [htk,←HFS.out]
    simp [fsts]
   case measure=>simp [intOf];omega
  ·have hlt':¬ (k:Int)<(n:Int):=by omega
   have htk:l.take k=l:=List.take_of_length_le (by rw [HN.out];omega)
   go_wp2
   go_ret
   exact ⟨_,rfl,l',R0.out,by rw [HFS.out,htk],HNW.out,B0.out⟩
end Go.Proofs.YtkcjkncpaopjbaaGreatDoor
