/-
  Parts of the proof, one behind the other; what each proves stands at its head.
-/
import Derived.Test.YtkcjkncpaopjbaaGreatDoorPart24
import Derived.Test.YtkcjkncpaopjbaaGreatDoorPart15
import Derived.Test.YtkcjkncpaopjbaaGreatDoorPart4
import Derived.Test.YtkcjkncpaopjbaaGreatDoorPart17
import Derived.Test.YtkcjkncpaopjbaaGreatDoorPart23
import Derived.Test.YtkcjkncpaopjbaaGreatDoorPart9
import Derived.OrdersHeld
import Derived.Test.YtkcjkncpaopjbaaGreatDoorPart22
import Derived.Test.YtkcjkncpaopjbaaGreatDoorPart16

namespace Go.Proofs.YtkcjkncpaopjbaaGreatDoor
open Go.RowKit
set_option linter.unusedVariables false
set_option maxRecDepth 100000
theorem qpk (o:Opn) {f:Nat}(hf:f≤8) (hn:f ∉ told o.k):noughtF (keptO o) f=true:=by
 have hkk:∀ X:Opn,noughtF X f=noughtF X f:=fun _=>rfl
 unfold keptO
 unfold told at hn
 by_cases h1:o.k=1
 ·simp only [if_pos h1] at hn ⊢
  rcases nine hf with rfl | rfl | rfl | rfl | rfl | rfl | rfl | rfl | rfl<;>first | rfl | exact absurd (by decide) hn
 by_cases h2:o.k=2
 ·simp only [if_neg h1,if_pos h2] at hn ⊢
  rcases nine hf with rfl | rfl | rfl | rfl | rfl | rfl | rfl | rfl | rfl<;>first | rfl | exact absurd (by decide) hn
 by_cases h3:o.k=3
 ·simp only [if_neg h1,if_neg h2,if_pos h3] at hn ⊢
  rcases nine hf with rfl | rfl | rfl | rfl | rfl | rfl | rfl | rfl | rfl<;>first | rfl | exact absurd (by decide) hn
 by_cases h4:o.k=4
 ·simp only [if_neg h1,if_neg h2,if_neg h3,if_pos h4] at hn ⊢
  rcases nine hf with rfl | rfl | rfl | rfl | rfl | rfl | rfl | rfl | rfl<;>first | rfl | exact absurd (by decide) hn
 by_cases h5:o.k=5
 ·simp only [if_neg h1,if_neg h2,if_neg h3,if_neg h4,if_pos h5] at hn ⊢
  rcases nine hf with rfl | rfl | rfl | rfl | rfl | rfl | rfl | rfl | rfl<;>first | rfl | exact absurd (by decide) hn
 by_cases h6:o.k=6
 ·simp only [if_neg h1,if_neg h2,if_neg h3,if_neg h4,if_neg h5,if_pos h6] at hn ⊢
  rcases nine hf with rfl | rfl | rfl | rfl | rfl | rfl | rfl | rfl | rfl<;>first | rfl | exact absurd (by decide) hn
 ·simp only [if_neg h1,if_neg h2,if_neg h3,if_neg h4,if_neg h5,if_neg h6] at hn ⊢
  rcases nine hf with rfl | rfl | rfl | rfl | rfl | rfl | rfl | rfl | rfl<;>rfl
theorem qvi (o:Opn):keptO o=(told o.k).foldl (fun p f=>cpF f o p) { Opn.zero with k:=o.k,ir:=o.ir,im:=o.im,t:=o.t }:=by
 unfold keptO told headO
 by_cases h1:o.k=1
 ·simp only [if_pos h1];rfl
 by_cases h2:o.k=2
 ·simp only [if_neg h1,if_pos h2];rfl
 by_cases h3:o.k=3
 ·simp only [if_neg h1,if_neg h2,if_pos h3];rfl
 by_cases h4:o.k=4
 ·simp only [if_neg h1,if_neg h2,if_neg h3,if_pos h4];rfl
 by_cases h5:o.k=5
 ·simp only [if_neg h1,if_neg h2,if_neg h3,if_neg h4,if_pos h5];rfl
 by_cases h6:o.k=6
 ·simp only [if_neg h1,if_neg h2,if_neg h3,if_neg h4,if_neg h5,if_pos h6];rfl
 ·simp only [if_neg h1,if_neg h2,if_neg h3,if_neg h4,if_neg h5,if_neg h6];rfl
theorem qru {o:Opn}(h:rightO o=true):keptO o=o:=(qvi o).trans (qth h)
theorem qxr {o:Opn}(hr:ro o.ir o.im=true) (h1:1≤o.t) (h2:o.t≤1099511627776) (hk:keptO o=o):rightO o=((told o.k).all (rightF o) && !(told o.k).isEmpty):=by
 have hs:rs o.t o.ir=true:=by
  have:=qbm hr
  simp [rs]
  omega
 have ha:(List.range 9).all (goodF o)=(told o.k).all (rightF o):=by
  rw [Bool.eq_iff_iff,List.all_eq_true,List.all_eq_true]
  constructor
  ·intro h f hf
   have:=h f (List.mem_range.2 (by have:=qdc _ f hf;omega))
   unfold goodF at this
   rwa [if_pos hf] at this
  ·intro h f hf
   unfold goodF
   by_cases hm:f ∈ told o.k
   ·rw [if_pos hm];exact h f hm
   ·rw [if_neg hm]
    have:=qpk o (f:=f) (by have:=List.mem_range.1 hf;omega) hm
    rwa [hk] at this
 unfold rightO
 rw [hr,hs,ha]
 rfl
theorem qlo {o:Opn}(h:ro o.ir o.im=false):rightO o=false:=by unfold rightO;rw [h];rfl
theorem qkh {o:Opn}(h:o.t<1∨1099511627776<o.t):rightO o=false:=by
 have hs:rs o.t o.ir=false:=by
  simp [rs]
  omega
 unfold rightO
 rw [hs]
 simp
theorem qlp {o:Opn}(h:keptO o≠o):rightO o=false:=by
 cases hr:rightO o with
 | false=>rfl
 | true=>exact absurd (qru hr) h
set_option maxHeartbeats 8000000 in
theorem qrj (A:Value) (o:Opn) (v:Value) (hA:A=opv o v) (w:World) (hC:Cs w v o.cuts) (hfin:o.fine) :
  Calls Tryz.prog 52 #[A] w fun e w'=>e=.returned (.bool (rightO o))∧Below w.heap.size w w':=by
 have HAA:=hid hA
 have HC:=hid hC
 have HF:=hid hfin
 obtain ⟨R,hR⟩:∃ R,rightO o=R:=⟨_,rfl⟩
 rw [hR]
 have HR:=hid hR
 clear hA hC hR hfin
 go_enter Tryz.func52,Tryz.ntmps52
 go_upto_region 1 with (first
  | (refine qac rfl (.tmp 0) rfl A rfl o _ HAA.out ?_;intro w1 hob hb1 hlt1;have HO:=hid hob;have BB:=hid hb1;clear hob hb1 hlt1))
 have HC1:=hid (HC.out.below BB.out)
 cases hr:ro o.ir o.im
 ·have hn:=qlo hr
  refine xr1_a w1 w.heap.size o v HO.out hr (fun W hW=>?_)
  have B2:=hid (bt BB.out hW)
  have HN:=hid (hn.symm.trans HR.out)
  clear hW hn
  go_wp2
  go_ret
  exact ⟨by rw [←HN.out];rfl,B2.out⟩
 cases h1:decide (o.t<1)
 case true =>
  have hn:=qkh (o:=o) (.inl (of_decide_eq_true h1))
  refine xr1_b w1 w.heap.size o v HO.out hr h1 (fun W hW=>?_)
  have B2:=hid (bt BB.out hW)
  have HN:=hid (hn.symm.trans HR.out)
  clear hW hn
  go_wp2
  go_ret
  exact ⟨by rw [←HN.out];rfl,B2.out⟩
 cases h2:decide (1099511627776<o.t)
 case true =>
  have hn:=qkh (o:=o) (.inr (of_decide_eq_true h2))
  refine xr1_c w1 w.heap.size o v HO.out hr h1 h2 (fun W hW=>?_)
  have B2:=hid (bt BB.out hW)
  have HN:=hid (hn.symm.trans HR.out)
  clear hW hn
  go_wp2
  go_ret
  exact ⟨by rw [←HN.out];rfl,B2.out⟩
 by_cases hk:keptO o=o
 case neg =>
  have hn:=qlp hk
  refine xr1_d w1 w.heap.size o v HO.out hr h1 h2 HC1.out false (by simp [hk]) (fun W hW=>?_)
  have B2:=hid (bt BB.out hW)
  have HN:=hid (hn.symm.trans HR.out)
  clear hW hn
  go_wp2
  go_ret
  exact ⟨by rw [←HN.out];rfl,B2.out⟩
 refine xr1_d w1 w.heap.size o v HO.out hr h1 h2 HC1.out true (by simp [hk]) (fun W hW=>?_)
 have HN:=hid ((qxr hr (by have:=of_decide_eq_false h1;omega) (by have:=of_decide_eq_false h2;omega) hk).symm.trans HR.out)
 replace HO:=hid (HO.out.below hW)
 replace BB:=hid (bt BB.out hW)
 clear hW hr h1 h2 hk HC1
 go_upto_region 3 with fail
 refine xr3 W w.heap.size o v HO.out HF.out.1 (fun y28 y29 y30 y31 y32 y33 y34 y35 W3 hW3=>?_)
 replace HO:=hid (HO.out.below hW3)
 replace BB:=hid (bt BB.out hW3)
 clear hW3
 go_upto_region 4 with fail
 refine xr4 W3 w.heap.size o v HO.out (fun y36 y37 y38 y39 y40 y41 y42 y43 y44 y45 y46 y47 y48 W4 hW4=>?_)
 replace HO:=hid (HO.out.below hW4)
 replace BB:=hid (bt BB.out hW4)
 clear hW4
 obtain ⟨P3,hP3⟩:∃ P,(rb o.pr o.pm && K.right (tx o.key))=P:=⟨_,rfl⟩
 obtain ⟨P4,hP4⟩:∃ P,(ro o.sr o.sm && rc o.lr o.lm o.li && rc o.gr o.gm o.gi)=P:=⟨_,rfl⟩
 rw [hP3,hP4]
 have HP3:=hid hP3
 have HP4:=hid hP4
 clear hP3 hP4
 by_cases k1:o.k=1
 ·have hn:=HN.out
  rw [k1,show told 1=[1,2] from rfl] at hn
  have HN1:Hid (P3=R):=hid (by rw [←HP3.out,←hn];simp [rightF])
  clear hn
  go_wp2_with (first | (refine qai rfl rfl rfl HO.out ?_) | fail)
  go_ret
  exact ⟨by rw [←HN1.out];rfl,BB.out⟩
 by_cases k2:o.k=2
 ·have hn:=HN.out
  rw [k2,show told 2=[0,1,2] from rfl] at hn
  have HN1:Hid ((P3 && ro o.br o.bm)=R):=hid (by rw [←HP3.out,←hn];simp [rightF,Bool.and_comm,Bool.and_left_comm])
  clear hn
  cases P3
  ·go_wp2_with (first | (refine qai rfl rfl rfl HO.out ?_) | (refine qao rfl rfl rfl HO.out ?_) | (refine qar rfl rfl rfl HO.out ?_) | (refine qam rfl rfl rfl HO.out ?_) | fail)
   go_ret
   exact ⟨by rw [←HN1.out];rfl,BB.out⟩
  ·go_wp2_with (first | (refine qai rfl rfl rfl HO.out ?_) | (refine qao rfl rfl rfl HO.out ?_) | (refine qar rfl rfl rfl HO.out ?_) | (refine qam rfl rfl rfl HO.out ?_) | fail)
   refine (qcr o.br o.bm _).mono ?_
   rintro e w9 ⟨rfl,h9⟩
   have B9:=hid (bt BB.out (show Below W4.heap.size W4 w9 by rw [h9];exact ba W4 _))
   clear h9
   go_wp2
   go_ret
   exact ⟨by rw [←HN1.out];rfl,B9.out⟩
 by_cases k3:o.k=3
 ·have hn:=HN.out
  rw [k3,show told 3=[3,4,5,6] from rfl] at hn
  have HN1:Hid ((P4 && (decide (1≤o.text.size) && decide (o.text.size≤64)))=R):=hid (by rw [←HP4.out,←hn];simp [rightF,Bool.and_assoc])
  clear hn
  cases P4
  ·go_wp2_with (first | (refine qai rfl rfl rfl HO.out ?_) | (refine qao rfl rfl rfl HO.out ?_) | (refine qar rfl rfl rfl HO.out ?_) | (refine qam rfl rfl rfl HO.out ?_) | fail)
   go_ret
   exact ⟨by rw [←HN1.out];rfl,BB.out⟩
  ·cases d1:decide (1≤o.text.size)
   ·have d1':¬ (1:Int)≤(o.text.size:Int):=by have:=of_decide_eq_false d1;omega
    rw [d1] at HN1
    clear d1
    go_wp2_with (first | (refine qai rfl rfl rfl HO.out ?_) | (refine qao rfl rfl rfl HO.out ?_) | (refine qar rfl rfl rfl HO.out ?_) | (refine qam rfl rfl rfl HO.out ?_) | fail)
    go_ret
    exact ⟨by rw [←HN1.out];rfl,BB.out⟩
   ·have d1':(1:Int)≤(o.text.size:Int):=by have:=of_decide_eq_true d1;omega
    rw [d1] at HN1
    clear d1
    cases d2:decide (o.text.size≤64)
    ·have d2':¬ (o.text.size:Int)≤64:=by have:=of_decide_eq_false d2;omega
     rw [d2] at HN1
     clear d2
     go_wp2_with (first | (refine qai rfl rfl rfl HO.out ?_) | (refine qao rfl rfl rfl HO.out ?_) | (refine qar rfl rfl rfl HO.out ?_) | (refine qam rfl rfl rfl HO.out ?_) | fail)
     go_ret
     exact ⟨by rw [←HN1.out];rfl,BB.out⟩
    ·have d2':(o.text.size:Int)≤64:=by have:=of_decide_eq_true d2;omega
     rw [d2] at HN1
     clear d2
     go_wp2_with (first | (refine qai rfl rfl rfl HO.out ?_) | (refine qao rfl rfl rfl HO.out ?_) | (refine qar rfl rfl rfl HO.out ?_) | (refine qam rfl rfl rfl HO.out ?_) | fail)
     go_ret
     exact ⟨by rw [←HN1.out];rfl,BB.out⟩
 by_cases k5:o.k=5
 ·have hn:=HN.out
  rw [k5,show told 5=[3,4,5,1,2] from rfl] at hn
  have HN1:Hid ((P4 && P3)=R):=hid (by rw [←HP3.out,←HP4.out,←hn];simp [rightF,Bool.and_assoc])
  clear hn
  cases P4
  ·go_wp2_with (first | (refine qai rfl rfl rfl HO.out ?_) | (refine qao rfl rfl rfl HO.out ?_) | (refine qar rfl rfl rfl HO.out ?_) | (refine qam rfl rfl rfl HO.out ?_) | fail)
   go_ret
   exact ⟨by rw [←HN1.out];rfl,BB.out⟩
  ·go_wp2_with (first | (refine qai rfl rfl rfl HO.out ?_) | (refine qao rfl rfl rfl HO.out ?_) | (refine qar rfl rfl rfl HO.out ?_) | (refine qam rfl rfl rfl HO.out ?_) | fail)
   go_ret
   exact ⟨by rw [←HN1.out];rfl,BB.out⟩
 by_cases k6:o.k=6
 ·have hn:=HN.out
  rw [k6,show told 6=[0,8] from rfl] at hn
  have HN1:Hid (ro o.br o.bm=R):=hid (by rw [←hn];simp [rightF])
  clear hn
  go_wp2_with (first | (refine qai rfl rfl rfl HO.out ?_) | (refine qao rfl rfl rfl HO.out ?_) | (refine qar rfl rfl rfl HO.out ?_) | (refine qam rfl rfl rfl HO.out ?_) | fail)
  refine (qcr o.br o.bm _).mono ?_
  rintro e w9 ⟨rfl,h9⟩
  have B9:=hid (bt BB.out (show Below W4.heap.size W4 w9 by rw [h9];exact ba W4 _))
  clear h9
  go_wp2
  go_ret
  exact ⟨by rw [←HN1.out];rfl,B9.out⟩
 by_cases k4:o.k=4
 case neg =>
  have hn:=HN.out
  have ht:told o.k=[]:=by unfold told;simp only [if_neg k1,if_neg k2,if_neg k3,if_neg k4,if_neg k5,if_neg k6]
  rw [ht] at hn
  have HN1:Hid (false=R):=hid (by rw [←hn];rfl)
  clear hn ht
  go_wp2_with (first | (refine qai rfl rfl rfl HO.out ?_) | (refine qao rfl rfl rfl HO.out ?_) | (refine qar rfl rfl rfl HO.out ?_) | (refine qam rfl rfl rfl HO.out ?_) | fail)
  go_ret
  exact ⟨by rw [←HN1.out];rfl,BB.out⟩
 have hn:=HN.out
 rw [k4,show told 4=[7] from rfl] at hn
 have HN1:Hid ((decide (1≤o.cuts.length) && decide (o.cuts.length≤16) && o.cuts.all rct)=R):=hid (by rw [←hn];simp [rightF])
 clear hn
 have HC4:=hid (HC.out.below BB.out)
 obtain ⟨va,vc,hv,_,_⟩:=HC4.out.form
 have HV:=hid hv
 have hnl:=Sl.len HC4.out
 unfold maxLen at hnl
 obtain ⟨n,hnn⟩:∃ n,o.cuts.length=n:=⟨_,rfl⟩
 have HNN:=hid hnn
 rw [hnn] at HN1 hnl hv
 clear hnn
 subst hv
 go_wp2_with (first | (refine qai rfl rfl rfl HO.out ?_) | (refine qao rfl rfl rfl HO.out ?_) | (refine qar rfl rfl rfl HO.out ?_) | (refine qam rfl rfl rfl HO.out ?_) | fail)
 go_loopw [5] (fun i wr=>∃ j:Nat,j≤n∧i=.int .i64 j∧Below w.heap.size w wr∧Ob wr w.heap.size o (.slice va n vc)∧∀ q (hq:q<o.cuts.length),q<j→rct (o.cuts[q])=true) (fun i _=>n - (intOf i).toNat)
 case atStart=>exact ⟨0,Nat.zero_le _,rfl,BB.out,HO.out,fun q _ h=>absurd h (Nat.not_lt_zero _)⟩
 case round =>
  obtain ⟨j,hj,rfl,hbel,hob,ht⟩:=hrel
  have HT:=hid ht
  have HOR:=hid hob
  have BR:=hid hbel
  clear ht hob hbel
  by_cases hlt:j<n
  ·have hx:j<o.cuts.length:=by rw [HNN.out];exact hlt
   have hcr:=HC.out.below BR.out
   obtain ⟨cb,off,c',e',_,_,hcl,hcell⟩:=hcr.inv (by omega)
   rw [HNN.out] at e'
   simp only [Value.slice.injEq] at e'
   obtain ⟨rfl,-,rfl⟩:=e'
   obtain ⟨g0,g1,g2,g3⟩:=hcell j hx
   obtain ⟨x,hxx⟩:∃ x,o.cuts[j]=x:=⟨_,rfl⟩
   rw [hxx] at g0 g1 g2 g3
   have HX:=hid hxx
   clear hxx hcell hcr
   have b1':(j:Int)<(n:Int):=by omega
   go_wp2_with (first | (refine qam rfl rfl rfl HOR.out ?_) | fail)
   refine (qcr x.r x.n _).mono ?_
   rintro e w9 ⟨rfl,h9⟩
   have m0:w9.heap[wr.heap.size]?=some (.cells #[.int .i64 x.r,.int .i64 x.n,.int .i64 x.f,.int .i64 x.t] 111 (0,0)):=by rw [h9];exact heap_alloc2_old wr _ _
   have m2:=cell_of_row w9 wr.heap.size 2 _ _ _ m0
   have m3:=cell_of_row w9 wr.heap.size 3 _ _ _ m0
   simp at m2 m3
   have b9:Below wr.heap.size wr w9:=by rw [h9];exact bt (ba wr _) (ba _ _)
   have HO9:=hid (HOR.out.below b9)
   have B9:=hid (bt BR.out b9)
   clear m0 b9 h9
   have HBAD:Hid (rct x=false→false=R):=hid (fun h=>by
    have hall:o.cuts.all rct=false:=by
     rw [List.all_eq_false]
     exact ⟨x,by have:=List.getElem_mem hx;rw [HX.out] at this;exact this,by rw [h];decide⟩
    rw [←HN1.out,hall,Bool.and_false])
   cases hro:ro x.r x.n
   ·have HB:=hid (HBAD.out (by unfold rct;rw [hro];rfl))
    clear hro
    go_wp2
    go_ret
    exact ⟨by rw [←HB.out];rfl,B9.out⟩
   cases e1:decide (x.f<0)
   case true =>
    have HB:=hid (HBAD.out (by have:=of_decide_eq_true e1;unfold rct;rw [hro];simp;omega))
    have e1':=of_decide_eq_true e1
    clear hro
    go_wp2
    go_ret
    exact ⟨by rw [←HB.out];rfl,B9.out⟩
   cases e2:decide (x.t≤x.f)
   case true =>
    have HB:=hid (HBAD.out (by have:=of_decide_eq_true e2;unfold rct;rw [hro];simp;omega))
    have e1':=of_decide_eq_false e1
    have e2':=of_decide_eq_true e2
    clear hro
    go_wp2
    go_ret
    exact ⟨by rw [←HB.out];rfl,B9.out⟩
   cases e3:decide (64<x.t)
   case true =>
    have HB:=hid (HBAD.out (by have:=of_decide_eq_true e3;unfold rct;rw [hro];simp;omega))
    have e1':=of_decide_eq_false e1
    have e2':=of_decide_eq_false e2
    have e3':=of_decide_eq_true e3
    clear hro
    go_wp2
    go_ret
    exact ⟨by rw [←HB.out];rfl,B9.out⟩
   have e1':=of_decide_eq_false e1
   have e2':=of_decide_eq_false e2
   have e3':=of_decide_eq_false e3
   have HGOOD:Hid (rct x=true):=hid (by unfold rct;rw [hro];simp;omega)
   clear hro
   go_wp2
   go_roundw
   case rel =>
    refine ⟨j+1,by omega,by go_num,B9.out,HO9.out,fun q hq hqj=>?_⟩
    by_cases e:q=j
    ·subst e;rw [HX.out];exact HGOOD.out
    ·exact HT.out q hq (by omega)
   case measure=>simp [intOf];omega
  ·have b1':¬ (j:Int)<(n:Int):=by omega
   have hall:o.cuts.all rct=true:=by
    rw [List.all_eq_true]
    intro c hc
    obtain ⟨q,hq,e⟩:=List.getElem_of_mem hc
    rw [←e]
    exact HT.out q hq (by have:=HNN.out;omega)
   have HN2:Hid ((decide (1≤n) && decide (n≤16))=R):=hid (by rw [←HN1.out,hall,Bool.and_true])
   clear hall
   cases d1:decide (1≤n)
   ·have d1':¬ (1:Int)≤(n:Int):=by have:=of_decide_eq_false d1;omega
    rw [d1] at HN2
    clear d1
    go_wp2_with (first | (refine qam rfl rfl rfl HOR.out ?_) | fail)
    go_ret
    exact ⟨by rw [←HN2.out];rfl,BR.out⟩
   ·have d1':(1:Int)≤(n:Int):=by have:=of_decide_eq_true d1;omega
    rw [d1] at HN2
    clear d1
    cases d2:decide (n≤16)
    ·have d2':¬ (n:Int)≤16:=by have:=of_decide_eq_false d2;omega
     rw [d2] at HN2
     clear d2
     go_wp2_with (first | (refine qam rfl rfl rfl HOR.out ?_) | fail)
     go_ret
     exact ⟨by rw [←HN2.out];rfl,BR.out⟩
    ·have d2':(n:Int)≤16:=by have:=of_decide_eq_true d2;omega
     rw [d2] at HN2
     clear d2
     go_wp2_with (first | (refine qam rfl rfl rfl HOR.out ?_) | fail)
     go_ret
     exact ⟨by rw [←HN2.out];rfl,BR.out⟩
theorem qcb (o:Opn) (v:Value) (w:World) (hC:Cs w v o.cuts) (hfin:o.fine) :
  Calls Tryz.prog 52 #[opv o v] w fun e w'=>e=.returned (.bool (rightO o))∧Below w.heap.size w w':=qrj _ o v rfl w hC hfin
theorem qdj {w:World}{B C e n:Nat}{v:Value}{xs:List Value}(h:w.ownsRow B e 1 v n xs) (hc:C≤B):w.ownsRow C e 1 v n xs:=by
 refine ⟨h.1,?_⟩
 rcases h.2 with h0 | ⟨g,cap,cur,hv,hg,r⟩
 ·exact .inl h0
 ·exact .inr ⟨g,cap,cur,hv,Nat.le_trans hc hg,r⟩
def Mk (e:List Int) (w:World) (v:Value) (w':World):Prop:=w'.ownsRow w.heap.size 5 1 v e.length (cs e)∧Below w.heap.size w w'
theorem qlk {o:Oper}{a:Act}{x:Operand}{b i:Nat}{k:Int}{W:World}(ho:o.op=.load 3 x) (hx:a.eval x=.pointer (some ⟨b,i,none⟩)) (h:W.cell? ⟨b,i,none⟩=some (.int .i64 k)):(execOp a.eval o).run Tryz.prog W=.ok (.value (.int .i64 k)) W:=by
 unfold execOp
 simp only [ho,hx]
 simp [go_sem,h]
theorem qvn {ops:Array Oper}{Q:Exit→Act→World→Prop}{K:Act→World→Prop}{i:Nat}{o:Oper}{a:Act}{w:World}(hi:ops[i]?=some o) (hgd:o.guard=none) (s x:Operand)
  (ho:o.op=.call { callee:=.builtin .append,args:=#[s,x],argTypes:=#[36,36] })
  (base:Nat) (v:Value) (xs:List Int) (hs:a.eval s=v) (hown:w.ownsRow base 5 1 v xs.length (cs xs)) (u:Value) (ys:List Int) (hx:a.eval x=u) (hu:Bs w u ys)
  (hb:xs.length+ys.length≤140737488355328) (hbase:base≤w.heap.size)
  (h:∀ v' w',w'.ownsRow base 5 1 v' (xs++ys).length (cs (xs++ys))→w.grownBy w' v.ownBlock→K (a.put o.dst v') w'):wpOp Tryz.prog ops Q i K a w :=
 wpOp_step hi fun K' hK=>qbt hgd s x ho base v xs.length xs hs hown u ys hx hu hb hbase fun v' w' h1 h2 _=>hK _ _ (h v' w' (by rw [List.length_append];exact h1) h2)
def na0:Oper:={ dst:=some 3,op:=Op.fieldAddr 69 (Operand.tmp 1) 0,type:=0,pos := "ref.go:78",after:=#[],guard:=none }
def na1:Oper:={ dst:=some 4,op:=Op.load 3 (Operand.tmp 3),type:=3,pos := "ref.go:78",after:=#[{ on:=0,ground:=Ground.data }],guard:=none }
def na2:Oper:={ dst:=some 5,op:=Op.call { callee:=Callee.value (Operand.func 84),args:=#[Operand.tmp 4],argTypes:=#[3] },type:=36,pos := "ref.go:78",after:=#[{ on:=1,ground:=Ground.data }],guard:=none }
def na3:Oper:={ dst:=some 6,op:=Op.fieldAddr 69 (Operand.tmp 1) 1,type:=0,pos := "ref.go:78",after:=#[],guard:=none }
def na4:Oper:={ dst:=some 7,op:=Op.load 3 (Operand.tmp 6),type:=3,pos := "ref.go:78",after:=#[{ on:=3,ground:=Ground.data }],guard:=none }
def na5:Oper:={ dst:=some 8,op:=Op.call { callee:=Callee.value (Operand.func 84),args:=#[Operand.tmp 7],argTypes:=#[3] },type:=36,pos := "ref.go:78",after:=#[{ on:=4,ground:=Ground.data },{ on:=2,ground:=Ground.chain }],guard:=none }
def na6:Oper:={ dst:=some 9,op:=Op.call { callee:=Callee.builtin Builtin.append,args:=#[Operand.tmp 5,Operand.tmp 8],argTypes:=#[36,36] },type:=36,pos := "ref.go:78",after:=#[{ on:=2,ground:=Ground.data },{ on:=5,ground:=Ground.data },{ on:=5,ground:=Ground.chain }],guard:=none }
def na7:Oper:={ dst:=some 2,op:=Op.assign (Operand.tmp 9),type:=36,pos := "ref.go:78",after:=#[{ on:=6,ground:=Ground.data },{ on:=6,ground:=Ground.chain },{ on:=0,ground:=Ground.phase },{ on:=1,ground:=Ground.phase },{ on:=2,ground:=Ground.phase },{ on:=3,ground:=Ground.phase },{ on:=4,ground:=Ground.phase },{ on:=5,ground:=Ground.phase },{ on:=6,ground:=Ground.phase }],guard:=none }
def nas:Array Oper:=#[na0,na1,na2,na3,na4,na5,na6,na7]
theorem qnc:Region.noSelect nas=true:=by kernel_rfl
set_option maxHeartbeats 4000000 in
theorem qyh {w:World}{b:Nat}{r n:Int}{e1 e2:List Int}{x0 x2 x3 x4 x5 x6 x7 x8 x9:Value}{Q:Exit→Act→World→Prop}(h0:w.heap[b]?=some (ido 69 r n)) 
  (h1:∀ W,Calls Tryz.prog 84 #[.int .i64 r] W fun e W'=>∃ v,e=.returned v∧Mk e1 W v W') (h2:∀ W,Calls Tryz.prog 84 #[.int .i64 n] W fun e W'=>∃ v,e=.returned v∧Mk e2 W v W') (hr2:∀ x ∈ e2,0≤x∧x<256) (hlen:e1.length+e2.length≤140737488355328)
  (hP:∀ c t t' d W,Q (.panic c) { tmps:=t,defers:=d } W→Q (.panic c) { tmps:=t',defers:=d } W)
  (hQ:∀ v1 v2 v3 W,W.ownsRow w.heap.size 5 1 v3 (e1++e2).length (cs (e1++e2))→Below w.heap.size w W→Q .normal { tmps:=#[x0,.pointer (some ⟨b,0,none⟩),v3,.pointer (some ⟨b,0,none⟩),.int .i64 r,v1,.pointer (some ⟨b,1,none⟩),.int .i64 n,v2,v3],defers:=[] } W):(Code.region 1 nas true).wp Tryz.prog Q { tmps:=#[x0,.pointer (some ⟨b,0,none⟩),x2,x3,x4,x5,x6,x7,x8,x9],defers:=[] } w:=by
 have hKp:∀ (W W':World),W.heap[b]?=some (ido 69 r n)→Below W.heap.size W W'→W'.heap[b]?=some (ido 69 r n):=fun W W' h hb=>(hb.block b (Array.getElem?_eq_some_iff.1 h).1).trans h
 have hbl:b<w.heap.size:=(Array.getElem?_eq_some_iff.1 h0).1
 have hKg:∀ {vv:Value} (W W':World),W.heap[b]?=some (ido 69 r n)→W.grownBy W' vv.ownBlock→(∀ k,vv.ownBlock=some k→w.heap.size≤k∧k<W.heap.size∨w.heap.size≤k)→W'.heap[b]?=some (ido 69 r n):=fun {vv} W W' h hg hk=>(hg.block b (Array.getElem?_eq_some_iff.1 h).1 (fun e=>by rcases hk b e.symm with h | h<;>omega)).trans h
 refine wp_region_held (S:=fun W=>W.heap[b]?=some (ido 69 r n)) (by kernel_rfl) ?_
 change wpAnyH _ _ _ _ _ 8 _ _ (World.drew _)
 have hS:(World.drew w).heap[b]?=some (ido 69 r n):=h0
 refine wpAnyH_take (i:=0) (oi:=na0) (v:=.pointer (some ⟨b,0,none⟩)) (by kernel_rfl) qnc (by kernel_rfl) (by kernel_rfl) (fun c a W h=>hP c _ _ _ W h) (Or.inl ⟨by kernel_rfl,fun W hW=>by kernel_rfl⟩) hS ?_
 refine wpAnyH_take (i:=3) (oi:=na3) (v:=.pointer (some ⟨b,1,none⟩)) (by kernel_rfl) qnc (by kernel_rfl) (by kernel_rfl) (fun c a W h=>hP c _ _ _ W h) (Or.inl ⟨by kernel_rfl,fun W hW=>by kernel_rfl⟩) hS ?_
 refine wpAnyH_take (i:=1) (oi:=na1) (v:=.int .i64 r) (by kernel_rfl) qnc (by kernel_rfl) (by kernel_rfl) (fun c a W h=>hP c _ _ _ W h) (Or.inl ⟨by kernel_rfl,fun W hW=>qlk rfl rfl (by rw [cell_of_row W b 0 _ _ _ hW];rfl)⟩) hS ?_
 refine wpAnyH_take (i:=4) (oi:=na4) (v:=.int .i64 n) (by kernel_rfl) qnc (by kernel_rfl) (by kernel_rfl) (fun c a W h=>hP c _ _ _ W h) (Or.inl ⟨by kernel_rfl,fun W hW=>qlk rfl rfl (by rw [cell_of_row W b 1 _ _ _ hW];rfl)⟩) hS ?_
 rw [show Act.put _ na4.dst _={ tmps:=#[x0,.pointer (some ⟨b,0,none⟩),x2,.pointer (some ⟨b,0,none⟩),.int .i64 r,x5,.pointer (some ⟨b,1,none⟩),.int .i64 n,x8,x9],defers:=[] } from by kernel_rfl]
 refine wpAnyH_all (rs:=[2]) (by kernel_rfl) (by simp) (fun i hi=>?_)
 obtain rfl:=List.mem_singleton.1 hi
 refine qaq (o:=na2) (f:=84) (args:=#[.int .i64 r]) (D:=fun v W=>Mk e1 (World.drew w) v W) (by kernel_rfl) (by kernel_rfl) (by kernel_rfl) ((h1 _).mono fun e W ⟨v,h1,h2,h3⟩=>⟨v,h1,h2,h3⟩) ?_
 rintro v1 W1 ⟨ov1,b1⟩
 rw [show Act.put _ na2.dst _={ tmps:=#[x0,.pointer (some ⟨b,0,none⟩),x2,.pointer (some ⟨b,0,none⟩),.int .i64 r,v1,.pointer (some ⟨b,1,none⟩),.int .i64 n,x8,x9],defers:=[] } from by kernel_rfl]
 have hS1:=hKp _ _ hS b1
 refine ⟨hS1,?_⟩
 refine wpAnyH_all (rs:=[5]) (by kernel_rfl) (by simp) (fun i hi=>?_)
 obtain rfl:=List.mem_singleton.1 hi
 refine qaq (o:=na5) (f:=84) (args:=#[.int .i64 n]) (D:=fun v W=>Mk e2 W1 v W) (by kernel_rfl) (by kernel_rfl) (by kernel_rfl) ((h2 _).mono fun e W ⟨v,h1,h2,h3⟩=>⟨v,h1,h2,h3⟩) ?_
 rintro v2 W2 ⟨ov2,b2⟩
 rw [show Act.put _ na5.dst _={ tmps:=#[x0,.pointer (some ⟨b,0,none⟩),x2,.pointer (some ⟨b,0,none⟩),.int .i64 r,v1,.pointer (some ⟨b,1,none⟩),.int .i64 n,v2,x9],defers:=[] } from by kernel_rfl]
 have hS2:=hKp _ _ hS1 b2
 refine ⟨hS2,?_⟩
 refine wpAnyH_all (rs:=[6]) (by kernel_rfl) (by simp) (fun i hi=>?_)
 obtain rfl:=List.mem_singleton.1 hi
 have hs1:(World.drew w).heap.size≤W1.heap.size:=b1.size
 have hs2:W1.heap.size≤W2.heap.size:=b2.size
 refine qvn (o:=na6) (by kernel_rfl) rfl _ _ rfl w.heap.size v1 e1 rfl (qau ov1 b2) v2 e2 rfl (Bs.of_own ov2 hr2) hlen (Nat.le_trans hs1 hs2) ?_
 intro v3 W3 o3 g3
 have b3:Below w.heap.size w W3:=Below.grown (((Below.refl w.heap.size w).drew.trans b1).trans (b2.mono hs1)) g3 (Nat.le_trans hs1 hs2) (fun k hk=>(ov1.lt k hk).1)
 have hS3:=hKg _ _ hS2 g3 (fun k hk=>.inr (ov1.lt k hk).1)
 rw [show Act.put _ na6.dst _={ tmps:=#[x0,.pointer (some ⟨b,0,none⟩),x2,.pointer (some ⟨b,0,none⟩),.int .i64 r,v1,.pointer (some ⟨b,1,none⟩),.int .i64 n,v2,v3],defers:=[] } from by kernel_rfl]
 refine ⟨hS3,?_⟩
 refine wpAnyH_take (i:=7) (oi:=na7) (v:=v3) (by kernel_rfl) qnc (by kernel_rfl) (by kernel_rfl) (fun c a W h=>hP c _ _ _ W h) (Or.inl ⟨by kernel_rfl,fun W hW=>by kernel_rfl⟩) hS3 ?_
 rw [show Act.put _ na7.dst _={ tmps:=#[x0,.pointer (some ⟨b,0,none⟩),v3,.pointer (some ⟨b,0,none⟩),.int .i64 r,v1,.pointer (some ⟨b,1,none⟩),.int .i64 n,v2,v3],defers:=[] } from by kernel_rfl]
 exact wpAnyH_done (by kernel_rfl) (hQ v1 v2 v3 W3 o3 b3) _
def nb0:Oper:={ dst:=some 3,op:=Op.fieldAddr 71 (Operand.tmp 1) 0,type:=0,pos := "ref.go:80",after:=#[],guard:=none }
def nb1:Oper:={ dst:=some 4,op:=Op.load 69 (Operand.tmp 3),type:=69,pos := "ref.go:80",after:=#[{ on:=0,ground:=Ground.data }],guard:=none }
def nb2:Oper:={ dst:=some 5,op:=Op.call { callee:=Callee.value (Operand.func 110),args:=#[Operand.tmp 4],argTypes:=#[69] },type:=36,pos := "ref.go:80",after:=#[{ on:=1,ground:=Ground.data }],guard:=none }
def nb3:Oper:={ dst:=some 6,op:=Op.fieldAddr 71 (Operand.tmp 1) 1,type:=0,pos := "ref.go:80",after:=#[],guard:=none }
def nb4:Oper:={ dst:=some 7,op:=Op.load 3 (Operand.tmp 6),type:=3,pos := "ref.go:80",after:=#[{ on:=3,ground:=Ground.data }],guard:=none }
def nb5:Oper:={ dst:=some 8,op:=Op.call { callee:=Callee.value (Operand.func 84),args:=#[Operand.tmp 7],argTypes:=#[3] },type:=36,pos := "ref.go:80",after:=#[{ on:=4,ground:=Ground.data },{ on:=2,ground:=Ground.chain }],guard:=none }
def nb6:Oper:={ dst:=some 9,op:=Op.call { callee:=Callee.builtin Builtin.append,args:=#[Operand.tmp 5,Operand.tmp 8],argTypes:=#[36,36] },type:=36,pos := "ref.go:80",after:=#[{ on:=2,ground:=Ground.data },{ on:=5,ground:=Ground.data },{ on:=5,ground:=Ground.chain }],guard:=none }
def nb7:Oper:={ dst:=some 2,op:=Op.assign (Operand.tmp 9),type:=36,pos := "ref.go:80",after:=#[{ on:=6,ground:=Ground.data },{ on:=6,ground:=Ground.chain },{ on:=0,ground:=Ground.phase },{ on:=1,ground:=Ground.phase },{ on:=2,ground:=Ground.phase },{ on:=3,ground:=Ground.phase },{ on:=4,ground:=Ground.phase },{ on:=5,ground:=Ground.phase },{ on:=6,ground:=Ground.phase }],guard:=none }
def nbs:Array Oper:=#[nb0,nb1,nb2,nb3,nb4,nb5,nb6,nb7]
theorem qnb:Region.noSelect nbs=true:=by kernel_rfl
set_option maxHeartbeats 4000000 in
theorem qzo {w:World}{b:Nat}{r n i:Int}{e1 e2:List Int}{x0 x2 x3 x4 x5 x6 x7 x8 x9:Value}{Q:Exit→Act→World→Prop}(h0:w.heap[b]?=some (.cells #[.int .i64 r,.int .i64 n,.int .i64 i] 71 (0,0))) 
  (h1:∀ W,Calls Tryz.prog 110 #[idv r n] W fun e W'=>∃ v,e=.returned v∧Mk e1 W v W') (h2:∀ W,Calls Tryz.prog 84 #[.int .i64 i] W fun e W'=>∃ v,e=.returned v∧Mk e2 W v W') (hr2:∀ x ∈ e2,0≤x∧x<256) (hlen:e1.length+e2.length≤140737488355328)
  (hP:∀ c t t' d W,Q (.panic c) { tmps:=t,defers:=d } W→Q (.panic c) { tmps:=t',defers:=d } W)
  (hQ:∀ v1 v2 v3 W,W.ownsRow w.heap.size 5 1 v3 (e1++e2).length (cs (e1++e2))→Below w.heap.size w W→Q .normal { tmps:=#[x0,.pointer (some ⟨b,0,none⟩),v3,.pointer (some ⟨b,0,none⟩),idv r n,v1,.pointer (some ⟨b,2,none⟩),.int .i64 i,v2,v3],defers:=[] } W):(Code.region 1 nbs true).wp Tryz.prog Q { tmps:=#[x0,.pointer (some ⟨b,0,none⟩),x2,x3,x4,x5,x6,x7,x8,x9],defers:=[] } w:=by
 have hKp:∀ (W W':World),W.heap[b]?=some (.cells #[.int .i64 r,.int .i64 n,.int .i64 i] 71 (0,0))→Below W.heap.size W W'→W'.heap[b]?=some (.cells #[.int .i64 r,.int .i64 n,.int .i64 i] 71 (0,0)):=fun W W' h hb=>(hb.block b (Array.getElem?_eq_some_iff.1 h).1).trans h
 have hbl:b<w.heap.size:=(Array.getElem?_eq_some_iff.1 h0).1
 have hKg:∀ {vv:Value} (W W':World),W.heap[b]?=some (.cells #[.int .i64 r,.int .i64 n,.int .i64 i] 71 (0,0))→W.grownBy W' vv.ownBlock→(∀ k,vv.ownBlock=some k→w.heap.size≤k∧k<W.heap.size∨w.heap.size≤k)→W'.heap[b]?=some (.cells #[.int .i64 r,.int .i64 n,.int .i64 i] 71 (0,0)):=fun {vv} W W' h hg hk=>(hg.block b (Array.getElem?_eq_some_iff.1 h).1 (fun e=>by rcases hk b e.symm with h | h<;>omega)).trans h
 refine wp_region_held (S:=fun W=>W.heap[b]?=some (.cells #[.int .i64 r,.int .i64 n,.int .i64 i] 71 (0,0))) (by kernel_rfl) ?_
 change wpAnyH _ _ _ _ _ 8 _ _ (World.drew _)
 have hS:(World.drew w).heap[b]?=some (.cells #[.int .i64 r,.int .i64 n,.int .i64 i] 71 (0,0)):=h0
 refine wpAnyH_take (i:=0) (oi:=nb0) (v:=.pointer (some ⟨b,0,none⟩)) (by kernel_rfl) qnb (by kernel_rfl) (by kernel_rfl) (fun c a W h=>hP c _ _ _ W h) (Or.inl ⟨by kernel_rfl,fun W hW=>by kernel_rfl⟩) hS ?_
 refine wpAnyH_take (i:=3) (oi:=nb3) (v:=.pointer (some ⟨b,2,none⟩)) (by kernel_rfl) qnb (by kernel_rfl) (by kernel_rfl) (fun c a W h=>hP c _ _ _ W h) (Or.inl ⟨by kernel_rfl,fun W hW=>by kernel_rfl⟩) hS ?_
 refine wpAnyH_take (i:=1) (oi:=nb1) (v:=idv r n) (by kernel_rfl) qnb (by kernel_rfl) (by kernel_rfl) (fun c a W h=>hP c _ _ _ W h) (Or.inl ⟨by kernel_rfl,fun W hW=>qiz rfl rfl (by rw [cell_of_row W b 0 _ _ _ hW];rfl) (by rw [cell_of_row W b 1 _ _ _ hW];rfl)⟩) hS ?_
 refine wpAnyH_take (i:=4) (oi:=nb4) (v:=.int .i64 i) (by kernel_rfl) qnb (by kernel_rfl) (by kernel_rfl) (fun c a W h=>hP c _ _ _ W h) (Or.inl ⟨by kernel_rfl,fun W hW=>qlk rfl rfl (by rw [cell_of_row W b 2 _ _ _ hW];rfl)⟩) hS ?_
 rw [show Act.put _ nb4.dst _={ tmps:=#[x0,.pointer (some ⟨b,0,none⟩),x2,.pointer (some ⟨b,0,none⟩),idv r n,x5,.pointer (some ⟨b,2,none⟩),.int .i64 i,x8,x9],defers:=[] } from by kernel_rfl]
 refine wpAnyH_all (rs:=[2]) (by kernel_rfl) (by simp) (fun i hi=>?_)
 obtain rfl:=List.mem_singleton.1 hi
 refine qaq (o:=nb2) (f:=110) (args:=#[idv r n]) (D:=fun v W=>Mk e1 (World.drew w) v W) (by kernel_rfl) (by kernel_rfl) (by kernel_rfl) ((h1 _).mono fun e W ⟨v,h1,h2,h3⟩=>⟨v,h1,h2,h3⟩) ?_
 rintro v1 W1 ⟨ov1,b1⟩
 rw [show Act.put _ nb2.dst _={ tmps:=#[x0,.pointer (some ⟨b,0,none⟩),x2,.pointer (some ⟨b,0,none⟩),idv r n,v1,.pointer (some ⟨b,2,none⟩),.int .i64 i,x8,x9],defers:=[] } from by kernel_rfl]
 have hS1:=hKp _ _ hS b1
 refine ⟨hS1,?_⟩
 refine wpAnyH_all (rs:=[5]) (by kernel_rfl) (by simp) (fun i hi=>?_)
 obtain rfl:=List.mem_singleton.1 hi
 refine qaq (o:=nb5) (f:=84) (args:=#[.int .i64 i]) (D:=fun v W=>Mk e2 W1 v W) (by kernel_rfl) (by kernel_rfl) (by kernel_rfl) ((h2 _).mono fun e W ⟨v,h1,h2,h3⟩=>⟨v,h1,h2,h3⟩) ?_
 rintro v2 W2 ⟨ov2,b2⟩
 rw [show Act.put _ nb5.dst _={ tmps:=#[x0,.pointer (some ⟨b,0,none⟩),x2,.pointer (some ⟨b,0,none⟩),idv r n,v1,.pointer (some ⟨b,2,none⟩),.int .i64 i,v2,x9],defers:=[] } from by kernel_rfl]
 have hS2:=hKp _ _ hS1 b2
 refine ⟨hS2,?_⟩
 refine wpAnyH_all (rs:=[6]) (by kernel_rfl) (by simp) (fun i hi=>?_)
 obtain rfl:=List.mem_singleton.1 hi
 have hs1:(World.drew w).heap.size≤W1.heap.size:=b1.size
 have hs2:W1.heap.size≤W2.heap.size:=b2.size
 refine qvn (o:=nb6) (by kernel_rfl) rfl _ _ rfl w.heap.size v1 e1 rfl (qau ov1 b2) v2 e2 rfl (Bs.of_own ov2 hr2) hlen (Nat.le_trans hs1 hs2) ?_
 intro v3 W3 o3 g3
 have b3:Below w.heap.size w W3:=Below.grown (((Below.refl w.heap.size w).drew.trans b1).trans (b2.mono hs1)) g3 (Nat.le_trans hs1 hs2) (fun k hk=>(ov1.lt k hk).1)
 have hS3:=hKg _ _ hS2 g3 (fun k hk=>.inr (ov1.lt k hk).1)
 rw [show Act.put _ nb6.dst _={ tmps:=#[x0,.pointer (some ⟨b,0,none⟩),x2,.pointer (some ⟨b,0,none⟩),idv r n,v1,.pointer (some ⟨b,2,none⟩),.int .i64 i,v2,v3],defers:=[] } from by kernel_rfl]
 refine ⟨hS3,?_⟩
 refine wpAnyH_take (i:=7) (oi:=nb7) (v:=v3) (by kernel_rfl) qnb (by kernel_rfl) (by kernel_rfl) (fun c a W h=>hP c _ _ _ W h) (Or.inl ⟨by kernel_rfl,fun W hW=>by kernel_rfl⟩) hS3 ?_
 rw [show Act.put _ nb7.dst _={ tmps:=#[x0,.pointer (some ⟨b,0,none⟩),v3,.pointer (some ⟨b,0,none⟩),idv r n,v1,.pointer (some ⟨b,2,none⟩),.int .i64 i,v2,v3],defers:=[] } from by kernel_rfl]
 exact wpAnyH_done (by kernel_rfl) (hQ v1 v2 v3 W3 o3 b3) _
def nc0:Oper:={ dst:=some 10,op:=Op.fieldAddr 74 (Operand.tmp 1) 0,type:=0,pos := "ref.go:87",after:=#[],guard:=none }
def nc1:Oper:={ dst:=some 11,op:=Op.load 3 (Operand.tmp 10),type:=3,pos := "ref.go:87",after:=#[{ on:=0,ground:=Ground.data }],guard:=none }
def nc2:Oper:={ dst:=some 12,op:=Op.call { callee:=Callee.value (Operand.func 84),args:=#[Operand.tmp 11],argTypes:=#[3] },type:=36,pos := "ref.go:87",after:=#[{ on:=1,ground:=Ground.data }],guard:=none }
def nc3:Oper:={ dst:=some 13,op:=Op.fieldAddr 74 (Operand.tmp 1) 1,type:=0,pos := "ref.go:87",after:=#[],guard:=none }
def nc4:Oper:={ dst:=some 14,op:=Op.load 69 (Operand.tmp 13),type:=69,pos := "ref.go:87",after:=#[{ on:=3,ground:=Ground.data }],guard:=none }
def nc5:Oper:={ dst:=some 15,op:=Op.call { callee:=Callee.value (Operand.func 110),args:=#[Operand.tmp 14],argTypes:=#[69] },type:=36,pos := "ref.go:87",after:=#[{ on:=4,ground:=Ground.data },{ on:=2,ground:=Ground.chain }],guard:=none }
def nc6:Oper:={ dst:=some 16,op:=Op.call { callee:=Callee.builtin Builtin.append,args:=#[Operand.tmp 12,Operand.tmp 15],argTypes:=#[36,36] },type:=36,pos := "ref.go:87",after:=#[{ on:=2,ground:=Ground.data },{ on:=5,ground:=Ground.data },{ on:=5,ground:=Ground.chain }],guard:=none }
def nc7:Oper:={ dst:=some 4,op:=Op.assign (Operand.tmp 16),type:=36,pos := "ref.go:87",after:=#[{ on:=6,ground:=Ground.data },{ on:=6,ground:=Ground.chain },{ on:=0,ground:=Ground.phase },{ on:=1,ground:=Ground.phase },{ on:=2,ground:=Ground.phase },{ on:=3,ground:=Ground.phase },{ on:=4,ground:=Ground.phase },{ on:=5,ground:=Ground.phase },{ on:=6,ground:=Ground.phase }],guard:=none }
def ncs:Array Oper:=#[nc0,nc1,nc2,nc3,nc4,nc5,nc6,nc7]
theorem qna:Region.noSelect ncs=true:=by kernel_rfl
set_option maxHeartbeats 4000000 in
theorem qhv {w:World}{b:Nat}{o:Opn}{v:Value}{e1 e2:List Int}{x0 x2 x3 x4 x5 x6 x7 x8 x9 x10 x11 x12 x13 x14 x15 x16 x17 x18 x19 x20 x21 x22 x23 x24 x25 x26 x27 x28 x29 x30 x31 x32 x33 x34 x35 x36 x37 x38 x39 x40 x41 x42 x43 x44 x45 x46 x47 x48 x49 x50 x51 x52 x53 x54 x55 x56 x57 x58 x59 x60 x61 x62 x63 x64 x65 x66 x67 x68 x69 x70 x71 x72 x73 x74 x75 x76 x77 x78 x79 x80 x81 x82 x83 x84 x85 x86 x87 x88 x89 x90 x91 x92 x93 x94 x95 x96 x97 x98 x99 x100 x101 x102 x103 x104 x105 x106 x107 x108 x109 x110 x111 x112 x113 x114 x115 x116 x117 x118 x119 x120 x121 x122 x123 x124 x125 x126 x127 x128 x129 x130 x131 x132 x133 x134 x135 x136 x137 x138 x139 x140 x141:Value}{Q:Exit→Act→World→Prop}(h0:w.heap[b]?=some (opo o v)) 
  (h1:∀ W,Calls Tryz.prog 84 #[.int .i64 o.k] W fun e W'=>∃ v,e=.returned v∧Mk e1 W v W') (h2:∀ W,Calls Tryz.prog 110 #[idv o.ir o.im] W fun e W'=>∃ v,e=.returned v∧Mk e2 W v W') (hr2:∀ x ∈ e2,0≤x∧x<256) (hlen:e1.length+e2.length≤140737488355328)
  (hP:∀ c t t' d W,Q (.panic c) { tmps:=t,defers:=d } W→Q (.panic c) { tmps:=t',defers:=d } W)
  (hQ:∀ v1 v2 v3 W,W.ownsRow w.heap.size 5 1 v3 (e1++e2).length (cs (e1++e2))→Below w.heap.size w W→Q .normal { tmps:=#[x0,.pointer (some ⟨b,0,none⟩),x2,x3,v3,x5,x6,x7,x8,x9,.pointer (some ⟨b,0,none⟩),.int .i64 o.k,v1,.pointer (some ⟨b,1,none⟩),idv o.ir o.im,v2,v3,x17,x18,x19,x20,x21,x22,x23,x24,x25,x26,x27,x28,x29,x30,x31,x32,x33,x34,x35,x36,x37,x38,x39,x40,x41,x42,x43,x44,x45,x46,x47,x48,x49,x50,x51,x52,x53,x54,x55,x56,x57,x58,x59,x60,x61,x62,x63,x64,x65,x66,x67,x68,x69,x70,x71,x72,x73,x74,x75,x76,x77,x78,x79,x80,x81,x82,x83,x84,x85,x86,x87,x88,x89,x90,x91,x92,x93,x94,x95,x96,x97,x98,x99,x100,x101,x102,x103,x104,x105,x106,x107,x108,x109,x110,x111,x112,x113,x114,x115,x116,x117,x118,x119,x120,x121,x122,x123,x124,x125,x126,x127,x128,x129,x130,x131,x132,x133,x134,x135,x136,x137,x138,x139,x140,x141],defers:=[] } W):(Code.region 3 ncs true).wp Tryz.prog Q { tmps:=#[x0,.pointer (some ⟨b,0,none⟩),x2,x3,x4,x5,x6,x7,x8,x9,x10,x11,x12,x13,x14,x15,x16,x17,x18,x19,x20,x21,x22,x23,x24,x25,x26,x27,x28,x29,x30,x31,x32,x33,x34,x35,x36,x37,x38,x39,x40,x41,x42,x43,x44,x45,x46,x47,x48,x49,x50,x51,x52,x53,x54,x55,x56,x57,x58,x59,x60,x61,x62,x63,x64,x65,x66,x67,x68,x69,x70,x71,x72,x73,x74,x75,x76,x77,x78,x79,x80,x81,x82,x83,x84,x85,x86,x87,x88,x89,x90,x91,x92,x93,x94,x95,x96,x97,x98,x99,x100,x101,x102,x103,x104,x105,x106,x107,x108,x109,x110,x111,x112,x113,x114,x115,x116,x117,x118,x119,x120,x121,x122,x123,x124,x125,x126,x127,x128,x129,x130,x131,x132,x133,x134,x135,x136,x137,x138,x139,x140,x141],defers:=[] } w:=by
 have hKp:∀ (W W':World),W.heap[b]?=some (opo o v)→Below W.heap.size W W'→W'.heap[b]?=some (opo o v):=fun W W' h hb=>(hb.block b (Array.getElem?_eq_some_iff.1 h).1).trans h
 have hbl:b<w.heap.size:=(Array.getElem?_eq_some_iff.1 h0).1
 have hKg:∀ {vv:Value} (W W':World),W.heap[b]?=some (opo o v)→W.grownBy W' vv.ownBlock→(∀ k,vv.ownBlock=some k→w.heap.size≤k∧k<W.heap.size∨w.heap.size≤k)→W'.heap[b]?=some (opo o v):=fun {vv} W W' h hg hk=>(hg.block b (Array.getElem?_eq_some_iff.1 h).1 (fun e=>by rcases hk b e.symm with h | h<;>omega)).trans h
 refine wp_region_held (S:=fun W=>W.heap[b]?=some (opo o v)) (by kernel_rfl) ?_
 change wpAnyH _ _ _ _ _ 8 _ _ (World.drew _)
 have hS:(World.drew w).heap[b]?=some (opo o v):=h0
 refine wpAnyH_take (i:=0) (oi:=nc0) (v:=.pointer (some ⟨b,0,none⟩)) (by kernel_rfl) qna (by kernel_rfl) (by kernel_rfl) (fun c a W h=>hP c _ _ _ W h) (Or.inl ⟨by kernel_rfl,fun W hW=>by kernel_rfl⟩) hS ?_
 refine wpAnyH_take (i:=3) (oi:=nc3) (v:=.pointer (some ⟨b,1,none⟩)) (by kernel_rfl) qna (by kernel_rfl) (by kernel_rfl) (fun c a W h=>hP c _ _ _ W h) (Or.inl ⟨by kernel_rfl,fun W hW=>by kernel_rfl⟩) hS ?_
 refine wpAnyH_take (i:=1) (oi:=nc1) (v:=.int .i64 o.k) (by kernel_rfl) qna (by kernel_rfl) (by kernel_rfl) (fun c a W h=>hP c _ _ _ W h) (Or.inl ⟨by kernel_rfl,fun W hW=>qlk rfl rfl (by rw [cell_of_row W b 0 _ _ _ hW];rfl)⟩) hS ?_
 refine wpAnyH_take (i:=4) (oi:=nc4) (v:=idv o.ir o.im) (by kernel_rfl) qna (by kernel_rfl) (by kernel_rfl) (fun c a W h=>hP c _ _ _ W h) (Or.inl ⟨by kernel_rfl,fun W hW=>qiz rfl rfl (by rw [cell_of_row W b 1 _ _ _ hW];rfl) (by rw [cell_of_row W b 2 _ _ _ hW];rfl)⟩) hS ?_
 rw [show Act.put _ nc4.dst _={ tmps:=#[x0,.pointer (some ⟨b,0,none⟩),x2,x3,x4,x5,x6,x7,x8,x9,.pointer (some ⟨b,0,none⟩),.int .i64 o.k,x12,.pointer (some ⟨b,1,none⟩),idv o.ir o.im,x15,x16,x17,x18,x19,x20,x21,x22,x23,x24,x25,x26,x27,x28,x29,x30,x31,x32,x33,x34,x35,x36,x37,x38,x39,x40,x41,x42,x43,x44,x45,x46,x47,x48,x49,x50,x51,x52,x53,x54,x55,x56,x57,x58,x59,x60,x61,x62,x63,x64,x65,x66,x67,x68,x69,x70,x71,x72,x73,x74,x75,x76,x77,x78,x79,x80,x81,x82,x83,x84,x85,x86,x87,x88,x89,x90,x91,x92,x93,x94,x95,x96,x97,x98,x99,x100,x101,x102,x103,x104,x105,x106,x107,x108,x109,x110,x111,x112,x113,x114,x115,x116,x117,x118,x119,x120,x121,x122,x123,x124,x125,x126,x127,x128,x129,x130,x131,x132,x133,x134,x135,x136,x137,x138,x139,x140,x141],defers:=[] } from by kernel_rfl]
 refine wpAnyH_all (rs:=[2]) (by kernel_rfl) (by simp) (fun i hi=>?_)
 obtain rfl:=List.mem_singleton.1 hi
 refine qaq (o:=nc2) (f:=84) (args:=#[.int .i64 o.k]) (D:=fun v W=>Mk e1 (World.drew w) v W) (by kernel_rfl) (by kernel_rfl) (by kernel_rfl) ((h1 _).mono fun e W ⟨v,h1,h2,h3⟩=>⟨v,h1,h2,h3⟩) ?_
 rintro v1 W1 ⟨ov1,b1⟩
 rw [show Act.put _ nc2.dst _={ tmps:=#[x0,.pointer (some ⟨b,0,none⟩),x2,x3,x4,x5,x6,x7,x8,x9,.pointer (some ⟨b,0,none⟩),.int .i64 o.k,v1,.pointer (some ⟨b,1,none⟩),idv o.ir o.im,x15,x16,x17,x18,x19,x20,x21,x22,x23,x24,x25,x26,x27,x28,x29,x30,x31,x32,x33,x34,x35,x36,x37,x38,x39,x40,x41,x42,x43,x44,x45,x46,x47,x48,x49,x50,x51,x52,x53,x54,x55,x56,x57,x58,x59,x60,x61,x62,x63,x64,x65,x66,x67,x68,x69,x70,x71,x72,x73,x74,x75,x76,x77,x78,x79,x80,x81,x82,x83,x84,x85,x86,x87,x88,x89,x90,x91,x92,x93,x94,x95,x96,x97,x98,x99,x100,x101,x102,x103,x104,x105,x106,x107,x108,x109,x110,x111,x112,x113,x114,x115,x116,x117,x118,x119,x120,x121,x122,x123,x124,x125,x126,x127,x128,x129,x130,x131,x132,x133,x134,x135,x136,x137,x138,x139,x140,x141],defers:=[] } from by kernel_rfl]
 have hS1:=hKp _ _ hS b1
 refine ⟨hS1,?_⟩
 refine wpAnyH_all (rs:=[5]) (by kernel_rfl) (by simp) (fun i hi=>?_)
 obtain rfl:=List.mem_singleton.1 hi
 refine qaq (o:=nc5) (f:=110) (args:=#[idv o.ir o.im]) (D:=fun v W=>Mk e2 W1 v W) (by kernel_rfl) (by kernel_rfl) (by kernel_rfl) ((h2 _).mono fun e W ⟨v,h1,h2,h3⟩=>⟨v,h1,h2,h3⟩) ?_
 rintro v2 W2 ⟨ov2,b2⟩
 rw [show Act.put _ nc5.dst _={ tmps:=#[x0,.pointer (some ⟨b,0,none⟩),x2,x3,x4,x5,x6,x7,x8,x9,.pointer (some ⟨b,0,none⟩),.int .i64 o.k,v1,.pointer (some ⟨b,1,none⟩),idv o.ir o.im,v2,x16,x17,x18,x19,x20,x21,x22,x23,x24,x25,x26,x27,x28,x29,x30,x31,x32,x33,x34,x35,x36,x37,x38,x39,x40,x41,x42,x43,x44,x45,x46,x47,x48,x49,x50,x51,x52,x53,x54,x55,x56,x57,x58,x59,x60,x61,x62,x63,x64,x65,x66,x67,x68,x69,x70,x71,x72,x73,x74,x75,x76,x77,x78,x79,x80,x81,x82,x83,x84,x85,x86,x87,x88,x89,x90,x91,x92,x93,x94,x95,x96,x97,x98,x99,x100,x101,x102,x103,x104,x105,x106,x107,x108,x109,x110,x111,x112,x113,x114,x115,x116,x117,x118,x119,x120,x121,x122,x123,x124,x125,x126,x127,x128,x129,x130,x131,x132,x133,x134,x135,x136,x137,x138,x139,x140,x141],defers:=[] } from by kernel_rfl]
 have hS2:=hKp _ _ hS1 b2
 refine ⟨hS2,?_⟩
 refine wpAnyH_all (rs:=[6]) (by kernel_rfl) (by simp) (fun i hi=>?_)
 obtain rfl:=List.mem_singleton.1 hi
 have hs1:(World.drew w).heap.size≤W1.heap.size:=b1.size
 have hs2:W1.heap.size≤W2.heap.size:=b2.size
 refine qvn (o:=nc6) (by kernel_rfl) rfl _ _ rfl w.heap.size v1 e1 rfl (qau ov1 b2) v2 e2 rfl (Bs.of_own ov2 hr2) hlen (Nat.le_trans hs1 hs2) ?_
 intro v3 W3 o3 g3
 have b3:Below w.heap.size w W3:=Below.grown (((Below.refl w.heap.size w).drew.trans b1).trans (b2.mono hs1)) g3 (Nat.le_trans hs1 hs2) (fun k hk=>(ov1.lt k hk).1)
 have hS3:=hKg _ _ hS2 g3 (fun k hk=>.inr (ov1.lt k hk).1)
 rw [show Act.put _ nc6.dst _={ tmps:=#[x0,.pointer (some ⟨b,0,none⟩),x2,x3,x4,x5,x6,x7,x8,x9,.pointer (some ⟨b,0,none⟩),.int .i64 o.k,v1,.pointer (some ⟨b,1,none⟩),idv o.ir o.im,v2,v3,x17,x18,x19,x20,x21,x22,x23,x24,x25,x26,x27,x28,x29,x30,x31,x32,x33,x34,x35,x36,x37,x38,x39,x40,x41,x42,x43,x44,x45,x46,x47,x48,x49,x50,x51,x52,x53,x54,x55,x56,x57,x58,x59,x60,x61,x62,x63,x64,x65,x66,x67,x68,x69,x70,x71,x72,x73,x74,x75,x76,x77,x78,x79,x80,x81,x82,x83,x84,x85,x86,x87,x88,x89,x90,x91,x92,x93,x94,x95,x96,x97,x98,x99,x100,x101,x102,x103,x104,x105,x106,x107,x108,x109,x110,x111,x112,x113,x114,x115,x116,x117,x118,x119,x120,x121,x122,x123,x124,x125,x126,x127,x128,x129,x130,x131,x132,x133,x134,x135,x136,x137,x138,x139,x140,x141],defers:=[] } from by kernel_rfl]
 refine ⟨hS3,?_⟩
 refine wpAnyH_take (i:=7) (oi:=nc7) (v:=v3) (by kernel_rfl) qna (by kernel_rfl) (by kernel_rfl) (fun c a W h=>hP c _ _ _ W h) (Or.inl ⟨by kernel_rfl,fun W hW=>by kernel_rfl⟩) hS3 ?_
 rw [show Act.put _ nc7.dst _={ tmps:=#[x0,.pointer (some ⟨b,0,none⟩),x2,x3,v3,x5,x6,x7,x8,x9,.pointer (some ⟨b,0,none⟩),.int .i64 o.k,v1,.pointer (some ⟨b,1,none⟩),idv o.ir o.im,v2,v3,x17,x18,x19,x20,x21,x22,x23,x24,x25,x26,x27,x28,x29,x30,x31,x32,x33,x34,x35,x36,x37,x38,x39,x40,x41,x42,x43,x44,x45,x46,x47,x48,x49,x50,x51,x52,x53,x54,x55,x56,x57,x58,x59,x60,x61,x62,x63,x64,x65,x66,x67,x68,x69,x70,x71,x72,x73,x74,x75,x76,x77,x78,x79,x80,x81,x82,x83,x84,x85,x86,x87,x88,x89,x90,x91,x92,x93,x94,x95,x96,x97,x98,x99,x100,x101,x102,x103,x104,x105,x106,x107,x108,x109,x110,x111,x112,x113,x114,x115,x116,x117,x118,x119,x120,x121,x122,x123,x124,x125,x126,x127,x128,x129,x130,x131,x132,x133,x134,x135,x136,x137,x138,x139,x140,x141],defers:=[] } from by kernel_rfl]
 exact wpAnyH_done (by kernel_rfl) (hQ v1 v2 v3 W3 o3 b3) _
set_option maxHeartbeats 2000000 in
theorem qdg (r n:Int) (w:World) (h1:Num49 r) (h2:Num49 n):Calls Tryz.prog 110 #[idv r n] w fun e w'=>∃ v,e=.returned v∧Mk (en2 r n) w v w':=by
 have H1:=hid h1
 have H2:=hid h2
 clear h1 h2
 go_enter Tryz.func110,Tryz.ntmps110
 go_wp2_with fail
 have hA:=ba w (ido 69 r n)
 refine qyh (b:=w.heap.size) (r:=r) (n:=n) (e1:=M.enc r) (e2:=M.enc n) (heap_alloc_new w _) (fun W=>xnumb r W H1.out) (fun W=>xnumb n W H2.out) (M.enc_byte n H2.out.1 H2.out.2) (by rw [M.enc_length,M.enc_length];have:=(M.sz_pos r).2;have:=(M.sz_pos n).2;omega) (fun _ _ _ _ _ h=>h) (fun v1 v2 v3 W ho hb=>?_)
 have HM:Hid (Mk (en2 r n) w v3 W):=⟨qdj ho hA.size,bt hA hb⟩
 obtain ⟨a3,c3,rfl,_⟩:=qbb ho
 clear ho hb hA
 go_wp2
 go_ret
 exact ⟨_,rfl,HM.out⟩
set_option maxHeartbeats 2000000 in
theorem qtc (r n i:Int) (w:World) (h1:Num49 r) (h2:Num49 n) (h3:Num49 i):Calls Tryz.prog 111 #[.agg #[.int .i64 r,.int .i64 n,.int .i64 i]] w fun e w'=>∃ v,e=.returned v∧Mk (en3 r n i) w v w':=by
 have H1:=hid h1
 have H2:=hid h2
 have H3:=hid h3
 clear h1 h2 h3
 go_enter Tryz.func111,Tryz.ntmps111
 go_wp2_with fail
 have hA:=ba w (.cells #[.int .i64 r,.int .i64 n,.int .i64 i] 71 (0,0))
 refine qzo (b:=w.heap.size) (r:=r) (n:=n) (i:=i) (e1:=en2 r n) (e2:=M.enc i) (heap_alloc_new w _) (fun W=>qdg r n W H1.out H2.out) (fun W=>xnumb i W H3.out) (M.enc_byte i H3.out.1 H3.out.2) (by unfold en2;rw [List.length_append,M.enc_length,M.enc_length,M.enc_length];have:=(M.sz_pos r).2;have:=(M.sz_pos n).2;have:=(M.sz_pos i).2;omega) (fun _ _ _ _ _ h=>h) (fun v1 v2 v3 W ho hb=>?_)
 have HM:Hid (Mk (en3 r n i) w v3 W):=⟨qdj ho hA.size,bt hA hb⟩
 obtain ⟨a3,c3,rfl,_⟩:=qbb ho
 clear ho hb hA
 go_wp2
 go_ret
 exact ⟨_,rfl,HM.out⟩
def Rel (R:Opn × St) (L:List Nat) (o:Opn) (s:St):Prop:=R=L.foldl (fun p f=>rdF Bnd.ref f p) (o,s)
def Rd1 (m:Int) (s:St) (a:Int) (s':St):Prop:=a=(rn m s).1∧s'=(rn m s).2
def Rd2 (s:St) (a b:Int) (s':St):Prop:=a=(rn G48 s).1∧b=(rn G48 (rn G48 s).2).1∧s'=(rn G48 (rn G48 s).2).2
def Rd3 (s:St) (a b d:Int) (s':St):Prop:=a=(rn G48 s).1∧b=(rn G48 (rn G48 s).2).1∧d=(rn G48 (rn G48 (rn G48 s).2).2).1∧s'=(rn G48 (rn G48 (rn G48 s).2).2).2
def Rdt (m:Int) (s:St) (t:ByteArray) (s':St):Prop:=t=(rt m s).1∧s'=(rt m s).2
theorem gname (c:Nat) (s:St) (w:World) (h:Cx w c s) :
  Calls Tryz.prog 121 #[.pointer (some ⟨c,0,none⟩)] w fun e w'=>∃ a b s',e=.returned (idv a b)∧Cx w' c s'∧Fr (fun k=>k=c) w w'∧Rd2 s a b s' :=
 (qnz c s w h).mono fun _ _ ⟨h1,h2,h3⟩=>⟨_,_,_,h1,h2,h3,rfl,rfl,rfl⟩
theorem gchar (c:Nat) (s:St) (w:World) (h:Cx w c s) :
  Calls Tryz.prog 122 #[.pointer (some ⟨c,0,none⟩)] w fun e w'=>∃ a b d s',e=.returned (chv a b d)∧Cx w' c s'∧Fr (fun k=>k=c) w w'∧Rd3 s a b d s' :=
 (jak c s w h).mono fun _ _ ⟨h1,h2,h3⟩=>⟨_,_,_,_,h1,h2,h3,rfl,rfl,rfl,rfl⟩
theorem gnum (c:Nat) (s:St) (m:Int) (w:World) (h:Cx w c s) :
  Calls Tryz.prog 64 #[.pointer (some ⟨c,0,none⟩),.int .i64 m] w fun e w'=>∃ a s',e=.returned (.int .i64 a)∧Cx w' c s'∧Fr (fun k=>k=c) w w'∧Rd1 m s a s' :=
 (qfs c s m w h).mono fun _ _ ⟨h1,h2,h3⟩=>⟨_,_,h1,h2,Fr.grown h3,rfl,rfl⟩
theorem gtext (c:Nat) (s:St) (m:Int) (w:World) (h:Cx w c s) :
  Calls Tryz.prog 98 #[.pointer (some ⟨c,0,none⟩),.int .i64 m] w fun e w'=>∃ a s',e=.returned (.string a)∧Cx w' c s'∧Fr (fun k=>k=c) w w'∧Rdt m s a s' :=
 (qsy c s m w h).mono fun _ _ ⟨h1,h2,h3⟩=>⟨_,_,h1,h2,Fr.grown h3,rfl,rfl⟩
section
variable {R:Opn × St} {L:List Nat} {o:Opn} {s s':St} {a b d:Int} {t:ByteArray}
theorem quf (h:Rel R (0::L) o s) (q:Rd2 s a b s'):Rel R L { o with br:=a,bm:=b } s':=by obtain ⟨rfl,rfl,rfl⟩:=q;exact h
theorem qrv (h:Rel R (1::L) o s) (q:Rd2 s a b s'):Rel R L { o with pr:=a,pm:=b } s':=by obtain ⟨rfl,rfl,rfl⟩:=q;exact h
theorem jba (h:Rel R (2::L) o s) (q:Rdt G48 s t s'):Rel R L { o with key:=t } s':=by obtain ⟨rfl,rfl⟩:=q;exact h
theorem jaz (h:Rel R (3::L) o s) (q:Rd2 s a b s'):Rel R L { o with sr:=a,sm:=b } s':=by obtain ⟨rfl,rfl,rfl⟩:=q;exact h
theorem qxu (h:Rel R (4::L) o s) (q:Rd3 s a b d s'):Rel R L { o with lr:=a,lm:=b,li:=d } s':=by obtain ⟨rfl,rfl,rfl,rfl⟩:=q;exact h
theorem que (h:Rel R (5::L) o s) (q:Rd3 s a b d s'):Rel R L { o with gr:=a,gm:=b,gi:=d } s':=by obtain ⟨rfl,rfl,rfl,rfl⟩:=q;exact h
theorem qxt (h:Rel R (6::L) o s) (q:Rdt G48 s t s'):Rel R L { o with text:=t } s':=by obtain ⟨rfl,rfl⟩:=q;exact h
theorem qxv (h:Rel R (8::L) o s) (q:Rd1 1 s a s'):Rel R L { o with flag:=a==1 } s':=by obtain ⟨rfl,rfl⟩:=q;exact h
end
structure Inv (R:Opn × St) (L:List Nat) (K:Int) (o:Opn) (s:St):Prop where
 rel:Rel R L o s
 kind:o.k=K
 cuts:o.cuts=[]
section
variable {ops:Array Oper} {rest:List Oper} {p:Oper} {ac:Act} {W:World} {Q:Exit→Act→World→Prop} {x y:Operand} {bl:Nat} {o:Opn} {v:Value} {R:Opn × St} {L:List Nat} {K:Int} {s s':St}
theorem qbr (ho:p.op=.load 3 x) (hx:ac.eval x=.pointer (some ⟨bl,0,none⟩)) (h:Ob W bl o v) (hi:Inv R L K o s) (hw:Region.wanted p (yielded ops ac.tmps)=true) (hk:wpList Tryz.prog ops Q rest (ac.put p.dst (.int .i64 K)) W):wpList Tryz.prog ops Q (p::rest) ac W :=
 qai hw ho hx h (by rw [hi.kind];exact hk)
theorem qcu {a b:Int}(ho:p.op=.store 69 x y) (hx:ac.eval x=.pointer (some ⟨bl,4,none⟩)) (hy:ac.eval y=idv a b) (h:Ob W bl o v) (hi:Inv R (0::L) K o s) (q:Rd2 s a b s') (hw:Region.wanted p (yielded ops ac.tmps)=true)
  (hk:∀ W' o',Ob W' bl o' v→Fr (fun k=>k=bl) W W'→Inv R L K o' s'→wpList Tryz.prog ops Q rest (ac.put p.dst undef) W'):wpList Tryz.prog ops Q (p::rest) ac W :=
 qdt hw ho hx hy h fun W' h1 h2=>hk W' _ h1 h2 ⟨quf hi.rel q,hi.kind,hi.cuts⟩
theorem qca {a b:Int}(ho:p.op=.store 69 x y) (hx:ac.eval x=.pointer (some ⟨bl,6,none⟩)) (hy:ac.eval y=idv a b) (h:Ob W bl o v) (hi:Inv R (1::L) K o s) (q:Rd2 s a b s') (hw:Region.wanted p (yielded ops ac.tmps)=true)
  (hk:∀ W' o',Ob W' bl o' v→Fr (fun k=>k=bl) W W'→Inv R L K o' s'→wpList Tryz.prog ops Q rest (ac.put p.dst undef) W'):wpList Tryz.prog ops Q (p::rest) ac W :=
 qci hw ho hx hy h fun W' h1 h2=>hk W' _ h1 h2 ⟨qrv hi.rel q,hi.kind,hi.cuts⟩
theorem qct {t:ByteArray}(ho:p.op=.store 9 x y) (hx:ac.eval x=.pointer (some ⟨bl,8,none⟩)) (hy:ac.eval y=.string t) (h:Ob W bl o v) (hi:Inv R (2::L) K o s) (q:Rdt G48 s t s') (hw:Region.wanted p (yielded ops ac.tmps)=true)
  (hk:∀ W' o',Ob W' bl o' v→Fr (fun k=>k=bl) W W'→Inv R L K o' s'→wpList Tryz.prog ops Q rest (ac.put p.dst undef) W'):wpList Tryz.prog ops Q (p::rest) ac W :=
 qdn hw ho hx hy h fun W' h1 h2=>hk W' _ h1 h2 ⟨jba hi.rel q,hi.kind,hi.cuts⟩
theorem qdo {a b:Int}(ho:p.op=.store 69 x y) (hx:ac.eval x=.pointer (some ⟨bl,9,none⟩)) (hy:ac.eval y=idv a b) (h:Ob W bl o v) (hi:Inv R (3::L) K o s) (q:Rd2 s a b s') (hw:Region.wanted p (yielded ops ac.tmps)=true)
  (hk:∀ W' o',Ob W' bl o' v→Fr (fun k=>k=bl) W W'→Inv R L K o' s'→wpList Tryz.prog ops Q rest (ac.put p.dst undef) W'):wpList Tryz.prog ops Q (p::rest) ac W :=
 qeo hw ho hx hy h fun W' h1 h2=>hk W' _ h1 h2 ⟨jaz hi.rel q,hi.kind,hi.cuts⟩
theorem qdf {a b d:Int}(ho:p.op=.store 71 x y) (hx:ac.eval x=.pointer (some ⟨bl,11,none⟩)) (hy:ac.eval y=chv a b d) (h:Ob W bl o v) (hi:Inv R (4::L) K o s) (q:Rd3 s a b d s') (hw:Region.wanted p (yielded ops ac.tmps)=true)
  (hk:∀ W' o',Ob W' bl o' v→Fr (fun k=>k=bl) W W'→Inv R L K o' s'→wpList Tryz.prog ops Q rest (ac.put p.dst undef) W'):wpList Tryz.prog ops Q (p::rest) ac W :=
 qec hw ho hx hy h fun W' h1 h2=>hk W' _ h1 h2 ⟨qxu hi.rel q,hi.kind,hi.cuts⟩
theorem qcs {a b d:Int}(ho:p.op=.store 71 x y) (hx:ac.eval x=.pointer (some ⟨bl,14,none⟩)) (hy:ac.eval y=chv a b d) (h:Ob W bl o v) (hi:Inv R (5::L) K o s) (q:Rd3 s a b d s') (hw:Region.wanted p (yielded ops ac.tmps)=true)
  (hk:∀ W' o',Ob W' bl o' v→Fr (fun k=>k=bl) W W'→Inv R L K o' s'→wpList Tryz.prog ops Q rest (ac.put p.dst undef) W'):wpList Tryz.prog ops Q (p::rest) ac W :=
 qds hw ho hx hy h fun W' h1 h2=>hk W' _ h1 h2 ⟨que hi.rel q,hi.kind,hi.cuts⟩
theorem qfw {t:ByteArray}(ho:p.op=.store 9 x y) (hx:ac.eval x=.pointer (some ⟨bl,17,none⟩)) (hy:ac.eval y=.string t) (h:Ob W bl o v) (hi:Inv R (6::L) K o s) (q:Rdt G48 s t s') (hw:Region.wanted p (yielded ops ac.tmps)=true)
  (hk:∀ W' o',Ob W' bl o' v→Fr (fun k=>k=bl) W W'→Inv R L K o' s'→wpList Tryz.prog ops Q rest (ac.put p.dst undef) W'):wpList Tryz.prog ops Q (p::rest) ac W :=
 qfu hw ho hx hy h fun W' h1 h2=>hk W' _ h1 h2 ⟨qxt hi.rel q,hi.kind,hi.cuts⟩
theorem qfx {a:Int}(ho:p.op=.store 4 x y) (hx:ac.eval x=.pointer (some ⟨bl,19,none⟩)) (hy:ac.eval y=.bool (a==1)) (h:Ob W bl o v) (hi:Inv R (8::L) K o s) (q:Rd1 1 s a s') (hw:Region.wanted p (yielded ops ac.tmps)=true)
  (hk:∀ W' o',Ob W' bl o' v→Fr (fun k=>k=bl) W W'→Inv R L K o' s'→wpList Tryz.prog ops Q rest (ac.put p.dst undef) W'):wpList Tryz.prog ops Q (p::rest) ac W :=
 qfv hw ho hx hy h fun W' h1 h2=>hk W' _ h1 h2 ⟨qxv hi.rel q,hi.kind,hi.cuts⟩
end
theorem qbh {w:World}{B e sz n b:Nat}{v:Value}{xs:List Value}{cells:Array Value}{T:TypeId}{f:Nat × Nat}(h:w.ownsRow B e sz v n xs) (hk:w.heap[b]?=some (.cells cells T f)) (hT:T≠e):v.ownBlock≠some b:=by
 intro eb
 rcases h.2 with ⟨rfl,_⟩ | ⟨g,cap,cur,rfl,_,hg,_⟩
 ·cases eb
 ·simp [Value.ownBlock] at eb
  subst eb
  rw [hk] at hg
  simp at hg
  exact hT hg.2.1
theorem qaz {S:Nat→Prop}{w w':World}{B e sz n:Nat}{v:Value}{xs:List Value}(h:w.ownsRow B e sz v n xs) (hf:Fr S w w') (hs:∀ k,v.ownBlock=some k→¬ S k):w'.ownsRow B e sz v n xs:=by
 refine ⟨h.1,?_⟩
 rcases h.2 with h0 | ⟨g,cap,cur,rfl,hg,hh,r⟩
 ·exact .inl h0
 ·exact .inr ⟨g,cap,cur,rfl,hg,by rw [hf.block g (Array.getElem?_eq_some_iff.1 hh).1 (hs g rfl)];exact hh,r⟩
abbrev cutl (a b f t:Int):Array Value:=#[.int .i64 a,.int .i64 b,.int .i64 f,.int .i64 t]
def Cb (w:World) (x:Nat) (a b f t:Int):Prop:=w.heap[x]?=some (.cells (cutl a b f t) 111 (0,0))
theorem Cb.fr {S:Nat→Prop}{w w':World}{x:Nat}{a b f t:Int}(h:Cb w x a b f t) (hf:Fr S w w') (hs:¬ S x):Cb w' x a b f t:=hf.rows h hs
theorem Cb.no_byte {w:World}{x:Nat}{a b f t:Int}(h:Cb w x a b f t):∀ k,k=x→∀ j y,w.cell? ⟨k,j,none⟩≠some (.int .u8 y):=by
 intro k hk j y hc
 subst hk
 rw [cell_of_row w k j _ _ _ h] at hc
 have hj:j<4:=(Array.getElem?_eq_some_iff.1 hc).1
 have hcases:j=0∨j=1∨j=2∨j=3:=by omega
 rcases hcases with rfl | rfl | rfl | rfl<;>simp at hc
section
variable {ops:Array Oper} {rest:List Oper} {p:Oper} {ac:Act} {W:World} {Q:Exit→Act→World→Prop} {x y:Operand} {xb:Nat} {a b f t s:Int}
theorem qoj (ho:p.op=.store 3 x y) (hx:ac.eval x=.pointer (some ⟨xb,2,none⟩)) (hy:ac.eval y=.int .i64 s) (h:Cb W xb a b f t) (hw:Region.wanted p (yielded ops ac.tmps)=true)
  (hk:∀ W',Cb W' xb a b s t→Fr (fun k=>k=xb) W W'→wpList Tryz.prog ops Q rest (ac.put p.dst undef) W'):wpList Tryz.prog ops Q (p::rest) ac W :=
 qbk _ hw (qhm ho hx hy h (show 2<4 by decide)) (hk _ (set_row (i:=2) h _) (Fr.of_set W xb 2 _))
theorem qoi (ho:p.op=.store 3 x y) (hx:ac.eval x=.pointer (some ⟨xb,3,none⟩)) (hy:ac.eval y=.int .i64 s) (h:Cb W xb a b f t) (hw:Region.wanted p (yielded ops ac.tmps)=true)
  (hk:∀ W',Cb W' xb a b f s→Fr (fun k=>k=xb) W W'→wpList Tryz.prog ops Q rest (ac.put p.dst undef) W'):wpList Tryz.prog ops Q (p::rest) ac W :=
 qbk _ hw (qhm ho hx hy h (show 3<4 by decide)) (hk _ (set_row (i:=3) h _) (Fr.of_set W xb 3 _))
theorem qrs (ho:p.op=.load 111 x) (hx:ac.eval x=.pointer (some ⟨xb,0,none⟩)) (h:Cb W xb a b f t):(execOp ac.eval p).run Tryz.prog W=.ok (.value (.agg (cutl a b f t))) W:=by
 have h0:W.cell? ⟨xb,0,none⟩=some (.int .i64 a):=cell_of_row W xb 0 _ _ _ h
 have h1:W.cell? ⟨xb,1,none⟩=some (.int .i64 b):=cell_of_row W xb 1 _ _ _ h
 have h2:W.cell? ⟨xb,2,none⟩=some (.int .i64 f):=cell_of_row W xb 2 _ _ _ h
 have h3:W.cell? ⟨xb,3,none⟩=some (.int .i64 t):=cell_of_row W xb 3 _ _ _ h
 unfold execOp
 simp only [ho,hx]
 simp [go_sem,h0,h1,h2,h3]
theorem qlc (ho:p.op=.load 111 x) (hx:ac.eval x=.pointer (some ⟨xb,0,none⟩)) (h:Cb W xb a b f t) (hw:Region.wanted p (yielded ops ac.tmps)=true) (hk:wpList Tryz.prog ops Q rest (ac.put p.dst (.agg (cutl a b f t))) W):wpList Tryz.prog ops Q (p::rest) ac W :=
 qak _ hw (qrs ho hx h) hk
theorem qxn (a b f t:Int) (w:World):(Instr.buildSlice 72 1 #[(0,.agg (cutl a b f t))]).run Tryz.prog w=.ok (.slice (some ⟨w.heap.size,0,none⟩) 1 1) (w.alloc (.cells (cutl a b f t) 111)):=by kernel_rfl
theorem qoh (ho:p.op=.buildSlice 72 1 #[(0,x)]) (hx:ac.eval x=.agg (cutl a b f t)) (hw:Region.wanted p (yielded ops ac.tmps)=true)
  (hk:∀ W' u,Sl 4 W' u 1 (cutc ⟨a,b,f,t⟩)→Below W.heap.size W W'→wpList Tryz.prog ops Q rest (ac.put p.dst u) W'):wpList Tryz.prog ops Q (p::rest) ac W:=by
 refine BigFrame.wpList_want hw fun K hK=>?_
 unfold Oper.wp execOp
 have e:(Array.map (fun ((i,x):Nat × Operand)=>(i,ac.eval x)) #[(0,x)])=#[(0,.agg (cutl a b f t))]:=by simp [hx]
 simp only [ho,e,Sem.run_bind,qxn,Result.andThen_ok]
 exact hK _ _ (hk _ _ (Sl.lit W 111 (cutl a b f t) 1 (by decide) rfl) (ba W _))
end
theorem qrw (B:Bnd) (j:Nat) (s:St):(rcuts B (j+1) s).1=(rcuts B j s).1++[(rcut B (rcuts B j s).2).1]∧(rcuts B (j+1) s).2=(rcut B (rcuts B j s).2).2:=⟨rfl,rfl⟩
end Go.Proofs.YtkcjkncpaopjbaaGreatDoor
