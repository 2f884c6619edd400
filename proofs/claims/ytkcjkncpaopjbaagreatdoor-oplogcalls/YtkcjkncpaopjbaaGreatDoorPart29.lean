import Derived.Test.YtkcjkncpaopjbaaGreatDoorPart27
import Derived.Test.YtkcjkncpaopjbaaGreatDoorPart16
import Derived.Test.YtkcjkncpaopjbaaGreatDoorPart22
import Derived.Test.YtkcjkncpaopjbaaGreatDoorPart25
import Derived.Test.YtkcjkncpaopjbaaGreatDoorPart28
namespace Go.Proofs.YtkcjkncpaopjbaaGreatDoor
open Go.RowKit
set_option linter.unusedVariables false
set_option maxRecDepth 100000
set_option maxHeartbeats 8000000 in
theorem qob (vb:Value) (xs:List Int) (w:World) (h:Bs w vb xs) (hn:xs.length≤1099511627776) :
  Calls Tryz.prog 97 #[vb] w fun e w'=>∃ v,e=.returned (.tuple #[opv (decO Bnd.ref xs).1 v,.bool (decO Bnd.ref xs).2])∧Cs w' v (decO Bnd.ref xs).1.cuts∧Below w.heap.size w w'∧∀ k,v.ownBlock=some k→w.heap.size≤k:=by
 have HB:=hid h
 have HLN:=hid hn
 have hby:=h.range
 have HBY:=hid hby
 clear h hn hby
 go_enter Tryz.func97,Tryz.ntmps97
 go_upto_region 1 with (first
  | (refine qby rfl rfl ?_;intro w1 hr1 hb1 hlt1;have HR:=hid hr1;have BB:=hid hb1;have HLT:=hid hlt1;clear hr1 hb1 hlt1))
 obtain ⟨r,hr⟩:∃ r,w.heap.size=r:=⟨_,rfl⟩
 have hrB:w.heap.size≤r:=Nat.le_of_eq hr
 rw [hr] at HR HLT ⊢
 clear hr
 have HB1:=hid (HB.out.below BB.out)
 go_wp2_with fail
 refine (qet vb xs w1 HB1.out (by have:=HLN.out;omega)).mono ?_
 rintro e w2 ⟨g,cap,rfl,hown,b2⟩
 have hbs:=Bs.of_own hown HBY.out
 have HA3:=ba w2 (.cells #[.slice (some ⟨g,0,none⟩) xs.length cap,.bool false] 109)
 have HX:Hid (Cx (w2.alloc (.cells #[.slice (some ⟨g,0,none⟩) xs.length cap,.bool false] 109)) w2.heap.size (xs,false)):=hid ⟨⟨_,heap_alloc_new w2 _,hbs.below HA3⟩,⟨HBY.out,fun e=>by cases e⟩,HLN.out⟩
 replace HR:=hid ((HR.out.below b2).below HA3)
 replace BB:=hid (bt (bt BB.out b2) HA3)
 have hs2:r<w2.heap.size:=Nat.lt_of_lt_of_le HLT.out b2.size
 have hs3:w2.heap.size<(w2.alloc (.cells #[.slice (some ⟨g,0,none⟩) xs.length cap,.bool false] 109)).heap.size:=by simp
 obtain ⟨c,hc⟩:∃ c,w2.heap.size=c:=⟨_,rfl⟩
 obtain ⟨W,hW⟩:∃ W,w2.alloc (.cells #[.slice (some ⟨g,0,none⟩) xs.length cap,.bool false] 109)=W:=⟨_,rfl⟩
 clear hown b2 HA3 hbs HB1
 have NK:=hid (fun W=>qfs c (xs,false) G48 W)
 obtain ⟨p1,hp1⟩:∃ p,rn G48 (xs,false)=p:=⟨_,rfl⟩
 rw [hp1] at NK
 have HP1:=hid hp1
 have hrc:¬ r=c:=by omega
 have hcB:w.heap.size≤c:=by omega
 clear hp1
 go_upto_region 2 with fail
 rw [hW,hc] at HX hs3
 rw [hc] at hs2
 rw [hW] at HR BB
 clear hW hc
 go_upto_region 3 with (first | (go_at_call 64;refine (NK.out W HX.out).mono ?_;rintro e w4 ⟨rfl,hx,hg⟩;have hf:=Fr.grown hg;replace HR:=hid (HR.out.fr hf hrc);replace HX:=hid hx;replace BB:=hid (qaa BB.out hf hcB);replace hs3:=Nat.lt_of_lt_of_le hs3 hf.size;clear hx hg hf) | (refine qej rfl _ rfl p1.1 rfl ?_) | (refine qby rfl rfl ?_;intro w5 hz hb5 hlt5;replace HR:=hid (HR.out.below hb5);replace HX:=hid (HX.out.below hb5);replace BB:=hid (bt BB.out hb5);have HK:=hid hz;obtain ⟨kb,hkb⟩:∃ q,w4.heap.size=q:=⟨_,rfl⟩;rw [hkb] at HK hs3;rw [hkb];clear hz hb5 hkb hlt5) | (refine qaj (o:={ Opn.zero with k:=p1.1 }) (v:=.slice none 0 0) rfl rfl rfl rfl ⟨_,_,_,rfl⟩ HK.out ?_;intro w6 hk' hf';have hck:¬ c=kb:=Nat.ne_of_lt hs3;have hrk:¬ r=kb:=Nat.ne_of_lt (Nat.lt_trans hs2 hs3);replace HR:=hid (HR.out.fr hf' hrk);replace HX:=hid (HX.out.op hf' hck HK.out);replace BB:=hid (qaa BB.out hf' (Nat.le_of_lt (Nat.lt_of_le_of_lt hcB hs3)));replace HK:=hid hk';clear hk' hf'))
 have hkc:¬ kb=c:=fun e=>hck e.symm
 have hkB:w.heap.size≤kb:=Nat.le_of_lt (Nat.lt_of_le_of_lt hcB hs3)
 go_upto_region 5 with (first | (go_at_call 121;refine (qnz c _ _ HX.out).mono ?_;rintro e w7 ⟨rfl,hx,hf⟩;replace HR:=hid (HR.out.fr hf hrc);replace HK:=hid (HK.out.fr hf hkc);replace HX:=hid hx;replace BB:=hid (qaa BB.out hf hcB);clear hx hf) | (go_at_call 64;refine (qfs c _ _ _ HX.out).mono ?_;rintro e w7 ⟨rfl,hx,hg⟩;have hf:=Fr.grown hg;replace HR:=hid (HR.out.fr hf hrc);replace HK:=hid (HK.out.fr hf hkc);replace HX:=hid hx;replace BB:=hid (qaa BB.out hf hcB);clear hx hf hg) | (refine qlb rfl rfl rfl HK.out rfl ?_;intro w8 hk' hf';replace HR:=hid (HR.out.fr hf' hrk);replace HX:=hid (HX.out.op hf' hck HK.out);replace BB:=hid (qaa BB.out hf' hkB);replace HK:=hid hk';clear hk' hf') | (refine qmj rfl rfl rfl HK.out rfl ?_;intro w8 hk' hf';replace HR:=hid (HR.out.fr hf' hrk);replace HX:=hid (HX.out.op hf' hck HK.out);replace BB:=hid (qaa BB.out hf' hkB);replace HK:=hid hk';clear hk' hf'))
 obtain rfl:=HP1.out
 obtain ⟨P,hP⟩:∃ P,rdH Bnd.ref xs=P:=⟨_,rfl⟩
 have HKP:Hid (Ob w8 kb P.1 (.slice none 0 0)):=hid (by rw [←hP];exact HK.out)
 have HXP:Hid (Cx w8 c P.2):=hid (by rw [←hP];exact HX.out)
 have HP0:Hid (P.1.cuts=[]):=hid (by rw [←hP];rfl)
 have HPF:=hid hP
 have HSH:=hid (qug Bnd.ref HBY.out 9)
 rw [qlt Bnd.ref xs 9 (qgm _)] at HSH
 obtain ⟨D,hD⟩:∃ D,decO Bnd.ref xs=D:=⟨_,rfl⟩
 have HD:=hid hD
 obtain ⟨R,hR⟩:∃ R,rdO Bnd.ref xs=R:=⟨_,rfl⟩
 have HRO:=hid hR
 rw [hR] at HSH
 have hDR:D=if decB R then (R.1,true) else (Opn.zero,false):=by rw [←hD,←hR];rfl
 have HDR:=hid hDR
 have hRP:R=(told P.1.k).foldl (fun p f=>rdF Bnd.ref f p) P:=by rw [←hR,←hP];rfl
 have HRP:=hid hRP
 obtain ⟨kk,hkk⟩:∃ q,P.1.k=q:=⟨_,rfl⟩
 have HKK:=hid hkk
 clear HK HX NK HP1 hP hD hR hDR hRP hkk
 by_cases hk1:kk=1
 ·have HK:=HKP
  have HX:=HXP
  have hrp:=HRP.out
  rw [HKK.out,hk1,show told 1=[1,2] from rfl] at hrp
  have HI:Hid (Inv R [1,2] 1 P.1 P.2):=hid ⟨hrp,HKK.out.trans hk1,HP0.out⟩
  clear HKP HXP hrp HRP
  refine xd5 _ kb _ _ false false HK.out (by rw [HI.out.kind];rfl) (by rw [HI.out.kind];rfl) (fun y22 y23 y24 y25 y26 y27 y28=>?_)
  go_upto_region 7 with fail
  refine xd7 _ kb _ _ false false HK.out (by rw [HI.out.kind];rfl) (by rw [HI.out.kind];rfl) (fun y33 y34 y35 y36 y37 y38 y39=>?_)
  go_upto_region 11 with fail
  refine xd11 _ kb _ _ true false false HK.out (by rw [HI.out.kind];rfl) (by rw [HI.out.kind];rfl) (by rw [HI.out.kind];rfl) (fun y50 y51 y52 y53 y54 y55 y56 y57 y58 y59 y60 y61=>?_)
  go_upto_region 14 with (first | (refine qbr rfl rfl HK.out HI.out rfl ?_) | (go_at_call 121;refine (gname c _ _ HX.out).mono ?_;rintro e w7 ⟨qa,qb,qs,rfl,hx,hf,hq⟩;replace HR:=hid (HR.out.fr hf hrc);replace HK:=hid (HK.out.fr hf hkc);replace HX:=hid hx;replace BB:=hid (qaa BB.out hf hcB);have HQ:=hid hq;clear hx hf hq) | (go_at_call 98;refine (gtext c _ _ _ HX.out).mono ?_;rintro e w7 ⟨qa,qs,rfl,hx,hf,hq⟩;replace HR:=hid (HR.out.fr hf hrc);replace HK:=hid (HK.out.fr hf hkc);replace HX:=hid hx;replace BB:=hid (qaa BB.out hf hcB);have HQ:=hid hq;clear hx hf hq) | (refine qca rfl rfl rfl HK.out HI.out HQ.out rfl ?_;intro w8 o8 hk' hf' hi';replace HR:=hid (HR.out.fr hf' hrk);replace HX:=hid (HX.out.op hf' hck HK.out);replace BB:=hid (qaa BB.out hf' hkB);replace HK:=hid hk';replace HI:=hid hi';clear hk' hf' hi' HQ) | (refine qct rfl rfl rfl HK.out HI.out HQ.out rfl ?_;intro w8 o8 hk' hf' hi';replace HR:=hid (HR.out.fr hf' hrk);replace HX:=hid (HX.out.op hf' hck HK.out);replace BB:=hid (qaa BB.out hf' hkB);replace HK:=hid hk';replace HI:=hid hi';clear hk' hf' hi' HQ) | fail)
  refine xd14 _ kb _ _ false HK.out (by rw [HI.out.kind];rfl) (fun y69 y70=>?_)
  go_upto_region 16 with fail
  refine xd16 _ kb _ _ false HK.out (by rw [HI.out.kind];rfl) (fun y75 y76=>?_)
  go_upto_region 25 with fail
  refine xd25 _ kb _ _ false HK.out (by rw [HI.out.kind];rfl) (fun y100 y101=>?_)
  go_upto_region 27 with fail
  have hrp:=HI.out.rel
  unfold Rel at hrp
  rw [List.foldl_nil] at hrp
  have hRc:R.1.cuts=[]:=by rw [hrp];exact HI.out.cuts
  replace HK:Hid (Ob _ kb R.1 (.slice none 0 0)):=hid (by rw [hrp];exact HK.out)
  replace HX:Hid (Cx _ c R.2):=hid (by rw [hrp];exact HX.out)
  have hcn:∀ W',Cs W' (.slice none 0 0) R.1.cuts:=fun W'=>by rw [hRc];exact Cs.nil W'
  have HFI:Hid R.1.fine:=hid ⟨by have:=HSH.out.2.1;have:=HLN.out;omega,by have:=HSH.out.2.2.1;have:=HLN.out;omega⟩
  clear hrp hRc HI
  refine xd27 _ c kb R.1 _ R.2 HX.out HK.out (hcn _) HFI.out (fun y107 y108 y109 y110 y111 y112 y113 y114 y115 y116 y117 y118 y119 y120 y121 y122 w9 hb9=>?_)
  replace HR:=hid (HR.out.below hb9)
  replace HK:=hid (HK.out.below hb9)
  replace BB:=hid (bt BB.out hb9)
  clear hb9
  rw [show ((R.1,R.2):Opn × St)=R from rfl]
  have hdr:=HDR.out
  cases hd:decB R
  ·rw [hd] at hdr
   have HDD:=hid hdr
   clear hd hdr
   go_wp2_with (first | (refine qav rfl rfl ?_) | (refine qaj (o:=Opn.zero) (v:=.slice none 0 0) rfl rfl rfl rfl ⟨_,_,_,rfl⟩ HR.out ?_;intro w8 hk' hf';replace HR:=hid hk';replace BB:=hid (qaa BB.out hf' hrB);clear hk' hf') | fail)
   refine bodyPost_ret (qat rfl _ _ rfl HR.out) rfl ?_
   rw [HD.out,HDD.out]
   exact ⟨_,rfl,Cs.nil _,BB.out,fun k hk=>by cases hk⟩
  ·rw [hd] at hdr
   have HDD:=hid hdr
   clear hd hdr
   go_wp2_with (first | (refine qae rfl _ rfl kb rfl _ _ HK.out ?_) | (refine qaj (o:=R.1) rfl rfl rfl rfl ⟨_,_,_,rfl⟩ HR.out ?_;intro w8 hk' hf';replace HR:=hid hk';replace BB:=hid (qaa BB.out hf' hrB);clear hk' hf') | fail)
   refine bodyPost_ret (qat rfl _ _ rfl HR.out) rfl ?_
   rw [HD.out,HDD.out]
   exact ⟨_,rfl,hcn _,BB.out,fun k hk=>by cases hk⟩
 by_cases hk2:kk=2
 ·have HK:=HKP
  have HX:=HXP
  have hrp:=HRP.out
  rw [HKK.out,hk2,show told 2=[0,1,2] from rfl] at hrp
  have HI:Hid (Inv R [0,1,2] 2 P.1 P.2):=hid ⟨hrp,HKK.out.trans hk2,HP0.out⟩
  clear HKP HXP hrp HRP
  refine xd5 _ kb _ _ true false HK.out (by rw [HI.out.kind];rfl) (by rw [HI.out.kind];rfl) (fun y22 y23 y24 y25 y26 y27 y28=>?_)
  go_upto_region 7 with (first | (refine qbr rfl rfl HK.out HI.out rfl ?_) | (go_at_call 121;refine (gname c _ _ HX.out).mono ?_;rintro e w7 ⟨qa,qb,qs,rfl,hx,hf,hq⟩;replace HR:=hid (HR.out.fr hf hrc);replace HK:=hid (HK.out.fr hf hkc);replace HX:=hid hx;replace BB:=hid (qaa BB.out hf hcB);have HQ:=hid hq;clear hx hf hq) | (go_at_call 98;refine (gtext c _ _ _ HX.out).mono ?_;rintro e w7 ⟨qa,qs,rfl,hx,hf,hq⟩;replace HR:=hid (HR.out.fr hf hrc);replace HK:=hid (HK.out.fr hf hkc);replace HX:=hid hx;replace BB:=hid (qaa BB.out hf hcB);have HQ:=hid hq;clear hx hf hq) | (refine qcu rfl rfl rfl HK.out HI.out HQ.out rfl ?_;intro w8 o8 hk' hf' hi';replace HR:=hid (HR.out.fr hf' hrk);replace HX:=hid (HX.out.op hf' hck HK.out);replace BB:=hid (qaa BB.out hf' hkB);replace HK:=hid hk';replace HI:=hid hi';clear hk' hf' hi' HQ) | (refine qca rfl rfl rfl HK.out HI.out HQ.out rfl ?_;intro w8 o8 hk' hf' hi';replace HR:=hid (HR.out.fr hf' hrk);replace HX:=hid (HX.out.op hf' hck HK.out);replace BB:=hid (qaa BB.out hf' hkB);replace HK:=hid hk';replace HI:=hid hi';clear hk' hf' hi' HQ) | (refine qct rfl rfl rfl HK.out HI.out HQ.out rfl ?_;intro w8 o8 hk' hf' hi';replace HR:=hid (HR.out.fr hf' hrk);replace HX:=hid (HX.out.op hf' hck HK.out);replace BB:=hid (qaa BB.out hf' hkB);replace HK:=hid hk';replace HI:=hid hi';clear hk' hf' hi' HQ) | fail)
  refine xd7 _ kb _ _ false false HK.out (by rw [HI.out.kind];rfl) (by rw [HI.out.kind];rfl) (fun y33 y34 y35 y36 y37 y38 y39=>?_)
  go_upto_region 11 with fail
  refine xd11 _ kb _ _ false true false HK.out (by rw [HI.out.kind];rfl) (by rw [HI.out.kind];rfl) (by rw [HI.out.kind];rfl) (fun y50 y51 y52 y53 y54 y55 y56 y57 y58 y59 y60 y61=>?_)
  go_upto_region 14 with (first | (refine qbr rfl rfl HK.out HI.out rfl ?_) | (go_at_call 121;refine (gname c _ _ HX.out).mono ?_;rintro e w7 ⟨qa,qb,qs,rfl,hx,hf,hq⟩;replace HR:=hid (HR.out.fr hf hrc);replace HK:=hid (HK.out.fr hf hkc);replace HX:=hid hx;replace BB:=hid (qaa BB.out hf hcB);have HQ:=hid hq;clear hx hf hq) | (go_at_call 98;refine (gtext c _ _ _ HX.out).mono ?_;rintro e w7 ⟨qa,qs,rfl,hx,hf,hq⟩;replace HR:=hid (HR.out.fr hf hrc);replace HK:=hid (HK.out.fr hf hkc);replace HX:=hid hx;replace BB:=hid (qaa BB.out hf hcB);have HQ:=hid hq;clear hx hf hq) | (refine qcu rfl rfl rfl HK.out HI.out HQ.out rfl ?_;intro w8 o8 hk' hf' hi';replace HR:=hid (HR.out.fr hf' hrk);replace HX:=hid (HX.out.op hf' hck HK.out);replace BB:=hid (qaa BB.out hf' hkB);replace HK:=hid hk';replace HI:=hid hi';clear hk' hf' hi' HQ) | (refine qca rfl rfl rfl HK.out HI.out HQ.out rfl ?_;intro w8 o8 hk' hf' hi';replace HR:=hid (HR.out.fr hf' hrk);replace HX:=hid (HX.out.op hf' hck HK.out);replace BB:=hid (qaa BB.out hf' hkB);replace HK:=hid hk';replace HI:=hid hi';clear hk' hf' hi' HQ) | (refine qct rfl rfl rfl HK.out HI.out HQ.out rfl ?_;intro w8 o8 hk' hf' hi';replace HR:=hid (HR.out.fr hf' hrk);replace HX:=hid (HX.out.op hf' hck HK.out);replace BB:=hid (qaa BB.out hf' hkB);replace HK:=hid hk';replace HI:=hid hi';clear hk' hf' hi' HQ) | fail)
  refine xd14 _ kb _ _ false HK.out (by rw [HI.out.kind];rfl) (fun y69 y70=>?_)
  go_upto_region 16 with fail
  refine xd16 _ kb _ _ false HK.out (by rw [HI.out.kind];rfl) (fun y75 y76=>?_)
  go_upto_region 25 with fail
  refine xd25 _ kb _ _ false HK.out (by rw [HI.out.kind];rfl) (fun y100 y101=>?_)
  go_upto_region 27 with fail
  have hrp:=HI.out.rel
  unfold Rel at hrp
  rw [List.foldl_nil] at hrp
  have hRc:R.1.cuts=[]:=by rw [hrp];exact HI.out.cuts
  replace HK:Hid (Ob _ kb R.1 (.slice none 0 0)):=hid (by rw [hrp];exact HK.out)
  replace HX:Hid (Cx _ c R.2):=hid (by rw [hrp];exact HX.out)
  have hcn:∀ W',Cs W' (.slice none 0 0) R.1.cuts:=fun W'=>by rw [hRc];exact Cs.nil W'
  have HFI:Hid R.1.fine:=hid ⟨by have:=HSH.out.2.1;have:=HLN.out;omega,by have:=HSH.out.2.2.1;have:=HLN.out;omega⟩
  clear hrp hRc HI
  refine xd27 _ c kb R.1 _ R.2 HX.out HK.out (hcn _) HFI.out (fun y107 y108 y109 y110 y111 y112 y113 y114 y115 y116 y117 y118 y119 y120 y121 y122 w9 hb9=>?_)
  replace HR:=hid (HR.out.below hb9)
  replace HK:=hid (HK.out.below hb9)
  replace BB:=hid (bt BB.out hb9)
  clear hb9
  rw [show ((R.1,R.2):Opn × St)=R from rfl]
  have hdr:=HDR.out
  cases hd:decB R
  ·rw [hd] at hdr
   have HDD:=hid hdr
   clear hd hdr
   go_wp2_with (first | (refine qav rfl rfl ?_) | (refine qaj (o:=Opn.zero) (v:=.slice none 0 0) rfl rfl rfl rfl ⟨_,_,_,rfl⟩ HR.out ?_;intro w8 hk' hf';replace HR:=hid hk';replace BB:=hid (qaa BB.out hf' hrB);clear hk' hf') | fail)
   refine bodyPost_ret (qat rfl _ _ rfl HR.out) rfl ?_
   rw [HD.out,HDD.out]
   exact ⟨_,rfl,Cs.nil _,BB.out,fun k hk=>by cases hk⟩
  ·rw [hd] at hdr
   have HDD:=hid hdr
   clear hd hdr
   go_wp2_with (first | (refine qae rfl _ rfl kb rfl _ _ HK.out ?_) | (refine qaj (o:=R.1) rfl rfl rfl rfl ⟨_,_,_,rfl⟩ HR.out ?_;intro w8 hk' hf';replace HR:=hid hk';replace BB:=hid (qaa BB.out hf' hrB);clear hk' hf') | fail)
   refine bodyPost_ret (qat rfl _ _ rfl HR.out) rfl ?_
   rw [HD.out,HDD.out]
   exact ⟨_,rfl,hcn _,BB.out,fun k hk=>by cases hk⟩
 by_cases hk3:kk=3
 ·have HK:=HKP
  have HX:=HXP
  have hrp:=HRP.out
  rw [HKK.out,hk3,show told 3=[3,4,5,6] from rfl] at hrp
  have HI:Hid (Inv R [3,4,5,6] 3 P.1 P.2):=hid ⟨hrp,HKK.out.trans hk3,HP0.out⟩
  clear HKP HXP hrp HRP
  refine xd5 _ kb _ _ false false HK.out (by rw [HI.out.kind];rfl) (by rw [HI.out.kind];rfl) (fun y22 y23 y24 y25 y26 y27 y28=>?_)
  go_upto_region 7 with fail
  refine xd7 _ kb _ _ true false HK.out (by rw [HI.out.kind];rfl) (by rw [HI.out.kind];rfl) (fun y33 y34 y35 y36 y37 y38 y39=>?_)
  go_upto_region 11 with (first | (refine qbr rfl rfl HK.out HI.out rfl ?_) | (go_at_call 121;refine (gname c _ _ HX.out).mono ?_;rintro e w7 ⟨qa,qb,qs,rfl,hx,hf,hq⟩;replace HR:=hid (HR.out.fr hf hrc);replace HK:=hid (HK.out.fr hf hkc);replace HX:=hid hx;replace BB:=hid (qaa BB.out hf hcB);have HQ:=hid hq;clear hx hf hq) | (go_at_call 122;refine (gchar c _ _ HX.out).mono ?_;rintro e w7 ⟨qa,qb,qd,qs,rfl,hx,hf,hq⟩;replace HR:=hid (HR.out.fr hf hrc);replace HK:=hid (HK.out.fr hf hkc);replace HX:=hid hx;replace BB:=hid (qaa BB.out hf hcB);have HQ:=hid hq;clear hx hf hq) | (go_at_call 98;refine (gtext c _ _ _ HX.out).mono ?_;rintro e w7 ⟨qa,qs,rfl,hx,hf,hq⟩;replace HR:=hid (HR.out.fr hf hrc);replace HK:=hid (HK.out.fr hf hkc);replace HX:=hid hx;replace BB:=hid (qaa BB.out hf hcB);have HQ:=hid hq;clear hx hf hq) | (refine qdo rfl rfl rfl HK.out HI.out HQ.out rfl ?_;intro w8 o8 hk' hf' hi';replace HR:=hid (HR.out.fr hf' hrk);replace HX:=hid (HX.out.op hf' hck HK.out);replace BB:=hid (qaa BB.out hf' hkB);replace HK:=hid hk';replace HI:=hid hi';clear hk' hf' hi' HQ) | (refine qdf rfl rfl rfl HK.out HI.out HQ.out rfl ?_;intro w8 o8 hk' hf' hi';replace HR:=hid (HR.out.fr hf' hrk);replace HX:=hid (HX.out.op hf' hck HK.out);replace BB:=hid (qaa BB.out hf' hkB);replace HK:=hid hk';replace HI:=hid hi';clear hk' hf' hi' HQ) | (refine qcs rfl rfl rfl HK.out HI.out HQ.out rfl ?_;intro w8 o8 hk' hf' hi';replace HR:=hid (HR.out.fr hf' hrk);replace HX:=hid (HX.out.op hf' hck HK.out);replace BB:=hid (qaa BB.out hf' hkB);replace HK:=hid hk';replace HI:=hid hi';clear hk' hf' hi' HQ) | (refine qfw rfl rfl rfl HK.out HI.out HQ.out rfl ?_;intro w8 o8 hk' hf' hi';replace HR:=hid (HR.out.fr hf' hrk);replace HX:=hid (HX.out.op hf' hck HK.out);replace BB:=hid (qaa BB.out hf' hkB);replace HK:=hid hk';replace HI:=hid hi';clear hk' hf' hi' HQ) | fail)
  refine xd11 _ kb _ _ false false false HK.out (by rw [HI.out.kind];rfl) (by rw [HI.out.kind];rfl) (by rw [HI.out.kind];rfl) (fun y50 y51 y52 y53 y54 y55 y56 y57 y58 y59 y60 y61=>?_)
  go_upto_region 14 with fail
  refine xd14 _ kb _ _ true HK.out (by rw [HI.out.kind];rfl) (fun y69 y70=>?_)
  go_upto_region 16 with (first | (refine qbr rfl rfl HK.out HI.out rfl ?_) | (go_at_call 121;refine (gname c _ _ HX.out).mono ?_;rintro e w7 ⟨qa,qb,qs,rfl,hx,hf,hq⟩;replace HR:=hid (HR.out.fr hf hrc);replace HK:=hid (HK.out.fr hf hkc);replace HX:=hid hx;replace BB:=hid (qaa BB.out hf hcB);have HQ:=hid hq;clear hx hf hq) | (go_at_call 122;refine (gchar c _ _ HX.out).mono ?_;rintro e w7 ⟨qa,qb,qd,qs,rfl,hx,hf,hq⟩;replace HR:=hid (HR.out.fr hf hrc);replace HK:=hid (HK.out.fr hf hkc);replace HX:=hid hx;replace BB:=hid (qaa BB.out hf hcB);have HQ:=hid hq;clear hx hf hq) | (go_at_call 98;refine (gtext c _ _ _ HX.out).mono ?_;rintro e w7 ⟨qa,qs,rfl,hx,hf,hq⟩;replace HR:=hid (HR.out.fr hf hrc);replace HK:=hid (HK.out.fr hf hkc);replace HX:=hid hx;replace BB:=hid (qaa BB.out hf hcB);have HQ:=hid hq;clear hx hf hq) | (refine qdo rfl rfl rfl HK.out HI.out HQ.out rfl ?_;intro w8 o8 hk' hf' hi';replace HR:=hid (HR.out.fr hf' hrk);replace HX:=hid (HX.out.op hf' hck HK.out);replace BB:=hid (qaa BB.out hf' hkB);replace HK:=hid hk';replace HI:=hid hi';clear hk' hf' hi' HQ) | (refine qdf rfl rfl rfl HK.out HI.out HQ.out rfl ?_;intro w8 o8 hk' hf' hi';replace HR:=hid (HR.out.fr hf' hrk);replace HX:=hid (HX.out.op hf' hck HK.out);replace BB:=hid (qaa BB.out hf' hkB);replace HK:=hid hk';replace HI:=hid hi';clear hk' hf' hi' HQ) | (refine qcs rfl rfl rfl HK.out HI.out HQ.out rfl ?_;intro w8 o8 hk' hf' hi';replace HR:=hid (HR.out.fr hf' hrk);replace HX:=hid (HX.out.op hf' hck HK.out);replace BB:=hid (qaa BB.out hf' hkB);replace HK:=hid hk';replace HI:=hid hi';clear hk' hf' hi' HQ) | (refine qfw rfl rfl rfl HK.out HI.out HQ.out rfl ?_;intro w8 o8 hk' hf' hi';replace HR:=hid (HR.out.fr hf' hrk);replace HX:=hid (HX.out.op hf' hck HK.out);replace BB:=hid (qaa BB.out hf' hkB);replace HK:=hid hk';replace HI:=hid hi';clear hk' hf' hi' HQ) | fail)
  refine xd16 _ kb _ _ false HK.out (by rw [HI.out.kind];rfl) (fun y75 y76=>?_)
  go_upto_region 25 with fail
  refine xd25 _ kb _ _ false HK.out (by rw [HI.out.kind];rfl) (fun y100 y101=>?_)
  go_upto_region 27 with fail
  have hrp:=HI.out.rel
  unfold Rel at hrp
  rw [List.foldl_nil] at hrp
  have hRc:R.1.cuts=[]:=by rw [hrp];exact HI.out.cuts
  replace HK:Hid (Ob _ kb R.1 (.slice none 0 0)):=hid (by rw [hrp];exact HK.out)
  replace HX:Hid (Cx _ c R.2):=hid (by rw [hrp];exact HX.out)
  have hcn:∀ W',Cs W' (.slice none 0 0) R.1.cuts:=fun W'=>by rw [hRc];exact Cs.nil W'
  have HFI:Hid R.1.fine:=hid ⟨by have:=HSH.out.2.1;have:=HLN.out;omega,by have:=HSH.out.2.2.1;have:=HLN.out;omega⟩
  clear hrp hRc HI
  refine xd27 _ c kb R.1 _ R.2 HX.out HK.out (hcn _) HFI.out (fun y107 y108 y109 y110 y111 y112 y113 y114 y115 y116 y117 y118 y119 y120 y121 y122 w9 hb9=>?_)
  replace HR:=hid (HR.out.below hb9)
  replace HK:=hid (HK.out.below hb9)
  replace BB:=hid (bt BB.out hb9)
  clear hb9
  rw [show ((R.1,R.2):Opn × St)=R from rfl]
  have hdr:=HDR.out
  cases hd:decB R
  ·rw [hd] at hdr
   have HDD:=hid hdr
   clear hd hdr
   go_wp2_with (first | (refine qav rfl rfl ?_) | (refine qaj (o:=Opn.zero) (v:=.slice none 0 0) rfl rfl rfl rfl ⟨_,_,_,rfl⟩ HR.out ?_;intro w8 hk' hf';replace HR:=hid hk';replace BB:=hid (qaa BB.out hf' hrB);clear hk' hf') | fail)
   refine bodyPost_ret (qat rfl _ _ rfl HR.out) rfl ?_
   rw [HD.out,HDD.out]
   exact ⟨_,rfl,Cs.nil _,BB.out,fun k hk=>by cases hk⟩
  ·rw [hd] at hdr
   have HDD:=hid hdr
   clear hd hdr
   go_wp2_with (first | (refine qae rfl _ rfl kb rfl _ _ HK.out ?_) | (refine qaj (o:=R.1) rfl rfl rfl rfl ⟨_,_,_,rfl⟩ HR.out ?_;intro w8 hk' hf';replace HR:=hid hk';replace BB:=hid (qaa BB.out hf' hrB);clear hk' hf') | fail)
   refine bodyPost_ret (qat rfl _ _ rfl HR.out) rfl ?_
   rw [HD.out,HDD.out]
   exact ⟨_,rfl,hcn _,BB.out,fun k hk=>by cases hk⟩
 by_cases hk5:kk=5
 ·have HK:=HKP
  have HX:=HXP
  have hrp:=HRP.out
  rw [HKK.out,hk5,show told 5=[3,4,5,1,2] from rfl] at hrp
  have HI:Hid (Inv R [3,4,5,1,2] 5 P.1 P.2):=hid ⟨hrp,HKK.out.trans hk5,HP0.out⟩
  clear HKP HXP hrp HRP
  refine xd5 _ kb _ _ false false HK.out (by rw [HI.out.kind];rfl) (by rw [HI.out.kind];rfl) (fun y22 y23 y24 y25 y26 y27 y28=>?_)
  go_upto_region 7 with fail
  refine xd7 _ kb _ _ false true HK.out (by rw [HI.out.kind];rfl) (by rw [HI.out.kind];rfl) (fun y33 y34 y35 y36 y37 y38 y39=>?_)
  go_upto_region 11 with (first | (refine qbr rfl rfl HK.out HI.out rfl ?_) | (go_at_call 121;refine (gname c _ _ HX.out).mono ?_;rintro e w7 ⟨qa,qb,qs,rfl,hx,hf,hq⟩;replace HR:=hid (HR.out.fr hf hrc);replace HK:=hid (HK.out.fr hf hkc);replace HX:=hid hx;replace BB:=hid (qaa BB.out hf hcB);have HQ:=hid hq;clear hx hf hq) | (go_at_call 122;refine (gchar c _ _ HX.out).mono ?_;rintro e w7 ⟨qa,qb,qd,qs,rfl,hx,hf,hq⟩;replace HR:=hid (HR.out.fr hf hrc);replace HK:=hid (HK.out.fr hf hkc);replace HX:=hid hx;replace BB:=hid (qaa BB.out hf hcB);have HQ:=hid hq;clear hx hf hq) | (go_at_call 98;refine (gtext c _ _ _ HX.out).mono ?_;rintro e w7 ⟨qa,qs,rfl,hx,hf,hq⟩;replace HR:=hid (HR.out.fr hf hrc);replace HK:=hid (HK.out.fr hf hkc);replace HX:=hid hx;replace BB:=hid (qaa BB.out hf hcB);have HQ:=hid hq;clear hx hf hq) | (refine qdo rfl rfl rfl HK.out HI.out HQ.out rfl ?_;intro w8 o8 hk' hf' hi';replace HR:=hid (HR.out.fr hf' hrk);replace HX:=hid (HX.out.op hf' hck HK.out);replace BB:=hid (qaa BB.out hf' hkB);replace HK:=hid hk';replace HI:=hid hi';clear hk' hf' hi' HQ) | (refine qdf rfl rfl rfl HK.out HI.out HQ.out rfl ?_;intro w8 o8 hk' hf' hi';replace HR:=hid (HR.out.fr hf' hrk);replace HX:=hid (HX.out.op hf' hck HK.out);replace BB:=hid (qaa BB.out hf' hkB);replace HK:=hid hk';replace HI:=hid hi';clear hk' hf' hi' HQ) | (refine qcs rfl rfl rfl HK.out HI.out HQ.out rfl ?_;intro w8 o8 hk' hf' hi';replace HR:=hid (HR.out.fr hf' hrk);replace HX:=hid (HX.out.op hf' hck HK.out);replace BB:=hid (qaa BB.out hf' hkB);replace HK:=hid hk';replace HI:=hid hi';clear hk' hf' hi' HQ) | (refine qca rfl rfl rfl HK.out HI.out HQ.out rfl ?_;intro w8 o8 hk' hf' hi';replace HR:=hid (HR.out.fr hf' hrk);replace HX:=hid (HX.out.op hf' hck HK.out);replace BB:=hid (qaa BB.out hf' hkB);replace HK:=hid hk';replace HI:=hid hi';clear hk' hf' hi' HQ) | (refine qct rfl rfl rfl HK.out HI.out HQ.out rfl ?_;intro w8 o8 hk' hf' hi';replace HR:=hid (HR.out.fr hf' hrk);replace HX:=hid (HX.out.op hf' hck HK.out);replace BB:=hid (qaa BB.out hf' hkB);replace HK:=hid hk';replace HI:=hid hi';clear hk' hf' hi' HQ) | fail)
  refine xd11 _ kb _ _ false false true HK.out (by rw [HI.out.kind];rfl) (by rw [HI.out.kind];rfl) (by rw [HI.out.kind];rfl) (fun y50 y51 y52 y53 y54 y55 y56 y57 y58 y59 y60 y61=>?_)
  go_upto_region 14 with (first | (refine qbr rfl rfl HK.out HI.out rfl ?_) | (go_at_call 121;refine (gname c _ _ HX.out).mono ?_;rintro e w7 ⟨qa,qb,qs,rfl,hx,hf,hq⟩;replace HR:=hid (HR.out.fr hf hrc);replace HK:=hid (HK.out.fr hf hkc);replace HX:=hid hx;replace BB:=hid (qaa BB.out hf hcB);have HQ:=hid hq;clear hx hf hq) | (go_at_call 122;refine (gchar c _ _ HX.out).mono ?_;rintro e w7 ⟨qa,qb,qd,qs,rfl,hx,hf,hq⟩;replace HR:=hid (HR.out.fr hf hrc);replace HK:=hid (HK.out.fr hf hkc);replace HX:=hid hx;replace BB:=hid (qaa BB.out hf hcB);have HQ:=hid hq;clear hx hf hq) | (go_at_call 98;refine (gtext c _ _ _ HX.out).mono ?_;rintro e w7 ⟨qa,qs,rfl,hx,hf,hq⟩;replace HR:=hid (HR.out.fr hf hrc);replace HK:=hid (HK.out.fr hf hkc);replace HX:=hid hx;replace BB:=hid (qaa BB.out hf hcB);have HQ:=hid hq;clear hx hf hq) | (refine qdo rfl rfl rfl HK.out HI.out HQ.out rfl ?_;intro w8 o8 hk' hf' hi';replace HR:=hid (HR.out.fr hf' hrk);replace HX:=hid (HX.out.op hf' hck HK.out);replace BB:=hid (qaa BB.out hf' hkB);replace HK:=hid hk';replace HI:=hid hi';clear hk' hf' hi' HQ) | (refine qdf rfl rfl rfl HK.out HI.out HQ.out rfl ?_;intro w8 o8 hk' hf' hi';replace HR:=hid (HR.out.fr hf' hrk);replace HX:=hid (HX.out.op hf' hck HK.out);replace BB:=hid (qaa BB.out hf' hkB);replace HK:=hid hk';replace HI:=hid hi';clear hk' hf' hi' HQ) | (refine qcs rfl rfl rfl HK.out HI.out HQ.out rfl ?_;intro w8 o8 hk' hf' hi';replace HR:=hid (HR.out.fr hf' hrk);replace HX:=hid (HX.out.op hf' hck HK.out);replace BB:=hid (qaa BB.out hf' hkB);replace HK:=hid hk';replace HI:=hid hi';clear hk' hf' hi' HQ) | (refine qca rfl rfl rfl HK.out HI.out HQ.out rfl ?_;intro w8 o8 hk' hf' hi';replace HR:=hid (HR.out.fr hf' hrk);replace HX:=hid (HX.out.op hf' hck HK.out);replace BB:=hid (qaa BB.out hf' hkB);replace HK:=hid hk';replace HI:=hid hi';clear hk' hf' hi' HQ) | (refine qct rfl rfl rfl HK.out HI.out HQ.out rfl ?_;intro w8 o8 hk' hf' hi';replace HR:=hid (HR.out.fr hf' hrk);replace HX:=hid (HX.out.op hf' hck HK.out);replace BB:=hid (qaa BB.out hf' hkB);replace HK:=hid hk';replace HI:=hid hi';clear hk' hf' hi' HQ) | fail)
  refine xd14 _ kb _ _ false HK.out (by rw [HI.out.kind];rfl) (fun y69 y70=>?_)
  go_upto_region 16 with fail
  refine xd16 _ kb _ _ false HK.out (by rw [HI.out.kind];rfl) (fun y75 y76=>?_)
  go_upto_region 25 with fail
  refine xd25 _ kb _ _ false HK.out (by rw [HI.out.kind];rfl) (fun y100 y101=>?_)
  go_upto_region 27 with fail
  have hrp:=HI.out.rel
  unfold Rel at hrp
  rw [List.foldl_nil] at hrp
  have hRc:R.1.cuts=[]:=by rw [hrp];exact HI.out.cuts
  replace HK:Hid (Ob _ kb R.1 (.slice none 0 0)):=hid (by rw [hrp];exact HK.out)
  replace HX:Hid (Cx _ c R.2):=hid (by rw [hrp];exact HX.out)
  have hcn:∀ W',Cs W' (.slice none 0 0) R.1.cuts:=fun W'=>by rw [hRc];exact Cs.nil W'
  have HFI:Hid R.1.fine:=hid ⟨by have:=HSH.out.2.1;have:=HLN.out;omega,by have:=HSH.out.2.2.1;have:=HLN.out;omega⟩
  clear hrp hRc HI
  refine xd27 _ c kb R.1 _ R.2 HX.out HK.out (hcn _) HFI.out (fun y107 y108 y109 y110 y111 y112 y113 y114 y115 y116 y117 y118 y119 y120 y121 y122 w9 hb9=>?_)
  replace HR:=hid (HR.out.below hb9)
  replace HK:=hid (HK.out.below hb9)
  replace BB:=hid (bt BB.out hb9)
  clear hb9
  rw [show ((R.1,R.2):Opn × St)=R from rfl]
  have hdr:=HDR.out
  cases hd:decB R
  ·rw [hd] at hdr
   have HDD:=hid hdr
   clear hd hdr
   go_wp2_with (first | (refine qav rfl rfl ?_) | (refine qaj (o:=Opn.zero) (v:=.slice none 0 0) rfl rfl rfl rfl ⟨_,_,_,rfl⟩ HR.out ?_;intro w8 hk' hf';replace HR:=hid hk';replace BB:=hid (qaa BB.out hf' hrB);clear hk' hf') | fail)
   refine bodyPost_ret (qat rfl _ _ rfl HR.out) rfl ?_
   rw [HD.out,HDD.out]
   exact ⟨_,rfl,Cs.nil _,BB.out,fun k hk=>by cases hk⟩
  ·rw [hd] at hdr
   have HDD:=hid hdr
   clear hd hdr
   go_wp2_with (first | (refine qae rfl _ rfl kb rfl _ _ HK.out ?_) | (refine qaj (o:=R.1) rfl rfl rfl rfl ⟨_,_,_,rfl⟩ HR.out ?_;intro w8 hk' hf';replace HR:=hid hk';replace BB:=hid (qaa BB.out hf' hrB);clear hk' hf') | fail)
   refine bodyPost_ret (qat rfl _ _ rfl HR.out) rfl ?_
   rw [HD.out,HDD.out]
   exact ⟨_,rfl,hcn _,BB.out,fun k hk=>by cases hk⟩
 by_cases hk6:kk=6
 ·have HK:=HKP
  have HX:=HXP
  have hrp:=HRP.out
  rw [HKK.out,hk6,show told 6=[0,8] from rfl] at hrp
  have HI:Hid (Inv R [0,8] 6 P.1 P.2):=hid ⟨hrp,HKK.out.trans hk6,HP0.out⟩
  clear HKP HXP hrp HRP
  refine xd5 _ kb _ _ false true HK.out (by rw [HI.out.kind];rfl) (by rw [HI.out.kind];rfl) (fun y22 y23 y24 y25 y26 y27 y28=>?_)
  go_upto_region 7 with (first | (refine qbr rfl rfl HK.out HI.out rfl ?_) | (go_at_call 121;refine (gname c _ _ HX.out).mono ?_;rintro e w7 ⟨qa,qb,qs,rfl,hx,hf,hq⟩;replace HR:=hid (HR.out.fr hf hrc);replace HK:=hid (HK.out.fr hf hkc);replace HX:=hid hx;replace BB:=hid (qaa BB.out hf hcB);have HQ:=hid hq;clear hx hf hq) | (go_at_call 64;refine (gnum c _ _ _ HX.out).mono ?_;rintro e w7 ⟨qa,qs,rfl,hx,hf,hq⟩;replace HR:=hid (HR.out.fr hf hrc);replace HK:=hid (HK.out.fr hf hkc);replace HX:=hid hx;replace BB:=hid (qaa BB.out hf hcB);have HQ:=hid hq;clear hx hf hq) | (refine qcu rfl rfl rfl HK.out HI.out HQ.out rfl ?_;intro w8 o8 hk' hf' hi';replace HR:=hid (HR.out.fr hf' hrk);replace HX:=hid (HX.out.op hf' hck HK.out);replace BB:=hid (qaa BB.out hf' hkB);replace HK:=hid hk';replace HI:=hid hi';clear hk' hf' hi' HQ) | (refine qfx rfl rfl rfl HK.out HI.out HQ.out rfl ?_;intro w8 o8 hk' hf' hi';replace HR:=hid (HR.out.fr hf' hrk);replace HX:=hid (HX.out.op hf' hck HK.out);replace BB:=hid (qaa BB.out hf' hkB);replace HK:=hid hk';replace HI:=hid hi';clear hk' hf' hi' HQ) | fail)
  refine xd7 _ kb _ _ false false HK.out (by rw [HI.out.kind];rfl) (by rw [HI.out.kind];rfl) (fun y33 y34 y35 y36 y37 y38 y39=>?_)
  go_upto_region 11 with fail
  refine xd11 _ kb _ _ false false false HK.out (by rw [HI.out.kind];rfl) (by rw [HI.out.kind];rfl) (by rw [HI.out.kind];rfl) (fun y50 y51 y52 y53 y54 y55 y56 y57 y58 y59 y60 y61=>?_)
  go_upto_region 14 with fail
  refine xd14 _ kb _ _ false HK.out (by rw [HI.out.kind];rfl) (fun y69 y70=>?_)
  go_upto_region 16 with fail
  refine xd16 _ kb _ _ false HK.out (by rw [HI.out.kind];rfl) (fun y75 y76=>?_)
  go_upto_region 25 with fail
  refine xd25 _ kb _ _ true HK.out (by rw [HI.out.kind];rfl) (fun y100 y101=>?_)
  go_upto_region 27 with (first | (refine qbr rfl rfl HK.out HI.out rfl ?_) | (go_at_call 121;refine (gname c _ _ HX.out).mono ?_;rintro e w7 ⟨qa,qb,qs,rfl,hx,hf,hq⟩;replace HR:=hid (HR.out.fr hf hrc);replace HK:=hid (HK.out.fr hf hkc);replace HX:=hid hx;replace BB:=hid (qaa BB.out hf hcB);have HQ:=hid hq;clear hx hf hq) | (go_at_call 64;refine (gnum c _ _ _ HX.out).mono ?_;rintro e w7 ⟨qa,qs,rfl,hx,hf,hq⟩;replace HR:=hid (HR.out.fr hf hrc);replace HK:=hid (HK.out.fr hf hkc);replace HX:=hid hx;replace BB:=hid (qaa BB.out hf hcB);have HQ:=hid hq;clear hx hf hq) | (refine qcu rfl rfl rfl HK.out HI.out HQ.out rfl ?_;intro w8 o8 hk' hf' hi';replace HR:=hid (HR.out.fr hf' hrk);replace HX:=hid (HX.out.op hf' hck HK.out);replace BB:=hid (qaa BB.out hf' hkB);replace HK:=hid hk';replace HI:=hid hi';clear hk' hf' hi' HQ) | (refine qfx rfl rfl rfl HK.out HI.out HQ.out rfl ?_;intro w8 o8 hk' hf' hi';replace HR:=hid (HR.out.fr hf' hrk);replace HX:=hid (HX.out.op hf' hck HK.out);replace BB:=hid (qaa BB.out hf' hkB);replace HK:=hid hk';replace HI:=hid hi';clear hk' hf' hi' HQ) | fail)
  have hrp:=HI.out.rel
  unfold Rel at hrp
  rw [List.foldl_nil] at hrp
  have hRc:R.1.cuts=[]:=by rw [hrp];exact HI.out.cuts
  replace HK:Hid (Ob _ kb R.1 (.slice none 0 0)):=hid (by rw [hrp];exact HK.out)
  replace HX:Hid (Cx _ c R.2):=hid (by rw [hrp];exact HX.out)
  have hcn:∀ W',Cs W' (.slice none 0 0) R.1.cuts:=fun W'=>by rw [hRc];exact Cs.nil W'
  have HFI:Hid R.1.fine:=hid ⟨by have:=HSH.out.2.1;have:=HLN.out;omega,by have:=HSH.out.2.2.1;have:=HLN.out;omega⟩
  clear hrp hRc HI
  refine xd27 _ c kb R.1 _ R.2 HX.out HK.out (hcn _) HFI.out (fun y107 y108 y109 y110 y111 y112 y113 y114 y115 y116 y117 y118 y119 y120 y121 y122 w9 hb9=>?_)
  replace HR:=hid (HR.out.below hb9)
  replace HK:=hid (HK.out.below hb9)
  replace BB:=hid (bt BB.out hb9)
  clear hb9
  rw [show ((R.1,R.2):Opn × St)=R from rfl]
  have hdr:=HDR.out
  cases hd:decB R
  ·rw [hd] at hdr
   have HDD:=hid hdr
   clear hd hdr
   go_wp2_with (first | (refine qav rfl rfl ?_) | (refine qaj (o:=Opn.zero) (v:=.slice none 0 0) rfl rfl rfl rfl ⟨_,_,_,rfl⟩ HR.out ?_;intro w8 hk' hf';replace HR:=hid hk';replace BB:=hid (qaa BB.out hf' hrB);clear hk' hf') | fail)
   refine bodyPost_ret (qat rfl _ _ rfl HR.out) rfl ?_
   rw [HD.out,HDD.out]
   exact ⟨_,rfl,Cs.nil _,BB.out,fun k hk=>by cases hk⟩
  ·rw [hd] at hdr
   have HDD:=hid hdr
   clear hd hdr
   go_wp2_with (first | (refine qae rfl _ rfl kb rfl _ _ HK.out ?_) | (refine qaj (o:=R.1) rfl rfl rfl rfl ⟨_,_,_,rfl⟩ HR.out ?_;intro w8 hk' hf';replace HR:=hid hk';replace BB:=hid (qaa BB.out hf' hrB);clear hk' hf') | fail)
   refine bodyPost_ret (qat rfl _ _ rfl HR.out) rfl ?_
   rw [HD.out,HDD.out]
   exact ⟨_,rfl,hcn _,BB.out,fun k hk=>by cases hk⟩
 by_cases hk4:kk=4
 case neg =>
  have HK:=HKP
  have HX:=HXP
  have hrp:=HRP.out
  rw [HKK.out,show told kk=[] from by unfold told;simp only [if_neg hk1,if_neg hk2,if_neg hk3,if_neg hk4,if_neg hk5,if_neg hk6]] at hrp
  have HI:Hid (Inv R [] kk P.1 P.2):=hid ⟨hrp,HKK.out,HP0.out⟩
  clear HKP HXP hrp HRP
  refine xd5 _ kb _ _ false false HK.out (by rw [HI.out.kind];simpa using hk2) (by rw [HI.out.kind];simpa using hk6) (fun y22 y23 y24 y25 y26 y27 y28=>?_)
  go_upto_region 7 with fail
  refine xd7 _ kb _ _ false false HK.out (by rw [HI.out.kind];simpa using hk3) (by rw [HI.out.kind];simpa using hk5) (fun y33 y34 y35 y36 y37 y38 y39=>?_)
  go_upto_region 11 with fail
  refine xd11 _ kb _ _ false false false HK.out (by rw [HI.out.kind];simpa using hk1) (by rw [HI.out.kind];simpa using hk2) (by rw [HI.out.kind];simpa using hk5) (fun y50 y51 y52 y53 y54 y55 y56 y57 y58 y59 y60 y61=>?_)
  go_upto_region 14 with fail
  refine xd14 _ kb _ _ false HK.out (by rw [HI.out.kind];simpa using hk3) (fun y69 y70=>?_)
  go_upto_region 16 with fail
  refine xd16 _ kb _ _ false HK.out (by rw [HI.out.kind];simpa using hk4) (fun y75 y76=>?_)
  go_upto_region 25 with fail
  refine xd25 _ kb _ _ false HK.out (by rw [HI.out.kind];simpa using hk6) (fun y100 y101=>?_)
  go_upto_region 27 with fail
  have hrp:=HI.out.rel
  unfold Rel at hrp
  rw [List.foldl_nil] at hrp
  have hRc:R.1.cuts=[]:=by rw [hrp];exact HI.out.cuts
  replace HK:Hid (Ob _ kb R.1 (.slice none 0 0)):=hid (by rw [hrp];exact HK.out)
  replace HX:Hid (Cx _ c R.2):=hid (by rw [hrp];exact HX.out)
  have hcn:∀ W',Cs W' (.slice none 0 0) R.1.cuts:=fun W'=>by rw [hRc];exact Cs.nil W'
  have HFI:Hid R.1.fine:=hid ⟨by have:=HSH.out.2.1;have:=HLN.out;omega,by have:=HSH.out.2.2.1;have:=HLN.out;omega⟩
  clear hrp hRc HI
  refine xd27 _ c kb R.1 _ R.2 HX.out HK.out (hcn _) HFI.out (fun y107 y108 y109 y110 y111 y112 y113 y114 y115 y116 y117 y118 y119 y120 y121 y122 w9 hb9=>?_)
  replace HR:=hid (HR.out.below hb9)
  replace HK:=hid (HK.out.below hb9)
  replace BB:=hid (bt BB.out hb9)
  clear hb9
  rw [show ((R.1,R.2):Opn × St)=R from rfl]
  have hdr:=HDR.out
  cases hd:decB R
  ·rw [hd] at hdr
   have HDD:=hid hdr
   clear hd hdr
   go_wp2_with (first | (refine qav rfl rfl ?_) | (refine qaj (o:=Opn.zero) (v:=.slice none 0 0) rfl rfl rfl rfl ⟨_,_,_,rfl⟩ HR.out ?_;intro w8 hk' hf';replace HR:=hid hk';replace BB:=hid (qaa BB.out hf' hrB);clear hk' hf') | fail)
   refine bodyPost_ret (qat rfl _ _ rfl HR.out) rfl ?_
   rw [HD.out,HDD.out]
   exact ⟨_,rfl,Cs.nil _,BB.out,fun k hk=>by cases hk⟩
  ·rw [hd] at hdr
   have HDD:=hid hdr
   clear hd hdr
   go_wp2_with (first | (refine qae rfl _ rfl kb rfl _ _ HK.out ?_) | (refine qaj (o:=R.1) rfl rfl rfl rfl ⟨_,_,_,rfl⟩ HR.out ?_;intro w8 hk' hf';replace HR:=hid hk';replace BB:=hid (qaa BB.out hf' hrB);clear hk' hf') | fail)
   refine bodyPost_ret (qat rfl _ _ rfl HR.out) rfl ?_
   rw [HD.out,HDD.out]
   exact ⟨_,rfl,hcn _,BB.out,fun k hk=>by cases hk⟩
 have HK:=HKP
 have HX:=HXP
 have hrp:=HRP.out
 rw [HKK.out,hk4,show told 4=[7] from rfl] at hrp
 have HKD:Hid (P.1.k=4):=hid (HKK.out.trans hk4)
 clear HKP HXP HRP
 refine xd5 _ kb _ _ false false HK.out (by rw [HKD.out];rfl) (by rw [HKD.out];rfl) (fun y22 y23 y24 y25 y26 y27 y28=>?_)
 go_upto_region 7 with fail
 refine xd7 _ kb _ _ false false HK.out (by rw [HKD.out];rfl) (by rw [HKD.out];rfl) (fun y33 y34 y35 y36 y37 y38 y39=>?_)
 go_upto_region 11 with fail
 refine xd11 _ kb _ _ false false false HK.out (by rw [HKD.out];rfl) (by rw [HKD.out];rfl) (by rw [HKD.out];rfl) (fun y50 y51 y52 y53 y54 y55 y56 y57 y58 y59 y60 y61=>?_)
 go_upto_region 14 with fail
 refine xd14 _ kb _ _ false HK.out (by rw [HKD.out];rfl) (fun y69 y70=>?_)
 go_upto_region 16 with fail
 refine xd16 _ kb _ _ true HK.out (by rw [HKD.out];rfl) (fun y75 y76=>?_)
 have hnv:=qfe (m:=16) HX.out.2.1.1
 obtain ⟨n,hnn⟩:=Int.eq_ofNat_of_zero_le hnv.1
 have hn16:n≤16:=by have:=hnv.2.2 (by decide);omega
 have NN:=hid (fun W=>qfs c P.2 16 W)
 have hR1:R=({ P.1 with cuts:=(rcuts Bnd.ref n (rn 16 P.2).2).1 },(rcuts Bnd.ref n (rn 16 P.2).2).2):=by
  rw [hrp]
  simp only [List.foldl_cons,List.foldl_nil,rdF,hnn,Int.toNat_natCast]
 rw [hnn] at NN
 obtain ⟨s1,hs1⟩:∃ s1,(rn 16 P.2).2=s1:=⟨_,rfl⟩
 rw [hs1] at NN hR1
 have HR1:=hid hR1
 have HV1:Hid (Vl s1):=hid (by rw [←hs1];exact qln HX.out.2.1)
 clear hnv hnn hrp hR1 hs1
 go_upto_region 18 with (first | (go_at_call 64;refine (NN.out _ HX.out).mono ?_;rintro e w7 ⟨rfl,hx,hg⟩;have hf:=Fr.grown hg;replace HR:=hid (HR.out.fr hf hrc);replace HK:=hid (HK.out.fr hf hkc);replace HX:=hid hx;replace BB:=hid (qaa BB.out hf hcB);clear hx hf hg) | fail)
 go_wp2
 go_loopw [7] (fun i wr=>∃ (j:Nat) (v':Value),j≤n∧i=.int .i64 j∧Ob wr kb { P.1 with cuts:=(rcuts Bnd.ref j s1).1 } v'∧Cx wr c (rcuts Bnd.ref j s1).2∧Ob wr r Opn.zero (.slice none 0 0)∧Below w.heap.size w wr∧wr.ownsRow w.heap.size 111 4 v' j ((rcuts Bnd.ref j s1).1.flatMap cutc)∧Clean wr v') (fun i _=>n - (intOf i).toNat)
 case atStart =>
  refine ⟨0,.slice none 0 0,Nat.zero_le _,rfl,?_,HX.out,HR.out,BB.out,⟨rfl,.inl ⟨rfl,rfl⟩⟩,Clean.nil _⟩
  have e0:({ P.1 with cuts:=(rcuts Bnd.ref 0 s1).1 }:Opn)=P.1:=by
   have:=HP0.out
   cases hP1:P.1
   rw [hP1] at this
   simp only at this
   rw [this]
   rfl
  rw [e0]
  exact HK.out
 case round =>
  obtain ⟨j,v',hj,rfl,hk,hx,hr,hb,hown,hcl⟩:=hrel
  have HK:=hid hk
  have HX:=hid hx
  have HR:=hid hr
  have BB:=hid hb
  have HOW:=hid hown
  have HCL:=hid hcl
  clear hk hx hr hb hown hcl
  by_cases hlt:j<n
  ·have b1':(j:Int)<(n:Int):=by omega
   obtain ⟨va,vc,hvf,_,_⟩:=(Sl.of_own HOW.out).form
   subst hvf
   obtain ⟨o1,ho1⟩:∃ q,({ P.1 with cuts:=(rcuts Bnd.ref j s1).1 }:Opn)=q:=⟨_,rfl⟩
   obtain ⟨s2,hs2⟩:∃ q,(rcuts Bnd.ref j s1).2=q:=⟨_,rfl⟩
   obtain ⟨l1,hl1⟩:∃ q,(rcuts Bnd.ref j s1).1=q:=⟨_,rfl⟩
   have HLL:Hid (l1.length=j):=hid (by rw [←hl1];exact (qes Bnd.ref j (s:=s1) HV1.out).2)
   rw [ho1] at HK
   rw [hs2] at HX
   rw [hl1] at HOW
   have HO1:=hid ho1
   have HS2:=hid hs2
   have HL1:=hid hl1
   clear ho1 hs2 hl1
   have HNC2:Hid (∀ k,(Value.slice va j vc).ownBlock=some k→¬ k=c):=hid (fun k hk e=>by
    obtain ⟨⟨u,hu,_⟩,_⟩:=HX.out
    exact qbh HOW.out hu (by decide) (by rw [←e];exact hk))
   have HNC:Hid (∀ k,(Value.slice va j vc).ownBlock=some k→¬ k=c):=hid (fun k hk e=>by
    obtain ⟨⟨u,hu,_⟩,_⟩:=HX.out
    exact qbh HOW.out hu (by decide) (by rw [←e];exact hk))
   go_upto_region 21 with fail
   go_upto_region 22 with (first | (go_at_call 121;refine (gname c _ _ HX.out).mono ?_;rintro e w7 ⟨qa,qb,qs,rfl,hx,hf,hq⟩;replace HCL:=hid (HCL.out.kept (fun k hk=>hf.block k (HOW.out.lt k hk).2 (HNC.out k hk)));replace HOW:=hid (qaz HOW.out hf HNC.out);replace HR:=hid (HR.out.fr hf hrc);replace HK:=hid (HK.out.fr hf hkc);replace HX:=hid hx;replace BB:=hid (qaa BB.out hf hcB);have HQ:=hid hq;clear hx hf hq) | fail)
   have HB8:Hid (Cb (w7.alloc (.cells #[.int .i64 qa,.int .i64 qb,.int .i64 0,.int .i64 0] 111)) w7.heap.size qa qb 0 0):=hid (heap_alloc_new w7 _)
   have HA8:=ba w7 (.cells #[.int .i64 qa,.int .i64 qb,.int .i64 0,.int .i64 0] 111)
   have hf8:Fr (fun _=>False) w7 (w7.alloc (.cells #[.int .i64 qa,.int .i64 qb,.int .i64 0,.int .i64 0] 111)):=Fr.of_below HA8
   have HNX:Hid (∀ k,(Value.slice va j vc).ownBlock=some k→¬ k=w7.heap.size):=hid (fun k hk e=>by have:=(HOW.out.lt k hk).2;omega)
   have hxc:¬ w7.heap.size=c:=by have:=HX.out.lt;omega
   have hxk:¬ w7.heap.size=kb:=by have:=HK.out.lt;omega
   have hxr:¬ w7.heap.size=r:=by have:=HR.out.lt;omega
   have hxB:w.heap.size≤w7.heap.size:=BB.out.size
   replace HCL:=hid (HCL.out.kept (fun k hk=>hf8.block k (HOW.out.lt k hk).2 (fun h=>h)))
   replace HOW:=hid (qaz HOW.out hf8 (fun _ _ h=>h))
   replace HR:=hid (HR.out.below HA8)
   replace HK:=hid (HK.out.below HA8)
   replace HX:=hid (HX.out.below HA8)
   replace BB:=hid (bt BB.out HA8)
   obtain ⟨W8,hW8⟩:∃ W8,w7.alloc (.cells #[.int .i64 qa,.int .i64 qb,.int .i64 0,.int .i64 0] 111)=W8:=⟨_,rfl⟩
   obtain ⟨xb,hxb⟩:∃ xb,w7.heap.size=xb:=⟨_,rfl⟩
   rw [hW8] at HB8 HOW HCL HR HK HX BB ⊢
   rw [hxb] at HB8 HNX hxc hxk hxr hxB ⊢
   have hcx:¬ c=xb:=fun e=>hxc e.symm
   have hkx:¬ kb=xb:=fun e=>hxk e.symm
   have hrx:¬ r=xb:=fun e=>hxr e.symm
   clear hf8 HA8 hW8 hxb hxc hxk hxr
   go_upto_region 23 with (first | (go_at_call 64;refine (gnum c _ _ _ HX.out).mono ?_;rintro e w9 ⟨qf,qt,rfl,hx,hf,hq⟩;replace HCL:=hid (HCL.out.kept (fun k hk=>hf.block k (HOW.out.lt k hk).2 (HNC.out k hk)));replace HOW:=hid (qaz HOW.out hf HNC.out);replace HR:=hid (HR.out.fr hf hrc);replace HK:=hid (HK.out.fr hf hkc);replace HB8:=hid (HB8.out.fr hf (fun e=>hcx e.symm));replace HX:=hid hx;replace BB:=hid (qaa BB.out hf hcB);have HQ2:=hid hq;clear hx hf hq) | (refine qoj rfl rfl rfl HB8.out rfl ?_;intro w10 hb' hf';replace HCL:=hid (HCL.out.kept (fun k hk=>hf'.block k (HOW.out.lt k hk).2 (HNX.out k hk)));replace HOW:=hid (qaz HOW.out hf' HNX.out);replace HR:=hid (HR.out.fr hf' hrx);replace HK:=hid (HK.out.fr hf' hkx);replace HX:=hid (HX.out.fr hf' hcx HB8.out.no_byte);replace BB:=hid (qaa BB.out hf' hxB);replace HB8:=hid hb';clear hb' hf') | fail)
   go_upto_region 24 with (first | (go_at_call 64;refine (gnum c _ _ _ HX.out).mono ?_;rintro e w11 ⟨qg,qu,rfl,hx,hf,hq⟩;replace HCL:=hid (HCL.out.kept (fun k hk=>hf.block k (HOW.out.lt k hk).2 (HNC.out k hk)));replace HOW:=hid (qaz HOW.out hf HNC.out);replace HR:=hid (HR.out.fr hf hrc);replace HK:=hid (HK.out.fr hf hkc);replace HB8:=hid (HB8.out.fr hf (fun e=>hcx e.symm));replace HX:=hid hx;replace BB:=hid (qaa BB.out hf hcB);have HQ3:=hid hq;clear hx hf hq) | (refine qoi rfl rfl rfl HB8.out rfl ?_;intro w12 hb' hf';replace HCL:=hid (HCL.out.kept (fun k hk=>hf'.block k (HOW.out.lt k hk).2 (HNX.out k hk)));replace HOW:=hid (qaz HOW.out hf' HNX.out);replace HR:=hid (HR.out.fr hf' hrx);replace HK:=hid (HK.out.fr hf' hkx);replace HX:=hid (HX.out.fr hf' hcx HB8.out.no_byte);replace BB:=hid (qaa BB.out hf' hxB);replace HB8:=hid hb';clear hb' hf') | fail)
   have H1C:Hid (∀ z ∈ cutc ⟨qa,qb,qf,qg⟩,z.oneCell'=true):=hid (fun z hz=>by
    simp at hz
    rcases hz with rfl | rfl | rfl | rfl<;>rfl)
   have HLB:Hid ((j+1)*32≤140737488355328∧j+1≤maxLen):=hid (by unfold maxLen;omega)
   have HNK:Hid (∀ k,(Value.slice va j vc).ownBlock=some k→¬ k=kb):=hid (fun k hk e=>qbh HOW.out HK.out (by decide) (by rw [←e];exact hk))
   have HNRR:Hid (∀ k,(Value.slice va j vc).ownBlock=some k→¬ k=r):=hid (fun k hk e=>qbh HOW.out HR.out (by decide) (by rw [←e];exact hk))
   have HZN:Hid (∀ z ∈ (Value.agg #[.int .i64 0,.int .i64 0,.int .i64 0,.int .i64 0]).cells.toList,NoB z):=hid (fun z hz x e=>by subst e;simp [Value.cells] at hz)
   have HNN:Hid (∀ z ∈ cutc ⟨qa,qb,qf,qg⟩,NoB z):=hid (fun z hz x e=>by subst e;simp at hz)
   have HOBK:Hid (∀ k,(Value.slice va j vc).ownBlock=some k→w.heap.size≤k):=hid (fun k hk=>(HOW.out.lt k hk).1)
   have HTT:Hid ((74:Nat)≠111):=hid (by decide)
   clear HNC HNX
   go_wp2_with (first | (refine qbv rfl rfl HK.out rfl ?_) | (refine qlc rfl rfl HB8.out rfl ?_) | (refine qoh rfl rfl rfl ?_;intro w13 u13 hsl hb;replace HCL:=hid (HCL.out.kept (fun k hk=>hb.block k (HOW.out.lt k hk).2));replace HOW:=hid (qaz HOW.out (Fr.of_below hb:Fr (fun _=>False) _ _) (fun _ _ h=>h));replace HR:=hid (HR.out.below hb);replace HK:=hid (HK.out.below hb);replace HX:=hid (HX.out.below hb);replace BB:=hid (bt BB.out hb);have HSL:=hid hsl;clear hsl hb) | (at_builtin;refine qex 72 111 4 32 _ Tryz.underlying72 qik rfl (by decide) rfl _ _ rfl w.heap.size _ _ _ rfl HOW.out _ _ _ rfl HSL.out H1C.out (by decide) HLB.out.1 HLB.out.2 BB.out.size HCL.out HZN.out HNN.out ?_;intro v14 w14 hown14 hg14 hat14 hcl14;have hf14:Fr (fun k=>(Value.slice va j vc).ownBlock=some k) _ w14:=Fr.of_grown hg14 (fun k e=>e);replace HR:=hid (HR.out.fr hf14 (fun h=>HNRR.out _ h rfl));replace HK:=hid (HK.out.fr hf14 (fun h=>HNK.out _ h rfl));replace HX:=hid (HX.out.fr hf14 (fun h=>HNC2.out _ h rfl) (fun k hk=>HCL.out k hk));replace BB:=hid (Below.grown BB.out hg14 BB.out.size HOBK.out);replace HOW:=hid hown14;replace HCL:=hid hcl14;obtain ⟨va2,vc2,hv14,_,_⟩:=(Sl.of_own hown14).form;subst hv14;clear hown14 hg14 hat14 hcl14 hf14) | (refine qiq (l1++[⟨qa,qb,qf,qg⟩]) rfl rfl rfl HK.out rfl ?_;intro w15 hk' hf';replace HR:=hid (HR.out.fr hf' hrk);replace HX:=hid (HX.out.op hf' hck HK.out);have HNK2:Hid (∀ k,(Value.slice va2 (j+1) vc2).ownBlock=some k→¬ k=kb):=hid (fun k hk e=>qbh HOW.out HK.out HTT.out (e▸hk));replace HCL:=hid (HCL.out.kept (fun k hk=>hf'.block k (HOW.out.lt k hk).2 (HNK2.out k hk)));replace HOW:=hid (qaz HOW.out hf' HNK2.out);replace BB:=hid (qaa BB.out hf' hkB);replace HK:=hid hk';clear hk' hf') | fail)
   have hst:=qrw Bnd.ref j s1
   have hcut:rcut Bnd.ref s2=(⟨qa,qb,qf,qg⟩,qu):=by
    obtain ⟨e1,e2,e3⟩:=HQ.out
    obtain ⟨e4,e5⟩:=HQ2.out
    obtain ⟨e6,e7⟩:=HQ3.out
    subst e3
    subst e5
    subst e1
    subst e2
    subst e4
    subst e6
    subst e7
    rfl
   rw [HL1.out,HS2.out,hcut] at hst
   have HST:=hid hst
   clear hst hcut
   go_roundw
   case rel =>
    refine ⟨j+1,_,by omega,by go_num,?_,?_,HR.out,BB.out,?_,HCL.out⟩
    ·rw [HST.out.1]
     have h:=HK.out
     rw [←HO1.out] at h
     exact h
    ·rw [HST.out.2];exact HX.out
    ·rw [HST.out.1,List.flatMap_append]
     have h:=HOW.out
     simpa using h
   case measure=>simp [intOf];omega
  ·have b1':¬ (j:Int)<(n:Int):=by omega
   obtain rfl:j=n:=by omega
   obtain ⟨va,vc,hvf,_,_⟩:=(Sl.of_own HOW.out).form
   subst hvf
   have hKD:({ P.1 with cuts:=(rcuts Bnd.ref j s1).1 }:Opn).k=4:=HKD.out
   have hR1:=HR1.out
   replace HK:Hid (Ob wr kb R.1 (.slice va j vc)):=hid (by rw [hR1];exact HK.out)
   replace HX:Hid (Cx wr c R.2):=hid (by rw [hR1];exact HX.out)
   have hlen:(rcuts Bnd.ref j s1).1.length=j:=(qes Bnd.ref j (s:=s1) HV1.out).2
   have HCS:Hid (Cs wr (.slice va j vc) R.1.cuts):=hid (by
    rw [hR1]
    unfold Cs
    dsimp only
    rw [hlen]
    exact Sl.of_own HOW.out)
   have HKR:Hid (R.1.k=4):=hid (by rw [hR1];exact hKD)
   have HNR:Hid (∀ k,(Value.slice va j vc).ownBlock=some k→¬ k=r):=hid (fun k hk e=>qbh HOW.out HR.out (by decide) (by rw [←e];exact hk))
   have HNB:Hid (∀ k,(Value.slice va j vc).ownBlock=some k→w.heap.size≤k):=hid (fun k hk=>(HOW.out.lt k hk).1)
   have HFI:Hid R.1.fine:=hid ⟨by have:=HSH.out.2.1;have:=HLN.out;omega,by have:=HSH.out.2.2.1;have:=HLN.out;omega⟩
   clear hKD hR1 hlen
   go_upto_region 25 with fail
   refine xd25 _ kb _ _ false HK.out (by rw [HKR.out];rfl) (fun y100 y101=>?_)
   go_upto_region 27 with fail
   refine xd27 _ c kb R.1 _ R.2 HX.out HK.out HCS.out HFI.out (fun y107 y108 y109 y110 y111 y112 y113 y114 y115 y116 y117 y118 y119 y120 y121 y122 w9 hb9=>?_)
   replace HR:=hid (HR.out.below hb9)
   replace HK:=hid (HK.out.below hb9)
   replace BB:=hid (bt BB.out hb9)
   replace HCS:=hid (HCS.out.below hb9)
   clear hb9
   rw [show ((R.1,R.2):Opn × St)=R from rfl]
   have hdr:=HDR.out
   cases hd:decB R
   ·rw [hd] at hdr
    have HDD:=hid hdr
    clear hd hdr
    go_wp2_with (first | (refine qav rfl rfl ?_) | (refine qaj (o:=Opn.zero) (v:=.slice none 0 0) rfl rfl rfl rfl ⟨_,_,_,rfl⟩ HR.out ?_;intro w8 hk' hf';replace HR:=hid hk';replace BB:=hid (qaa BB.out hf' hrB);clear hk' hf') | fail)
    refine bodyPost_ret (qat rfl _ _ rfl HR.out) rfl ?_
    rw [HD.out,HDD.out]
    exact ⟨_,rfl,Cs.nil _,BB.out,fun k hk=>by cases hk⟩
   ·rw [hd] at hdr
    have HDD:=hid hdr
    clear hd hdr
    go_wp2_with (first | (refine qae rfl _ rfl kb rfl _ _ HK.out ?_) | (refine qaj (o:=R.1) rfl rfl rfl rfl ⟨_,_,_,rfl⟩ HR.out ?_;intro w8 hk' hf';replace HR:=hid hk';replace BB:=hid (qaa BB.out hf' hrB);replace HCS:=hid (HCS.out.fr hf' (fun _=>HNR.out));clear hk' hf') | fail)
    refine bodyPost_ret (qat rfl _ _ rfl HR.out) rfl ?_
    rw [HD.out,HDD.out]
    exact ⟨_,rfl,HCS.out,BB.out,HNB.out⟩
end Go.Proofs.YtkcjkncpaopjbaaGreatDoor
