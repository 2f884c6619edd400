/-
  Parts of the proof, one behind the other; what each proves stands at its head.
-/
import Derived.Test.YtkcjkncpaopjbaaGreatDoorPart35
import Derived.Test.YtkcjkncpaopjbaaGreatDoorPart23
import Derived.Test.YtkcjkncpaopjbaaGreatDoorPart30
import Derived.Test.YtkcjkncpaopjbaaGreatDoorPart10

namespace Go.Proofs.YtkcjkncpaopjbaaGreatDoor
open Go.RowKit
set_option linter.unusedVariables false
set_option maxRecDepth 100000
def Fb (fb:Nat) (fv:Value) (k:Nat):Prop:=k=fb∨fv.ownBlock=some k
def OX (B fb R:Nat) (fv:Value) (xs:List Int) (n:Nat) (w:World) (e:Ending) (w':World):Prop :=
 (Tl xs none∧e=.returned (.tuple #[.pointer none,.slice none 0 0,.int .i64 20])∧Fi B w' fb fv xs n R∧Lx (Fb fb fv) (Fb fb fv) w w') ∨
 ∃ r Fs lb vo ve fv' l v l',Tl xs (some (r,Fs))∧e=.returned (.tuple #[.pointer (some ⟨lb,0,none⟩),v,.int .i64 0])∧Lo B w' lb fb fv' vo ve r Fs (min n (10+szF Fs)) R l ∧
  Oq (Ft lb fb fv' vo ve) w' v l'∧fsts l'=Fs.flatten∧Nn w.heap.size v l'∧Lx (Fb fb fv) (Ft lb fb fv' vo ve) w w'
def OX2 (B fb R:Nat) (fv:Value) (xs:List Int) (n:Nat) (w:World) (e:Ending) (w':World):Prop :=
 (Tl xs none∧e=.returned (.tuple #[.pointer none,.slice none 0 0,.int .i64 20])∧Fi B w' fb fv xs n R∧Lx (Fb fb fv) (Fb fb fv) w w') ∨
 ∃ r Fs lb vo ve fv' l v l',Tl xs (some (r,Fs))∧e=.returned (.tuple #[.pointer (some ⟨lb,0,none⟩),v,.int .i64 0])∧Lo B w' lb fb fv' vo ve r Fs (min n (10+szF Fs)) R l ∧
  Oq (Ft lb fb fv' vo ve) w' v l'∧fsts l'=Fs.flatten∧Nn w.heap.size v l'∧Lx (Fb fb fv) (Ft lb fb fv' vo ve) w w'∧Nw w.heap.size l
theorem OX2.no {B fb R:Nat}{fv:Value}{xs:List Int}{n:Nat}{w w':World}(h:Tl xs none) (hf:Fi B w fb fv xs n R) (hb:Below w.heap.size w w'):OX2 B fb R fv xs n w (.returned (.tuple #[.pointer none,.slice none 0 0,.int .i64 20])) w' :=
 .inl ⟨h,rfl,hf.below hb,Lx.of_below hb⟩
theorem OX2.no2 {B fb R:Nat}{fv:Value}{xs:List Int}{n:Nat}{w w':World}{S':Nat→Prop}(h:Tl xs none) (hf:Fi B w' fb fv xs n R) (x:Lx (Fb fb fv) S' w w'):OX2 B fb R fv xs n w (.returned (.tuple #[.pointer none,.slice none 0 0,.int .i64 20])) w' :=
 .inl ⟨h,rfl,hf,x.fr,fun k hk=>.inl hk⟩
theorem OX2.old {B fb R:Nat}{fv:Value}{xs:List Int}{n:Nat}{w w':World}{e:Ending}(h:OX2 B fb R fv xs n w e w'):OX B fb R fv xs n w e w':=by
 rcases h with h | ⟨r,Fs,lb,vo,ve,fv',l,v,l',h1,h2,h3,h4,h5,h6,h7,_⟩
 ·exact .inl h
 ·exact .inr ⟨r,Fs,lb,vo,ve,fv',l,v,l',h1,h2,h3,h4,h5,h6,h7⟩
theorem jbc {B C:Nat}{w w':World}{lb fb:Nat}{fv vo ve:Value}{xs:List Int}{n R:Nat}{r:Int}{l:List (Opn × Value)}{es:List (Nat × Nat)}{S':Nat→Prop}{v:Value}{ys:List Int}
  (h:Lg B w lb fb fv vo ve xs n R r l es) (hv:Ow C w v ys) (hB:B≤C) (hf:∀ k,v.ownBlock=some k→fv.ownBlock≠some k) (x:Lx (Ft lb fb fv vo ve) S' w w'):Ow C w' v ys:=by
 have hv':=hv.mono hB
 refine qaz hv x.fr (fun k hk e=>?_)
 rcases e with rfl | rfl | e | e | e
 ·exact qbh hv h.blk (by decide) hk
 ·exact qbh hv h.fi.1 (by decide) hk
 ·exact hf k hk e
 ·exact qcw hv' h.ro (by decide) hk e
 ·exact qcw hv' h.re (by decide) hk e
theorem qww (ys:List Int):C.wh ys=0∨C.wh ys=1∨C.wh ys=2:=by
 unfold C.wh
 split
 ·exact .inr (.inl rfl)
 ·split
  ·exact .inr (.inr rfl)
  ·split
   ·exact .inr (.inl rfl)
   ·split
    ·exact .inl rfl
    ·exact .inr (.inr rfl)
set_option maxHeartbeats 8000000 in
theorem qqp {B:Nat}{w:World}{fb:Nat}{fv:Value}{xs:List Int}{n R:Nat}(h:Fi B w fb fv xs n R) (hL:Lay w) (hB:B≤w.heap.size) (hB2:2≤B) :
  Calls Tryz.prog 23 #[.pointer (some ⟨fb,0,none⟩)] w fun e w'=>OX2 B fb R fv xs n w e w':=by
 have HF:=hid h
 have HL:=hid hL
 have HBY:=hid h.byt
 have hN:xs.length≤1048576:=by have:=h.nums;omega
 clear h hL
 go_enter Tryz.func23,Tryz.ntmps23
 go_wp2_with fail
 refine (qnu HF.out).mono ?_
 rintro e w1 ⟨v1,rfl,ho1,b1⟩
 obtain ⟨a1,c1,rfl,_⟩:=ho1.form
 have O1:=hid ho1
 have B1:=hid b1
 clear ho1 b1
 obtain ⟨N,hNN⟩:∃ N,xs.length=N:=⟨_,rfl⟩
 have HNN:=hid hNN
 rw [hNN] at hN O1 ⊢
 clear hNN
 go_wp2_with fail
 refine (qqs _ xs 0 w1 (O1.out.bs HBY.out) (Nat.zero_le _) (by rw [HNN.out];omega)).mono ?_
 rintro e w2 ⟨v2,rfl,hv2,b2,_⟩
 have V2:=hid hv2
 have B2:=hid (bt B1.out b2)
 have O2:=hid (qau O1.out b2)
 obtain ⟨a2,c2,rfl⟩:=hv2.form
 obtain ⟨WH,hWH⟩:∃ WH,C.wh (xs.drop 0)=WH:=⟨_,rfl⟩
 have HWH:=hid hWH
 obtain ⟨P0,hP0⟩:∃ P0,nxP xs 0=P0:=⟨_,rfl⟩
 have HP0:=hid hP0
 obtain ⟨b0,hb0⟩:∃ b0,nxV xs 0=b0:=⟨_,rfl⟩
 have HBB:=hid hb0
 rw [hb0] at V2
 rw [hWH,hP0,hb0]
 clear hWH hP0 hb0 hv2 b2
 have hbl:Hid (b0.length≤140737488355328):=hid (by
  rw [←HBB.out];unfold nxV;split
  ·unfold C.bd;rw [List.length_take,List.length_drop,List.length_drop];have:=HNN.out;omega
  ·exact Nat.zero_le _)
 go_wp2_with fail
 refine (qls _ b0 w2 V2.out hbl.out).mono ?_
 rintro e w3 ⟨rfl,b3⟩
 have B3:=hid (bt B2.out b3)
 have O3:=hid (qau O2.out b3)
 clear b3
 obtain ⟨r,hr⟩:∃ r,rfV b0=r:=⟨_,rfl⟩
 have HR:=hid hr
 rw [hr]
 clear hr
 cases hok:rfO b0 with
 | false =>
  have HT:Hid (Tl xs none):=hid (by
   by_cases hw:C.wh xs=0
   ·refine .inr (.inl ?_)
    have e:=HBB.out
    rw [nxV,List.drop_zero,if_pos hw] at e
    rw [e,hok]
   ·exact .inl hw)
  go_wp2
  go_ret3
  exact OX2.no HT.out HF.out B3.out
 | true =>
  have hw:C.wh xs=0:=by
   by_cases hw:C.wh xs=0
   ·exact hw
   ·have e:=HBB.out
    rw [nxV,List.drop_zero,if_neg hw] at e
    rw [←e] at hok
    exact absurd hok (by rw [jay];decide)
  have hbd:C.bd xs=b0:=by have e:=HBB.out;rwa [nxV,List.drop_zero,if_pos hw] at e
  have hf:=qrc HBY.out hw (by rw [hbd];exact hok)
  rw [hbd,HR.out] at hf
  obtain ⟨hr0,hr1,h10,hxs⟩:=hf
  have hp:P0=10:=by have e:=HP0.out;rw [nxP,List.drop_zero,if_pos hw] at e;omega
  subst hp
  have HTL:Hid (∀ Fs t,Og (xs.drop 10) Fs t→Tl xs (if t then some (r,Fs) else none)):=hid (fun Fs t ho=>by
   cases t with
   | true=>exact ⟨hw,by rw [hbd];exact hok,by rw [hbd];exact HR.out.symm,by rw [h10];exact ho⟩
   | false=>exact .inr (.inr ⟨Fs,by rw [h10];exact ho⟩))
  have HR0:=hid hr0
  have HR1:=hid hr1
  have HXS:=hid hxs
  have h10n:Hid (10≤N):=hid (by have:=qpy hw;have:=HNN.out;omega)
  clear hw hbd hr0 hr1 h10 hxs V2 hbl HBB HP0 HWH hok
  have HLG:Hid (Lg B (w3.alloc (.cells #[.pointer (some ⟨fb,0,none⟩),.int .i64 r,.slice none 0 0,.slice none 0 0] 81 (0,0))) w3.heap.size fb fv (.slice none 0 0) (.slice none 0 0) xs n R r [] []) :=
   hid (Lg.fresh (HF.out.below B3.out) (Nat.le_trans hB B3.out.size) r)
  have HA4:=hid (ba w3 (.cells #[.pointer (some ⟨fb,0,none⟩),.int .i64 r,.slice none 0 0,.slice none 0 0] 81 (0,0)))
  obtain ⟨w4,hw4⟩:∃ w4,w3.alloc (.cells #[.pointer (some ⟨fb,0,none⟩),.int .i64 r,.slice none 0 0,.slice none 0 0] 81 (0,0))=w4:=⟨_,rfl⟩
  obtain ⟨lb,hlb⟩:∃ lb,w3.heap.size=lb:=⟨_,rfl⟩
  have HLB:=hid hlb
  have HW4:=hid hw4
  rw [hw4,hlb] at HLG
  rw [hw4] at HA4
  have B4:=hid (bt B3.out HA4.out)
  have O4:=hid (qau O3.out HA4.out)
  have HFV:Hid (∀ k,Value.ownBlock (.slice a1 N c1)=some k→fv.ownBlock≠some k):=hid (fun k hk e=>by
   have h1:=(O4.out.lt k hk).1
   have h2:=(HF.out.own.lt k e).2
   omega)
  have HX4:Hid (Lx (Fb fb fv) (Ft lb fb fv (.slice none 0 0) (.slice none 0 0)) w w4):=hid ⟨Fr.of_below B4.out,fun k hk=>by
   rcases hk with rfl | rfl | hk | hk | hk
   ·exact .inr (by rw [←HLB.out];exact B3.out.size)
   ·exact .inl (.inl rfl)
   ·exact .inl (.inr hk)
   ·cases hk
   ·cases hk⟩
  clear hlb hw4
  go_wp2
  rw [HW4.out,HLB.out]
  go_loopw [7] (fun i wr=>∃ (p:Nat) (Fs:List (List Opn)) (vo ve:Value) (l:List (Opn × Value)),i=.int .i64 p∧p≤N∧p=10+szF Fs∧Good Fs∧xs=lby r Fs++xs.drop p∧Lg B wr lb fb fv vo ve xs n R r l (endsF Fs)∧fsts l=Fs.flatten ∧
    Lx (Fb fb fv) (Ft lb fb fv vo ve) w wr∧Ow w.heap.size wr (.slice a1 N c1) xs∧(∀ gs t,Og (xs.drop p) gs t→Og (xs.drop 10) (Fs++gs) t)∧Nw w.heap.size l) (fun i _=>N - (intOf i).toNat)
  case atStart=>exact ⟨10,[],_,_,[],rfl,h10n.out,rfl,Good.nil,HXS.out,HLG.out,rfl,HX4.out,O4.out,fun gs t h=>h,Nw.nil _⟩
  case round =>
   obtain ⟨p,Fs,vo,ve,l,rfl,hpN,hp,hgood,hxs,hlg,hfl,hx,how,hog,hnwl⟩:=hrel
   have HNWL:=hid hnwl
   clear hnwl
   have HP:=hid hp
   have HGD:=hid hgood
   have HXS5:=hid hxs
   have HLG5:=hid hlg
   have HFL:=hid hfl
   have X5:=hid hx
   have O5:=hid how
   have HOG:=hid hog
   have HSZ:=hid (Nat.le_trans hB hx.size)
   clear hp hgood hxs hlg hfl hx how hog HLG HA4 B4 O4 HX4
   have HLY:Hid (Lay wr):=hid (HL.out.low (X5.out.fr.below (fun k hk e=>by
    rcases e with rfl | e
    ·have:=HF.out.2.1;omega
    ·have:=(HF.out.own.lt k e).1;omega) hB) hB2)
   go_wp2_with fail
   refine (qqs _ xs p wr (O5.out.bs HBY.out) (by rw [HNN.out];exact hpN) (by rw [HNN.out];omega)).mono ?_
   rintro e w6 ⟨v6,rfl,hv6,b6,_⟩
   have V6:=hid hv6
   have B6:=hid b6
   have O6:=hid (qau O5.out b6)
   have L6:=hid (HLG5.out.below b6)
   have LY6:=hid (HLY.out.low b6 (by have:=HSZ.out;omega))
   have X6:=hid (X5.out.trans (Lx.of_below b6))
   obtain ⟨a6,c6,rfl⟩:=hv6.form
   clear hv6 b6
   rcases qww (xs.drop p) with hw | hw | hw
   · -- a frame
    have e1:nxP xs p=p+8+C.wd (xs.drop p):=by rw [nxP,if_pos hw]
    have e2:nxV xs p=C.bd (xs.drop p):=by rw [nxV,if_pos hw]
    rw [e2] at V6
    rw [e1,e2,hw]
    have hw0:=qpy hw
    have HW:=hid hw
    have hyb:Byt (xs.drop p):=fun x hx=>HBY.out x (List.mem_of_mem_drop hx)
    obtain ⟨b7,hb7⟩:∃ b7,C.bd (xs.drop p)=b7:=⟨_,rfl⟩
    have hb7l:b7.length≤65536:=by rw [←hb7];omega
    have HB7:=hid hb7
    rw [hb7] at V6 ⊢
    obtain ⟨q7,hq7⟩:∃ q7,p+8+C.wd (xs.drop p)=q7:=⟨_,rfl⟩
    have hq7N:q7≤N:=by rw [List.length_drop,HNN.out] at hw0;omega
    have hpq:p<q7:=by omega
    have HQ7:=hid hq7
    rw [hq7]
    have HYB:=hid hyb
    clear e1 e2 hw hw0 hb7 hq7 hyb
    go_wp2_with fail
    refine (qhc _ b7 w6 LY6.out V6.out (by omega)).mono ?_
    rintro e w8 ⟨v8,l8,rfl,o8,f8,b8,n8⟩
    obtain ⟨⟨D1,D2⟩,hD⟩:∃ z,decA mOwn b7=z:=⟨_,rfl⟩
    rw [hD] at f8 ⊢
    dsimp only at f8 ⊢
    have HD:=hid hD
    clear hD
    have O8:=hid (qau O6.out b8)
    have L8:=hid (L6.out.below b8)
    have X8:=hid (X6.out.trans (Lx.of_below b8))
    have V8:=hid o8
    have F8:=hid f8
    have N8:=hid n8
    have B8:=hid b8
    obtain ⟨a8,c8,rfl,_,_⟩:=Sl.form o8.1
    clear o8 f8 b8 n8
    cases D2 with
    | false =>
     have HT:=hid (HTL.out _ _ (HOG.out [] false (Og.wrong HW.out (.inl (by rw [HB7.out,HD.out])))))
     go_wp2
     go_ret3
     exact OX2.no2 HT.out L8.out.fi X8.out
    | true =>
     have HDD:Hid (decA mOwn b7=(fsts l8,true)):=hid (by rw [F8.out,HD.out])
     by_cases hz:l8.length=0
     ·have hl8:l8=[]:=List.length_eq_zero_iff.1 hz
      have HT:=hid (HTL.out _ _ (HOG.out [] false (Og.wrong HW.out (.inr (by rw [HB7.out,HDD.out,hl8];rfl)))))
      rw [hz]
      clear hl8
      go_wp2
      go_ret3
      exact OX2.no2 HT.out L8.out.fi X8.out
     ·have hz1:((l8.length:Int)==0)=false:=by simpa using hz
      have hne:fsts l8≠[]:=fun e=>hz (by have:=congrArg List.length e;simpa [fsts] using this)
      obtain ⟨hg9,hx9,hl9⟩:=quy HYB.out HGD.out HW.out (by rw [HB7.out];exact HDD.out) hne
      have HG9:=hid hg9
      have hq:q7=10+szF (Fs++[fsts l8]):=by
       rw [qbw,qdd,hl9]
       have h1:=HQ7.out
       have h2:=HP.out
       omega
      have HQ:=hid hq
      have HX9:Hid (xs=lby r (Fs++[fsts l8])++xs.drop q7):=hid (by
       have h1:=HXS5.out
       rw [hx9,List.drop_drop] at h1
       have h2:p+(8+C.wd (xs.drop p))=q7:=by have:=HQ7.out;omega
       rw [h2] at h1
       exact h1)
      have HOG9:Hid (∀ gs t,Og (xs.drop q7) gs t→Og (xs.drop 10) (Fs++[fsts l8]++gs) t):=hid (fun gs t ho=>by
       rw [List.append_assoc,List.singleton_append]
       refine HOG.out _ _ (Og.more HW.out (by rw [HB7.out];exact HDD.out) hne ?_)
       rw [List.drop_drop]
       have h2:p+(8+C.wd (xs.drop p))=q7:=by have:=HQ7.out;omega
       rw [h2]
       exact ho)
      have hbl:l8.length≤65536:=by
       have h1:=qfq (fsts l8)
       have h2:=hl9
       have h3:=HQ7.out
       have h4:(fsts l8).length=l8.length:=by simp [fsts]
       have h5:=(qpy HW.out).2.2.1
       have h6:=HB7.out
       have h7:=(qpy HW.out).2.2.2.2
       omega
      have hll:l.length=Fs.flatten.length:=by rw [←HFL.out];simp [fsts]
      have hsz:=qgc Fs
      have hz2:l.length+l8.length≤10000000:=by have:=HP.out;omega
      have hz3:(endsF Fs).length≤10000000:=by rw [qcg];have:=HP.out;omega
      have HIN:Hid (∀ q ∈ endsF Fs,q.1≤p):=hid (fun q hq=>by have h1:=qgy hq;have h2:=HP.out;omega)
      have HOP:Hid (opsAt (endsF Fs) (endsF Fs).length=l.length):=hid (by rw [qjg,hll])
      have HCQ:Hid (Cq (Ft lb fb fv vo ve) w8 l8):=hid (fun q hq=>⟨V8.out.2 q hq,.inr (fun k hk e=>by
       have h1:=N8.out q hq k hk
       have h2:=(L6.out.inside e).2
       omega)⟩)
      have HB9:=hid (Nat.le_trans HSZ.out (Nat.le_trans B6.out.size B8.out.size))
      clear hg9 hx9 hl9 hq hne hll hsz
      go_wp2_with fail
      refine (qwq L8.out HB9.out V8.out HCQ.out p q7 (qcp Fs) HIN.out HOP.out hz2 hz3).mono ?_
      rintro e w9 ⟨rfl,vo9,ve9,hl9,hx9⟩
      have L9:=hid hl9
      have X9:=hid (X8.out.trans hx9)
      have O9:=hid (jbc L8.out O8.out hB HFV.out hx9)
      clear hl9 hx9
      go_wp2_with fail
      go_roundw
      case rel =>
       have hfl9:fsts (l++l8)=(Fs++[fsts l8]).flatten:=by
        have e1:=HFL.out
        unfold fsts at e1 ⊢
        rw [List.map_append,e1,List.flatten_append]
        simp
       refine ⟨q7,Fs++[fsts l8],vo9,ve9,l++l8,rfl,hq7N,HQ.out,HG9.out,HX9.out,?_,hfl9,X9.out,O9.out,HOG9.out,fun q hq=>(List.mem_append.1 hq).elim (HNWL.out q) (fun h k hk=>Nat.le_trans X6.out.size (N8.out q h k hk))⟩
       have h9:=L9.out
       have hlen:(l++l8).length=(Fs++[fsts l8]).flatten.length:=by rw [←hfl9];simp [fsts]
       rw [qem,←hlen,←HQ.out]
       exact h9
      case measure=>simp [intOf];omega
   · -- a cut
    have e1:nxP xs p=p:=by rw [nxP,if_neg (by omega)]
    have e2:nxV xs p=[]:=by rw [nxV,if_neg (by omega)]
    rw [e1,e2,hw]
    have HT:Hid (Tl xs (some (r,Fs))):=hid (by
     have:=HTL.out _ _ (HOG.out [] true (Og.cut hw))
     simpa using this)
    have hlen:=qbo HR0.out HR1.out Fs
    have htr:trimS (p:Int) xs n=(0,lby r Fs,min n (10+szF Fs)):=by
     unfold trimS
     rw [if_pos (by have:=HNN.out;omega)]
     have h1:xs.take p=lby r Fs:=by
      have h2:=HXS5.out
      have h3:(lby r Fs).length=p:=by have:=HP.out;omega
      calc xs.take p=(lby r Fs++xs.drop p).take p:=by rw [←h2]
       _=lby r Fs:=by rw [←h3,List.take_left]
     rw [Int.toNat_natCast,h1,←HP.out]
    have HTR:=hid htr
    clear e1 e2 hw hlen htr
    go_wp2_with fail
    refine (qvo L6.out.fi (p:Int)).mono ?_
    rintro e w7 ⟨he,ho⟩
    have he':=he.out HTR.out
    obtain ⟨fv',hfi,hfx⟩:=ho.out HTR.out
    subst he'
    obtain ⟨hl7,hx7⟩:=L6.out.file hfi hfx
    have HLO:Hid (Lo B w7 lb fb fv' vo ve r Fs (min n (10+szF Fs)) R l):=hid ⟨hl7,HFL.out,HGD.out,HR0.out,HR1.out,by rw [qbo HR0.out HR1.out];omega⟩
    have X7:=hid (X6.out.trans hx7)
    clear he ho hfi hfx hl7 hx7
    go_wp2_with fail
    refine (jae HLO.out).mono ?_
    rintro e w8 ⟨v8,rfl,l8,ho8,hf8,hn8,b8⟩
    have HLO8:=hid (HLO.out.below b8)
    have HO8:=hid ho8
    have HF8:=hid hf8
    have HN8:=hid hn8
    have X8:=hid (X7.out.trans (Lx.of_below b8))
    have HIN:Hid (∀ k,Ft lb fb fv' vo ve k→k<w7.heap.size):=hid (fun k hk=>(HLO.out.lg.inside hk).2)
    have HW7:Hid (w.heap.size≤w7.heap.size):=hid X7.out.size
    clear ho8 hf8 hn8 b8
    go_wp2
    go_ret3
    refine .inr ⟨r,Fs,lb,vo,ve,fv',l,v8,l8,HT.out,rfl,HLO8.out,⟨HO8.out,.inr (fun k hk e=>?_),fun q hq=>⟨HO8.out.2 q hq,.inr (fun k hk e=>?_)⟩⟩,HF8.out,⟨fun k hk=>Nat.le_trans HW7.out (HN8.out.1 k hk),fun q hq k hk=>Nat.le_trans HW7.out (HN8.out.2 q hq k hk)⟩,X8.out,HNWL.out⟩
    ·have h1:=HIN.out k e
     have h2:=HN8.out.1 k hk
     omega
    ·have h1:=HIN.out k e
     have h2:=HN8.out.2 q hq k hk
     omega
   · -- a bad one
    have e1:nxP xs p=p:=by rw [nxP,if_neg (by omega)]
    have e2:nxV xs p=[]:=by rw [nxV,if_neg (by omega)]
    rw [e2] at V6
    rw [e1,e2,hw]
    have HT:=hid (HTL.out _ _ (HOG.out [] false (Og.bad hw)))
    clear e1 e2 hw
    go_wp2_with fail
    refine (qhc _ [] w6 LY6.out V6.out (by decide)).mono ?_
    rintro e w8 ⟨v8,l8,rfl,o8,f8,b8,n8⟩
    obtain ⟨⟨D1,D2⟩,hD⟩:∃ z,decA mOwn []=z:=⟨_,rfl⟩
    rw [hD] at f8 ⊢
    dsimp only at f8 ⊢
    have L8:=hid (L6.out.below b8)
    have X8:=hid (X6.out.trans (Lx.of_below b8))
    obtain ⟨a8,c8,rfl,_,_⟩:=Sl.form o8.1
    clear o8 f8 b8 n8 hD
    go_wp2
    go_ret3
    exact OX2.no2 HT.out L8.out.fi X8.out
theorem qyd {B:Nat}{w:World}{fb:Nat}{fv:Value}{xs:List Int}{n R:Nat}(h:Fi B w fb fv xs n R) (hL:Lay w) (hB:B≤w.heap.size) (hB2:2≤B) :
  Calls Tryz.prog 23 #[.pointer (some ⟨fb,0,none⟩)] w fun e w'=>OX B fb R fv xs n w e w' :=
 (qqp h hL hB hB2).mono fun e w' h=>h.old
set_option maxHeartbeats 2000000 in
theorem qsm (fb:Nat) (r:Int) (w:World) (h:r<0∨15<r) :
  Calls Tryz.prog 8 #[.pointer (some ⟨fb,0,none⟩),.int .i64 r] w fun e w'=>e=.returned (.tuple #[.pointer none,.int .i64 11])∧w=w':=by
 by_cases h0:r<0
 ·clear h
  go_enter Tryz.func8,Tryz.ntmps8
  go_wp2
  go_ret2
  exact ⟨rfl,rfl⟩
 ·have h1:16≤r:=by omega
  have h2:0≤r:=by omega
  clear h
  go_enter Tryz.func8,Tryz.ntmps8
  go_wp2
  go_ret2
  exact ⟨rfl,rfl⟩
def FX (B fb R:Nat) (fv:Value) (xs:List Int) (n:Nat) (r:Int) (w:World) (e:Ending) (w':World):Prop :=
 (R<10∧e=.returned (.tuple #[.pointer none,.int .i64 14])∧∃ fv',Fi B w' fb fv' xs n R∧Lx (Fb fb fv) (Fb fb fv') w w') ∨
 (10≤R∧∃ lb fv',e=.returned (.tuple #[.pointer (some ⟨lb,0,none⟩),.int .i64 0])∧Lo B w' lb fb fv' (.slice none 0 0) (.slice none 0 0) r [] 10 R []∧Lx (Fb fb fv) (Ft lb fb fv' (.slice none 0 0) (.slice none 0 0)) w w')
theorem qpg {B:Nat}{w w':World}{fb:Nat}{fv fv':Value}(hx:Fx fb fv fv' w w'):Lx (Fb fb fv) (Fb fb fv') w w':=by
 refine ⟨hx.1.mono (fun k hk=>hk),fun k hk=>?_⟩
 rcases hk with rfl | hk
 ·exact .inl (.inl rfl)
 ·exact (hx.2 k hk).imp .inr id
set_option maxHeartbeats 4000000 in
theorem qkn {B:Nat}{w:World}{fb:Nat}{fv:Value}{xs:List Int}{n R:Nat}(h:Fi B w fb fv xs n R) (hL:Lay w) (hB:B≤w.heap.size) (r:Int) (h0:0≤r) (h1:r≤15) :
  Calls Tryz.prog 8 #[.pointer (some ⟨fb,0,none⟩),.int .i64 r] w fun e w'=>FX B fb R fv xs n r w e w':=by
 have HF:=hid h
 have HE:=hid (qga r w hL h0 h1)
 have HBY:=hid (show Byt (C.frame (fb0 r)) from C.frame_bytes (qhu h0 h1))
 have hl:(C.frame (fb0 r)).length=10:=by rw [C.frame_length,qcz h0 h1]
 have hlby:lby r []=C.frame (fb0 r):=by rw [qcy];simp [C.cat]
 have HLB:=hid hlby
 obtain ⟨ff,hff⟩:∃ ff,C.frame (fb0 r)=ff:=⟨_,rfl⟩
 have hc1:¬ r<0:=by omega
 have hc2:¬ 16≤r:=by omega
 have HR0:=hid h0
 have HR1:=hid h1
 rw [hff] at HE HBY hl HLB
 have HLL:=hid hl
 clear h hL hlby hff hl h1
 go_enter Tryz.func8,Tryz.ntmps8
 go_wp2_with fail
 refine HE.out.mono ?_
 rintro e w1 ⟨v1,rfl,o1,b1⟩
 have V1:=hid (o1.bs HBY.out)
 obtain ⟨a1,c1,rfl,_⟩:=o1.form
 have B1:=hid b1
 have F1:=hid (HF.out.below b1)
 have S1:=hid (Nat.le_trans hB b1.size)
 clear o1 b1 HE
 by_cases hR:10≤R
 ·have hrep:repS R ff xs n=(0,ff,10):=by unfold repS;rw [if_pos (by rw [HLL.out];exact hR),HLL.out]
  have HRP:=hid hrep
  clear hrep
  go_wp2_with fail
  refine (qco S1.out F1.out _ ff V1.out).mono ?_
  rintro e w2 ⟨he,ho⟩
  have he':=he.out HRP.out
  obtain ⟨fv',hfi,hfx⟩:=ho.out HRP.out
  subst he'
  have F2:=hid hfi
  have X2:Hid (Lx (Fb fb fv) (Fb fb fv') w w2):=hid ((Lx.of_below B1.out).trans (qpg (B:=B) hfx))
  have S2:=hid (Nat.le_trans S1.out hfx.size)
  clear he ho hfi hfx
  have HLG:Hid (Lg B (w2.alloc (.cells #[.pointer (some ⟨fb,0,none⟩),.int .i64 r,.slice none 0 0,.slice none 0 0] 81 (0,0))) w2.heap.size fb fv' (.slice none 0 0) (.slice none 0 0) ff 10 R r [] []):=hid (Lg.fresh F2.out S2.out r)
  have HA:=hid (ba w2 (.cells #[.pointer (some ⟨fb,0,none⟩),.int .i64 r,.slice none 0 0,.slice none 0 0] 81 (0,0)))
  go_wp2
  go_ret2
  refine .inr ⟨hR,w2.heap.size,fv',rfl,⟨?_,rfl,Good.nil,HR0.out,HR1.out,by rw [HLB.out,HLL.out];exact Nat.le_refl _⟩,X2.out.trans ⟨(Lx.of_below HA.out (S:=Fb fb fv')).fr,fun k hk=>?_⟩⟩
  ·rw [HLB.out]
   exact HLG.out
  ·rcases hk with rfl | rfl | hk | hk | hk
   ·exact .inr (Nat.le_refl _)
   ·exact .inl (.inl rfl)
   ·exact .inl (.inr hk)
   ·cases hk
   ·cases hk
 ·have hrep:repS R ff xs n=(14,xs,n):=by unfold repS;rw [if_neg (by rw [HLL.out];exact hR)]
  have HRP:=hid hrep
  clear hrep
  go_wp2_with fail
  refine (qco S1.out F1.out _ ff V1.out).mono ?_
  rintro e w2 ⟨he,ho⟩
  have he':=he.out HRP.out
  obtain ⟨fv',hfi,hfx⟩:=ho.out HRP.out
  subst he'
  have F2:=hid hfi
  have X2:Hid (Lx (Fb fb fv) (Fb fb fv') w w2):=hid ((Lx.of_below B1.out).trans (qpg (B:=B) hfx))
  clear he ho hfi hfx
  go_wp2
  go_ret2
  exact .inl ⟨by omega,rfl,fv',F2.out,X2.out⟩
def foldN (n:Int):Opn:=⟨6,1,n,3,0,1,0,0,⟨#[]⟩,0,0,0,0,0,0,0,0,⟨#[]⟩,[],true⟩
theorem qfp:(encA [foldN 1]).length=9:=by decide +kernel
theorem qht:(encA [foldN 2]).length=9:=by decide +kernel
theorem qvu:frE [foldN 1]=0:=by
 have h:[foldN 1].all rightO=true:=by decide
 unfold frE
 rw [h,qfp]
 decide
theorem qvt:frE [foldN 2]=0:=by
 have h:[foldN 2].all rightO=true:=by decide
 unfold frE
 rw [h,qht]
 decide
theorem qkp (n:Int):(foldN n).fine∧(foldN n).cuts.length≤100000:=⟨⟨by show 0≤_;decide,by show 0≤_;decide⟩,by show 0≤_;decide⟩
abbrev foldnc (n:Int):Array Value:=#[.int .i64 6,.int .i64 1,.int .i64 n,.int .i64 3,.int .i64 0,.int .i64 1,.int .i64 0,.int .i64 0,.string ⟨#[]⟩,.int .i64 0,.int .i64 0,.int .i64 0,.int .i64 0,.int .i64 0,.int .i64 0,.int .i64 0,.int .i64 0,.string ⟨#[]⟩,.slice none 0 0,.bool true]
theorem qjw (n:Int):Tryz.prog.built 74 [(0,.int .i64 6),(1,idv 1 n),(2,.int .i64 3),(3,idv 0 1),(11,.bool true)]=some (foldnc n):=by kernel_rfl
theorem qgj {ops:Array Oper}{rest:List Oper}{p:Oper}{a:Act}{w:World}{Q:Exit→Act→World→Prop}(hgd:p.guard=none) (x y z u v:Operand) (ho:p.op=.build 74 #[(0,x),(1,y),(2,z),(3,u),(11,v)]) (n:Int)
  (h0:a.eval x=.int .i64 6) (h1:a.eval y=idv 1 n) (h2:a.eval z=.int .i64 3) (h3:a.eval u=idv 0 1) (h4:a.eval v=.bool true)
  (hk:wpList Tryz.prog ops Q rest (a.put p.dst (.agg (foldnc n))) w):wpList Tryz.prog ops Q (p::rest) a w:=by
 have e:(Array.map (fun ((i,x):Nat × Operand)=>(i,a.eval x)) #[(0,x),(1,y),(2,z),(3,u),(11,v)]).toList=[(0,.int .i64 6),(1,idv 1 n),(2,.int .i64 3),(3,idv 0 1),(11,.bool true)]:=by simp [h0,h1,h2,h3,h4]
 refine wpList_build hgd 74 #[(0,x),(1,y),(2,z),(3,u),(11,v)] ho ?_ ?_
 ·rw [e,qjw];rfl
 ·rw [e,qjw];exact hk
theorem qgi {ops:Array Oper}{rest:List Oper}{p:Oper}{a:Act}{W:World}{Q:Exit→Act→World→Prop}(hgd:p.guard=none) (x y:Operand) (ho:p.op=.store 74 x y) (k0 n:Int)
  (hx:a.eval x=.pointer (some ⟨W.heap.size,0,none⟩)) (hy:a.eval y=.agg (foldnc n))
  (hk:wpList Tryz.prog ops Q rest (a.put p.dst undef) (W.alloc (.cells (foldnc n) 74))):wpList Tryz.prog ops Q (p::rest) a (W.alloc (.cells (zopc k0) 74)) :=
 qdl hgd x y ho (zopc k0) (foldnc n) hx hy rfl rfl (by simp [Value.oneCell']) hk
theorem qjm (n:Int) (w:World):Calls Tryz.prog 36 #[.int .i64 n] w fun e w'=>e=.returned (opv (foldN n) (.slice none 0 0))∧Below w.heap.size w w':=by
 go_enter Tryz.func36,Tryz.ntmps36
 go_wp2_with (first | (refine qgj rfl _ _ _ _ _ rfl n rfl rfl rfl rfl rfl ?_) | (refine qgi rfl _ _ rfl 0 n rfl rfl ?_))
 refine bodyPost_ret (results_cell_row rfl _ _ w.heap.size 74 (foldnc n) (0,0) _ rfl (heap_alloc_new w _) Tryz.underlying74 rfl (by kernel_rfl)) rfl ?_
 exact ⟨rfl,ba _ _⟩
theorem Oq.one {B:Nat}{w:World}{lb fb:Nat}{fv vo ve:Value}{xs:List Int}{n R:Nat}{r:Int}{l:List (Opn × Value)}{es:List (Nat × Nat)}(h:Lg B w lb fb fv vo ve xs n R r l es) (o:Opn) (v:Value) (hc:o.cuts=[]) (hv:Cs w v []) :
  Oq (Ft lb fb fv vo ve) (w.alloc (opo o v)) (.slice (some ⟨w.heap.size,0,none⟩) 1 1) [(o,v)]:=by
 have ho:=Os.one w o v (by rw [hc];exact hv)
 refine ⟨ho,.inr (fun k hk e=>?_),fun p hp=>⟨ho.2 p hp,.inl ?_⟩⟩
 ·simp [Value.ownBlock] at hk
  have:=(h.inside e).2
  omega
 ·rw [List.mem_singleton.1 hp];exact hc
def gl0:Oper:={ dst:=some 59,op:=Op.move (Operand.tmp 2),type:=26,pos := "law.go:39",after:=#[],guard:=none }
def gl1:Oper:={ dst:=some 60,op:=Op.binOp BinOp.eql 26 (Operand.tmp 59) (Operand.const (Value.int IntKind.i64 0)) 26,type:=4,pos := "law.go:39",after:=#[{ on:=0,ground:=Ground.data }],guard:=none }
def gl2:Oper:={ dst:=some 61,op:=Op.move (Operand.tmp 60),type:=4,pos := "law.go:39",after:=#[{ on:=1,ground:=Ground.data }],guard:=none }
def gl3:Oper:={ dst:=some 62,op:=Op.move (Operand.tmp 4),type:=32,pos := "law.go:39",after:=#[{ on:=2,ground:=Ground.guard }],guard:=some (2,true) }
def gl4:Oper:={ dst:=some 63,op:=Op.binOp BinOp.neq 32 (Operand.tmp 62) (Operand.const (Value.pointer none)) 32,type:=4,pos := "law.go:39",after:=#[{ on:=3,ground:=Ground.data },{ on:=2,ground:=Ground.guard }],guard:=some (2,true) }
def gl5:Oper:={ dst:=some 64,op:=Op.pick (Operand.tmp 61) (Operand.tmp 63) (Operand.const (Value.bool false)),type:=4,pos := "law.go:39",after:=#[{ on:=2,ground:=Ground.data },{ on:=4,ground:=Ground.data }],guard:=none }
def gl6:Oper:={ dst:=some 65,op:=Op.move (Operand.tmp 64),type:=4,pos := "law.go:39",after:=#[{ on:=5,ground:=Ground.data },{ on:=2,ground:=Ground.chain }],guard:=none }
def gl7:Oper:={ dst:=some 66,op:=Op.move (Operand.tmp 5),type:=38,pos := "law.go:39",after:=#[{ on:=6,ground:=Ground.guard }],guard:=some (6,true) }
def gl8:Oper:={ dst:=some 67,op:=Op.call { callee:=Callee.builtin Builtin.len,args:=#[Operand.tmp 66],argTypes:=#[38] },type:=3,pos := "law.go:39",after:=#[{ on:=7,ground:=Ground.data },{ on:=6,ground:=Ground.guard }],guard:=some (6,true) }
def gl9:Oper:={ dst:=some 68,op:=Op.binOp BinOp.eql 3 (Operand.tmp 67) (Operand.const (Value.int IntKind.i64 1)) 3,type:=4,pos := "law.go:39",after:=#[{ on:=8,ground:=Ground.data },{ on:=6,ground:=Ground.guard }],guard:=some (6,true) }
def gl10:Oper:={ dst:=some 69,op:=Op.pick (Operand.tmp 65) (Operand.tmp 68) (Operand.const (Value.bool false)),type:=4,pos := "law.go:39",after:=#[{ on:=6,ground:=Ground.data },{ on:=9,ground:=Ground.data }],guard:=none }
def gl11:Oper:={ dst:=some 70,op:=Op.move (Operand.tmp 69),type:=4,pos := "law.go:39",after:=#[{ on:=10,ground:=Ground.data },{ on:=6,ground:=Ground.chain }],guard:=none }
def gl12:Oper:={ dst:=some 71,op:=Op.move (Operand.tmp 5),type:=38,pos := "law.go:39",after:=#[{ on:=11,ground:=Ground.guard }],guard:=some (11,true) }
def gl13:Oper:={ dst:=some 72,op:=Op.indexAddr 38 (Operand.tmp 71) (Operand.const (Value.int IntKind.i64 0)),type:=0,pos := "law.go:39",after:=#[{ on:=12,ground:=Ground.data },{ on:=11,ground:=Ground.guard }],guard:=some (11,true) }
def gl14:Oper:={ dst:=some 73,op:=Op.load 74 (Operand.tmp 72),type:=74,pos := "law.go:39",after:=#[{ on:=13,ground:=Ground.data },{ on:=11,ground:=Ground.guard }],guard:=some (11,true) }
def gl15:Oper:={ dst:=some 74,op:=Op.call { callee:=Callee.value (Operand.func 36),args:=#[Operand.const (Value.int IntKind.i64 1)],argTypes:=#[3] },type:=74,pos := "law.go:39",after:=#[{ on:=11,ground:=Ground.chain },{ on:=11,ground:=Ground.guard }],guard:=some (11,true) }
def gl16:Oper:={ dst:=some 75,op:=Op.call { callee:=Callee.value (Operand.func 37),args:=#[Operand.tmp 73,Operand.tmp 74],argTypes:=#[74,74] },type:=4,pos := "law.go:39",after:=#[{ on:=14,ground:=Ground.data },{ on:=15,ground:=Ground.data },{ on:=15,ground:=Ground.chain },{ on:=11,ground:=Ground.guard }],guard:=some (11,true) }
def gl17:Oper:={ dst:=some 76,op:=Op.pick (Operand.tmp 70) (Operand.tmp 75) (Operand.const (Value.bool false)),type:=4,pos := "law.go:39",after:=#[{ on:=11,ground:=Ground.data },{ on:=16,ground:=Ground.data }],guard:=none }
def gl18:Oper:={ dst:=some 77,op:=Op.move (Operand.tmp 76),type:=4,pos := "law.go:39",after:=#[{ on:=17,ground:=Ground.data },{ on:=16,ground:=Ground.chain }],guard:=none }
def gl19:Oper:={ dst:=some 78,op:=Op.move (Operand.tmp 4),type:=32,pos := "law.go:39",after:=#[{ on:=18,ground:=Ground.guard }],guard:=some (18,true) }
def gl20:Oper:={ dst:=some 79,op:=Op.call { callee:=Callee.value (Operand.func 32),args:=#[Operand.tmp 78],argTypes:=#[32] },type:=3,pos := "law.go:39",after:=#[{ on:=19,ground:=Ground.data },{ on:=18,ground:=Ground.chain },{ on:=18,ground:=Ground.guard }],guard:=some (18,true) }
def gl21:Oper:={ dst:=some 80,op:=Op.binOp BinOp.eql 3 (Operand.tmp 79) (Operand.const (Value.int IntKind.i64 3)) 3,type:=4,pos := "law.go:39",after:=#[{ on:=20,ground:=Ground.data },{ on:=18,ground:=Ground.guard }],guard:=some (18,true) }
def gl22:Oper:={ dst:=some 81,op:=Op.pick (Operand.tmp 77) (Operand.tmp 80) (Operand.const (Value.bool false)),type:=4,pos := "law.go:39",after:=#[{ on:=18,ground:=Ground.data },{ on:=21,ground:=Ground.data }],guard:=none }
def gl23:Oper:={ dst:=some 0,op:=Op.assign (Operand.tmp 81),type:=4,pos := "law.go:39",after:=#[{ on:=22,ground:=Ground.data },{ on:=20,ground:=Ground.chain },{ on:=0,ground:=Ground.phase },{ on:=1,ground:=Ground.phase },{ on:=2,ground:=Ground.phase },{ on:=3,ground:=Ground.phase },{ on:=4,ground:=Ground.phase },{ on:=5,ground:=Ground.phase },{ on:=6,ground:=Ground.phase },{ on:=7,ground:=Ground.phase },{ on:=8,ground:=Ground.phase },{ on:=9,ground:=Ground.phase },{ on:=10,ground:=Ground.phase },{ on:=11,ground:=Ground.phase },{ on:=12,ground:=Ground.phase },{ on:=13,ground:=Ground.phase },{ on:=14,ground:=Ground.phase },{ on:=15,ground:=Ground.phase },{ on:=16,ground:=Ground.phase },{ on:=17,ground:=Ground.phase },{ on:=18,ground:=Ground.phase },{ on:=19,ground:=Ground.phase },{ on:=20,ground:=Ground.phase },{ on:=21,ground:=Ground.phase },{ on:=22,ground:=Ground.phase }],guard:=none }
def gls:Array Oper:=#[gl0,gl1,gl2,gl3,gl4,gl5,gl6,gl7,gl8,gl9,gl10,gl11,gl12,gl13,gl14,gl15,gl16,gl17,gl18,gl19,gl20,gl21,gl22,gl23]
theorem gl_lex:Region.lexB .any gls=true:=by kernel_rfl
set_option maxHeartbeats 2000000 in
theorem qpm (w:World) (lb ob off cp:Nat) (F0 F1:Value) {x0 x1 x3 x6 x7 x8 x9 aa ad ag ah ai aj ak al am ap aq ar au av aw ay az aA aB aC aD aE aF aG aH aI aJ aK aL aM aN aO aP aQ aR aS aT aU aV aW aX aY aZ bc bf bh bi bj bk x59 x60 x61 x62 x63 x64 x65 x66 x67 x68 x69 x70 x71 bD bC bB bz bx bv bu bq bp bn:Value}{Q:Exit→Act→World→Prop} 
  (hO:∀ W,Below w.heap.size w W→∀ {p:Oper} {a:Act} {x:Operand},p.op=.load 74 x→a.eval x=.pointer (some ⟨ob,off,none⟩)→(execOp a.eval p).run Tryz.prog W=.ok (.value F1) W)
  (hFO:∀ W,Calls Tryz.prog 36 #[.int .i64 1] W fun e w'=>e=.returned F0∧Below W.heap.size W w')
  (hSO:∀ W,Below w.heap.size w W→Calls Tryz.prog 37 #[F1,F0] W fun e w'=>e=.returned (.bool true)∧Below W.heap.size W w')
  (hR:∀ W,Below w.heap.size w W→Calls Tryz.prog 32 #[.pointer (some ⟨lb,0,none⟩)] W fun e w'=>e=.returned (.int .i64 3)∧W=w')
  (hQ:∀ W,Below w.heap.size w W→Q .normal { tmps:=#[.bool true,x1,.int .i64 0,x3,.pointer (some ⟨lb,0,none⟩),.slice (some ⟨ob,off,none⟩) 1 cp,x6,x7,x8,x9,aa,ad,ag,ah,ai,aj,ak,al,am,ap,aq,ar,au,av,aw,ay,az,aA,aB,aC,aD,aE,aF,aG,aH,aI,aJ,aK,aL,aM,aN,aO,aP,aQ,aR,aS,aT,aU,aV,aW,aX,aY,aZ,bc,bf,bh,bi,bj,bk,.int .i64 0,.bool true,.bool true,.pointer (some ⟨lb,0,none⟩),.bool true,.bool true,.bool true,.slice (some ⟨ob,off,none⟩) 1 cp,.int .i64 1,.bool true,.bool true,.bool true,.slice (some ⟨ob,off,none⟩) 1 cp,.pointer (some ⟨ob,off,none⟩),F1,F0,.bool true,.bool true,.bool true,.pointer (some ⟨lb,0,none⟩),.int .i64 3,.bool true,.bool true],defers:=[] } W):(Code.region 12 gls true).wp Tryz.prog Q { tmps:=#[x0,x1,.int .i64 0,x3,.pointer (some ⟨lb,0,none⟩),.slice (some ⟨ob,off,none⟩) 1 cp,x6,x7,x8,x9,aa,ad,ag,ah,ai,aj,ak,al,am,ap,aq,ar,au,av,aw,ay,az,aA,aB,aC,aD,aE,aF,aG,aH,aI,aJ,aK,aL,aM,aN,aO,aP,aQ,aR,aS,aT,aU,aV,aW,aX,aY,aZ,bc,bf,bh,bi,bj,bk,x59,x60,x61,x62,x63,x64,x65,x66,x67,x68,x69,x70,x71,bD,bC,bB,bz,bx,bv,bu,bq,bp,bn],defers:=[] } w:=by
 refine wp_region_quiet (C:=fun W=>Below w.heap.size w W) (by kernel_rfl) gl_lex (Below.refl _ _).drew ?_
 change wpQuiet _ _ _ _ [gl0,gl1,gl2,gl3,gl4,gl5,gl6,gl7,gl8,gl9,gl10,gl11,gl12,gl13,gl14,gl15,gl16,gl17,gl18,gl19,gl20,gl21,gl22,gl23] _
 refine qah (.int .i64 0) { tmps:=#[x0,x1,.int .i64 0,x3,.pointer (some ⟨lb,0,none⟩),.slice (some ⟨ob,off,none⟩) 1 cp,x6,x7,x8,x9,aa,ad,ag,ah,ai,aj,ak,al,am,ap,aq,ar,au,av,aw,ay,az,aA,aB,aC,aD,aE,aF,aG,aH,aI,aJ,aK,aL,aM,aN,aO,aP,aQ,aR,aS,aT,aU,aV,aW,aX,aY,aZ,bc,bf,bh,bi,bj,bk,.int .i64 0,x60,x61,x62,x63,x64,x65,x66,x67,x68,x69,x70,x71,bD,bC,bB,bz,bx,bv,bu,bq,bp,bn],defers:=[] } (by kernel_rfl) (fun W hW=>by kernel_rfl) (by kernel_rfl) ?_
 refine qah (.bool true) { tmps:=#[x0,x1,.int .i64 0,x3,.pointer (some ⟨lb,0,none⟩),.slice (some ⟨ob,off,none⟩) 1 cp,x6,x7,x8,x9,aa,ad,ag,ah,ai,aj,ak,al,am,ap,aq,ar,au,av,aw,ay,az,aA,aB,aC,aD,aE,aF,aG,aH,aI,aJ,aK,aL,aM,aN,aO,aP,aQ,aR,aS,aT,aU,aV,aW,aX,aY,aZ,bc,bf,bh,bi,bj,bk,.int .i64 0,.bool true,x61,x62,x63,x64,x65,x66,x67,x68,x69,x70,x71,bD,bC,bB,bz,bx,bv,bu,bq,bp,bn],defers:=[] } (by kernel_rfl) (fun W hW=>by kernel_rfl) (by kernel_rfl) ?_
 refine qah (.bool true) { tmps:=#[x0,x1,.int .i64 0,x3,.pointer (some ⟨lb,0,none⟩),.slice (some ⟨ob,off,none⟩) 1 cp,x6,x7,x8,x9,aa,ad,ag,ah,ai,aj,ak,al,am,ap,aq,ar,au,av,aw,ay,az,aA,aB,aC,aD,aE,aF,aG,aH,aI,aJ,aK,aL,aM,aN,aO,aP,aQ,aR,aS,aT,aU,aV,aW,aX,aY,aZ,bc,bf,bh,bi,bj,bk,.int .i64 0,.bool true,.bool true,x62,x63,x64,x65,x66,x67,x68,x69,x70,x71,bD,bC,bB,bz,bx,bv,bu,bq,bp,bn],defers:=[] } (by kernel_rfl) (fun W hW=>by kernel_rfl) (by kernel_rfl) ?_
 refine qah (.pointer (some ⟨lb,0,none⟩)) { tmps:=#[x0,x1,.int .i64 0,x3,.pointer (some ⟨lb,0,none⟩),.slice (some ⟨ob,off,none⟩) 1 cp,x6,x7,x8,x9,aa,ad,ag,ah,ai,aj,ak,al,am,ap,aq,ar,au,av,aw,ay,az,aA,aB,aC,aD,aE,aF,aG,aH,aI,aJ,aK,aL,aM,aN,aO,aP,aQ,aR,aS,aT,aU,aV,aW,aX,aY,aZ,bc,bf,bh,bi,bj,bk,.int .i64 0,.bool true,.bool true,.pointer (some ⟨lb,0,none⟩),x63,x64,x65,x66,x67,x68,x69,x70,x71,bD,bC,bB,bz,bx,bv,bu,bq,bp,bn],defers:=[] } (by kernel_rfl) (fun W hW=>by kernel_rfl) (by kernel_rfl) ?_
 refine qah (.bool true) { tmps:=#[x0,x1,.int .i64 0,x3,.pointer (some ⟨lb,0,none⟩),.slice (some ⟨ob,off,none⟩) 1 cp,x6,x7,x8,x9,aa,ad,ag,ah,ai,aj,ak,al,am,ap,aq,ar,au,av,aw,ay,az,aA,aB,aC,aD,aE,aF,aG,aH,aI,aJ,aK,aL,aM,aN,aO,aP,aQ,aR,aS,aT,aU,aV,aW,aX,aY,aZ,bc,bf,bh,bi,bj,bk,.int .i64 0,.bool true,.bool true,.pointer (some ⟨lb,0,none⟩),.bool true,x64,x65,x66,x67,x68,x69,x70,x71,bD,bC,bB,bz,bx,bv,bu,bq,bp,bn],defers:=[] } (by kernel_rfl) (fun W hW=>by kernel_rfl) (by kernel_rfl) ?_
 refine qah (.bool true) { tmps:=#[x0,x1,.int .i64 0,x3,.pointer (some ⟨lb,0,none⟩),.slice (some ⟨ob,off,none⟩) 1 cp,x6,x7,x8,x9,aa,ad,ag,ah,ai,aj,ak,al,am,ap,aq,ar,au,av,aw,ay,az,aA,aB,aC,aD,aE,aF,aG,aH,aI,aJ,aK,aL,aM,aN,aO,aP,aQ,aR,aS,aT,aU,aV,aW,aX,aY,aZ,bc,bf,bh,bi,bj,bk,.int .i64 0,.bool true,.bool true,.pointer (some ⟨lb,0,none⟩),.bool true,.bool true,x65,x66,x67,x68,x69,x70,x71,bD,bC,bB,bz,bx,bv,bu,bq,bp,bn],defers:=[] } (by kernel_rfl) (fun W hW=>by kernel_rfl) (by kernel_rfl) ?_
 refine qah (.bool true) { tmps:=#[x0,x1,.int .i64 0,x3,.pointer (some ⟨lb,0,none⟩),.slice (some ⟨ob,off,none⟩) 1 cp,x6,x7,x8,x9,aa,ad,ag,ah,ai,aj,ak,al,am,ap,aq,ar,au,av,aw,ay,az,aA,aB,aC,aD,aE,aF,aG,aH,aI,aJ,aK,aL,aM,aN,aO,aP,aQ,aR,aS,aT,aU,aV,aW,aX,aY,aZ,bc,bf,bh,bi,bj,bk,.int .i64 0,.bool true,.bool true,.pointer (some ⟨lb,0,none⟩),.bool true,.bool true,.bool true,x66,x67,x68,x69,x70,x71,bD,bC,bB,bz,bx,bv,bu,bq,bp,bn],defers:=[] } (by kernel_rfl) (fun W hW=>by kernel_rfl) (by kernel_rfl) ?_
 refine qah (.slice (some ⟨ob,off,none⟩) 1 cp) { tmps:=#[x0,x1,.int .i64 0,x3,.pointer (some ⟨lb,0,none⟩),.slice (some ⟨ob,off,none⟩) 1 cp,x6,x7,x8,x9,aa,ad,ag,ah,ai,aj,ak,al,am,ap,aq,ar,au,av,aw,ay,az,aA,aB,aC,aD,aE,aF,aG,aH,aI,aJ,aK,aL,aM,aN,aO,aP,aQ,aR,aS,aT,aU,aV,aW,aX,aY,aZ,bc,bf,bh,bi,bj,bk,.int .i64 0,.bool true,.bool true,.pointer (some ⟨lb,0,none⟩),.bool true,.bool true,.bool true,.slice (some ⟨ob,off,none⟩) 1 cp,x67,x68,x69,x70,x71,bD,bC,bB,bz,bx,bv,bu,bq,bp,bn],defers:=[] } (by kernel_rfl) (fun W hW=>by kernel_rfl) (by kernel_rfl) ?_
 refine qah (.int .i64 1) { tmps:=#[x0,x1,.int .i64 0,x3,.pointer (some ⟨lb,0,none⟩),.slice (some ⟨ob,off,none⟩) 1 cp,x6,x7,x8,x9,aa,ad,ag,ah,ai,aj,ak,al,am,ap,aq,ar,au,av,aw,ay,az,aA,aB,aC,aD,aE,aF,aG,aH,aI,aJ,aK,aL,aM,aN,aO,aP,aQ,aR,aS,aT,aU,aV,aW,aX,aY,aZ,bc,bf,bh,bi,bj,bk,.int .i64 0,.bool true,.bool true,.pointer (some ⟨lb,0,none⟩),.bool true,.bool true,.bool true,.slice (some ⟨ob,off,none⟩) 1 cp,.int .i64 1,x68,x69,x70,x71,bD,bC,bB,bz,bx,bv,bu,bq,bp,bn],defers:=[] } (by kernel_rfl) (fun W hW=>by kernel_rfl) (by kernel_rfl) ?_
 refine qah (.bool true) { tmps:=#[x0,x1,.int .i64 0,x3,.pointer (some ⟨lb,0,none⟩),.slice (some ⟨ob,off,none⟩) 1 cp,x6,x7,x8,x9,aa,ad,ag,ah,ai,aj,ak,al,am,ap,aq,ar,au,av,aw,ay,az,aA,aB,aC,aD,aE,aF,aG,aH,aI,aJ,aK,aL,aM,aN,aO,aP,aQ,aR,aS,aT,aU,aV,aW,aX,aY,aZ,bc,bf,bh,bi,bj,bk,.int .i64 0,.bool true,.bool true,.pointer (some ⟨lb,0,none⟩),.bool true,.bool true,.bool true,.slice (some ⟨ob,off,none⟩) 1 cp,.int .i64 1,.bool true,x69,x70,x71,bD,bC,bB,bz,bx,bv,bu,bq,bp,bn],defers:=[] } (by kernel_rfl) (fun W hW=>by kernel_rfl) (by kernel_rfl) ?_
 refine qah (.bool true) { tmps:=#[x0,x1,.int .i64 0,x3,.pointer (some ⟨lb,0,none⟩),.slice (some ⟨ob,off,none⟩) 1 cp,x6,x7,x8,x9,aa,ad,ag,ah,ai,aj,ak,al,am,ap,aq,ar,au,av,aw,ay,az,aA,aB,aC,aD,aE,aF,aG,aH,aI,aJ,aK,aL,aM,aN,aO,aP,aQ,aR,aS,aT,aU,aV,aW,aX,aY,aZ,bc,bf,bh,bi,bj,bk,.int .i64 0,.bool true,.bool true,.pointer (some ⟨lb,0,none⟩),.bool true,.bool true,.bool true,.slice (some ⟨ob,off,none⟩) 1 cp,.int .i64 1,.bool true,.bool true,x70,x71,bD,bC,bB,bz,bx,bv,bu,bq,bp,bn],defers:=[] } (by kernel_rfl) (fun W hW=>by kernel_rfl) (by kernel_rfl) ?_
 refine qah (.bool true) { tmps:=#[x0,x1,.int .i64 0,x3,.pointer (some ⟨lb,0,none⟩),.slice (some ⟨ob,off,none⟩) 1 cp,x6,x7,x8,x9,aa,ad,ag,ah,ai,aj,ak,al,am,ap,aq,ar,au,av,aw,ay,az,aA,aB,aC,aD,aE,aF,aG,aH,aI,aJ,aK,aL,aM,aN,aO,aP,aQ,aR,aS,aT,aU,aV,aW,aX,aY,aZ,bc,bf,bh,bi,bj,bk,.int .i64 0,.bool true,.bool true,.pointer (some ⟨lb,0,none⟩),.bool true,.bool true,.bool true,.slice (some ⟨ob,off,none⟩) 1 cp,.int .i64 1,.bool true,.bool true,.bool true,x71,bD,bC,bB,bz,bx,bv,bu,bq,bp,bn],defers:=[] } (by kernel_rfl) (fun W hW=>by kernel_rfl) (by kernel_rfl) ?_
 refine qah (.slice (some ⟨ob,off,none⟩) 1 cp) { tmps:=#[x0,x1,.int .i64 0,x3,.pointer (some ⟨lb,0,none⟩),.slice (some ⟨ob,off,none⟩) 1 cp,x6,x7,x8,x9,aa,ad,ag,ah,ai,aj,ak,al,am,ap,aq,ar,au,av,aw,ay,az,aA,aB,aC,aD,aE,aF,aG,aH,aI,aJ,aK,aL,aM,aN,aO,aP,aQ,aR,aS,aT,aU,aV,aW,aX,aY,aZ,bc,bf,bh,bi,bj,bk,.int .i64 0,.bool true,.bool true,.pointer (some ⟨lb,0,none⟩),.bool true,.bool true,.bool true,.slice (some ⟨ob,off,none⟩) 1 cp,.int .i64 1,.bool true,.bool true,.bool true,.slice (some ⟨ob,off,none⟩) 1 cp,bD,bC,bB,bz,bx,bv,bu,bq,bp,bn],defers:=[] } (by kernel_rfl) (fun W hW=>by kernel_rfl) (by kernel_rfl) ?_
 refine qah (.pointer (some ⟨ob,off,none⟩)) { tmps:=#[x0,x1,.int .i64 0,x3,.pointer (some ⟨lb,0,none⟩),.slice (some ⟨ob,off,none⟩) 1 cp,x6,x7,x8,x9,aa,ad,ag,ah,ai,aj,ak,al,am,ap,aq,ar,au,av,aw,ay,az,aA,aB,aC,aD,aE,aF,aG,aH,aI,aJ,aK,aL,aM,aN,aO,aP,aQ,aR,aS,aT,aU,aV,aW,aX,aY,aZ,bc,bf,bh,bi,bj,bk,.int .i64 0,.bool true,.bool true,.pointer (some ⟨lb,0,none⟩),.bool true,.bool true,.bool true,.slice (some ⟨ob,off,none⟩) 1 cp,.int .i64 1,.bool true,.bool true,.bool true,.slice (some ⟨ob,off,none⟩) 1 cp,.pointer (some ⟨ob,off,none⟩),bC,bB,bz,bx,bv,bu,bq,bp,bn],defers:=[] } (by kernel_rfl) (fun W hW=>by kernel_rfl) (by kernel_rfl) ?_
 refine qah (F1) { tmps:=#[x0,x1,.int .i64 0,x3,.pointer (some ⟨lb,0,none⟩),.slice (some ⟨ob,off,none⟩) 1 cp,x6,x7,x8,x9,aa,ad,ag,ah,ai,aj,ak,al,am,ap,aq,ar,au,av,aw,ay,az,aA,aB,aC,aD,aE,aF,aG,aH,aI,aJ,aK,aL,aM,aN,aO,aP,aQ,aR,aS,aT,aU,aV,aW,aX,aY,aZ,bc,bf,bh,bi,bj,bk,.int .i64 0,.bool true,.bool true,.pointer (some ⟨lb,0,none⟩),.bool true,.bool true,.bool true,.slice (some ⟨ob,off,none⟩) 1 cp,.int .i64 1,.bool true,.bool true,.bool true,.slice (some ⟨ob,off,none⟩) 1 cp,.pointer (some ⟨ob,off,none⟩),F1,bB,bz,bx,bv,bu,bq,bp,bn],defers:=[] } (by kernel_rfl) (fun W hW=>hO W hW rfl rfl) (by kernel_rfl) ?_
 refine qeg (f:=36) (args:=#[.int .i64 1]) (F0) { tmps:=#[x0,x1,.int .i64 0,x3,.pointer (some ⟨lb,0,none⟩),.slice (some ⟨ob,off,none⟩) 1 cp,x6,x7,x8,x9,aa,ad,ag,ah,ai,aj,ak,al,am,ap,aq,ar,au,av,aw,ay,az,aA,aB,aC,aD,aE,aF,aG,aH,aI,aJ,aK,aL,aM,aN,aO,aP,aQ,aR,aS,aT,aU,aV,aW,aX,aY,aZ,bc,bf,bh,bi,bj,bk,.int .i64 0,.bool true,.bool true,.pointer (some ⟨lb,0,none⟩),.bool true,.bool true,.bool true,.slice (some ⟨ob,off,none⟩) 1 cp,.int .i64 1,.bool true,.bool true,.bool true,.slice (some ⟨ob,off,none⟩) 1 cp,.pointer (some ⟨ob,off,none⟩),F1,F0,bz,bx,bv,bu,bq,bp,bn],defers:=[] } (by kernel_rfl) (fun W=>by kernel_rfl) (fun W hW=>(hFO W).mono fun _ _ h=>⟨h.1,bt hW h.2⟩) (by kernel_rfl) ?_
 refine qeg (f:=37) (args:=#[F1,F0]) (.bool true) { tmps:=#[x0,x1,.int .i64 0,x3,.pointer (some ⟨lb,0,none⟩),.slice (some ⟨ob,off,none⟩) 1 cp,x6,x7,x8,x9,aa,ad,ag,ah,ai,aj,ak,al,am,ap,aq,ar,au,av,aw,ay,az,aA,aB,aC,aD,aE,aF,aG,aH,aI,aJ,aK,aL,aM,aN,aO,aP,aQ,aR,aS,aT,aU,aV,aW,aX,aY,aZ,bc,bf,bh,bi,bj,bk,.int .i64 0,.bool true,.bool true,.pointer (some ⟨lb,0,none⟩),.bool true,.bool true,.bool true,.slice (some ⟨ob,off,none⟩) 1 cp,.int .i64 1,.bool true,.bool true,.bool true,.slice (some ⟨ob,off,none⟩) 1 cp,.pointer (some ⟨ob,off,none⟩),F1,F0,.bool true,bx,bv,bu,bq,bp,bn],defers:=[] } (by kernel_rfl) (fun W=>by kernel_rfl) (fun W hW=>(hSO W hW).mono fun _ _ h=>⟨h.1,bt hW h.2⟩) (by kernel_rfl) ?_
 refine qah (.bool true) { tmps:=#[x0,x1,.int .i64 0,x3,.pointer (some ⟨lb,0,none⟩),.slice (some ⟨ob,off,none⟩) 1 cp,x6,x7,x8,x9,aa,ad,ag,ah,ai,aj,ak,al,am,ap,aq,ar,au,av,aw,ay,az,aA,aB,aC,aD,aE,aF,aG,aH,aI,aJ,aK,aL,aM,aN,aO,aP,aQ,aR,aS,aT,aU,aV,aW,aX,aY,aZ,bc,bf,bh,bi,bj,bk,.int .i64 0,.bool true,.bool true,.pointer (some ⟨lb,0,none⟩),.bool true,.bool true,.bool true,.slice (some ⟨ob,off,none⟩) 1 cp,.int .i64 1,.bool true,.bool true,.bool true,.slice (some ⟨ob,off,none⟩) 1 cp,.pointer (some ⟨ob,off,none⟩),F1,F0,.bool true,.bool true,bv,bu,bq,bp,bn],defers:=[] } (by kernel_rfl) (fun W hW=>by kernel_rfl) (by kernel_rfl) ?_
 refine qah (.bool true) { tmps:=#[x0,x1,.int .i64 0,x3,.pointer (some ⟨lb,0,none⟩),.slice (some ⟨ob,off,none⟩) 1 cp,x6,x7,x8,x9,aa,ad,ag,ah,ai,aj,ak,al,am,ap,aq,ar,au,av,aw,ay,az,aA,aB,aC,aD,aE,aF,aG,aH,aI,aJ,aK,aL,aM,aN,aO,aP,aQ,aR,aS,aT,aU,aV,aW,aX,aY,aZ,bc,bf,bh,bi,bj,bk,.int .i64 0,.bool true,.bool true,.pointer (some ⟨lb,0,none⟩),.bool true,.bool true,.bool true,.slice (some ⟨ob,off,none⟩) 1 cp,.int .i64 1,.bool true,.bool true,.bool true,.slice (some ⟨ob,off,none⟩) 1 cp,.pointer (some ⟨ob,off,none⟩),F1,F0,.bool true,.bool true,.bool true,bu,bq,bp,bn],defers:=[] } (by kernel_rfl) (fun W hW=>by kernel_rfl) (by kernel_rfl) ?_
 refine qah (.pointer (some ⟨lb,0,none⟩)) { tmps:=#[x0,x1,.int .i64 0,x3,.pointer (some ⟨lb,0,none⟩),.slice (some ⟨ob,off,none⟩) 1 cp,x6,x7,x8,x9,aa,ad,ag,ah,ai,aj,ak,al,am,ap,aq,ar,au,av,aw,ay,az,aA,aB,aC,aD,aE,aF,aG,aH,aI,aJ,aK,aL,aM,aN,aO,aP,aQ,aR,aS,aT,aU,aV,aW,aX,aY,aZ,bc,bf,bh,bi,bj,bk,.int .i64 0,.bool true,.bool true,.pointer (some ⟨lb,0,none⟩),.bool true,.bool true,.bool true,.slice (some ⟨ob,off,none⟩) 1 cp,.int .i64 1,.bool true,.bool true,.bool true,.slice (some ⟨ob,off,none⟩) 1 cp,.pointer (some ⟨ob,off,none⟩),F1,F0,.bool true,.bool true,.bool true,.pointer (some ⟨lb,0,none⟩),bq,bp,bn],defers:=[] } (by kernel_rfl) (fun W hW=>by kernel_rfl) (by kernel_rfl) ?_
 refine qeg (f:=32) (args:=#[.pointer (some ⟨lb,0,none⟩)]) (.int .i64 3) { tmps:=#[x0,x1,.int .i64 0,x3,.pointer (some ⟨lb,0,none⟩),.slice (some ⟨ob,off,none⟩) 1 cp,x6,x7,x8,x9,aa,ad,ag,ah,ai,aj,ak,al,am,ap,aq,ar,au,av,aw,ay,az,aA,aB,aC,aD,aE,aF,aG,aH,aI,aJ,aK,aL,aM,aN,aO,aP,aQ,aR,aS,aT,aU,aV,aW,aX,aY,aZ,bc,bf,bh,bi,bj,bk,.int .i64 0,.bool true,.bool true,.pointer (some ⟨lb,0,none⟩),.bool true,.bool true,.bool true,.slice (some ⟨ob,off,none⟩) 1 cp,.int .i64 1,.bool true,.bool true,.bool true,.slice (some ⟨ob,off,none⟩) 1 cp,.pointer (some ⟨ob,off,none⟩),F1,F0,.bool true,.bool true,.bool true,.pointer (some ⟨lb,0,none⟩),.int .i64 3,bp,bn],defers:=[] } (by kernel_rfl) (fun W=>by kernel_rfl) (fun W hW=>(hR W hW).mono fun _ _ h=>⟨h.1,by rw [←h.2];exact hW⟩) (by kernel_rfl) ?_
 refine qah (.bool true) { tmps:=#[x0,x1,.int .i64 0,x3,.pointer (some ⟨lb,0,none⟩),.slice (some ⟨ob,off,none⟩) 1 cp,x6,x7,x8,x9,aa,ad,ag,ah,ai,aj,ak,al,am,ap,aq,ar,au,av,aw,ay,az,aA,aB,aC,aD,aE,aF,aG,aH,aI,aJ,aK,aL,aM,aN,aO,aP,aQ,aR,aS,aT,aU,aV,aW,aX,aY,aZ,bc,bf,bh,bi,bj,bk,.int .i64 0,.bool true,.bool true,.pointer (some ⟨lb,0,none⟩),.bool true,.bool true,.bool true,.slice (some ⟨ob,off,none⟩) 1 cp,.int .i64 1,.bool true,.bool true,.bool true,.slice (some ⟨ob,off,none⟩) 1 cp,.pointer (some ⟨ob,off,none⟩),F1,F0,.bool true,.bool true,.bool true,.pointer (some ⟨lb,0,none⟩),.int .i64 3,.bool true,bn],defers:=[] } (by kernel_rfl) (fun W hW=>by kernel_rfl) (by kernel_rfl) ?_
 refine qah (.bool true) { tmps:=#[x0,x1,.int .i64 0,x3,.pointer (some ⟨lb,0,none⟩),.slice (some ⟨ob,off,none⟩) 1 cp,x6,x7,x8,x9,aa,ad,ag,ah,ai,aj,ak,al,am,ap,aq,ar,au,av,aw,ay,az,aA,aB,aC,aD,aE,aF,aG,aH,aI,aJ,aK,aL,aM,aN,aO,aP,aQ,aR,aS,aT,aU,aV,aW,aX,aY,aZ,bc,bf,bh,bi,bj,bk,.int .i64 0,.bool true,.bool true,.pointer (some ⟨lb,0,none⟩),.bool true,.bool true,.bool true,.slice (some ⟨ob,off,none⟩) 1 cp,.int .i64 1,.bool true,.bool true,.bool true,.slice (some ⟨ob,off,none⟩) 1 cp,.pointer (some ⟨ob,off,none⟩),F1,F0,.bool true,.bool true,.bool true,.pointer (some ⟨lb,0,none⟩),.int .i64 3,.bool true,.bool true],defers:=[] } (by kernel_rfl) (fun W hW=>by kernel_rfl) (by kernel_rfl) ?_
 refine qah (.bool true) { tmps:=#[.bool true,x1,.int .i64 0,x3,.pointer (some ⟨lb,0,none⟩),.slice (some ⟨ob,off,none⟩) 1 cp,x6,x7,x8,x9,aa,ad,ag,ah,ai,aj,ak,al,am,ap,aq,ar,au,av,aw,ay,az,aA,aB,aC,aD,aE,aF,aG,aH,aI,aJ,aK,aL,aM,aN,aO,aP,aQ,aR,aS,aT,aU,aV,aW,aX,aY,aZ,bc,bf,bh,bi,bj,bk,.int .i64 0,.bool true,.bool true,.pointer (some ⟨lb,0,none⟩),.bool true,.bool true,.bool true,.slice (some ⟨ob,off,none⟩) 1 cp,.int .i64 1,.bool true,.bool true,.bool true,.slice (some ⟨ob,off,none⟩) 1 cp,.pointer (some ⟨ob,off,none⟩),F1,F0,.bool true,.bool true,.bool true,.pointer (some ⟨lb,0,none⟩),.int .i64 3,.bool true,.bool true],defers:=[] } (by kernel_rfl) (fun W hW=>by kernel_rfl) (by kernel_rfl) ?_
 exact hQ
theorem Os.later {w w':World}{v:Value}{l:List (Opn × Value)}(h:Os w v l) (hb:Below w.heap.size w w'):Os w' v l:=⟨Sl.below h.1 hb,fun p hp=>(h.2 p hp).below hb⟩
theorem syF_at {Fs:List (List Opn)}(k:Nat) (hk:k≤Fs.length) (h:Good Fs):syF Fs (10+szF (Fs.take k))=(Fs.take k).flatten.length:=by
 unfold syF
 rw [qyx Fs k _ hk (Nat.le_refl _) (fun hlt=>?_),qhp Fs k hk]
 rw [List.take_succ_eq_append_getElem hlt,qbw,qdd]
 omega
theorem qqv {B lb fb:Nat}{fv vo ve:Value}{r:Int}{Fs:List (List Opn)}{n R:Nat}{w:World}{l:List (Opn × Value)}(h:Lo B w lb fb fv vo ve r Fs n R l) (keep:Int) :
  Calls Tryz.prog 21 #[.pointer (some ⟨fb,0,none⟩),.int .i64 keep] w fun e w'=>e=.returned (.tuple #[])∧∃ fv',Fi B w' fb fv' ((lby r Fs).take (left keep (lby r Fs) n)) (left keep (lby r Fs) n) R∧Lx (Fb fb fv) (Fb fb fv') w w' :=
 (qsq h.lg.fi h.ns keep).mono fun e w' ⟨h1,h2⟩=>by
  obtain ⟨fv',h3,h4⟩:=h2.out (xs:=(lby r Fs).take (left keep (lby r Fs) n)) (n:=left keep (lby r Fs) n) (z:=0) rfl
  exact ⟨h1,fv',h3,qpg (B:=B) h4⟩
theorem qpi {keep:Int}{xs:List Int}{n:Nat}(h:n≤xs.length):n≤left keep xs n∧left keep xs n≤xs.length:=by
 unfold left
 omega
theorem one_of {q:List (Opn × Value)}{o:Opn}(h:fsts q=[[o]].flatten):∃ u,q=[(o,u)]:=by
 unfold fsts at h
 obtain ⟨a,ha,_⟩:∃ a,q=[a]∧a.1=o:=by
  rcases q with _ | ⟨a,_ | ⟨b,q⟩⟩
  ·simp at h
  ·exact ⟨a,rfl,by simpa using h⟩
  ·simp at h
 subst ha
 exact ⟨a.2,by simp at h;rw [←h]⟩
set_option maxHeartbeats 8000000 in
theorem qsl (w:World) (hL:Lay w):Calls Tryz.prog 4 #[] w fun e w'=>e=.returned (.bool true)∧Below w.heap.size w w':=by
 have HL:=hid hL
 have H2:=hid hL.two
 have ap1:apE 500 [] [foldN 1]=0:=by unfold apE;rw [qvu,qol,qfp];decide
 have af1:apF 500 [] [foldN 1]=[[foldN 1]]:=by unfold apF;rw [if_pos ap1];rfl
 have sz1:szF [[foldN 1]]=17:=by rw [qdd,qfp]
 have ap2:apE 500 [[foldN 1]] [foldN 2]=0:=by unfold apE;rw [qvt,sz1,qht];decide
 have af2:apF 500 [[foldN 1]] [foldN 2]=[[foldN 1],[foldN 2]]:=by unfold apF;rw [if_pos ap2];rfl
 have sz2:szF [[foldN 1],[foldN 2]]=34:=by rw [qcv,qdd,qfp,qht]
 have AP1:=hid ap1
 have AF1:=hid af1
 have AP2:=hid ap2
 have AF2:=hid af2
 have SZ1:=hid sz1
 have SZ2:=hid sz2
 clear hL ap1 af1 sz1 ap2 af2 sz2
 go_enter Tryz.func4,Tryz.ntmps4
 go_wp2_with fail
 refine (jad 500 (by decide)).mono ?_
 rintro e w1 ⟨rfl,b1,v1,hf1⟩
 obtain ⟨B,hB⟩:∃ B,w.heap.size=B:=⟨_,rfl⟩
 have HB:=hid hB
 rw [hB] at b1 hf1 ⊢
 have B1:=hid b1
 have F1:=hid hf1
 have S1:Hid (B≤w1.heap.size):=hid (by have:=hf1.lt;omega)
 clear b1 hf1 hB
 go_wp2_with fail
 refine (qkn F1.out (HL.out.low B1.out (by have:=H2.out;have:=HB.out;omega)) S1.out 3 (by decide) (by decide)).mono ?_
 rintro e w2 h2
 rcases h2 with ⟨hbad,_⟩ | ⟨_,lb,fv2,rfl,hlo2,hx2⟩
 ·exact absurd hbad (by decide)
 have L2:=hid hlo2
 have B2:Hid (Below B w w2):=hid (B1.out.trans (hx2.below (fun k hk=>by
  rcases hk with rfl | hk
  ·exact F1.out.2.1
  ·exact (F1.out.own.lt k hk).1) S1.out))
 have S2:Hid (B≤w2.heap.size):=hid (Nat.le_trans S1.out hx2.size)
 clear hlo2 hx2
 go_wp2_with fail
 refine (qjm 1 w2).mono ?_
 rintro e w3 ⟨rfl,b3⟩
 have L3:=hid (L2.out.below b3)
 have B3:=hid (B2.out.trans (b3.mono S2.out))
 have S3:Hid (B≤w3.heap.size):=hid (Nat.le_trans S2.out b3.size)
 clear b3
 have HA3:=hid (ba w3 (opo (foldN 1) (.slice none 0 0)))
 have Q3:=hid (Oq.one L3.out.lg (foldN 1) (.slice none 0 0) rfl (Cs.nil _))
 have S3':Hid (B≤(w3.alloc (opo (foldN 1) (.slice none 0 0))).heap.size):=hid (Nat.le_trans S3.out HA3.out.size)
 have B3':=hid (B3.out.trans (HA3.out.mono S3.out))
 go_wp2_with (first | (refine qdu rfl _ rfl (foldN 1) (.slice none 0 0) rfl ?_) | fail)
 refine (qgf (L3.out.below HA3.out) (HL.out.low B3'.out (by have:=H2.out;have:=HB.out;omega)) S3'.out Q3.out (fun p hp=>by rw [List.mem_singleton.1 hp];exact qkp 1) (by show 1≤_;decide)).mono ?_
 rintro e w4 ⟨rfl,fv4,vo4,ve4,l4,hlo4,hx4,_⟩
 rw [show fsts [(foldN 1,Value.slice none 0 0)]=[foldN 1] from rfl,AF1.out] at hlo4
 rw [show fsts [(foldN 1,Value.slice none 0 0)]=[foldN 1] from rfl,AP1.out]
 have L4:=hid hlo4
 have B4:=hid (B3'.out.trans ((L3.out.below HA3.out).lg.fr hx4 S3'.out))
 have S4:Hid (B≤w4.heap.size):=hid (Nat.le_trans S3'.out hx4.size)
 clear hlo4 hx4
 go_wp2_with fail
 refine (qve L4.out).mono ?_
 rintro e w5 ⟨rfl,fv5,vo5,ve5,l5,hlo5,hx5,_⟩
 have L5:=hid hlo5
 have B5:=hid (B4.out.trans (L4.out.lg.fr hx5 S4.out))
 have S5:Hid (B≤w5.heap.size):=hid (Nat.le_trans S4.out hx5.size)
 clear hlo5 hx5
 go_wp2_with fail
 refine (qjm 2 w5).mono ?_
 rintro e w6 ⟨rfl,b6⟩
 have L6:=hid (L5.out.below b6)
 have B6:=hid (B5.out.trans (b6.mono S5.out))
 have S6:Hid (B≤w6.heap.size):=hid (Nat.le_trans S5.out b6.size)
 clear b6
 have HA6:=hid (ba w6 (opo (foldN 2) (.slice none 0 0)))
 have Q6:=hid (Oq.one L6.out.lg (foldN 2) (.slice none 0 0) rfl (Cs.nil _))
 have S6':Hid (B≤(w6.alloc (opo (foldN 2) (.slice none 0 0))).heap.size):=hid (Nat.le_trans S6.out HA6.out.size)
 have B6':=hid (B6.out.trans (HA6.out.mono S6.out))
 go_wp2_with (first | (refine qdu rfl _ rfl (foldN 2) (.slice none 0 0) rfl ?_) | fail)
 refine (qgf (L6.out.below HA6.out) (HL.out.low B6'.out (by have:=H2.out;have:=HB.out;omega)) S6'.out Q6.out (fun p hp=>by rw [List.mem_singleton.1 hp];exact qkp 2) (by show 1≤_;decide)).mono ?_
 rintro e w7 ⟨rfl,fv7,vo7,ve7,l7,hlo7,hx7,_⟩
 rw [show fsts [(foldN 2,Value.slice none 0 0)]=[foldN 2] from rfl,AF2.out] at hlo7
 rw [show fsts [(foldN 2,Value.slice none 0 0)]=[foldN 2] from rfl,AP2.out]
 have hn27:(lby 3 [[foldN 1]]).length=27:=by rw [qbo (by decide) (by decide),SZ1.out]
 rw [hn27] at hlo7
 have L7:=hid hlo7
 have B7:=hid (B6'.out.trans ((L6.out.below HA6.out).lg.fr hx7 S6'.out))
 have S7:Hid (B≤w7.heap.size):=hid (Nat.le_trans S6'.out hx7.size)
 clear hlo7 hx7 hn27
 go_wp2_with fail
 refine (qqw L7.out).mono ?_
 rintro e w8 ⟨rfl,b8⟩
 rw [show (([[foldN 1],[foldN 2]].flatten.length:Nat):Int)=2 from rfl]
 have L8:=hid (L7.out.below b8)
 have B8:=hid (B7.out.trans (b8.mono S7.out))
 have S8:Hid (B≤w8.heap.size):=hid (Nat.le_trans S7.out b8.size)
 clear b8
 go_wp2_with fail
 refine (qnd L8.out).mono ?_
 rintro e w9 ⟨rfl,b9⟩
 have hsy:syF [[foldN 1],[foldN 2]] 27=1:=by
  have:=syF_at (Fs:=[[foldN 1],[foldN 2]]) 1 (by decide) L8.out.good
  rw [show [[foldN 1],[foldN 2]].take 1=[[foldN 1]] from rfl,SZ1.out] at this
  exact this
 rw [hsy]
 have L9:=hid (L8.out.below b9)
 have B9:=hid (B8.out.trans (b9.mono S8.out))
 have S9:Hid (B≤w9.heap.size):=hid (Nat.le_trans S8.out b9.size)
 clear b9 hsy
 go_wp2_with fail
 refine (qqv L9.out 5).mono ?_
 rintro e w10 ⟨rfl,fv10,hf10,hx10⟩
 have hall:(lby 3 [[foldN 1],[foldN 2]]).length=44:=by rw [qbo (by decide) (by decide),SZ2.out]
 have hlf:left 5 (lby 3 [[foldN 1],[foldN 2]]) 27=32:=by unfold left;rw [hall];rfl
 rw [hlf] at hf10
 obtain ⟨k,ys,hk,hk1,hk2,_,_,htl⟩:=Tl.cut L9.out.good (r:=3) (by decide) (by decide) 32 (by decide) (by rw [hall];decide)
 have hk1':k=1:=by
  have:k=0∨k=1∨k=2:=by simp at hk;omega
  rcases this with rfl | rfl | rfl
  ·have:=hk2 (by decide)
   rw [show [[foldN 1],[foldN 2]].take (0+1)=[[foldN 1]] from rfl,SZ1.out] at this
   omega
  ·rfl
  ·rw [show [[foldN 1],[foldN 2]].take 2=[[foldN 1],[foldN 2]] from rfl,SZ2.out] at hk1
   omega
 subst hk1'
 rw [show [[foldN 1],[foldN 2]].take 1=[[foldN 1]] from rfl] at htl
 have TL:=hid htl
 have F10:=hid hf10
 have B10:Hid (Below B w w10):=hid (B9.out.trans (hx10.below (fun k hk=>by
  rcases hk with rfl | hk
  ·exact L9.out.lg.fi.2.1
  ·exact (L9.out.lg.fi.own.lt k hk).1) S9.out))
 have S10:Hid (B≤w10.heap.size):=hid (Nat.le_trans S9.out hx10.size)
 clear hf10 hx10 hall hlf hk hk1 hk2 htl
 go_wp2_with fail
 refine (qyd F10.out (HL.out.low B10.out (by have:=H2.out;have:=HB.out;omega)) S10.out (by have:=H2.out;have:=HB.out;omega)).mono ?_
 rintro e w11 h11
 rcases h11 with ⟨hbad,_⟩ | ⟨r,Fs,lb11,vo11,ve11,fv11,l11,v11,q11,htl,rfl,hlo11,hq11,hfs11,hn11,hx11⟩
 ·have:=Tl.det hbad TL.out;cases this
 have hsome:=Tl.det htl TL.out
 simp only [Option.some.injEq,Prod.mk.injEq] at hsome
 obtain ⟨rfl,rfl⟩:=hsome
 obtain ⟨u,rfl⟩:=one_of hfs11
 have Q11:=hid hq11.os
 obtain ⟨ob,off,cp,rfl,hcp,hcm,hob,hcell⟩:=hq11.os.inv (Nat.succ_pos _)
 have HC:Hid (∀ j,j<20→w11.cell? ⟨ob,off+0*20+j,none⟩=(opl (foldN 1) u)[j]?):=hid (fun j hj=>hcell 0 (Nat.succ_pos _) j hj)
 have HOB:=hid hob
 have L11:=hid hlo11
 have B11:Hid (Below B w w11):=hid (B10.out.trans (hx11.below (fun k hk=>by
  rcases hk with rfl | hk
  ·exact F10.out.2.1
  ·exact (F10.out.own.lt k hk).1) S10.out))
 have CU:Hid (Cs w11 u []):=hid (hq11.os.2 (foldN 1,u) (by simp))
 have S11:Hid (B≤w11.heap.size):=hid (Nat.le_trans S10.out hx11.size)
 clear htl hlo11 hq11 hfs11 hn11 hx11 hcell hob
 go_wp2_with fail
 refine qpm w11 lb11 ob off cp (opv (foldN 1) (.slice none 0 0)) (opv (foldN 1) u) (fun W hW _ _ _ h1 h2=>qba h1 h2 (fun i hi=>by have h:=HC.out i hi;rw [Nat.zero_mul,Nat.add_zero] at h;exact (hW.cell HOB.out).trans h)) (qjm 1)
  (fun W hW=>(qhl (foldN 1) (foldN 1) u (.slice none 0 0) W (CU.out.below hW) (Cs.nil _)).mono fun _ _ ⟨r,h1,h2,h3⟩=>⟨by rw [h1,h2.2 rfl],h3⟩)
  (fun W hW=>qje (L11.out.below hW).lg) (fun W hW=>?_)
 have HB12:=hid (B11.out.trans (hW.mono S11.out))
 go_wp2_with fail
 go_ret
 exact ⟨rfl,by rw [HB.out];exact HB12.out⟩
end Go.Proofs.YtkcjkncpaopjbaaGreatDoor
