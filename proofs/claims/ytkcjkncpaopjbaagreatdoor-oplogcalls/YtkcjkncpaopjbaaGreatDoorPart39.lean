/-
  Parts of the proof, one behind the other; what each proves stands at its head.
-/
import Derived.Test.YtkcjkncpaopjbaaGreatDoorPart33
import Derived.Test.YtkcjkncpaopjbaaGreatDoorPart37
import Derived.Test.YtkcjkncpaopjbaaGreatDoorPart38
import Derived.Test.YtkcjkncpaopjbaaGreatDoorPart14

namespace Go.Proofs.YtkcjkncpaopjbaaGreatDoor
open Go.RowKit
set_option linter.unusedVariables false
set_option maxRecDepth 100000
def Ry (B:Nat) (w:World) (v:Value) (l:List (Opn × Value)):Prop:=w.ownsRow B 74 20 v l.length (l.flatMap opc)∧∀ p ∈ l,Cs w p.2 p.1.cuts∧Aw v p
theorem Ry.of {B:Nat}{w:World}{v:Value}{l:List (Opn × Value)}(h:Rw B w v l):Ry B w v l:=⟨h.1,h.2.2⟩
theorem Ry.below {B:Nat}{w w':World}{v:Value}{l:List (Opn × Value)}(h:Ry B w v l) (hb:Below w.heap.size w w'):Ry B w' v l :=
 ⟨qaz h.1 (Fr.of_below (S:=fun _=>False) hb) (fun _ _ e=>e),fun p hp=>⟨(h.2 p hp).1.below hb,(h.2 p hp).2⟩⟩
theorem Ry.os {B:Nat}{w:World}{v:Value}{l:List (Opn × Value)}(h:Ry B w v l):Os w v l:=⟨Sl.of_own h.1,fun p hp=>(h.2 p hp).1⟩
theorem Ry.app {B C m:Nat}{w w':World}{v v':Value}{l q:List (Opn × Value)}(h:Ry B w v l) (hm:q.length=m) (hown:w'.ownsRow B 74 20 v' (l.length+m) (l.flatMap opc++q.flatMap opc)) (hg:w.grownBy w' v.ownBlock) (hv:v'.ownBlock=v.ownBlock∨v'.ownBlock=some w.heap.size)
  (hc:∀ p ∈ q,Cs w p.2 p.1.cuts) (hn:Nw C q) (hC:∀ k,v.ownBlock=some k→k<C):Ry B w' v' (l++q):=by
 subst hm
 have hf:Fr (fun k=>v.ownBlock=some k) w w':=Fr.of_grown hg (fun k e=>e)
 refine ⟨by rw [List.length_append,List.flatMap_append];exact hown,fun p hp=>?_⟩
 have hpp:Cs w p.2 p.1.cuts∧Aw v p:=by
  rcases List.mem_append.1 hp with hp | hp
  ·exact h.2 p hp
  ·exact ⟨hc p hp,.inr (fun k hk e=>by have h1:=hn p hp k e;have h2:=hC k hk;omega)⟩
 exact ⟨hpp.2.kept hpp.1 hf,hpp.2.moved hpp.1 hv⟩
def TX (w:World) (lls:List (List (Opn × Value))) (v':Value) (w':World):Prop:=∃ l',Ry w.heap.size w' v' l'∧fsts l'=fsts lls.flatten∧Nw w.heap.size l'∧Below w.heap.size w w'
set_option maxHeartbeats 4000000 in
theorem qpz (r:Int) (vf ve:Value) (lls:List (List (Opn × Value))) (w:World) (hF:Oss w vf lls) (hve:∃ a n c,ve=.slice a n c) (hf:∀ l ∈ lls,∀ p ∈ l,p.1.cuts.length≤100000) (hn:lls.flatten.length≤1048576) :
  Calls Tryz.prog 25 #[.agg #[.int .i64 r,vf,ve]] w fun e w'=>∃ v',e=.returned v'∧TX w lls v' w':=by
 obtain ⟨a,c,rfl,hlc,hcm⟩:=hF.form
 unfold maxLen at hcm
 obtain ⟨ea,en,ec,rfl⟩:=hve
 obtain ⟨n,hnn⟩:∃ n,lls.length=n:=⟨_,rfl⟩
 have HN:=hid hnn
 have HF:=hid hF
 have HFF:=hid hf
 have hnm:n≤9223372036854775807:=by omega
 rw [hnn] at HF ⊢
 clear hlc hcm
 have hct:=cell_of_row (w.alloc (.cells #[.int .i64 r,.slice a n c,.slice ea en ec] 55)) w.heap.size 1 _ _ _ (heap_alloc_new w (.cells #[.int .i64 r,.slice a n c,.slice ea en ec] 55))
 simp only [List.getElem?_toArray,List.getElem?_cons_zero,List.getElem?_cons_succ] at hct
 have HCT:=hid hct
 obtain ⟨w1,hw1⟩:∃ w1,w.alloc (.cells #[.int .i64 r,.slice a n c,.slice ea en ec] 55)=w1:=⟨_,rfl⟩
 have hs1:w1.heap.size=w.heap.size+1:=by rw [←hw1];simp
 have HA1:=hid (ba w (.cells #[.int .i64 r,.slice a n c,.slice ea en ec] 55))
 rw [hw1] at HCT HA1
 have HW1:=hid hw1
 have HS1:=hid hs1
 have HR:=hid (Ry.of (Rw.made (B:=w.heap.size+1) (w:=w1) (by omega)))
 have HA2:=hid (ba w1 (.cells #[] 74))
 rw [hs1] at HA2 HR
 clear hF hf hnn hct hw1 hs1
 go_enter Tryz.func25,Tryz.ntmps25
 go_wp2
 rw [HW1.out]
 go_loopw [3,4] (fun o i wr=>∃ (k:Nat) (l':List (Opn × Value)),i=.int .i64 k∧k≤n∧Ry (w.heap.size+1) wr o l'∧fsts l'=fsts (lls.take k).flatten∧Nw (w.heap.size+1) l'∧Below (w.heap.size+1) w1 wr) (fun _ i _=>n - (intOf i).toNat)
 case atStart=>exact ⟨0,[],rfl,Nat.zero_le _,HR.out,rfl,Nw.nil _,HA2.out⟩
 case round =>
  obtain ⟨k,l',rfl,hk,hr,hfs,hnw,hb⟩:=hrel
  have R0:=hid hr
  obtain ⟨ao,co,rfl,_⟩:=qbe hr.1
  have HFS:=hid hfs
  have HNW:=hid hnw
  have B0:=hid hb
  have BW:Hid (Below w.heap.size w wr):=hid (HA1.out.trans (hb.mono (Nat.le_succ _)))
  have ct:wr.cell? ⟨w.heap.size,1,none⟩=some (.slice a n c):=(hb.cell (p:=⟨w.heap.size,1,none⟩) (Nat.lt_succ_self _)).trans HCT.out
  clear hr hfs hnw hb HR HA2
  by_cases hlt:k<n
  ·have hlt':(k:Int)<(n:Int):=by omega
   have hx:k<lls.length:=by rw [HN.out];exact hlt
   obtain ⟨b,off,c',u,e1,hbl,hc,ho⟩:=HF.out.at hx
   rw [HN.out] at e1
   simp only [Value.slice.injEq] at e1
   obtain ⟨rfl,-,rfl⟩:=e1
   obtain ⟨ql,hql⟩:∃ ql,lls[k]=ql:=⟨_,rfl⟩
   rw [hql] at ho
   have hc6:wr.cell? ⟨b,off+k,none⟩=some u:=(BW.out.cell hbl).trans hc
   have hst:lls.take (k+1)=lls.take k++[ql]:=by rw [List.take_succ_eq_append_getElem hx,hql]
   have hff:(lls.take (k+1)).flatten=(lls.take k).flatten++ql:=by rw [hst,List.flatten_append];simp
   have hlen:(lls.take k).flatten.length+ql.length≤1048576:=by
    have e:=congrArg List.length (congrArg List.flatten (List.take_append_drop (k+1) lls))
    rw [List.flatten_append,List.length_append,hff,List.length_append] at e
    omega
   have hL:l'.length=(lls.take k).flatten.length:=by
    have h:=congrArg List.length HFS.out
    simp only [fsts,List.length_map] at h
    exact h
   have HCP:=hid (qjv u ql wr (ho.later BW.out) (fun p hp=>HFF.out ql (by rw [←hql];exact List.getElem_mem hx) p hp) (by omega))
   obtain ⟨L,hLL⟩:∃ L,l'.length=L:=⟨_,rfl⟩
   obtain ⟨m,hm⟩:∃ m,ql.length=m:=⟨_,rfl⟩
   have hLm:L+m≤1048576:=by omega
   have HLL:=hid hLL
   have HM:=hid hm
   have HFL:=hid hff
   obtain ⟨ua,uc,rfl,_,_⟩:=Sl.form ho.1
   rw [hm] at HCP hc6
   rw [hLL]
   clear hc ho hst hff hlen hL hLL hm hql
   go_wp2_with fail
   refine HCP.out.mono ?_
   rintro e w2 ⟨v2,rfl,l2,hR2,hf2,hn2,b2⟩
   have R2:=hid (R0.out.below b2)
   have O2:=hid hR2.os
   have HF2:=hid hf2
   have HN2:=hid hn2
   have hl2:l2.length=m:=by have:=congrArg List.length hf2;rw [←HM.out];simpa [fsts] using this
   have HL2:=hid hl2
   have RO2:Hid (w2.ownsRow (w.heap.size+1) 74 20 (.slice ao L co) L (l'.flatMap opc)):=hid (by have:=R2.out.1;rw [HLL.out] at this;exact this)
   have SL2:Hid (Sl 20 w2 v2 m (l2.flatMap opc)):=hid (by have:=hR2.os.1;rw [hl2] at this;exact this)
   have hbo:(L+m)*192≤140737488355328:=by omega
   have hmo:L+m≤maxLen:=by unfold maxLen;omega
   have B2:=hid (B0.out.trans (b2.mono (by have:=HS1.out;have:=B0.out.size;omega)))
   have S2:Hid (w.heap.size+1≤w2.heap.size):=hid (by have h1:=HS1.out;have h2:=B2.out.size;omega)
   have HV2:Hid (∃ x n c,v2=.slice x n c):=hid (by obtain ⟨x,c,e⟩:=hR2.form;exact ⟨x,_,c,e⟩)
   clear hR2 hf2 hn2 b2 hl2 HCP
   go_wp2_with (first | (at_builtin;refine qbc 38 74 20 192 _ Tryz.underlying38 qlx rfl (Nat.succ_pos 19) rfl _ _ rfl (w.heap.size+1) (.slice ao L co) _ _ rfl RO2.out _ m (l2.flatMap opc) rfl SL2.out (qux O2.out) hbo hmo S2.out ?_;intro v9 w9 hown9 hg9 hv9;have HO9:=hid hown9;have HG9:=hid hg9;have HV9:=hid hv9;obtain ⟨a9,c9,rfl⟩:=qcx hown9;clear hown9 hg9 hv9) | fail)
   have R9:=hid (R2.out.app (C:=wr.heap.size) HL2.out (by rw [HLL.out];exact HO9.out) (by rw [HLL.out];exact HG9.out) (by rw [HLL.out];exact HV9.out) (fun p hp=>O2.out.2 p hp) HN2.out (fun j hj=>(R0.out.1.lt j hj).2))
   have B9:Hid (Below (w.heap.size+1) w1 w9):=hid (B2.out.trans ((Fr.of_grown (S:=fun j=>Value.ownBlock (.slice ao L co)=some j) HG9.out (fun j e=>e)).below (fun j hj e=>by have:=(RO2.out.lt j e).1;omega) S2.out))
   go_roundw
   case rel =>
    refine ⟨k+1,l'++l2,by go_num,hlt,R9.out,?_,fun p hp=>?_,B9.out⟩
    ·rw [HFL.out]
     have h1:=HFS.out
     have h2:=HF2.out
     unfold fsts at h1 h2 ⊢
     rw [List.map_append,List.map_append,h1,h2]
    ·rcases List.mem_append.1 hp with hp | hp
     ·exact HNW.out p hp
     ·intro j hj
      have h1:=HN2.out p hp j hj
      have h2:=HS1.out
      have h3:=B0.out.size
      omega
   case measure=>simp [intOf];omega
  ·have hlt':¬ (k:Int)<(n:Int):=by omega
   have htk:lls.take k=lls:=List.take_of_length_le (by rw [HN.out];omega)
   go_wp2
   go_ret
   exact ⟨_,rfl,l',⟨qgw R0.out.1 (Nat.le_succ _),R0.out.2⟩,by rw [HFS.out,htk],fun p hp j hj=>Nat.le_of_succ_le (HNW.out p hp j hj),BW.out⟩
theorem qrb (lls:List (List (Opn × Value))):lls.flatten.length=(lls.map fsts).flatten.length:=by
 induction lls with
 | nil=>rfl
 | cons l lls ih=>simp only [List.flatten_cons,List.map_cons,List.length_append,ih,fsts,List.length_map]
theorem qnj (lls:List (List (Opn × Value))):fsts lls.flatten=(lls.map fsts).flatten:=by
 induction lls with
 | nil=>rfl
 | cons l lls ih =>
  simp only [fsts] at ih ⊢
  simp only [List.flatten_cons,List.map_cons,List.map_append,ih]
theorem qnf {lls:List (List (Opn × Value))}(h:Good (lls.map fsts)):∀ l ∈ lls,∀ p ∈ l,p.1.cuts.length≤100000:=fun l hl p hp =>
 (qde ((h _ (List.mem_map_of_mem (f:=fsts) hl)).2.1 p.1 (List.mem_map_of_mem (f:=Prod.fst) hp))).2
theorem qld {B:Nat}{w:World}{r:Int}{vf ve:Value}{Fs:List (List Opn)}{lls:List (List (Opn × Value))}(h:To B w vf ve Fs lls) (hg:Good Fs) (hn:szF Fs≤1048576) :
  Calls Tryz.prog 25 #[tdv r vf ve] w fun e w'=>∃ v',e=.returned v'∧∃ l',Os w' v' l'∧fsts l'=Fs.flatten∧Below w.heap.size w w':=by
 have hfl:=h.fl
 refine (qpz r vf ve lls w h.oss (by obtain ⟨a,c,e,_⟩:=h.ends.form;exact ⟨a,_,c,e⟩) (qnf (by rw [hfl];exact hg)) (by rw [qrb,hfl];have:=qgc Fs;omega)).mono ?_
 rintro e w' ⟨v',rfl,l',h1,h2,_,h3⟩
 exact ⟨v',rfl,l',h1.os,by rw [h2,qnj,hfl],h3⟩
theorem quu {B m:Nat}{w:World}{v:Value}{xs:List Int}(h:w.ownsRow B 5 1 v m (cs xs)):Ow B w v xs:=by
 have h1:xs.length=m:=by have:=h.1;simpa [cs] using this
 show w.ownsRow B 5 1 v xs.length (cs xs)
 rw [h1]
 exact h
set_option maxHeartbeats 400000 in
theorem qmv (v:Value) (xs:List Int) (w:World) (h:Bs w v xs) (hl:xs.length≤65536) :
  Calls Tryz.prog 44 #[v] w fun e w'=>∃ v',e=.returned (.tuple #[v',.bool true])∧Ow w.heap.size w' v' (C.frame xs)∧Below w.heap.size w w':=by
 have hB:=hid h
 have hr:=hid h.range
 have hv:∃ a c,v=.slice a xs.length c:=by
  obtain ⟨a,c,e,_⟩:=h
  exact ⟨a,c,e⟩
 obtain ⟨a,c,rfl⟩:=hv
 clear h
 have hs:=C.sum_lt hr.out
 have HF:=hid (show C.frame xs=C.le xs.length++C.le (C.sum xs)++xs by rw [C.frame,List.append_assoc])
 obtain ⟨n,hn⟩:∃ n,xs.length=n:=⟨_,rfl⟩
 rw [hn] at hl hB HF ⊢
 have HN:=hid hn
 clear hn
 have hl':¬ (65536:Int)<(n:Int):=by omega
 go_enter Tryz.func44,Tryz.ntmps44
 go_wp2_with fail
 refine (qil n _ (by omega)).mono ?_
 rintro e w1 ⟨v1,rfl,hown1,b1⟩
 go_wp2_with fail
 refine (qfk _ xs _ (hB.out.below b1)).mono ?_
 rintro e w1' ⟨rfl,rfl⟩
 go_wp2_with fail
 refine (qil (C.sum xs) _ hs).mono ?_
 rintro e w2 ⟨v2,rfl,hown2,b2⟩
 have hown1':=qau hown1 b2
 have b12:=bt b1 b2
 have hv2:=Bs.of_own hown2 (C.le_bytes _)
 obtain ⟨a1,c1,rfl,_⟩:=qbb hown1
 obtain ⟨a2,c2,rfl,_⟩:=qbb hown2
 have HV2:=hid hv2
 clear hown1 hown2 hv2 b1 b2
 go_wp2_with (at_builtin;first
  | (refine qag rfl (.tmp 10) (.tmp 13) rfl w.heap.size _ _ (C.le n) rfl hown1' _ (C.le (C.sum xs)) rfl HV2.out (by rw [C.le_length];omega) b12.size ?_;intro v3 w3 hown3 hgrow3 hat3;rw [C.le_length] at hown3;obtain ⟨a3,c3,rfl,_⟩:=qbb hown3;have b13:Below w.heap.size w w3:=b12.grown hgrow3 b12.size (fun k hk=>(hown1'.lt k hk).1);have hB3:=hid (hB.out.below b13))
  | (refine qag rfl (.tmp 15) (.tmp 16) rfl w.heap.size _ _ _ rfl hown3 _ xs rfl hB3.out (by rw [HN.out];omega) b13.size ?_;intro v4 w4 hown4 hgrow4 hat4))
 go_ret2
 refine ⟨_,rfl,?_,b13.grown hgrow4 b13.size (fun k hk=>(hown3.lt k hk).1)⟩
 rw [HF.out]
 exact quu hown4
set_option maxHeartbeats 1000000 in
theorem qrk (r:Int) (w:World) (h0:0≤r) (h1:r≤15) :
  Calls Tryz.prog 10 #[.int .i64 r] w fun e w'=>∃ v',e=.returned v'∧Ow w.heap.size w' v' (C.frame (fb0 r))∧Below w.heap.size w w':=by
 have HFB:=hid (qhu h0 h1)
 have HFL:=hid (qcz h0 h1)
 have HE:Hid (fb0 r=[0]++M.enc r):=hid (by unfold fb0 encA;rfl)
 have HEB:=hid (M.enc_byte r h0 (by omega))
 have HEL:=hid (M.enc_length r)
 have hs1:M.sz r=1:=by
  have h2:=qcz h0 h1
  rw [HE.out,List.length_append,M.enc_length] at h2
  simp at h2
  omega
 have HS1:=hid hs1
 clear hs1
 go_enter Tryz.func10,Tryz.ntmps10
 go_wp2_with fail
 refine (qdh r w h0 (by omega)).mono ?_
 rintro e w1 ⟨g,rfl,ho1,b1⟩
 rw [HS1.out] at ho1 ⊢
 have B1:=hid b1
 have V1:Hid (Bs w1 (.slice (some ⟨g,0,none⟩) 1 1) (M.enc r)):=hid (Bs.of_own (by have:=HEL.out;rw [HS1.out] at this;exact ho1) HEB.out)
 have HA2:=hid (ba w1 (.cells #[.int .u8 0] 5))
 have O2:Hid ((w1.alloc (.cells #[.int .u8 0] 5)).ownsRow w1.heap.size 5 1 (.slice (some ⟨w1.heap.size,0,none⟩) 1 1) 1 (cs [0])):=hid (World.ownsRow_lit (base:=w1.heap.size) (e:=5) (size:=1) w1 #[.int .u8 0] 1 (Nat.le_refl _) (by decide) rfl)
 have V2:=hid (V1.out.below HA2.out)
 have S2:Hid (w1.heap.size≤(w1.alloc (.cells #[.int .u8 0] 5)).heap.size):=hid HA2.out.size
 have hel:(M.enc r).length=1:=by rw [HEL.out,HS1.out]
 have hb1:1+(M.enc r).length≤140737488355328:=by omega
 clear ho1 b1 hel
 go_wp2_with (first | (at_builtin;refine qag rfl _ _ rfl w1.heap.size _ 1 [0] rfl O2.out _ (M.enc r) rfl V2.out hb1 S2.out ?_;intro v3 w3 ho3 hg3 hv3;have HO3:=hid ho3;have B3:=hid ((HA2.out).trans ((Fr.of_grown (S:=fun k=>(Value.slice (some ⟨w1.heap.size,0,none⟩) 1 1).ownBlock=some k) hg3 (fun k e=>e)).below (fun k hk e=>by simp [Value.ownBlock] at e;omega) S2.out));obtain ⟨a3,c3,rfl,_⟩:=qbe ho3;clear ho3 hg3 hv3) | fail)
 have hl3:1+(M.enc r).length=2:=by rw [HEL.out,HS1.out]
 have V3:Hid (Bs w3 (.slice a3 (1+(M.enc r).length) c3) (fb0 r)):=hid (by
  have h:=HO3.out
  rw [HE.out]
  refine Bs.of_own (n:=1+(M.enc r).length) (by simpa [cs] using h) ?_
  rw [←HE.out];exact HFB.out)
 rw [hl3] at V3 ⊢
 clear hl3
 refine (qmv _ (fb0 r) w3 V3.out (by rw [HFL.out];decide)).mono ?_
 rintro e w4 ⟨v4,rfl,hv4,b4⟩
 have V4:=hid (Ow.mono hv4 (bt B1.out B3.out).size)
 have B4:=hid (bt (bt B1.out B3.out) b4)
 obtain ⟨a4,c4,rfl,_⟩:=hv4.form
 clear hv4 b4
 go_wp2
 go_ret
 exact ⟨_,rfl,V4.out,B4.out⟩
theorem qpo (X:List (List Opn)):∀ (l:List Opn) (d:List (List Opn)) (cur:List Opn) (z:Nat),l.foldl stepP (X++d,cur,z)=(X++(l.foldl stepP (d,cur,z)).1,(l.foldl stepP (d,cur,z)).2):=by
 intro l
 induction l with
 | nil=>intro d cur z;rfl
 | cons o l ih =>
  intro d cur z
  rw [List.foldl_cons,List.foldl_cons]
  unfold stepP
  dsimp only
  by_cases h:cur≠[]∧60000<M.sz ((cur.length+1:Nat):Int)+z+(encT o).length
  ·rw [if_pos h,if_pos h,List.append_assoc]
   exact ih _ _ _
  ·rw [if_neg h,if_neg h]
   exact ih _ _ _
theorem qsp:∀ (g:List Opn) (f:List Opn),(∀ j,j<g.length→f++g.take j≠[]→(encA (f++g.take (j+1))).length≤60000)→g.foldl stepP ([],f,(f.flatMap encT).length)=([],f++g,((f++g).flatMap encT).length):=by
 intro g
 induction g with
 | nil=>intro f _;simp
 | cons o g ih =>
  intro f hj
  rw [List.foldl_cons]
  have e:stepP ([],f,(f.flatMap encT).length) o=([],f++[o],((f++[o]).flatMap encT).length):=by
   unfold stepP
   dsimp only
   rw [if_neg]
   ·rw [List.flatMap_append,List.length_append];simp
   ·rintro ⟨h1,h2⟩
    have h3:=hj 0 (by simp) (by simpa using h1)
    simp only [List.take_succ_cons,List.take_zero] at h3
    rw [qjr] at h3
    omega
  rw [e,ih (f++[o]) (fun j hlt hne=>by
   have:=hj (j+1) (by simp;omega) (by simp)
   simpa using this)]
  simp
theorem quq {f rest:List Opn}(hne:f≠[]) (h1:∀ j,1≤j→j<f.length→(encA (f.take (j+1))).length≤60000) (h2:∀ o,rest.head?=some o→60000<(encA (f++[o])).length):partsP (f++rest)=f::partsP rest:=by
 have hf:f.foldl stepP ([],[],0)=([],f,(f.flatMap encT).length):=by
  have:=qsp f [] (fun j hlt hj=>by
   have hj1:1≤j:=by
    rcases Nat.eq_zero_or_pos j with e | e
    ·subst e;simp at hj
    ·exact e
   have:=h1 j hj1 hlt
   simpa using this)
  simpa using this
 cases rest with
 | nil =>
  rw [List.append_nil]
  unfold partsP foldP
  rw [hf]
  simp [hne]
 | cons o rest =>
  have h3:=h2 o rfl
  rw [qjr] at h3
  have e1:foldP (f++o::rest)=([f]++(rest.foldl stepP ([],[o],(encT o).length)).1,(rest.foldl stepP ([],[o],(encT o).length)).2):=by
   unfold foldP
   rw [List.foldl_append,hf,List.foldl_cons]
   have e:stepP ([],f,(f.flatMap encT).length) o=([f]++[],[o],(encT o).length):=by
    unfold stepP
    dsimp only
    rw [if_pos ⟨hne,by omega⟩]
    rfl
   rw [e,qpo]
  have e2:foldP (o::rest)=rest.foldl stepP ([],[o],(encT o).length):=by
   unfold foldP
   rw [List.foldl_cons]
   have e:stepP ([],[],0) o=([],[o],(encT o).length):=by
    unfold stepP
    dsimp only
    rw [if_neg (fun h=>h.1 rfl)]
    simp
   rw [e]
  unfold partsP
  rw [e1,e2]
  dsimp only
  split
  ·simp
  ·simp
theorem qvw (l:List (Opn × Value)) (k:Nat) (hk:k≤l.length):(l.drop k).flatMap opc=(l.flatMap opc).drop (k*20):=by
 have e:l.flatMap opc=(l.take k).flatMap opc++(l.drop k).flatMap opc:=by rw [←List.flatMap_append,List.take_append_drop]
 have hl:((l.take k).flatMap opc).length=k*20:=by rw [qbj opc 20 qeh,List.length_take,Nat.min_eq_left hk]
 rw [e,←hl,List.drop_left]
theorem qvv (l:List (Opn × Value)) (k:Nat) (hk:k≤l.length):(l.take k).flatMap opc=(l.flatMap opc).take (k*20):=by
 have e:l.flatMap opc=(l.take k).flatMap opc++(l.drop k).flatMap opc:=by rw [←List.flatMap_append,List.take_append_drop]
 have hl:((l.take k).flatMap opc).length=k*20:=by rw [qbj opc 20 qeh,List.length_take,Nat.min_eq_left hk]
 rw [e,←hl,List.take_left]
theorem Os.front {w:World}{a:Option Addr}{n c:Nat}{l:List (Opn × Value)}(h:Os w (.slice a n c) l) (k:Nat) (hk:k≤n):Os w (.slice a k c) (l.take k):=by
 obtain ⟨⟨h0,a',c',e1,e2,e3,e4,e5⟩,h6⟩:=h
 simp only [Value.slice.injEq] at e1
 obtain ⟨rfl,rfl,rfl⟩:=e1
 have hl:(l.take k).length=k:=by rw [List.length_take];omega
 refine ⟨⟨qbj opc 20 qeh _,a,c,by rw [hl],by omega,e3,e4,fun j u hu=>?_⟩,fun p hp=>h6 p (List.mem_of_mem_take hp)⟩
 rw [qvv l k hk] at hu
 exact e5 j u (by
  have hj:=(List.getElem?_eq_some_iff.1 hu).1
  rw [List.length_take] at hj
  rw [List.getElem?_take_of_lt (by omega)] at hu
  exact hu)
theorem Os.back {w:World}{b off n c:Nat}{l:List (Opn × Value)}(h:Os w (.slice (some ⟨b,off,none⟩) n c) l) (k:Nat) (hk:k≤n):Os w (.slice (some ⟨b,off+k*20,none⟩) (n - k) (c - k)) (l.drop k):=by
 obtain ⟨⟨h0,a',c',e1,e2,e3,e4,e5⟩,h6⟩:=h
 simp only [Value.slice.injEq] at e1
 obtain ⟨rfl,rfl,rfl⟩:=e1
 refine ⟨⟨qbj opc 20 qeh _,some ⟨b,off+k*20,none⟩,c - k,by rw [List.length_drop],by rw [List.length_drop];omega,by omega,(fun e=>by cases e),fun j u hu=>?_⟩,fun p hp=>h6 p (List.mem_of_mem_drop hp)⟩
 rw [qvw l k hk,List.getElem?_drop] at hu
 obtain ⟨b',off',e7,e8⟩:=e5 _ u hu
 simp only [Option.some.injEq,Addr.mk.injEq,and_true] at e7
 obtain ⟨rfl,rfl⟩:=e7
 exact ⟨b,off+k*20,rfl,by rw [Nat.add_assoc];exact e8⟩
theorem Os.void {w:World}{a:Option Addr}{c:Nat}(hc:c≤maxLen) (ha:a=none→c=0):Os w (.slice a 0 c) [] :=
 ⟨⟨rfl,a,c,rfl,Nat.zero_le _,hc,ha,fun j u hu=>by simp at hu⟩,fun p hp=>by cases hp⟩
theorem qoo {o:Oper}{a:Act}{x hi:Operand}{A:Option Addr}{n c t:Nat}{W:World}(ho:o.op=.slice 38 x none (some hi) none) (hx:a.eval x=.slice A n c) (hh:a.eval hi=.int .i64 (t:Nat)) (h2:t≤c) :
  (execOp a.eval o).run Tryz.prog W=.ok (.value (.slice A t c)) W:=by
 unfold execOp
 simp only [ho,hx,Option.map_some,Option.map_none,hh]
 have e6:(t:Int)≤(c:Int):=by omega
 simp [go_sem,e6]
theorem qtt {o:Oper}{a:Act}{x lo:Operand}{b off n c f:Nat}{W:World}(ho:o.op=.slice 38 x (some lo) none none) (hx:a.eval x=.slice (some ⟨b,off,none⟩) n c) (hl:a.eval lo=.int .i64 (f:Nat)) (h1:f≤n) (h2:f<c) (h3:n≤c) :
  (execOp a.eval o).run Tryz.prog W=.ok (.value (.slice (some ⟨b,off+f*20,none⟩) (n - f) (c - f))) W:=by
 unfold execOp
 simp only [ho,hx,Option.map_some,Option.map_none,hl]
 have e5:(f:Int)≤(n:Int):=by omega
 have e7:¬ c=f:=by omega
 simp [go_sem,e5,e7]
theorem qqi {o:Oper}{a:Act}{x lo:Operand}{A:Option Addr}{n:Nat}{W:World}(ho:o.op=.slice 38 x (some lo) none none) (hx:a.eval x=.slice A n n) (hl:a.eval lo=.int .i64 (n:Nat)) :
  (execOp a.eval o).run Tryz.prog W=.ok (.value (.slice A 0 0)) W:=by
 unfold execOp
 simp only [ho,hx,Option.map_some,Option.map_none,hl]
 simp [go_sem]
theorem qnn {o:Opn}(h:rightO o=true):(encA [o]).length≤501:=by
 rw [qre]
 have:=qen h
 omega
theorem qlu {l:List Opn}{k:Nat}(hr:∀ o ∈ l,rightO o=true) (hk1:1≤k) (hk:k≤l.length) (h:∀ j,1≤j→j<k→(encA (l.take (j+1))).length≤60000):(encA (l.take k)).length≤65536:=by
 by_cases h2:k=1
 ·subst h2
  cases l with
  | nil=>simp at hk
  | cons o l =>
   have:=qnn (hr o (by simp))
   simp only [List.take_succ_cons,List.take_zero]
   omega
 ·have:=h (k - 1) (by omega) (by omega)
  rw [show k - 1+1=k by omega] at this
  omega
theorem qji (l:List (Opn × Value)) (k:Nat):fsts (l.take k)=(fsts l).take k:=by unfold fsts;rw [List.map_take]
theorem qng (l:List (Opn × Value)) (k:Nat):fsts (l.drop k)=(fsts l).drop k:=by unfold fsts;rw [List.map_drop]
def Bw (m M:Nat) (va:Value) (rest:List (Opn × Value)):Prop:=(∀ k,va.ownBlock=some k→m≤k∧k<M)∧∀ p ∈ rest,p.1.cuts=[]∨∀ k,p.2.ownBlock=some k→m≤k∧k<M
theorem Os.held {S:Nat→Prop}{m M:Nat}{w w':World}{va:Value}{rest:List (Opn × Value)}(h:Os w va rest) (hb:Bw m M va rest) (hf:Fr S w w') (hs:∀ k,S k→k<m∨M≤k):Os w' va rest:=by
 refine ⟨Sl.kept h.1 (fun k hk hlt=>hf.block k hlt (fun e=>by have h1:=hs k e;have h2:=hb.1 k hk;omega)),fun p hp=>?_⟩
 have hc:=h.2 p hp
 rcases hb.2 p hp with e | e
 ·rw [e] at hc ⊢;exact hc.none
 ·exact Sl.kept hc (fun k hk hlt=>hf.block k hlt (fun e2=>by have h1:=hs k e2;have h2:=e k hk;omega))
theorem qmq {B:Nat}{w:World}{r:Int}{vf ve:Value}{Fs:List (List Opn)}{lls:List (List (Opn × Value))}(h:To B w vf ve Fs lls) (hg:Good Fs) (hn:szF Fs≤1048576) :
  Calls Tryz.prog 25 #[tdv r vf ve] w fun e w'=>∃ v',e=.returned v'∧∃ l',Os w' v' l'∧fsts l'=Fs.flatten∧Bw w.heap.size w'.heap.size v' l'∧Below w.heap.size w w':=by
 have hfl:=h.fl
 refine (qpz r vf ve lls w h.oss (by obtain ⟨a,c,e,_⟩:=h.ends.form;exact ⟨a,_,c,e⟩) (qnf (by rw [hfl];exact hg)) (by rw [qrb,hfl];have:=qgc Fs;omega)).mono ?_
 rintro e w' ⟨v',rfl,l',h1,h2,h4,h3⟩
 refine ⟨v',rfl,l',h1.os,by rw [h2,qnj,hfl],⟨fun k hk=>h1.1.lt k hk,fun p hp=>?_⟩,h3⟩
 by_cases hc:p.1.cuts=[]
 ·exact .inl hc
 ·exact .inr (fun k hk=>⟨h4 p hp k hk,(h1.2 p hp).1.blk hc hk⟩)
structure Kx (m M:Nat) (w wr:World) (r:Int) (L:List Opn) (vo va:Value) (rest:List (Opn × Value)) (Ps:List (List Opn)):Prop where
 out:Ow w.heap.size wr vo (lby r Ps)
 os:Os wr va rest
 bw:Bw m M va rest
 far:∀ k,vo.ownBlock=some k→k<m∨M≤k
 parts:partsP L=Ps++partsP (fsts rest)
 right:∀ o ∈ fsts rest,rightO o=true
 few:Ps.length+rest.length≤1000000
 size:szF Ps≤65544*Ps.length
 below:Below w.heap.size w wr
 big:M≤wr.heap.size
theorem Kx.later {m M:Nat}{w wr w':World}{r:Int}{L:List Opn}{vo va:Value}{rest:List (Opn × Value)}{Ps:List (List Opn)}(h:Kx m M w wr r L vo va rest Ps) (hb:Below wr.heap.size wr w'):Kx m M w w' r L vo va rest Ps :=
 ⟨qau h.out hb,⟨h.os.1.below hb,fun p hp=>(h.os.2 p hp).below hb⟩,h.bw,h.far,h.parts,h.right,h.few,h.size,bt h.below hb,Nat.le_trans h.big hb.size⟩
theorem Bw.sub {m M:Nat}{va va':Value}{rest rest':List (Opn × Value)}(h:Bw m M va rest) (hv:va'.ownBlock=va.ownBlock) (hs:∀ p ∈ rest',p ∈ rest):Bw m M va' rest':=⟨fun k hk=>h.1 k (hv▸hk),fun p hp=>h.2 p (hs p hp)⟩
theorem Kx.next {m M k:Nat}{w wr w':World}{r:Int}{L:List Opn}{vo vo' va va':Value}{rest:List (Opn × Value)}{Ps:List (List Opn)}(h:Kx m M w wr r L vo va rest Ps)
  (hk1:1≤k) (hk:k≤rest.length) (hj:∀ j,1≤j→j<k→(encA ((fsts rest).take (j+1))).length≤60000) (hx:∀ o,((fsts rest).drop k).head?=some o→60000<(encA ((fsts rest).take k++[o])).length)
  (hown:w'.ownsRow w.heap.size 5 1 vo' ((lby r Ps).length+(C.frame (encA ((fsts rest).take k))).length) (cs (lby r Ps++C.frame (encA ((fsts rest).take k))))) (hg:wr.grownBy w' vo.ownBlock) (hv:vo'.ownBlock=vo.ownBlock∨vo'.ownBlock=some wr.heap.size)
  (hos:Os w' va rest→Os w' va' (rest.drop k)) (hva:va'.ownBlock=va.ownBlock):Kx m M w w' r L vo' va' (rest.drop k) (Ps++[(fsts rest).take k]):=by
 have hfr:Fr (fun k=>vo.ownBlock=some k) wr w':=Fr.of_grown hg (fun k e=>e)
 have hl:(fsts rest).length=rest.length:=by simp [fsts]
 have hne:(fsts rest).take k≠[]:=fun e=>by
  have h1:=congrArg List.length e
  rw [List.length_take] at h1
  simp only [List.length_nil] at h1
  omega
 have hpl:=qlu h.right hk1 (by omega) hj
 have hcut:=quq (f:=(fsts rest).take k) (rest:=(fsts rest).drop k) hne (fun j h1 h2=>by
  rw [List.length_take] at h2
  rw [List.take_take,Nat.min_eq_left (by omega)]
  exact hj j h1 (by omega)) hx
 rw [List.take_append_drop] at hcut
 refine ⟨?_,hos (h.os.held h.bw hfr (fun k hk=>h.far k hk)),h.bw.sub hva (fun p hp=>List.mem_of_mem_drop hp),fun j hj=>?_,?_,fun o ho=>?_,?_,?_,?_,Nat.le_trans h.big hfr.size⟩
 ·rw [qfo]
  exact quu hown
 ·rcases hv with e | e
  ·exact h.far j (e▸hj)
  ·rw [e] at hj
   have:=h.big
   simp only [Option.some.injEq] at hj
   omega
 ·rw [h.parts,hcut,qng,List.append_assoc]
  rfl
 ·rw [qng] at ho
  exact h.right o (List.mem_of_mem_drop ho)
 ·have:=h.few
  rw [List.length_append,List.length_drop,List.length_singleton]
  omega
 ·rw [qbw,qdd,List.length_append,List.length_singleton]
  have:=h.size
  omega
 ·exact h.below.trans (hfr.below (fun j hj e=>by have:=(h.out.lt j e).1;omega) h.below.size)
set_option maxHeartbeats 8000000 in
theorem qhz {B b R:Nat}{s lv:Value}{xs ys:List Int}{w:World}(hB:B≤w.heap.size) (h:Re B w b s lv xs ys R) {r:Int}{Fs:List (List Opn)}(hT:Tl (xs++ys) (some (r,Fs))) (hz:szF Fs≤1048576) (hq:Fs.flatten.length≤1000000) :
  Calls Tryz.prog 20 #[.pointer (some ⟨b,0,none⟩)] w fun e w'=>XA B b R s lv (rrep R (lby r (partsP Fs.flatten)) xs ys) w e w':=by
 have HF:=hid h
 have HT:=hid hT
 have HLN:Hid ((xs++ys).length≤2097152):=hid (by have h1:=h.len;have h2:=h.lim;rw [List.length_append];omega)
 obtain ⟨PP,hPP⟩:∃ PP,rrep R (lby r (partsP Fs.flatten)) xs ys=PP:=⟨_,rfl⟩
 have HPP:=hid hPP
 rw [hPP]
 clear h hT hPP
 go_enter Tryz.func20,Tryz.ntmps20
 go_wp2_with fail
 refine (qfl HF.out).mono ?_
 rintro e w1 ⟨v1,rfl,ho1,b1⟩
 have V1:=hid (ho1.bs (HF.out.bs.append HF.out.bl))
 have B1:=hid b1
 obtain ⟨a1,c1,rfl⟩:=V1.out.form
 obtain ⟨N,hN⟩:∃ N,(xs++ys).length=N:=⟨_,rfl⟩
 have HN:=hid hN
 rw [hN] at V1 HLN ⊢
 clear ho1 b1 hN
 go_wp2_with fail
 refine (qin _ (xs++ys) w1 V1.out (by rw [HN.out];have:=HLN.out;omega)).mono ?_
 rintro e w2 (⟨htl,_⟩ | ⟨r',Gs,vf,ve,lls,htl,hgd,hr0,hr1,hsz,rfl,hto,b2⟩)
 ·have:=Tl.det HT.out htl
  cases this
 ·have hdt:=Tl.det HT.out htl
  simp only [Option.some.injEq,Prod.mk.injEq] at hdt
  obtain ⟨rfl,rfl⟩:=hdt
  have HGD:=hid hgd
  have HR0:=hid hr0
  have HR1:=hid hr1
  have B2:=hid (bt B1.out b2)
  have TO2:=hid hto
  have HSF:Hid ((∃ va n vc,vf=.slice va n vc)∧∃ va n vc,ve=.slice va n vc):=hid (by
   obtain ⟨us,_,h2,_⟩:=hto.us
   obtain ⟨va,vc,e,_⟩:=h2.form
   obtain ⟨va2,vc2,e2,_⟩:=hto.ends.form
   exact ⟨⟨_,_,_,e⟩,⟨_,_,_,e2⟩⟩)
  clear htl hgd hr0 hr1 hsz hto b2
  go_upto_region 4 with (first
   | (refine qbx rfl rfl ?_;intro w3 hr3 hb3 hlt3;have HK:=hid hr3;have HB3:=hid hb3;clear hr3 hb3 hlt3)
   | (refine qas rfl rfl rfl rfl HSF.out HK.out ?_;intro w4 hr4 hf4;have K4:=hid hr4;have HB4:=hid (qaa HB3.out hf4 (Nat.le_refl _));clear hr4 hf4 HK HB3)
   | fail)
  have B4:=hid (bt B2.out HB4.out)
  have TO4:=hid (TO2.out.below HB4.out)
  obtain ⟨tb,htb⟩:∃ r,w2.heap.size=r:=⟨_,rfl⟩
  rw [htb] at K4 ⊢
  clear htb TO2 B2
  obtain ⟨tc0,-,-⟩:=K4.out.cells
  go_wp2_with fail
  refine (qrk r w4 HR0.out HR1.out).mono ?_
  rintro e w5 ⟨v5,rfl,hv5,b5⟩
  have V5:=hid hv5
  have K5:=hid (K4.out.below b5)
  have TO5:=hid (TO4.out.below b5)
  have B5:=hid (bt B4.out b5)
  have S5:Hid (w.heap.size≤w4.heap.size):=hid B4.out.size
  obtain ⟨a5,c5,rfl,_⟩:=hv5.form
  clear hv5 b5 tc0 K4 TO4 B4
  go_wp2_with (first | (refine qfb rfl rfl rfl K5.out ?_) | fail)
  refine (qmq TO5.out HGD.out hz).mono ?_
  rintro e w6 ⟨v6,rfl,l6,ho6,hf6,hb6,b6⟩
  have HF6:=hid hf6
  have KX:Hid (Kx w5.heap.size w6.heap.size w w6 r Fs.flatten (.slice a5 (C.frame (fb0 r)).length c5) v6 l6 []):=hid ⟨by
    have e:lby r []=C.frame (fb0 r):=by rw [qcy];simp [C.cat]
    rw [e]
    exact qau (Ow.mono V5.out S5.out) b6,ho6,hb6,fun k hk=>.inl (V5.out.lt k hk).2,by rw [hf6];rfl,fun o ho=>by
     rw [hf6] at ho
     obtain ⟨f,hf,hm⟩:=List.mem_flatten.1 ho
     exact (HGD.out f hf).2.1 o hm,by
     have h1:=congrArg List.length hf6
     simp only [fsts,List.length_map] at h1
     simp only [List.length_nil]
     omega,Nat.zero_le _,bt B5.out b6,Nat.le_refl _⟩
  obtain ⟨a6,c6,rfl,_,_⟩:=ho6.1.form
  obtain ⟨M1,hM1⟩:∃ M1,w5.heap.size=M1:=⟨_,rfl⟩
  obtain ⟨M2,hM2⟩:∃ M2,w6.heap.size=M2:=⟨_,rfl⟩
  rw [hM1,hM2] at KX
  clear ho6 hf6 hb6 b6 V5 K5 TO5 B5 hM1 hM2
  go_wp2_with fail
  go_loopw [5,6] (fun out all wr=>∃ (Ps:List (List Opn)) (rest:List (Opn × Value)) (a2:Option Addr) (c2:Nat),all=.slice a2 rest.length c2∧(∃ x n c,out=.slice x n c)∧Kx M1 M2 w wr r Fs.flatten out all rest Ps) (fun _ all _=>match all with | .slice _ n _=>n | _=>0)
  case atStart=>exact ⟨[],l6,_,_,rfl,⟨_,_,_,rfl⟩,KX.out⟩
  case round =>
   obtain ⟨Ps,rest,a2,c2,rfl,⟨ax,nx,cx,rfl⟩,hkx⟩:=hrel
   have KY:=hid hkx
   clear hkx KX
   obtain ⟨n,hnn⟩:∃ n,rest.length=n:=⟨_,rfl⟩
   have HNN:=hid hnn
   have hnm:n≤1000000:=by have:=KY.out.few;omega
   rw [hnn] at KY ⊢
   clear hnn
   by_cases hn0:0<n
   ·have hn0':(0:Int)<(n:Int):=by omega
    obtain ⟨b2,off,c',e1,hnc,hcm,hbl2,_⟩:=KY.out.os.inv (by rw [HNN.out];exact hn0)
    rw [HNN.out] at e1 hnc
    simp only [Value.slice.injEq] at e1
    obtain ⟨rfl,-,rfl⟩:=e1
    go_wp2_with fail
    go_loopw [7] (fun i wr'=>∃ k:Nat,i=.int .i64 k∧1≤k∧k≤n∧(∀ j,1≤j→j<k→(encA ((fsts rest).take (j+1))).length≤60000)∧Below wr.heap.size wr wr') (fun i _=>n - (intOf i).toNat)
    case atStart=>exact ⟨1,rfl,Nat.le_refl _,hn0,fun j h1 h2=>by omega,Below.refl _ _⟩
    case round =>
     obtain ⟨k,rfl,hk1,hkn,hj,hb7⟩:=hrel
     have KZ:=hid (KY.out.later hb7)
     have HB7:=hid hb7
     clear hb7
     by_cases hlt:k<n
     ·have hlt':(k:Int)<(n:Int):=by omega
      have hk1c:k+1≤c2:=by omega
      have OK8:=hid (KZ.out.os.front (k+1) hlt)
      have HFT1:=hid (show fsts (rest.take (k+1))=(fsts rest).take (k+1) from qji rest (k+1))
      have HRT1:Hid (((fsts rest).take (k+1)).all rightO=true):=hid (by rw [List.all_eq_true];exact fun o ho=>KZ.out.right o (List.mem_of_mem_take ho))
      have HXE:=hid (qft _ (rest.take (k+1)) _ OK8.out (fun p hp=>(qde (KZ.out.right p.1 (List.mem_map_of_mem (f:=Prod.fst) (List.mem_of_mem_take hp)))).1) (by have h1:=KZ.out.few;rw [HNN.out] at h1;rw [List.length_take];omega))
      rw [HFT1.out,HRT1.out] at HXE
      have hdh:(fsts rest).drop k≠[]:=fun e=>by
       have h1:=congrArg List.length e
       rw [List.length_drop] at h1
       simp only [fsts,List.length_map,List.length_nil,HNN.out] at h1
       omega
      have HDH:=hid hdh
      clear hdh OK8
      go_wp2_with (first | (refine qak _ rfl (qoo (t:=k+1) rfl rfl rfl hk1c) ?_) | fail)
      refine HXE.out.mono ?_
      rintro e w7 ⟨v7,rfl,hv7,b7⟩
      rw [if_pos trivial] at hv7
      have hv7':=hv7
      obtain ⟨a7,c7,rfl⟩:=hv7'.form
      obtain ⟨E,hE⟩:∃ E,(encA ((fsts rest).take (k+1))).length=E:=⟨_,rfl⟩
      rw [hE]
      have HE:=hid hE
      have HJ0:=hid hj
      have HB8:=hid (HB7.out.trans (b7.mono HB7.out.size))
      replace KZ:=hid (KZ.out.later b7)
      clear hv7 hv7' hE b7 HXE hj
      by_cases hbig:60000<E
      ·have hbig':(60000:Int)<(E:Int):=by omega
       have hj:=HJ0.out
       have hx:∀ o,((fsts rest).drop k).head?=some o→60000<(encA ((fsts rest).take k++[o])).length:=fun o ho=>by
        have h1:(fsts rest).take (k+1)=(fsts rest).take k++[o]:=by
         have hl:k<(fsts rest).length:=by simp only [fsts,List.length_map];rw [HNN.out];exact hlt
         rw [List.take_succ_eq_append_getElem hl]
         have h2:=List.drop_eq_getElem_cons hl
         rw [h2] at ho
         simp only [List.head?_cons,Option.some.injEq] at ho
         rw [ho]
        rw [←h1,HE.out]
        exact hbig
       have HK1:=hid hk1
       have HKN:=hid hkn
       have HJ:=hid hj
       have HX:=hid hx
       have hrl:((fsts rest).take k).length≤1000000:=by have h1:=KZ.out.few;rw [List.length_take];simp only [fsts,List.length_map];omega
       have hkc:k≤c2:=by omega
       have HFT:=hid (show fsts (rest.take k)=(fsts rest).take k from qji rest k)
       have OK9:=hid (KZ.out.os.front k hkn)
       have HPL:=hid (qlu KZ.out.right hk1 (by simp only [fsts,List.length_map];rw [HNN.out];exact hkn) hj)
       have HRT:Hid (((fsts rest).take k).all rightO=true):=hid (by rw [List.all_eq_true];exact fun o ho=>KZ.out.right o (List.mem_of_mem_take ho))
       have HXF:=hid (qhf _ (rest.take k) _ OK9.out (fun p hp=>(qde (KZ.out.right p.1 (List.mem_map_of_mem (f:=Prod.fst) (List.mem_of_mem_take hp)))).1) (by have h1:=hrl;rw [←HFT.out] at h1;simpa [fsts] using h1))
       rw [HFT.out] at HXF
       clear hk1 hkn hj hx
       go_wp2_with (first | (refine qak _ rfl (qoo rfl rfl rfl hkc) ?_) | fail)
       refine HXF.out.mono ?_
       rintro e w8 ⟨v8,ok,rfl,hok,hv8,⟨a8,n8,c8,rfl⟩,b8⟩
       obtain rfl:ok=true:=by rw [hok];simp [HRT.out,HPL.out]
       have V8:=hid (hv8 rfl)
       have KV:=hid (KZ.out.later b8)
       obtain ⟨FB,hFB⟩:∃ FB,C.frame (encA ((fsts rest).take k))=FB:=⟨_,rfl⟩
       have HFB:=hid hFB
       have hfl:FB.length≤65544:=by rw [←hFB,C.frame_length];have:=HPL.out;omega
       rw [hFB] at V8
       have OW:=hid KV.out.out
       have hol:(lby r Ps).length≤68720000000:=by rw [qbo HR0.out HR1.out];have h1:=KV.out.size;have h2:=KV.out.few;omega
       have hsum:(lby r Ps).length+FB.length≤140737488355328:=by omega
       have SW:=hid KV.out.below.size
       clear hok hv8 b8 hFB hfl hol HXF OK9
       by_cases hck:k<c2
       ·have hkn2:k≤n:=HKN.out
        have hnc2:n≤c2:=hnc
        go_wp2_with (first
         | (at_builtin;refine qag rfl _ _ rfl w.heap.size (.slice ax nx cx) (lby r Ps).length (lby r Ps) rfl OW.out _ FB rfl V8.out hsum SW.out ?_;intro v9 w9 ho9 hg9 hv9;have HO9:=hid ho9;have HG9:=hid hg9;have HV9:=hid hv9;obtain ⟨a9,c9,rfl,_⟩:=qbe ho9;clear ho9 hg9 hv9)
         | (refine qak _ rfl (qtt rfl rfl rfl hkn2 hck hnc2) ?_)
         | fail)
        have KN:=hid (KV.out.next (va':=.slice (some ⟨b2,off+k*20,none⟩) (n - k) (c2 - k)) HK1.out (by rw [HNN.out];exact HKN.out) HJ.out HX.out (by rw [HFB.out];exact HO9.out) HG9.out HV9.out (fun h=>h.back k HKN.out) rfl)
        go_roundw
        case rel=>exact ⟨Ps++[(fsts rest).take k],rest.drop k,some ⟨b2,off+k*20,none⟩,c2 - k,by rw [List.length_drop,HNN.out],⟨_,_,_,rfl⟩,KN.out⟩
        case measure=>have:=HK1.out;have:=HKN.out;simp;omega
       ·have hck':c2=k:=by omega
        have hnk:n=k:=by have:=HKN.out;omega
        subst hck'
        subst hnk
        go_wp2_with (first
         | (at_builtin;refine qag rfl _ _ rfl w.heap.size (.slice ax nx cx) (lby r Ps).length (lby r Ps) rfl OW.out _ FB rfl V8.out hsum SW.out ?_;intro v9 w9 ho9 hg9 hv9;have HO9:=hid ho9;have HG9:=hid hg9;have HV9:=hid hv9;obtain ⟨a9,c9,rfl,_⟩:=qbe ho9;clear ho9 hg9 hv9)
         | (refine qak _ rfl (qqi rfl rfl rfl) ?_)
         | fail)
        have hdr:rest.drop n=[]:=List.drop_of_length_le (by rw [HNN.out];exact Nat.le_refl _)
        have KN:=hid (KV.out.next (va':=.slice (some ⟨b2,off,none⟩) 0 0) HK1.out (by rw [HNN.out];exact HKN.out) HJ.out HX.out (by rw [HFB.out];exact HO9.out) HG9.out HV9.out (fun h=>by rw [hdr];exact Os.void (by decide) (fun e=>by cases e)) rfl)
        go_roundw
        case rel=>exact ⟨Ps++[(fsts rest).take n],rest.drop n,some ⟨b2,off,none⟩,0,by rw [hdr];rfl,⟨_,_,_,rfl⟩,KN.out⟩
        case measure=>simp;omega
      ·have hbig':¬ (60000:Int)<(E:Int):=by omega
       go_wp2
       go_roundw
       case rel=>exact ⟨k+1,by go_num,by omega,hlt,fun j h1 h2=>by
        by_cases e:j=k
        ·subst e;rw [HE.out];omega
        ·exact HJ0.out j h1 (by omega),HB8.out⟩
       case measure=>simp [intOf];omega
     ·have hlt':¬ (k:Int)<(n:Int):=by omega
      have hx:∀ o,((fsts rest).drop k).head?=some o→60000<(encA ((fsts rest).take k++[o])).length:=fun o ho=>by
       rw [List.drop_of_length_le (by simp only [fsts,List.length_map];rw [HNN.out];omega)] at ho
       cases ho
      have HK1:=hid hk1
      have HKN:=hid hkn
      have HJ:=hid hj
      have HX:=hid hx
      have hrl:((fsts rest).take k).length≤1000000:=by have h1:=KZ.out.few;rw [List.length_take];simp only [fsts,List.length_map];omega
      have hkc:k≤c2:=by omega
      have HFT:=hid (show fsts (rest.take k)=(fsts rest).take k from qji rest k)
      have OK9:=hid (KZ.out.os.front k hkn)
      have HPL:=hid (qlu KZ.out.right hk1 (by simp only [fsts,List.length_map];rw [HNN.out];exact hkn) hj)
      have HRT:Hid (((fsts rest).take k).all rightO=true):=hid (by rw [List.all_eq_true];exact fun o ho=>KZ.out.right o (List.mem_of_mem_take ho))
      have HXF:=hid (qhf _ (rest.take k) _ OK9.out (fun p hp=>(qde (KZ.out.right p.1 (List.mem_map_of_mem (f:=Prod.fst) (List.mem_of_mem_take hp)))).1) (by have h1:=hrl;rw [←HFT.out] at h1;simpa [fsts] using h1))
      rw [HFT.out] at HXF
      clear hk1 hkn hj hx
      go_wp2_with (first | (refine qak _ rfl (qoo rfl rfl rfl hkc) ?_) | fail)
      refine HXF.out.mono ?_
      rintro e w8 ⟨v8,ok,rfl,hok,hv8,⟨a8,n8,c8,rfl⟩,b8⟩
      obtain rfl:ok=true:=by rw [hok];simp [HRT.out,HPL.out]
      have V8:=hid (hv8 rfl)
      have KV:=hid (KZ.out.later b8)
      obtain ⟨FB,hFB⟩:∃ FB,C.frame (encA ((fsts rest).take k))=FB:=⟨_,rfl⟩
      have HFB:=hid hFB
      have hfl:FB.length≤65544:=by rw [←hFB,C.frame_length];have:=HPL.out;omega
      rw [hFB] at V8
      have OW:=hid KV.out.out
      have hol:(lby r Ps).length≤68720000000:=by rw [qbo HR0.out HR1.out];have h1:=KV.out.size;have h2:=KV.out.few;omega
      have hsum:(lby r Ps).length+FB.length≤140737488355328:=by omega
      have SW:=hid KV.out.below.size
      clear hok hv8 b8 hFB hfl hol HXF OK9
      by_cases hck:k<c2
      ·have hkn2:k≤n:=HKN.out
       have hnc2:n≤c2:=hnc
       go_wp2_with (first
        | (at_builtin;refine qag rfl _ _ rfl w.heap.size (.slice ax nx cx) (lby r Ps).length (lby r Ps) rfl OW.out _ FB rfl V8.out hsum SW.out ?_;intro v9 w9 ho9 hg9 hv9;have HO9:=hid ho9;have HG9:=hid hg9;have HV9:=hid hv9;obtain ⟨a9,c9,rfl,_⟩:=qbe ho9;clear ho9 hg9 hv9)
        | (refine qak _ rfl (qtt rfl rfl rfl hkn2 hck hnc2) ?_)
        | fail)
       have KN:=hid (KV.out.next (va':=.slice (some ⟨b2,off+k*20,none⟩) (n - k) (c2 - k)) HK1.out (by rw [HNN.out];exact HKN.out) HJ.out HX.out (by rw [HFB.out];exact HO9.out) HG9.out HV9.out (fun h=>h.back k HKN.out) rfl)
       go_roundw
       case rel=>exact ⟨Ps++[(fsts rest).take k],rest.drop k,some ⟨b2,off+k*20,none⟩,c2 - k,by rw [List.length_drop,HNN.out],⟨_,_,_,rfl⟩,KN.out⟩
       case measure=>have:=HK1.out;have:=HKN.out;simp;omega
      ·have hck':c2=k:=by omega
       have hnk:n=k:=by have:=HKN.out;omega
       subst hck'
       subst hnk
       go_wp2_with (first
        | (at_builtin;refine qag rfl _ _ rfl w.heap.size (.slice ax nx cx) (lby r Ps).length (lby r Ps) rfl OW.out _ FB rfl V8.out hsum SW.out ?_;intro v9 w9 ho9 hg9 hv9;have HO9:=hid ho9;have HG9:=hid hg9;have HV9:=hid hv9;obtain ⟨a9,c9,rfl,_⟩:=qbe ho9;clear ho9 hg9 hv9)
        | (refine qak _ rfl (qqi rfl rfl rfl) ?_)
        | fail)
       have hdr:rest.drop n=[]:=List.drop_of_length_le (by rw [HNN.out];exact Nat.le_refl _)
       have KN:=hid (KV.out.next (va':=.slice (some ⟨b2,off,none⟩) 0 0) HK1.out (by rw [HNN.out];exact HKN.out) HJ.out HX.out (by rw [HFB.out];exact HO9.out) HG9.out HV9.out (fun h=>by rw [hdr];exact Os.void (by decide) (fun e=>by cases e)) rfl)
       go_roundw
       case rel=>exact ⟨Ps++[(fsts rest).take n],rest.drop n,some ⟨b2,off,none⟩,0,by rw [hdr];rfl,⟨_,_,_,rfl⟩,KN.out⟩
       case measure=>simp;omega
   ·have hn0':¬ (0:Int)<(n:Int):=by omega
    have hrn:rest=[]:=List.eq_nil_of_length_eq_zero (by rw [HNN.out];omega)
    have hps:partsP Fs.flatten=Ps:=by
     have h1:=KY.out.parts
     rw [hrn] at h1
     rw [h1]
     simp [fsts,partsP,foldP]
    have HRE:=hid (HF.out.below KY.out.below)
    have BY:=hid KY.out.below
    have VO:=hid (Bs.of_own KY.out.out (by
     rw [←hps]
     exact qvh (qge (fun o ho=>by
      obtain ⟨f,hf,hm⟩:=List.mem_flatten.1 ho
      exact (HGD.out f hf).2.1 o hm)) HR0.out HR1.out))
    have SB:=hid (Nat.le_trans hB BY.out.size)
    rw [hps] at HPP
    obtain ⟨z,hz2⟩:∃ z,(rrep R (lby r Ps) xs ys).1=z:=⟨_,rfl⟩
    have HZ:=hid hz2
    clear hrn hps
    go_wp2_with fail
    refine (qfd SB.out HRE.out _ (lby r Ps) VO.out).mono ?_
    rintro e w9 ⟨rfl,ho9⟩
    rw [hz2]
    have HO9:=hid (ho9.before BY.out)
    clear ho9 hz2
    go_wp2
    go_ret
    refine ⟨by rw [←HPP.out,HZ.out];rfl,?_⟩
    rw [←HPP.out]
    exact HO9.out
end Go.Proofs.YtkcjkncpaopjbaaGreatDoor
