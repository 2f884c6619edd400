/-
  Parts of the proof, one behind the other; what each proves stands at its head.
-/
import Derived.Test.YtkcjkncpaopjbaaGreatDoorPart36
import Derived.Test.YtkcjkncpaopjbaaGreatDoorPart30
import Derived.Test.YtkcjkncpaopjbaaGreatDoorPart35
import Derived.Test.YtkcjkncpaopjbaaGreatDoorPart10
import Derived.Test.YtkcjkncpaopjbaaGreatDoorPart6
import Derived.Test.YtkcjkncpaopjbaaGreatDoorPart14
import Derived.Test.YtkcjkncpaopjbaaGreatDoorPart25
import Derived.Test.YtkcjkncpaopjbaaGreatDoorPart13

namespace Go.Proofs.YtkcjkncpaopjbaaGreatDoor
open Go.RowKit
set_option linter.unusedVariables false
set_option maxRecDepth 100000
def longB (l:List (Opn × Value)) (most:Nat):Bool:=decide (most<l.length) || !l.all (fun p=>small p.1)
set_option maxHeartbeats 1000000 in
theorem qqu (v:Value) (l:List (Opn × Value)) (most:Nat) (w:World) (h:Os w v l) (hm:most≤1000) :
  Calls Tryz.prog 38 #[v,.int .i64 most] w fun e w'=>e=.returned (.bool (longB l most))∧w=w':=by
 by_cases hl:most<l.length
 ·have e:longB l most=true:=by unfold longB;simp [hl]
  rw [e]
  obtain ⟨a,c,rfl,_,_⟩:=Sl.form h.1
  obtain ⟨n,hn⟩:∃ n,l.length=n:=⟨_,rfl⟩
  rw [hn] at hl ⊢
  have hd:(most:Int)<(n:Int):=by omega
  clear h hn e
  go_enter Tryz.func38,Tryz.ntmps38
  go_wp2
  go_ret
  exact ⟨rfl,rfl⟩
 ·have e:longB l most=!l.all (fun p=>small p.1):=by unfold longB;simp [hl]
  rw [e]
  exact qyk v l most w h (by omega) hm
theorem qyl {l:List (Opn × Value)}{most:Nat}(h:longB l most=false):l.length≤most∧∀ p ∈ l,p.1.fine∧p.1.cuts.length≤40:=by
 unfold longB at h
 simp at h
 refine ⟨h.1,fun p hp=>?_⟩
 exact qrr (h.2 p.1 p.2 hp)
def Oss (w:World) (v:Value) (ls:List (List (Opn × Value))):Prop:=∃ us:List Value,us.length=ls.length∧Sl 1 w v ls.length us∧∀ i (h:i<ls.length) (k:i<us.length),Os w (us[i]) (ls[i])
theorem Oss.below {w w':World}{v:Value}{ls:List (List (Opn × Value))}(h:Oss w v ls) (hb:Below w.heap.size w w'):Oss w' v ls:=by
 obtain ⟨us,h1,h2,h3⟩:=h
 exact ⟨us,h1,h2.below hb,fun i hi k=>(h3 i hi k).later hb⟩
theorem Oss.form {w:World}{v:Value}{ls:List (List (Opn × Value))}(h:Oss w v ls):∃ a c,v=.slice a ls.length c∧ls.length≤c∧c≤maxLen:=by
 obtain ⟨us,h1,h2,h3⟩:=h
 exact h2.form
theorem Oss.at {w:World}{v:Value}{ls:List (List (Opn × Value))}(h:Oss w v ls) {i:Nat}(hi:i<ls.length):∃ b off c u,v=.slice (some ⟨b,off,none⟩) ls.length c∧b<w.heap.size∧w.cell? ⟨b,off+i,none⟩=some u∧Os w u (ls[i]):=by
 obtain ⟨us,h1,h2,h3⟩:=h
 obtain ⟨b,off,c,e,_,_,hb,hc⟩:=h2.inv (by omega) (by decide)
 have hk:i<us.length:=by omega
 exact ⟨b,off,c,us[i],e,hb,hc i _ (List.getElem?_eq_getElem hk),h3 i hi hk⟩
abbrev Zl (B:Nat) (w:World) (v:Value) (zs:List Nat):Prop:=w.ownsRow B 3 1 v zs.length (zs.map fun (z:Nat)=>Value.int .i64 (z:Int))
theorem Lo.side {B lb fb:Nat}{fv vo ve:Value}{r:Int}{Fs:List (List Opn)}{n R:Nat}{w w':World}{l:List (Opn × Value)}{S:Nat→Prop}(h:Lo B w lb fb fv vo ve r Fs n R l) (hf:Fr S w w') (hs:∀ k,S k→¬ Ft lb fb fv vo ve k)
  (hc:∀ p ∈ l,p.1.cuts=[]∨∀ k,p.2.ownBlock=some k→¬ S k):Lo B w' lb fb fv vo ve r Fs n R l:=by
 have hk:∀ k,Ft lb fb fv vo ve k→w'.heap[k]?=w.heap[k]?:=fun k e=>hf.block k (h.lg.inside e).2 (fun hk=>hs k hk e)
 refine ⟨⟨(hk lb (.inl rfl)).trans h.lg.blk,h.lg.base,h.lg.fi.of_block (fun k e=>hk k (e.elim (fun e=>.inr (.inl e)) (fun e=>.inr (.inr (.inl e))))),qaz h.lg.ro hf (fun k e e2=>hs k e2 (.inr (.inr (.inr (.inl e))))),qaz h.lg.re hf (fun k e e2=>hs k e2 (.inr (.inr (.inr (.inr e))))),fun p hp=>?_⟩,h.fl,h.good,h.r0,h.r1,h.ns⟩
 obtain ⟨h1,h2⟩:=h.lg.cu p hp
 refine ⟨?_,h2⟩
 rcases hc p hp with e | e
 ·rw [e] at h1 ⊢;exact h1.none
 ·exact Sl.kept h1 (fun k hk hlt=>hf.block k hlt (e k hk))
theorem qnl {o:Opn}(h:rightO o=true):(encO o).length≤490:=by
 have hr:=qce h
 have s1:=fun n=>(M.sz_pos n).2
 have hk:=s1 o.k
 have h1:=s1 o.ir
 have h2:=s1 o.im
 have h3:=s1 o.t
 have f0:(encF o 0).length≤14:=by have:=s1 o.br;have:=s1 o.bm;simp [encF,en2,M.enc_length];omega
 have f1:(encF o 1).length≤14:=by have:=s1 o.pr;have:=s1 o.pm;simp [encF,en2,M.enc_length];omega
 have f3:(encF o 3).length≤14:=by have:=s1 o.sr;have:=s1 o.sm;simp [encF,en2,M.enc_length];omega
 have f4:(encF o 4).length≤21:=by have:=s1 o.lr;have:=s1 o.lm;have:=s1 o.li;simp [encF,en3,M.enc_length];omega
 have f5:(encF o 5).length≤21:=by have:=s1 o.gr;have:=s1 o.gm;have:=s1 o.gi;simp [encF,en3,M.enc_length];omega
 have f8:(encF o 8).length≤7:=by have:=s1 (if o.flag then 1 else 0);simp only [encF,M.enc_length];omega
 have f2:2 ∈ told o.k→(encF o 2).length≤40:=fun hm=>by
  have h:=hr 2 hm
  have:=s1 o.key.size
  simp [rightF,K.right,qaw] at h
  simp only [encF,qbf];omega
 have f6:6 ∈ told o.k→(encF o 6).length≤71:=fun hm=>by
  have h:=hr 6 hm
  have:=s1 o.text.size
  simp [rightF] at h
  simp only [encF,qbf];omega
 have f7:7 ∈ told o.k→(encF o 7).length≤455:=fun hm=>by
  have h:=hr 7 hm
  have:=s1 o.cuts.length
  have:=qmc o.cuts
  simp [rightF] at h
  simp only [encF,List.length_append,M.enc_length];omega
 have hne:=(qbn h).1.2.2
 unfold encO
 simp only [List.length_append,M.enc_length]
 rcases six hne with e | e | e | e | e | e
 ·have ht:told o.k=[1,2]:=by rw [e];rfl
  rw [ht] at f2 ⊢
  have:=f2 (by decide)
  simp only [List.flatMap_cons,List.flatMap_nil,List.length_append,List.length_nil];omega
 ·have ht:told o.k=[0,1,2]:=by rw [e];rfl
  rw [ht] at f2 ⊢
  have:=f2 (by decide)
  simp only [List.flatMap_cons,List.flatMap_nil,List.length_append,List.length_nil];omega
 ·have ht:told o.k=[3,4,5,6]:=by rw [e];rfl
  rw [ht] at f6 ⊢
  have:=f6 (by decide)
  simp only [List.flatMap_cons,List.flatMap_nil,List.length_append,List.length_nil];omega
 ·have ht:told o.k=[7]:=by rw [e];rfl
  rw [ht] at f7 ⊢
  have:=f7 (by decide)
  simp only [List.flatMap_cons,List.flatMap_nil,List.length_append,List.length_nil];omega
 ·have ht:told o.k=[3,4,5,1,2]:=by rw [e];rfl
  rw [ht] at f2 ⊢
  have:=f2 (by decide)
  simp only [List.flatMap_cons,List.flatMap_nil,List.length_append,List.length_nil];omega
 ·have ht:told o.k=[0,8]:=by rw [e];rfl
  rw [ht]
  simp only [List.flatMap_cons,List.flatMap_nil,List.length_append,List.length_nil];omega
theorem qqd {l:List Int}(h:K.Byt l):(M.str l).size=l.length:=by rw [←qaw,qgl h]
theorem qen {o:Opn}(h:rightO o=true):(encT o).length≤500:=by
 unfold encT
 rw [qbf,qqd (qdq h)]
 have:=qnl h
 have:=(M.sz_pos ((encO o).length:Int)).2
 omega
theorem qhx:∀ {f:List Opn},(∀ o ∈ f,rightO o=true)→(f.flatMap encT).length≤500*f.length
 | [],_=>Nat.le_refl _
 | o::f,h=>by
  have h1:=qen (h o (by simp))
  have h2:=qhx (f:=f) (fun p hp=>h p (by simp [hp]))
  rw [List.flatMap_cons,List.length_append,List.length_cons]
  omega
set_option maxHeartbeats 4000000 in
theorem qft (va:Value) (l:List (Opn × Value)) (w:World) (hO:Os w va l) (hf:∀ p ∈ l,p.1.fine) (hn:l.length≤1000000) :
  Calls Tryz.prog 57 #[va] w fun e w'=>∃ u,e=.returned (.tuple #[u,.bool ((fsts l).all rightO)])∧Bs w' u (if (fsts l).all rightO then encA (fsts l) else [])∧Below w.heap.size w w':=by
 obtain ⟨a,c,rfl,_,_⟩:=Sl.form hO.1
 obtain ⟨n,hnn⟩:∃ n,l.length=n:=⟨_,rfl⟩
 have HN:=hid hnn
 have hcell:∀ i (h:i<l.length),∃ b off,a=some ⟨b,off,none⟩∧b<w.heap.size∧∀ j,j<20→w.cell? ⟨b,off+i*20+j,none⟩=(opl (l[i]).1 (l[i]).2)[j]?:=by
  intro i h
  obtain ⟨b,off,c',e,_,_,hb,hc⟩:=hO.inv (by omega)
  simp only [Value.slice.injEq] at e
  exact ⟨b,off,e.1,hb,hc i h⟩
 have HCE:=hid hcell
 have HV:=hid hO.2
 have HF:=hid hf
 rw [hnn] at hn ⊢
 obtain ⟨T,hT⟩:∃ T,(fsts l).all rightO=T:=⟨_,rfl⟩
 rw [hT]
 have HT:=hid hT
 obtain ⟨X,hX⟩:∃ X,(if T then encA (fsts l) else [])=X:=⟨_,rfl⟩
 rw [hX]
 have HX:=hid hX
 have HN49:Hid (Num49 (n:Int)):=⟨by omega,by omega⟩
 clear hcell hO hf hnn hT hX
 go_enter Tryz.func57,Tryz.ntmps57
 go_wp2_with fail
 refine (xnumb (n:Int) w HN49.out).mono ?_
 rintro e w2 ⟨v2,rfl,ho2,b2⟩
 have HW2:Hid (En w.heap.size w2 v2 (M.enc (n:Int)) 1):=⟨ho2,by have:=qbs (n:Int);omega,qjq HN49.out⟩
 have HB2:=hid b2
 obtain ⟨a2,n2,c2,hv2⟩:=HW2.out.form
 subst hv2
 clear ho2 b2
 go_wp2
 go_loopw [4,5] (fun out i wr=>∃ (k:Nat) (ra:Option Addr) (rn rc:Nat),k≤n∧i=.int .i64 k∧out=.slice ra rn rc∧En w.heap.size wr (.slice ra rn rc) (M.enc (n:Int)++(fsts (l.take k)).flatMap encT) 1∧Below w.heap.size w wr∧∀ q ∈ fsts (l.take k),rightO q=true) (fun _ i _=>n - (intOf i).toNat)
 case atStart=>exact ⟨0,_,_,_,Nat.zero_le _,rfl,rfl,by simpa using HW2.out,HB2.out,fun q hq=>by simp at hq⟩
 case round =>
  obtain ⟨k,ra,rn,rc,hk,rfl,rfl,hw4,hb4,hr4⟩:=hrel
  have HW4:=hid hw4
  have B4:=hid hb4
  have HR4:=hid hr4
  have HR9:=hid hr4
  clear hw4 hb4 hr4
  by_cases hlt:k<n
  ·have hx:k<l.length:=by have:=HN.out;omega
   obtain ⟨b,off,ha,hbl,hc⟩:=HCE.out k hx
   subst ha
   obtain ⟨⟨o,v⟩,hp⟩:∃ p,l[k]=p:=⟨_,rfl⟩
   have hfin:=HF.out _ (List.getElem_mem hx)
   have hcs:=HV.out _ (List.getElem_mem hx)
   rw [hp] at hc hfin hcs
   dsimp only at hc hfin hcs
   have HP:=hid hp
   have HC:Hid (∀ j,j<20→wr.cell? ⟨b,off+k*20+j,none⟩=(opl o v)[j]?):=hid (fun j hj=>(B4.out.cell hbl).trans (hc j hj))
   have HFI:=hid hfin
   have HCS:=hid (hcs.below B4.out)
   have b1':(k:Int)<(n:Int):=by omega
   have HK:Hid (1≤100):=hid (by decide)
   clear hp hc hfin hcs hbl
   cases hr:rightO o
   ·have hTf:false=T:=by
     rw [←HT.out]
     symm
     rw [List.all_eq_false]
     refine ⟨o,?_,by rw [hr];decide⟩
     have:=List.getElem_mem hx
     rw [HP.out] at this
     exact List.mem_map.2 ⟨_,this,rfl⟩
    have HTF:=hid hTf
    have HRI:=hid hr
    clear hr hTf
    go_wp2_with (first | (refine qak _ rfl (qba rfl rfl HC.out) ?_) | fail)
    refine (qrl _ o v rfl wr HCS.out HFI.out HRI.out).mono ?_
    rintro e w6 ⟨rfl,b6⟩
    have B6:=hid (bt B4.out b6)
    clear b6
    go_wp2
    go_ret2
    have ht:=HTF.out
    subst ht
    have hx':=HX.out
    subst hx'
    exact ⟨_,rfl,Bs.nil _,B6.out⟩
   ·have HRI:=hid hr
    clear hr
    have HSM:Hid ((M.str (encO o)).size≤549755813888):=by
     show _≤_
     have:=congrArg List.length (qgl (qdq HRI.out))
     rw [qaw] at this
     have:=qha HRI.out
     omega
    go_wp2_with (first | (refine qak _ rfl (qba rfl rfl HC.out) ?_) | fail)
    refine (qoa _ o v rfl wr HCS.out HFI.out HRI.out).mono ?_
    rintro e w6 ⟨ea,en,ec,rfl,hu6,b6⟩
    have B6:=hid (bt B4.out b6)
    have HW6:=hid (HW4.out.below b6)
    have HU6:=hid hu6
    clear b6 hu6
    go_wp2_with (first | (refine qak _ rfl (qlm rfl rfl HU6.out) ?_) | fail)
    refine (qim (M.str (encO o)) w6 HSM.out).mono ?_
    rintro e w7 ⟨ua,un,uc,rfl,hu,hul,hb⟩
    have B7:=hid (bt B6.out hb)
    have HW7:=hid (HW6.out.below hb)
    have HU:=hid hu
    have HUL:=hid hul
    clear hu hul hb
    go_wp2_with (at_builtin;refine qhj rfl _ _ rfl rfl HW7.out _ rfl HU.out HUL.out HK.out B7.out ?_;intro va9 n9 vc9 w9 hw hbb;have HW9:=hid hw;have B9:=hid hbb;clear hw hbb)
    have htk:fsts (l.take (k+1))=fsts (l.take k)++[o]:=by
     unfold fsts
     rw [List.take_succ_eq_append_getElem hx,List.map_append,HP.out]
     rfl
    refine ⟨⟨k+1,_,_,_,by omega,by go_num,rfl,?_,B9.out,fun q hq=>?_⟩,by simp [intOf];omega⟩
    ·rw [htk,List.flatMap_append,←List.append_assoc]
     have hw:=HW9.out
     have hl:=qhx (HR9.out)
     refine ⟨by simpa [encT] using hw.1,?_,by simpa [encT] using hw.2.2⟩
     have h1:=qbs (n:Int)
     have h2:=qen HRI.out
     have h3:(fsts (l.take k)).length≤1000000:=by simp [fsts];omega
     simp only [List.length_append,List.flatMap_cons,List.flatMap_nil,List.append_nil]
     omega
    ·rw [htk] at hq
     rcases List.mem_append.1 hq with hq | hq
     ·exact HR4.out q hq
     ·rw [List.mem_singleton.1 hq];exact HRI.out
  ·have b1':¬ (k:Int)<(n:Int):=by omega
   have htk:l.take k=l:=List.take_of_length_le (by have:=HN.out;omega)
   rw [htk] at HW4 HR4
   have hTt:T=true:=by rw [←HT.out,List.all_eq_true];exact HR4.out
   have HTT:=hid hTt
   clear htk hTt
   go_wp2
   go_ret2
   have ht:=HTT.out
   subst ht
   have hx':=HX.out
   subst hx'
   refine ⟨_,rfl,?_,B4.out⟩
   have hb:=Bs.of_own HW4.out.1 HW4.out.2.2
   have hlf:((fsts l).length:Int)=(n:Int):=by unfold fsts;rw [List.length_map,HN.out]
   simp only [if_true]
   unfold encA
   rw [hlf]
   exact hb
set_option maxHeartbeats 1000000 in
theorem qka (r:Int) (w:World) (h0:0≤r) (h1:r≤15) :
  Calls Tryz.prog 10 #[.int .i64 r] w fun e w'=>∃ v',e=.returned v'∧Bs w' v' (C.frame (fb0 r))∧Below w.heap.size w w':=by
 have HFB:=hid (qhu h0 h1)
 have HFL:=hid (qcz h0 h1)
 have HE:Hid (fb0 r=[0]++M.enc r):=hid (by unfold fb0 encA;rfl)
 have HEB:=hid (M.enc_byte r h0 (by omega))
 have HEL:=hid (M.enc_length r)
 have hs1:M.sz r=1:=by
  have h2:=qcz h0 h1
  rw [HE.out,List.length_append,M.enc_length] at h2
  simp at h2
  omega
 have HS1:=hid hs1
 clear hs1
 go_enter Tryz.func10,Tryz.ntmps10
 go_wp2_with fail
 refine (qdh r w h0 (by omega)).mono ?_
 rintro e w1 ⟨g,rfl,ho1,b1⟩
 rw [HS1.out] at ho1 ⊢
 have B1:=hid b1
 have V1:Hid (Bs w1 (.slice (some ⟨g,0,none⟩) 1 1) (M.enc r)):=hid (Bs.of_own (by have:=HEL.out;rw [HS1.out] at this;exact ho1) HEB.out)
 have HA2:=hid (ba w1 (.cells #[.int .u8 0] 5))
 have O2:Hid ((w1.alloc (.cells #[.int .u8 0] 5)).ownsRow w1.heap.size 5 1 (.slice (some ⟨w1.heap.size,0,none⟩) 1 1) 1 (cs [0])):=hid (World.ownsRow_lit (base:=w1.heap.size) (e:=5) (size:=1) w1 #[.int .u8 0] 1 (Nat.le_refl _) (by decide) rfl)
 have V2:=hid (V1.out.below HA2.out)
 have S2:Hid (w1.heap.size≤(w1.alloc (.cells #[.int .u8 0] 5)).heap.size):=hid HA2.out.size
 have hel:(M.enc r).length=1:=by rw [HEL.out,HS1.out]
 have hb1:1+(M.enc r).length≤140737488355328:=by omega
 clear ho1 b1 hel
 go_wp2_with (first | (at_builtin;refine qag rfl _ _ rfl w1.heap.size _ 1 [0] rfl O2.out _ (M.enc r) rfl V2.out hb1 S2.out ?_;intro v3 w3 ho3 hg3 hv3;have HO3:=hid ho3;have B3:=hid ((HA2.out).trans ((Fr.of_grown (S:=fun k=>(Value.slice (some ⟨w1.heap.size,0,none⟩) 1 1).ownBlock=some k) hg3 (fun k e=>e)).below (fun k hk e=>by simp [Value.ownBlock] at e;omega) S2.out));obtain ⟨a3,c3,rfl,_⟩:=qbe ho3;clear ho3 hg3 hv3) | fail)
 have hl3:1+(M.enc r).length=2:=by rw [HEL.out,HS1.out]
 have V3:Hid (Bs w3 (.slice a3 (1+(M.enc r).length) c3) (fb0 r)):=hid (by
  have h:=HO3.out
  rw [HE.out]
  refine Bs.of_own (n:=1+(M.enc r).length) (by simpa [cs] using h) ?_
  rw [←HE.out];exact HFB.out)
 rw [hl3] at V3 ⊢
 clear hl3
 refine (qjf _ (fb0 r) w3 V3.out (by rw [HFL.out];decide)).mono ?_
 rintro e w4 ⟨v4,rfl,hv4,b4⟩
 have V4:=hid hv4
 have B4:=hid (bt (bt B1.out B3.out) b4)
 obtain ⟨a4,c4,rfl⟩:=hv4.form
 clear hv4 b4
 go_wp2
 go_ret
 exact ⟨_,rfl,V4.out,B4.out⟩
set_option maxHeartbeats 1000000 in
theorem qox (v:Value) (xs:List Int) (w:World) (h:Bs w v xs) (hl:65536<xs.length) :
  Calls Tryz.prog 44 #[v] w fun e w'=>e=.returned (.tuple #[.slice none 0 0,.bool false])∧w=w':=by
 have hm:=h.len
 unfold maxLen at hm
 obtain ⟨a,c,rfl⟩:=h.form
 obtain ⟨n,hn⟩:∃ n,xs.length=n:=⟨_,rfl⟩
 rw [hn] at hl hm ⊢
 have hl':(65536:Int)<(n:Int):=by omega
 clear h hn
 go_enter Tryz.func44,Tryz.ntmps44
 go_wp2
 go_ret2
 exact ⟨rfl,rfl⟩
def XF (l:List Opn) (w:World) (e:Ending) (w':World):Prop :=
 ∃ v' ok,e=.returned (.tuple #[v',.bool ok])∧ok=decide (l.all rightO=true∧(encA l).length≤65536)∧(ok=true→Bs w' v' (C.frame (encA l)))∧(∃ a n c,v'=.slice a n c)∧Below w.heap.size w w'
set_option maxHeartbeats 1000000 in
theorem qhf (va:Value) (l:List (Opn × Value)) (w:World) (hO:Os w va l) (hf:∀ p ∈ l,p.1.fine) (hn:l.length≤1000000) :
  Calls Tryz.prog 53 #[va] w fun e w'=>XF (fsts l) w e w':=by
 have HE:=hid (qft va l w hO hf hn)
 obtain ⟨a,c,rfl,_,_⟩:=Sl.form hO.1
 obtain ⟨n,hnn⟩:∃ n,l.length=n:=⟨_,rfl⟩
 obtain ⟨G,hG⟩:∃ G,fsts l=G:=⟨_,rfl⟩
 rw [hnn,hG] at HE
 rw [hnn,hG]
 clear hO hf hn hnn hG
 obtain ⟨T,hT⟩:∃ T,G.all rightO=T:=⟨_,rfl⟩
 rw [hT] at HE
 have HT:=hid hT
 clear hT
 go_enter Tryz.func53,Tryz.ntmps53
 go_wp2_with fail
 refine HE.out.mono ?_
 rintro e w1 ⟨u,rfl,hu,b1⟩
 have B1:=hid b1
 cases T with
 | false =>
  obtain ⟨ua,uc,rfl⟩:=hu.form
  clear hu b1 HE
  go_wp2
  go_ret2
  exact ⟨_,_,rfl,by rw [HT.out];simp,(fun e=>by cases e),⟨_,_,_,rfl⟩,B1.out⟩
 | true =>
  have hu':Bs w1 u (encA G):=hu
  have U1:=hid hu'
  obtain ⟨ua,uc,rfl⟩:=hu'.form
  clear hu hu' b1 HE
  by_cases hl:(encA G).length≤65536
  ·go_wp2_with fail
   refine (qjf _ _ w1 U1.out hl).mono ?_
   rintro e w2 ⟨v2,rfl,hv2,b2⟩
   have V2:=hid hv2
   have B2:=hid (bt B1.out b2)
   obtain ⟨a2,c2,rfl⟩:=hv2.form
   have HL:=hid hl
   clear hv2 b2 hl
   go_wp2
   go_ret2
   exact ⟨_,_,rfl,by rw [HT.out];simp [HL.out],fun _=>V2.out,⟨_,_,_,rfl⟩,B2.out⟩
  ·go_wp2_with fail
   refine (qox _ _ w1 U1.out (by omega)).mono ?_
   rintro e w2 ⟨rfl,rfl⟩
   have HL:=hid hl
   clear hl
   go_wp2
   go_ret2
   exact ⟨_,_,rfl,by rw [HT.out];simp [HL.out],(fun e=>by cases e),⟨_,_,_,rfl⟩,B1.out⟩
def xap (R:Nat) (q:List Opn) (xs ys:List Int):Int × List Int × List Int:=if frE q≠0 then (frE q,xs,ys) else rapp R (C.frame (encA q)) xs ys
def XA (B b R:Nat) (s l:Value) (r:Int × List Int × List Int) (w:World) (e:Ending) (w':World):Prop:=e=.returned (.int .i64 r.1)∧Ro B b R s l w r.2.1 r.2.2 w'
theorem XA.stay {B b R:Nat}{s l:Value}{xs ys:List Int}{w w':World}{z:Int}{r:Int × List Int × List Int}(h:Re B w b s l xs ys R) (hb:Below w.heap.size w w') (hr:r=(z,xs,ys)):XA B b R s l r w (.returned (.int .i64 z)) w':=by
 subst hr
 exact ⟨rfl,s,l,h.below hb,Rx.of_below hb⟩
theorem qxe {l:List (Opn × Value)}{k:Nat}(hk:k<l.length) (h:∀ p ∈ l.take k,rightO p.1=true) (hr:rightO (l[k]).1=true):∀ p ∈ l.take (k+1),rightO p.1=true:=by
 intro p hp
 rw [List.take_succ_eq_append_getElem hk] at hp
 rcases List.mem_append.1 hp with hp | hp
 ·exact h p hp
 ·rw [List.mem_singleton.1 hp];exact hr
set_option maxHeartbeats 4000000 in
theorem qip {B b R:Nat}{s lv:Value}{xs ys:List Int}{w:World}(hB:B≤w.heap.size) (h:Re B w b s lv xs ys R) (va:Value) (l:List (Opn × Value)) (hO:Os w va l) (hf:∀ p ∈ l,p.1.fine) (hn:l.length≤1000000) :
  Calls Tryz.prog 15 #[.pointer (some ⟨b,0,none⟩),va] w fun e w'=>XA B b R s lv (xap R (fsts l) xs ys) w e w':=by
 have HRE:=hid h
 have HO:=hid hO
 have HF:=hid hf
 obtain ⟨a,c,rfl,_,_⟩:=Sl.form hO.1
 obtain ⟨n,hnn⟩:∃ n,l.length=n:=⟨_,rfl⟩
 have HN:=hid hnn
 obtain ⟨P,hP⟩:∃ P,xap R (fsts l) xs ys=P:=⟨_,rfl⟩
 have HP:=hid hP
 rw [hP]
 rw [hnn] at hn HO ⊢
 clear h hO hf hnn hP
 by_cases hn0:n=0
 ·have hz:((n:Int)==0)=true:=by simp [hn0]
  have HPP:Hid (P=(10,xs,ys)):=hid (by
   rw [←HP.out]
   have e:l=[]:=List.eq_nil_of_length_eq_zero (by rw [HN.out];exact hn0)
   subst e
   unfold xap frE
   rw [if_pos (by simp [fsts]),if_pos (by simp [fsts])])
  clear hn0
  go_enter Tryz.func15,Tryz.ntmps15
  go_wp2
  go_ret
  exact XA.stay HRE.out (Below.refl _ _) HPP.out
 ·have hz:((n:Int)==0)=false:=by simp;omega
  go_enter Tryz.func15,Tryz.ntmps15
  go_wp2
  go_loopw [5] (fun i wr=>∃ k:Nat,i=.int .i64 k∧k≤n∧(∀ p ∈ l.take k,rightO p.1=true)∧Below w.heap.size w wr) (fun i _=>n - (intOf i).toNat)
  case atStart=>exact ⟨0,rfl,Nat.zero_le _,fun p hp=>by simp at hp,Below.refl _ _⟩
  case round =>
   obtain ⟨k,rfl,hk,hr,hb⟩:=hrel
   have HR:=hid hr
   have HBW:=hid hb
   clear hr hb
   by_cases hlt:k<n
   ·have hlt':(k:Int)<(n:Int):=by omega
    have hx:k<l.length:=by rw [HN.out];exact hlt
    obtain ⟨b2,off,c',e1,_,_,hbl,hcl⟩:=HO.out.inv (by rw [HN.out];omega)
    rw [HN.out] at e1
    simp only [Value.slice.injEq] at e1
    obtain ⟨rfl,-,rfl⟩:=e1
    obtain ⟨⟨o,u⟩,hp⟩:∃ p,l[k]=p:=⟨_,rfl⟩
    have hc:=hcl k hx
    have hcs:=HO.out.2 _ (List.getElem_mem hx)
    have hfin:=HF.out _ (List.getElem_mem hx)
    rw [hp] at hc hcs hfin
    have HC:Hid (∀ j,j<20→wr.cell? ⟨b2,off+k*20+j,none⟩=(opl o u)[j]?):=hid (fun j hj=>(HBW.out.cell hbl).trans (hc j hj))
    have HXR:=hid (qcb o u wr (hcs.below HBW.out) hfin)
    have HPK:=hid hp
    obtain ⟨T,hT⟩:∃ T,rightO o=T:=⟨_,rfl⟩
    have HT:=hid hT
    rw [hT] at HXR
    clear hp hc hcs hfin hcl hT
    go_wp2_with (first | (refine qak _ rfl (qba rfl rfl HC.out) ?_) | fail)
    refine HXR.out.mono ?_
    rintro e w2 ⟨rfl,b2'⟩
    have B2:=hid (bt HBW.out b2')
    clear b2' HXR
    cases T with
    | false =>
     have HPP:Hid (P=(10,xs,ys)):=hid (by
      rw [←HP.out]
      have hfr:frE (fsts l)=10:=by
       unfold frE
       rw [if_pos (.inl (by
        rw [List.all_eq_false]
        refine ⟨o,?_,by rw [HT.out];decide⟩
        have:=List.getElem_mem hx
        rw [HPK.out] at this
        exact List.mem_map.2 ⟨_,this,rfl⟩))]
      unfold xap
      rw [hfr,if_pos (by decide)])
     go_wp2
     go_ret
     exact XA.stay HRE.out B2.out HPP.out
    | true =>
     go_wp2
     go_roundw
     case rel=>exact ⟨k+1,by go_num,hlt,qxe hx HR.out (by rw [HPK.out];exact HT.out),B2.out⟩
     case measure=>simp [intOf];omega
   ·have hlt':¬ (k:Int)<(n:Int):=by omega
    have hall:(fsts l).all rightO=true:=by
     rw [List.all_eq_true]
     intro o ho
     obtain ⟨p,hp,rfl⟩:=List.mem_map.1 ho
     have h1:=HR.out p
     rw [List.take_of_length_le (by rw [HN.out];omega)] at h1
     exact h1 hp
    have hne:fsts l≠[]:=fun e=>by
     have h1:=congrArg List.length e
     simp only [fsts,List.length_map,List.length_nil,HN.out] at h1
     omega
    have HAL:=hid hall
    have HNE:=hid hne
    have HXF:=hid (qhf (.slice a n c) l wr ⟨HO.out.1.below HBW.out,fun p hp=>(HO.out.2 p hp).below HBW.out⟩ HF.out (by rw [HN.out];exact hn))
    clear hall hne
    go_wp2_with fail
    refine HXF.out.mono ?_
    rintro e w2 ⟨v2,ok,rfl,hok,hv2,⟨a2,n2,c2,rfl⟩,b2⟩
    have B2:=hid (bt HBW.out b2)
    have HV2:=hid hv2
    have HRE2:=hid (HRE.out.below B2.out)
    have HS2:=hid (Nat.le_trans hB B2.out.size)
    by_cases h65:(encA (fsts l)).length≤65536
    ·obtain rfl:ok=true:=by rw [hok];simp [HAL.out,h65]
     have hfr:frE (fsts l)=0:=by
      unfold frE
      rw [if_neg (by rw [HAL.out];simp [HNE.out]),if_neg (by omega)]
     have HPP:Hid (P=rapp R (C.frame (encA (fsts l))) xs ys):=hid (by rw [←HP.out];unfold xap;rw [if_neg (by rw [hfr];decide)])
     clear hok hv2 b2 hfr h65 HXF
     go_wp2_with fail
     refine (qoz HS2.out HRE2.out _ _ (HV2.out trivial)).mono ?_
     rintro e w3 ⟨rfl,ho3⟩
     have HO3:=hid (ho3.before B2.out)
     obtain ⟨z,hz3⟩:∃ z,(rapp R (C.frame (encA (fsts l))) xs ys).1=z:=⟨_,rfl⟩
     rw [hz3]
     have HZ3:=hid hz3
     clear ho3 hz3
     go_wp2
     go_ret
     refine ⟨by rw [HPP.out,HZ3.out];rfl,?_⟩
     rw [HPP.out]
     exact HO3.out
    ·obtain rfl:ok=false:=by rw [hok];simp [h65]
     have hfr:frE (fsts l)=14:=by
      unfold frE
      rw [if_neg (by rw [HAL.out];simp [HNE.out]),if_pos (by omega)]
     have HPP:Hid (P=(14,xs,ys)):=hid (by rw [←HP.out];unfold xap;rw [hfr,if_pos (by decide)])
     clear hok hv2 b2 hfr h65 HXF
     go_wp2
     go_ret
     exact XA.stay HRE.out B2.out HPP.out
theorem qtd (ys:List Int):C.wh ys=0∨C.wh ys=1∨C.wh ys=2:=by
 unfold C.wh
 split
 ·exact .inr (.inl rfl)
 ·split
  ·exact .inr (.inr rfl)
  ·split
   ·exact .inr (.inl rfl)
   ·split
    ·exact .inl rfl
    ·exact .inr (.inr rfl)
def dAll:List (List Int)→Option (List (List Opn))
 | []=>some []
 | f::fs=>if (decA mOwn f).2=true∧(decA mOwn f).1≠[] then (dAll fs).map ((decA mOwn f).1::·) else none
theorem og_sp:∀ {fs:List (List Int)}{ys:List Int}{n t:Nat},C.Sp ys fs n t→(∀ Fs,dAll fs=some Fs→Og ys Fs (decide (t≠2)))∧(dAll fs=none→∃ Fs,Og ys Fs false)
 | [],ys,n,t,h=>by
  refine ⟨fun Fs hF=>?_,fun hF=>by cases hF⟩
  have e:Fs=[]:=by simpa [dAll] using hF.symm
  subst e
  rcases h.2 with ⟨h1,h2⟩ | ⟨h1,h2,h3⟩
  ·subst h1;subst h2
   exact Og.cut rfl
  ·rw [h3]
   rcases qtd ys with hw | hw | hw
   ·exact absurd hw h2
   ·rw [hw];exact Og.cut hw
   ·rw [hw];exact Og.bad hw
 | f::fs,ys,n,t,h=>by
  obtain ⟨h0,rfl,m,_,hs⟩:=h
  have ih:=og_sp hs
  by_cases hd:(decA mOwn (C.bd ys)).2=true∧(decA mOwn (C.bd ys)).1≠[]
  ·have e:dAll (C.bd ys::fs)=(dAll fs).map ((decA mOwn (C.bd ys)).1::·):=by rw [dAll,if_pos hd]
   have e2:decA mOwn (C.bd ys)=((decA mOwn (C.bd ys)).1,true):=by rw [←hd.1]
   refine ⟨fun Fs hF=>?_,fun hF=>?_⟩
   ·rw [e] at hF
    cases hx:dAll fs with
    | none=>rw [hx] at hF;cases hF
    | some Gs =>
     rw [hx] at hF
     simp only [Option.map_some,Option.some.injEq] at hF
     rw [←hF]
     exact Og.more h0 e2 hd.2 (ih.1 Gs hx)
   ·rw [e] at hF
    cases hx:dAll fs with
    | none =>
     obtain ⟨Gs,hG⟩:=ih.2 hx
     exact ⟨_,Og.more h0 e2 hd.2 hG⟩
    | some Gs=>rw [hx] at hF;cases hF
  ·have e:dAll (C.bd ys::fs)=none:=by rw [dAll,if_neg hd]
   refine ⟨(fun Fs hF=>by rw [e] at hF;cases hF),fun _=>⟨[],Og.wrong h0 ?_⟩⟩
   by_cases h2:(decA mOwn (C.bd ys)).2=true
   ·exact .inr (by
     by_cases h3:(decA mOwn (C.bd ys)).1=[]
     ·exact h3
     ·exact absurd ⟨h2,h3⟩ hd)
   ·exact .inl (by simpa using h2)
def tlOf (fs:List (List Int)) (t:Nat):Option (Int × List (List Opn)) :=
 match fs with
 | []=>none
 | f::fs=>if t=2 then none else if rfO f=true then (dAll fs).map ((rfV f,·)) else none
theorem jap {fs:List (List Int)}{xs:List Int}{n t:Nat}(h:C.Sp xs fs n t):Tl xs (tlOf fs t):=by
 cases fs with
 | nil =>
  refine .inl ?_
  rcases h.2 with ⟨h1,_⟩ | ⟨_,h2,_⟩
  ·subst h1;decide
  ·exact h2
 | cons f fs =>
  obtain ⟨h0,rfl,m,_,hs⟩:=h
  have ho:=og_sp hs
  unfold tlOf
  by_cases h2:t=2
  ·simp only [h2,if_true]
   cases hx:dAll fs with
   | none=>exact .inr (.inr (ho.2 hx))
   | some Gs =>
    have:=ho.1 Gs hx
    rw [h2] at this
    exact .inr (.inr ⟨Gs,this⟩)
  ·simp only [h2,if_false]
   cases hr:rfO (C.bd xs) with
   | false=>exact .inr (.inl hr)
   | true =>
    simp only [if_true]
    cases hx:dAll fs with
    | none=>exact .inr (.inr (ho.2 hx))
    | some Gs =>
     have:=ho.1 Gs hx
     rw [show decide (t≠2)=true by simpa using h2] at this
     exact ⟨h0,hr,rfl,this⟩
theorem qie {f:List Int}{fs:List (List Int)}{Gs:List (List Opn)}(h:dAll fs=some Gs) (h1:(decA mOwn f).2=true) (h2:(decA mOwn f).1≠[]):dAll (f::fs)=some ((decA mOwn f).1::Gs):=by
 rw [dAll,if_pos ⟨h1,h2⟩,h];rfl
theorem qdr {f:List Int}{fs:List (List Int)}{Fs:List (List Opn)}(h:dAll (f::fs)=some Fs):(decA mOwn f).2=true∧(decA mOwn f).1≠[]∧∃ Gs,dAll fs=some Gs∧Fs=(decA mOwn f).1::Gs:=by
 rw [dAll] at h
 by_cases hd:(decA mOwn f).2=true∧(decA mOwn f).1≠[]
 ·rw [if_pos hd] at h
  cases hx:dAll fs with
  | none=>rw [hx] at h;cases h
  | some Gs =>
   rw [hx] at h
   simp only [Option.map_some,Option.some.injEq] at h
   exact ⟨hd.1,hd.2,Gs,rfl,h.symm⟩
 ·rw [if_neg hd] at h;cases h
theorem qno {f:List Int}(h1:(decA mOwn f).2=true) (h2:(decA mOwn f).1≠[]):∀ {fs:List (List Int)}{Gs:List (List Opn)},dAll fs=some Gs→dAll (fs++[f])=some (Gs++[(decA mOwn f).1])
 | [],Gs,h=>by
  have e:Gs=[]:=by simpa [dAll] using h.symm
  subst e
  exact qie (fs:=[]) rfl h1 h2
 | g::fs,Gs,h=>by
  obtain ⟨k1,k2,Hs,k3,rfl⟩:=qdr h
  exact qie (qno h1 h2 k3) k1 k2
theorem qmb {f:List Int}(hf:(decA mOwn f).2=false∨(decA mOwn f).1=[]):∀ {fs:List (List Int)},f ∈ fs→dAll fs=none
 | [],h=>by cases h
 | g::fs,h=>by
  cases hx:dAll (g::fs) with
  | none=>rfl
  | some Gs =>
   obtain ⟨k1,k2,Hs,k3,-⟩:=qdr hx
   rcases List.mem_cons.1 h with rfl | h
   ·rcases hf with e | e
    ·rw [k1] at e;cases e
    ·exact absurd e k2
   ·rw [qmb hf h] at k3;cases k3
theorem qke:∀ {fs:List (List Int)}{ys:List Int}{n t:Nat},C.Sp ys fs n t→Byt ys→∀ f ∈ fs,Byt f∧f.length≤65536
 | [],ys,n,t,h,hb=>fun f hf=>by cases hf
 | g::fs,ys,n,t,h,hb=>by
  obtain ⟨h0,rfl,m,_,hs⟩:=h
  intro f hf
  rcases List.mem_cons.1 hf with rfl | hf
  ·obtain ⟨_,_,h65,_,hl⟩:=qpy h0
   exact ⟨fun x hx=>hb x (List.mem_of_mem_drop (List.mem_of_mem_take hx)),by rw [hl];exact h65⟩
  ·exact qke hs (fun x hx=>hb x (List.mem_of_mem_drop hx)) f hf
theorem qhw {f:List Int}(hb:Byt f) (hl:f.length≤65536) (h:(decA mOwn f).2=true):encA (decA mOwn f).1=f∧(∀ o ∈ (decA mOwn f).1,rightO o=true)∧(decA mOwn f).1.length≤1048576:=by
 have e:decA mOwn f=((decA mOwn f).1,true):=by rw [←h]
 exact qrf hb hl e
theorem sp_sz:∀ {fs:List (List Int)}{ys:List Int}{n t:Nat},C.Sp ys fs n t→Byt ys→∀ {Fs:List (List Opn)},dAll fs=some Fs→n=szF Fs∧Good Fs
 | [],ys,n,t,h,hb,Fs,hd=>by
  have e:Fs=[]:=by simpa [dAll] using hd.symm
  subst e
  exact ⟨h.1,Good.nil⟩
 | f::fs,ys,n,t,h,hb,Fs,hd=>by
  have hm:=qke h hb f (by simp)
  obtain ⟨h0,rfl,m,rfl,hs⟩:=h
  obtain ⟨k1,k2,Gs,k3,rfl⟩:=qdr hd
  obtain ⟨e1,g1⟩:=sp_sz hs (fun x hx=>hb x (List.mem_of_mem_drop hx)) k3
  obtain ⟨_,_,_,_,hl⟩:=qpy h0
  obtain ⟨e2,g2,_⟩:=qhw hm.1 hm.2 k1
  refine ⟨by rw [qcv,e2,hl,←e1],fun g hg=>?_⟩
  rcases List.mem_cons.1 hg with rfl | hg
  ·exact ⟨k2,g2,by rw [e2];exact hm.2⟩
  ·exact g1 g hg
theorem qzt:∀ {fs:List (List Int)}{ys:List Int}{n t:Nat},C.Sp ys fs n t→8*fs.length≤n∧n≤ys.length
 | [],ys,n,t,h=>by
  have:=h.1
  simp only [List.length_nil]
  omega
 | f::fs,ys,n,t,h=>by
  obtain ⟨h0,rfl,m,rfl,hs⟩:=h
  have ih:=qzt hs
  obtain ⟨h8,hw,h65,_,hl⟩:=qpy h0
  rw [List.length_drop] at ih
  rw [List.length_cons]
  omega
theorem qqa {f:List Int}{fs:List (List Int)}{xs:List Int}{n t:Nat}(h:C.Sp xs (f::fs) n t) (hb:Byt xs) (ht:t≠2) (hr:rfO f=true):0≤rfV f∧rfV f≤15∧f.length=2∧(∀ Fs,dAll fs=some Fs→Tl xs (some (rfV f,Fs))∧n=10+szF Fs∧Good Fs)∧(dAll fs=none→Tl xs none):=by
 have hm:=qke h hb f (by simp)
 obtain ⟨r0,r1,e⟩:=qmu hm.1 hr
 have hl2:f.length=2:=by rw [e];exact qcz r0 r1
 have htl:=jap h
 unfold tlOf at htl
 dsimp only at htl
 rw [if_neg ht,if_pos hr] at htl
 obtain ⟨h0,he,m,rfl,hs⟩:=h
 obtain ⟨_,_,_,_,hl⟩:=qpy h0
 rw [←he] at hl
 refine ⟨r0,r1,hl2,fun Fs hF=>?_,fun hF=>?_⟩
 ·rw [hF] at htl
  obtain ⟨e1,g1⟩:=sp_sz hs (fun x hx=>hb x (List.mem_of_mem_drop hx)) hF
  exact ⟨htl,by omega,g1⟩
 ·rw [hF] at htl
  exact htl
theorem qgn {f:List Int}{fs:List (List Int)}{xs:List Int}{n t:Nat}(h:C.Sp xs (f::fs) n t) (hr:t=2∨rfO f=false):Tl xs none:=by
 have htl:=jap h
 unfold tlOf at htl
 dsimp only at htl
 by_cases ht:t=2
 ·rw [if_pos ht] at htl;exact htl
 ·rw [if_neg ht,if_neg (by rcases hr with e | e<;>first | exact absurd e ht | (rw [e];decide))] at htl
  exact htl
theorem qti {xs:List Int}{n t:Nat}(h:C.Sp xs [] n t):Tl xs none:=jap h
theorem qqe:∀ {fs gs:List (List Int)}{ys:List Int}{n t:Nat},C.Sp ys (fs++gs) n t→Byt ys→∀ {Fs:List (List Opn)},dAll fs=some Fs→szF Fs≤n
 | [],gs,ys,n,t,h,hb,Fs,hd=>by
  have e:Fs=[]:=by simpa [dAll] using hd.symm
  subst e
  exact Nat.zero_le _
 | f::fs,gs,ys,n,t,h,hb,Fs,hd=>by
  have hm:=qke h hb f (by simp)
  obtain ⟨h0,rfl,m,rfl,hs⟩:=h
  obtain ⟨k1,k2,Gs,k3,rfl⟩:=qdr hd
  have e1:=qqe hs (fun x hx=>hb x (List.mem_of_mem_drop hx)) k3
  obtain ⟨_,_,_,_,hl⟩:=qpy h0
  obtain ⟨e2,g2,_⟩:=qhw hm.1 hm.2 k1
  rw [qcv,e2,hl]
  omega
theorem tl_pos {fs:List (List Int)}{xs:List Int}{n t:Nat}(h:C.Sp xs fs n t) (hb:Byt xs) {r:Int}{Fs:List (List Opn)}(k:Tl xs (some (r,Fs))):n=10+szF Fs:=by
 cases fs with
 | nil=>have:=Tl.det (qti h) k;cases this
 | cons f fs =>
  by_cases ht:t=2
  ·have:=Tl.det (qgn h (.inl ht)) k;cases this
  ·cases hr:rfO f with
   | false=>have:=Tl.det (qgn h (.inr hr)) k;cases this
   | true =>
    obtain ⟨_,_,_,h1,h2⟩:=qqa h hb ht hr
    cases hx:dAll fs with
    | none=>have:=Tl.det (h2 hx) k;cases this
    | some Gs =>
     obtain ⟨e1,e2,_⟩:=h1 Gs hx
     have:=Tl.det e1 k
     simp only [Option.some.injEq,Prod.mk.injEq] at this
     rw [←this.2]
     exact e2
theorem qqq {r:Int}:∀ {Gs Fs:List (List Opn)}{ys:List Int}{t:Bool},Good Fs→Byt ys→Og ys Gs t→∃ zs,lby r Fs++ys=lby r (Fs++Gs)++zs
 | [],Fs,ys,t,hg,hb,h=>⟨ys,by rw [List.append_nil]⟩
 | f::Gs,Fs,ys,t,hg,hb,h=>by
  obtain ⟨h0,hd,hne,ho⟩:=h
  obtain ⟨g1,e1,_⟩:=quy (r:=r) hb hg h0 hd hne
  obtain ⟨zs,e2⟩:=qqq g1 (fun x hx=>hb x (List.mem_of_mem_drop hx)) ho
  refine ⟨zs,?_⟩
  rw [e1,e2,List.append_assoc]
  rfl
theorem qxb {xs:List Int}{r:Int}{Fs:List (List Opn)}(hb:Byt xs) (h:Tl xs (some (r,Fs))):xs.take (10+szF Fs)=lby r Fs:=by
 obtain ⟨h0,h1,rfl,h2⟩:=h
 obtain ⟨r0,r1,e10,e⟩:=qrc hb h0 h1
 rw [e10] at h2
 obtain ⟨zs,e2⟩:=qqq (r:=rfV (C.bd xs)) Good.nil (fun x hx=>hb x (List.mem_of_mem_drop hx)) h2
 rw [e2,List.nil_append] at e
 have hl:=qbo r0 r1 Fs
 calc xs.take (10+szF Fs)=(lby (rfV (C.bd xs)) Fs++zs).take (10+szF Fs):=by rw [←e]
  _=lby (rfV (C.bd xs)) Fs:=by rw [←hl,List.take_left]
set_option maxHeartbeats 2000000 in
theorem qmr (A:Value) (o:Opn) (v:Value) (hA:A=opv o v) (w:World) (hL:Lay w) (hC:Cs w v o.cuts) (hr:rightO o=true) :
  Calls Tryz.prog 82 #[A] w fun e w'=>e=.returned (.int .i64 ((encT o).length:Nat))∧Below w.heap.size w w':=by
 have hfin:=(qde hr).1
 have HB:=hid (ba w (opo o v))
 have HE:=hid (qks o v _ (hL.below HB.out) (hC.below HB.out) hfin hr)
 have HO:=hid (Ob.new w o v)
 have hby:=qdq hr
 have HBY:=hid hby
 have hsz:(M.str (encO o)).size≤70368744177664:=by rw [qqd hby];have:=qnl hr;omega
 have HSZ:=hid hsz
 have HLT:Hid ((encT o).length≤500):=hid (qen hr)
 have het:encT o=M.encText (M.str (encO o)):=rfl
 have HET:=hid het
 subst hA
 obtain ⟨T,hT⟩:∃ T,encT o=T:=⟨_,rfl⟩
 rw [hT] at HET HLT ⊢
 clear hL hC hfin hby hsz het hT hr
 go_enter Tryz.func82,Tryz.ntmps82
 go_wp2_with (first | (refine qae rfl _ rfl w.heap.size rfl o v HO.out ?_) | fail)
 refine HE.out.mono ?_
 rintro e w2 ⟨u,rfl,ho2,b2⟩
 have B2:=hid (bt HB.out b2)
 have U2:=hid (Bs.of_own ho2 HBY.out)
 obtain ⟨a2,c2,rfl,_⟩:=qbb ho2
 clear ho2 b2 HE
 go_wp2_with (first | (refine qak _ rfl (qlm rfl rfl U2.out) ?_) | fail)
 refine (qkk _ w2 HSZ.out).mono ?_
 rintro e w3 ⟨v3,rfl,hb3,b3⟩
 rw [←HET.out] at hb3
 obtain ⟨a3,c3,rfl⟩:=hb3.form
 have B3:=hid (bt B2.out b3)
 clear hb3 b3
 go_wp2
 go_ret
 exact ⟨rfl,B3.out⟩
set_option maxHeartbeats 2000000 in
theorem qmd (n:Int) (w:World) (h0:0≤n) (h1:n<562949953421312) :
  Calls Tryz.prog 83 #[.int .i64 n] w fun e w'=>e=.returned (.int .i64 (M.sz n:Nat))∧Below w.heap.size w w':=by
 have HP:=hid (qup n w h0 h1)
 obtain ⟨T,hT⟩:∃ T,M.enc n=T:=⟨_,rfl⟩
 have hl:T.length=M.sz n:=by rw [←hT,M.enc_length]
 have HL:=hid hl
 rw [hT] at HP
 clear hT hl h0 h1
 go_enter Tryz.func83,Tryz.ntmps83
 go_wp2_with fail
 refine HP.out.mono ?_
 rintro e w3 ⟨v3,rfl,hb3,b3⟩
 obtain ⟨a3,c3,rfl⟩:=hb3.form
 rw [HL.out]
 have B3:=hid b3
 clear hb3 b3
 go_wp2
 go_ret
 exact ⟨rfl,B3.out⟩
theorem qlw:(Tryz.prog.info? 38).map (fun i=>(i.zero,i.size,i.bytes))=some (some (.slice none 0 0),1,24):=by kernel_rfl
theorem qqh {o:Oper}{a:Act}{x lo hi mx:Operand}{b off n c f t:Nat}{W:World}(ho:o.op=.slice 38 x (some lo) (some hi) (some mx)) (hx:a.eval x=.slice (some ⟨b,off,none⟩) n c) (hl:a.eval lo=.int .i64 (f:Nat)) (hh:a.eval hi=.int .i64 (t:Nat)) (hm:a.eval mx=.int .i64 (t:Nat)) (h1:f<t) (h2:t≤c) :
  (execOp a.eval o).run Tryz.prog W=.ok (.value (.slice (some ⟨b,off+f*20,none⟩) (t - f) (t - f))) W:=by
 unfold execOp
 simp only [ho,hx,Option.map_some,hl,hh,hm]
 have e5:(f:Int)≤(t:Int):=by omega
 have e6:(t:Int)≤(c:Int):=by omega
 have e8:(0:Int)≤(f:Int):=by omega
 simp [go_sem,e5,e6,e8]
 omega
def stepP (s:List (List Opn) × List Opn × Nat) (o:Opn):List (List Opn) × List Opn × Nat :=
 if s.2.1≠[]∧60000<M.sz ((s.2.1.length+1:Nat):Int)+s.2.2+(encT o).length then (s.1++[s.2.1],[o],(encT o).length) else (s.1,s.2.1++[o],s.2.2+(encT o).length)
def foldP (l:List Opn):List (List Opn) × List Opn × Nat:=l.foldl stepP ([],[],0)
def partsP (l:List Opn):List (List Opn):=if (foldP l).2.1=[] then (foldP l).1 else (foldP l).1++[(foldP l).2.1]
theorem qel (l:List Opn) (o:Opn):foldP (l++[o])=stepP (foldP l) o:=by unfold foldP;rw [List.foldl_append];rfl
theorem qlg {α:Type}{P:List α→Prop}(h0:P []) (h1:∀ l o,P l→P (l++[o])) (l:List α):P l:=by
 have h:∀ r:List α,P r.reverse:=by
  intro r
  induction r with
  | nil=>exact h0
  | cons a r ih=>rw [List.reverse_cons];exact h1 _ _ ih
 have:=h l.reverse
 rwa [List.reverse_reverse] at this
theorem qvs (l:List Opn):(foldP l).1.flatten++(foldP l).2.1=l:=by
 refine qlg (P:=fun l=>(foldP l).1.flatten++(foldP l).2.1=l) ?_ ?_ l
 ·rfl
 ·intro l o ih
  rw [qel]
  unfold stepP
  split
  ·simp only [List.flatten_append,List.flatten_cons,List.flatten_nil,List.append_nil]
   rw [ih]
  ·simp only
   rw [←List.append_assoc,ih]
theorem qfm (l:List Opn):(partsP l).flatten=l:=by
 have h:=qvs l
 unfold partsP
 split
 ·rename_i e
  rw [e,List.append_nil] at h
  exact h
 ·rw [List.flatten_append]
  simpa using h
theorem qni (l:List Opn):(foldP l).1.length≤l.length:=by
 refine qlg (P:=fun l=>(foldP l).1.length≤l.length) ?_ ?_ l
 ·exact Nat.le_refl _
 ·intro l o ih
  rw [qel,List.length_append,List.length_singleton]
  unfold stepP
  split
  ·rw [List.length_append,List.length_singleton];omega
  ·simp only;omega
abbrev Pl (B:Nat) (w:World) (v:Value) (us:List Value):Prop:=w.ownsRow B 38 1 v us.length us
theorem Os.part {w:World}{b off n c:Nat}{l:List (Opn × Value)}(h:Os w (.slice (some ⟨b,off,none⟩) n c) l) (f t:Nat) (h1:f<t) (h2:t≤n):Os w (.slice (some ⟨b,off+f*20,none⟩) (t - f) (t - f)) ((l.take t).drop f):=by
 obtain ⟨⟨h0,a',c',e1,e2,e3,e4,e5⟩,h6⟩:=h
 simp only [Value.slice.injEq] at e1
 obtain ⟨rfl,rfl,rfl⟩:=e1
 have hl:((l.take t).drop f).length=t - f:=by rw [List.length_drop,List.length_take];omega
 refine ⟨⟨qbj opc 20 qeh _,some ⟨b,off+f*20,none⟩,t - f,by rw [hl],by omega,by omega,(fun e=>by cases e),fun j u hu=>?_⟩,fun p hp=>h6 p (List.mem_of_mem_take (List.mem_of_mem_drop hp))⟩
 have e:l.flatMap opc=(l.take f).flatMap opc++(((l.take t).drop f).flatMap opc++(l.drop t).flatMap opc):=by
  rw [←List.flatMap_append,←List.flatMap_append]
  congr 1
  have h3:l.take f=(l.take t).take f:=by rw [List.take_take,Nat.min_eq_left (by omega)]
  rw [←List.append_assoc,h3,List.take_append_drop,List.take_append_drop]
 have hfl:((l.take f).flatMap opc).length=f*20:=by rw [qbj opc 20 qeh,List.length_take];congr 1;omega
 have:=e5 (f*20+j) u (by
  rw [e,List.getElem?_append_right (by omega),hfl,Nat.add_sub_cancel_left,List.getElem?_append_left (List.getElem?_eq_some_iff.1 hu).1]
  exact hu)
 obtain ⟨b',off',e7,e8⟩:=this
 simp only [Option.some.injEq,Addr.mk.injEq,and_true] at e7
 obtain ⟨rfl,rfl⟩:=e7
 exact ⟨b,off+f*20,rfl,by rw [Nat.add_assoc];exact e8⟩
def Tb (b:Nat) (vf ve:Value) (k:Nat):Prop:=k=b∨vf.ownBlock=some k∨ve.ownBlock=some k
def Uq (B:Nat) (S:Nat→Prop) (w:World) (us:List Value) (lls:List (List (Opn × Value))):Prop:=us.length=lls.length∧∀ i (h:i<lls.length) (k:i<us.length),Oq S w (us[i]) (lls[i])∧Nn B (us[i]) (lls[i])
theorem Uq.nil (B:Nat) (S:Nat→Prop) (w:World):Uq B S w [] []:=⟨rfl,fun i h=>absurd h (Nat.not_lt_zero _)⟩
theorem Uq.step {B:Nat}{S S':Nat→Prop}{w w':World}{us:List Value}{lls:List (List (Opn × Value))}(h:Uq B S w us lls) (x:Lx S S' w w'):Uq B S' w' us lls:=⟨h.1,fun i hi hk=>⟨(h.2 i hi hk).1.step x,(h.2 i hi hk).2⟩⟩
theorem Uq.snoc {B:Nat}{S:Nat→Prop}{w:World}{us:List Value}{lls:List (List (Opn × Value))}{u:Value}{l:List (Opn × Value)}(h:Uq B S w us lls) (hu:Oq S w u l) (hn:Nn B u l):Uq B S w (us++[u]) (lls++[l]):=by
 refine ⟨by simp [h.1],fun i hi hk=>?_⟩
 have h1:=h.1
 by_cases hlt:i<lls.length
 ·have hlt':i<us.length:=by omega
  rw [List.getElem_append_left hlt,List.getElem_append_left hlt']
  exact h.2 i hlt hlt'
 ·have e:i=lls.length:=by simp at hi;omega
  subst e
  have e1:(lls++[l])[lls.length]=l:=by simp
  have e2:(us++[u])[lls.length]=u:=by simp [←h1]
  rw [e1,e2]
  exact ⟨hu,hn⟩
structure Td (B:Nat) (w:World) (b:Nat) (r:Int) (vf ve:Value) (us:List Value) (lls:List (List (Opn × Value))) (zs:List Nat):Prop where
 blk:w.heap[b]?=some (.cells #[.int .i64 r,vf,ve] 55 (0,0))
 base:B≤b
 rf:Pl B w vf us
 re:Zl B w ve zs
 uq:Uq B (Tb b vf ve) w us lls
section
variable {B:Nat} {w w':World} {b:Nat} {r:Int} {vf ve:Value} {us:List Value} {lls:List (List (Opn × Value))} {zs:List Nat}
theorem Td.lt (h:Td B w b r vf ve us lls zs):b<w.heap.size:=(Array.getElem?_eq_some_iff.1 h.blk).1
theorem Td.nf (h:Td B w b r vf ve us lls zs):vf.ownBlock≠some b:=qbh h.rf h.blk (by decide)
theorem Td.ne (h:Td B w b r vf ve us lls zs):ve.ownBlock≠some b:=qbh h.re h.blk (by decide)
theorem Td.inside (h:Td B w b r vf ve us lls zs) {k:Nat}(hk:Tb b vf ve k):B≤k∧k<w.heap.size:=by
 rcases hk with rfl | hk | hk
 ·exact ⟨h.base,h.lt⟩
 ·exact h.rf.lt k hk
 ·exact h.re.lt k hk
theorem Td.below (h:Td B w b r vf ve us lls zs) (hb:Below w.heap.size w w'):Td B w' b r vf ve us lls zs:=by
 have hF:Fr (fun _=>False) w w':=Fr.of_below hb
 exact ⟨(hb.block b h.lt).trans h.blk,h.base,qaz h.rf hF (fun _ _ e=>e),qaz h.re hF (fun _ _ e=>e),h.uq.step (Lx.of_below hb)⟩
theorem Td.of_blk {b:Nat}{r:Int}(hb:w.heap[b]?=some (.cells #[.int .i64 r,.slice none 0 0,.slice none 0 0] 55 (0,0))) (hB:B≤b):Td B w b r (.slice none 0 0) (.slice none 0 0) [] [] [] :=
 ⟨hb,hB,⟨rfl,.inl ⟨rfl,rfl⟩⟩,⟨rfl,.inl ⟨rfl,rfl⟩⟩,Uq.nil _ _ _⟩
theorem Td.frames {vf':Value}{us':List Value}{lls':List (List (Opn × Value))}(h:Td B w b r vf ve us lls zs) (hown:Pl B w' vf' us') (hfr:Fr (fun k=>vf.ownBlock=some k) w w')
  (hv:∀ k,vf'.ownBlock=some k→vf.ownBlock=some k∨w.heap.size≤k) (hq:Uq B (Tb b vf ve) w us' lls') :
  Td B (w'.setCell ⟨b,1,none⟩ vf') b r vf' ve us' lls' zs∧Lx (Tb b vf ve) (Tb b vf' ve) w (w'.setCell ⟨b,1,none⟩ vf'):=by
 have hb':w'.heap[b]?=some (.cells #[.int .i64 r,vf,ve] 55 (0,0)):=by rw [hfr.block b h.lt h.nf];exact h.blk
 have hne':vf'.ownBlock≠some b:=fun e=>by
  rcases hv b e with e | e
  ·exact h.nf e
  ·have:=h.lt;omega
 have hx:Fr (fun k=>k=b∨vf.ownBlock=some k) w (w'.setCell ⟨b,1,none⟩ vf'):=(hfr.mono (fun k e=>.inr e)).trans ((Fr.of_set w' b 1 vf').mono (fun k e=>.inl e)) (fun _ _ h=>h)
 have x:Lx (Tb b vf ve) (Tb b vf' ve) w (w'.setCell ⟨b,1,none⟩ vf'):=by
  refine ⟨hx.mono (fun k hk=>?_),fun k hk=>?_⟩
  ·rcases hk with rfl | hk
   ·exact .inl rfl
   ·exact .inr (.inl hk)
  ·rcases hk with rfl | hk | hk
   ·exact .inl (.inl rfl)
   ·exact (hv k hk).imp (fun e=>.inr (.inl e)) id
   ·exact .inl (.inr (.inr hk))
 refine ⟨⟨by rw [heap_setCell_same w' b 1 _ _ vf' hb'];simp,h.base,ownsRow_setCell_other hown hne' _,?_,hq.step x⟩,x⟩
 refine qaz h.re hx (fun k hk e=>?_)
 rcases e with rfl | e
 ·exact h.ne hk
 ·exact qcw h.rf h.re (by decide) e hk
theorem Td.ends {ve':Value}{zs':List Nat}(h:Td B w b r vf ve us lls zs) (hown:Zl B w' ve' zs') (hfr:Fr (fun k=>ve.ownBlock=some k) w w')
  (hv:∀ k,ve'.ownBlock=some k→ve.ownBlock=some k∨w.heap.size≤k) :
  Td B (w'.setCell ⟨b,2,none⟩ ve') b r vf ve' us lls zs'∧Lx (Tb b vf ve) (Tb b vf ve') w (w'.setCell ⟨b,2,none⟩ ve'):=by
 have hb':w'.heap[b]?=some (.cells #[.int .i64 r,vf,ve] 55 (0,0)):=by rw [hfr.block b h.lt h.ne];exact h.blk
 have hne':ve'.ownBlock≠some b:=fun e=>by
  rcases hv b e with e | e
  ·exact h.ne e
  ·have:=h.lt;omega
 have hx:Fr (fun k=>k=b∨ve.ownBlock=some k) w (w'.setCell ⟨b,2,none⟩ ve'):=(hfr.mono (fun k e=>.inr e)).trans ((Fr.of_set w' b 2 ve').mono (fun k e=>.inl e)) (fun _ _ h=>h)
 have x:Lx (Tb b vf ve) (Tb b vf ve') w (w'.setCell ⟨b,2,none⟩ ve'):=by
  refine ⟨hx.mono (fun k hk=>?_),fun k hk=>?_⟩
  ·rcases hk with rfl | hk
   ·exact .inl rfl
   ·exact .inr (.inr hk)
  ·rcases hk with rfl | hk | hk
   ·exact .inl (.inl rfl)
   ·exact .inl (.inr (.inl hk))
   ·exact (hv k hk).imp (fun e=>.inr (.inr e)) id
 refine ⟨⟨by rw [heap_setCell_same w' b 2 _ _ ve' hb'];simp,h.base,?_,ownsRow_setCell_other hown hne' _,h.uq.step x⟩,x⟩
 refine qaz h.rf hx (fun k hk e=>?_)
 rcases e with rfl | e
 ·exact h.nf hk
 ·exact qcw h.rf h.re (by decide) hk e
theorem Td.cells (h:Td B w b r vf ve us lls zs):w.cell? ⟨b,0,none⟩=some (.int .i64 r)∧w.cell? ⟨b,1,none⟩=some vf∧w.cell? ⟨b,2,none⟩=some ve∧w.frozen? ⟨b,0,none⟩=false∧w.frozen? ⟨b,1,none⟩=false∧w.frozen? ⟨b,2,none⟩=false:=by
 refine ⟨?_,?_,?_,frozen_of_row w b 0 _ _ h.blk,frozen_of_row w b 1 _ _ h.blk,frozen_of_row w b 2 _ _ h.blk⟩
 ·rw [cell_of_row w b 0 _ _ _ h.blk];rfl
 ·rw [cell_of_row w b 1 _ _ _ h.blk];rfl
 ·rw [cell_of_row w b 2 _ _ _ h.blk];rfl
end
structure To (B:Nat) (w:World) (vf ve:Value) (Fs:List (List Opn)) (lls:List (List (Opn × Value))):Prop where
 us:∃ us:List Value,us.length=lls.length∧Sl 1 w vf lls.length us∧∀ i (h:i<lls.length) (k:i<us.length),Os w (us[i]) (lls[i])∧Nn B (us[i]) (lls[i])
 fb:∀ k,vf.ownBlock=some k→B≤k
 ends:Sl 1 w ve Fs.length ((endsF Fs).map fun p=>Value.int .i64 (p.1:Nat))
 eb:∀ k,ve.ownBlock=some k→B≤k
 fl:lls.map fsts=Fs
theorem To.oss {B:Nat}{w:World}{vf ve:Value}{Fs:List (List Opn)}{lls:List (List (Opn × Value))}(h:To B w vf ve Fs lls):Oss w vf lls:=by
 obtain ⟨us,h1,h2,h3⟩:=h.us
 exact ⟨us,h1,h2,fun i hi hk=>(h3 i hi hk).1⟩
theorem Os.kept {B:Nat}{S:Nat→Prop}{w w':World}{v:Value}{l:List (Opn × Value)}(h:Os w v l) (hn:Nn B v l) (hf:Fr S w w') (hs:∀ k,S k→k<B):Os w' v l :=
 ⟨Sl.kept h.1 (fun k hk hlt=>hf.block k hlt (fun e=>by have h1:=hs k e;have h2:=hn.1 k hk;omega)),fun p hp=>Sl.kept (h.2 p hp) (fun k hk hlt=>hf.block k hlt (fun e=>by have h1:=hs k e;have h2:=hn.2 p hp k hk;omega))⟩
theorem To.kept {B:Nat}{S:Nat→Prop}{w w':World}{vf ve:Value}{Fs:List (List Opn)}{lls:List (List (Opn × Value))}(h:To B w vf ve Fs lls) (hf:Fr S w w') (hs:∀ k,S k→k<B):To B w' vf ve Fs lls:=by
 obtain ⟨us,h1,h2,h3⟩:=h.us
 exact ⟨⟨us,h1,Sl.kept h2 (fun k hk hlt=>hf.block k hlt (fun e=>by have h1:=hs k e;have h2:=h.fb k hk;omega)),fun i hi hk=>⟨(h3 i hi hk).1.kept (h3 i hi hk).2 hf hs,(h3 i hi hk).2⟩⟩,h.fb,
  Sl.kept h.ends (fun k hk hlt=>hf.block k hlt (fun e=>by have h1:=hs k e;have h2:=h.eb k hk;omega)),h.eb,h.fl⟩
theorem To.base {B C:Nat}{w:World}{vf ve:Value}{Fs:List (List Opn)}{lls:List (List (Opn × Value))}(h:To B w vf ve Fs lls) (hC:C≤B):To C w vf ve Fs lls:=by
 obtain ⟨us,h1,h2,h3⟩:=h.us
 exact ⟨⟨us,h1,h2,fun i hi hk=>⟨(h3 i hi hk).1,(h3 i hi hk).2.mono hC⟩⟩,fun k hk=>Nat.le_trans hC (h.fb k hk),h.ends,fun k hk=>Nat.le_trans hC (h.eb k hk),h.fl⟩
theorem To.below {B:Nat}{w w':World}{vf ve:Value}{Fs:List (List Opn)}{lls:List (List (Opn × Value))}(h:To B w vf ve Fs lls) (hb:Below w.heap.size w w'):To B w' vf ve Fs lls :=
 h.kept (Fr.of_below (S:=fun _=>False) hb) (fun _ e=>e.elim)
theorem To.of {B:Nat}{w:World}{b:Nat}{r:Int}{vf ve:Value}{us:List Value}{lls:List (List (Opn × Value))}{Fs:List (List Opn)}(h:Td B w b r vf ve us lls ((endsF Fs).map Prod.fst)) (hl:lls.map fsts=Fs):To B w vf ve Fs lls:=by
 have hlen:Fs.length=lls.length:=by rw [←hl];simp
 have e:(endsF Fs).length=Fs.length:=qcg Fs
 refine ⟨⟨us,h.uq.1,?_,fun i hi hk=>⟨(h.uq.2 i hi hk).1.os,(h.uq.2 i hi hk).2⟩⟩,fun k hk=>(h.rf.lt k hk).1,?_,fun k hk=>(h.re.lt k hk).1,hl⟩
 ·have:=Sl.of_own h.rf
  rw [h.uq.1] at this
  exact this
 ·have:=Sl.of_own h.re
  rw [List.length_map,e,List.map_map] at this
  exact this
end Go.Proofs.YtkcjkncpaopjbaaGreatDoor
