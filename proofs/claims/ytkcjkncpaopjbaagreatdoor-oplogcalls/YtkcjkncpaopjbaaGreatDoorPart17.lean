/-
  Parts of the proof, one behind the other; what each proves stands at its head.
-/
import Derived.Test.YtkcjkncpaopjbaaGreatDoorPart12
import Derived.Test.YtkcjkncpaopjbaaGreatDoorPart9
import Derived.Deep.RegionLaw
import Derived.Test.YtkcjkncpaopjbaaGreatDoorPart6
import Derived.Test.YtkcjkncpaopjbaaGreatDoorPart13

namespace Go.Proofs.YtkcjkncpaopjbaaGreatDoor
open Go.RowKit
set_option linter.unusedVariables false
set_option maxRecDepth 100000
set_option maxHeartbeats 2000000 in
theorem qtj (B b:Nat) (v:Value) (xs:List Int) (s:ByteArray) (w:World) (h:Wr B w b v xs) (hB:B≤w.heap.size) (hs:s.size≤1099511627776) (hlen:xs.length≤1099511627776) :
  Calls Tryz.prog 103 #[.pointer (some ⟨b,0,none⟩),.string s] w fun e w' =>
   e=.returned (.tuple #[])∧∃ v',Wr B w' b v' (xs++M.encText s)∧Wx b v v' w w':=by
 have HW:=hid h
 obtain ⟨hc,hfz,a,c,rfl,_⟩:=h.cell
 have hlx:xs.length+(M.encText s).length≤140737488355328:=by
  rw [qbf]
  have:=(M.sz_pos s.size).2
  omega
 have HE:=hid (qcq s (by omega))
 clear h
 go_enter Tryz.func103,Tryz.ntmps103
 go_wp2_with fail
 go_region_law (first
  | (go_simp;go_at_call 109;refine (qkk s _ (by omega)).mono ?_;rintro e w2 ⟨u,rfl,hu,hb2⟩;have HW2:=hid (Wr.below (w:=w.drew) (w':=w2) HW.out hb2);have HU:=hid hu;have hc2:=HW2.out.cell.1;have HB2:=hid hb2)
  | (refine qbt rfl _ _ rfl B _ _ xs rfl HW2.out.2.1 _ (M.encText s) rfl HU.out hlx (Nat.le_trans hB HB2.out.size) ?_;intro v3 w3 hown3 hg3 hv3;rw [←List.length_append] at hown3;have hp:=HW2.out.put hown3 hg3 HE.out hv3;have HP:=hid hp;obtain ⟨a3,c3,rfl,_⟩:=qbb hown3;simp only [List.length_append] at HP;have hc3:=hg3.cell HW2.out.cell.1 (Ne.symm (HW2.out.far HW2.out.1 (by decide)));have hfz3:w3.frozen? ⟨b,0,none⟩=false:=(World.frozen?_of_block (w:=w2) (hg3.block b HW2.out.lt (Ne.symm (HW2.out.far HW2.out.1 (by decide))))).trans HW2.out.cell.2.1))
 all_goals
  go_wp2
  go_end0
  refine ⟨rfl,_,HP.out.1,?_⟩
  exact Wx.trans (Wx.of_below (((Below.refl _ w).drew).trans HB2.out)) HP.out.2
theorem qyv (w:World) (ns:List Int):(w.alloc (.cells (ns.map (Value.int .i64)).toArray 3)).heap[w.heap.size]?=some (.cells (ns.map (Value.int .i64)).toArray 3 (0,0)):=heap_alloc_new w _
theorem qcd (B b:Nat) (v:Value) (xs ns:List Int) (w:World) (h:Wr B w b v xs) (hB:B≤w.heap.size) (hns:∀ n ∈ ns,Num49 n) (hlen:xs.length≤1099511627776) (hpos:0<ns.length) (h9:ns.length≤9) :
  Calls Tryz.prog 101 #[.pointer (some ⟨b,0,none⟩),.slice (some ⟨w.heap.size,0,none⟩) ns.length ns.length] (w.alloc (.cells (ns.map (Value.int .i64)).toArray 3)) fun e w' =>
   e=.returned (.tuple #[])∧∃ v',Wr B w' b v' (xs++ns.flatMap M.enc)∧Wx b v v' w w' :=
 (qpc B b v xs ns w.heap.size _ (h.below (ba _ _)) (Nat.le_trans hB (ba w _).size) hns (by omega) hpos (qyv w ns)).mono fun _ _ ⟨he,v',h1,h2⟩=>⟨he,v',h1,(Wx.of_below (ba _ _)).trans h2⟩
theorem quz (B b:Nat) (v:Value) (xs:List Int) (r n:Int) (w:World) (h:Wr B w b v xs) (hB:B≤w.heap.size) (h1:Num49 r) (h2:Num49 n) (hlen:xs.length≤1099511627776) :
  Calls Tryz.prog 135 #[.pointer (some ⟨b,0,none⟩),idv r n] w fun e w' =>
   e=.returned (.tuple #[])∧∃ v',Wr B w' b v' (xs++en2 r n)∧Wx b v v' w w':=by
 have HX:=hid (ba w (ido 69 r n))
 have HC:=hid (qcd B b v xs [r,n] _ (h.below HX.out) (Nat.le_trans hB HX.out.size) (by intro x hx;simp at hx;rcases hx with rfl | rfl<;>assumption) hlen (by simp) (by simp))
 rw [show (w.alloc (ido 69 r n)).heap.size=w.heap.size+1 by simp] at HC
 clear h
 go_enter Tryz.func135,Tryz.ntmps135
 go_wp2_with fail
 refine HC.out.mono ?_
 rintro e w1 ⟨rfl,v',hW,hx⟩
 have HW:=hid hW
 have HY:=hid hx
 clear hW hx
 go_wp2
 go_end0
 refine ⟨rfl,v',?_,(Wx.of_below HX.out).trans HY.out⟩
 have:=HW.out
 simpa [en2] using this
theorem jai (B b:Nat) (v:Value) (xs:List Int) (r n i:Int) (w:World) (h:Wr B w b v xs) (hB:B≤w.heap.size) (h1:Num49 r) (h2:Num49 n) (h3:Num49 i) (hlen:xs.length≤1099511627776) :
  Calls Tryz.prog 136 #[.pointer (some ⟨b,0,none⟩),.agg #[.int .i64 r,.int .i64 n,.int .i64 i]] w fun e w' =>
   e=.returned (.tuple #[])∧∃ v',Wr B w' b v' (xs++en3 r n i)∧Wx b v v' w w':=by
 have HX:=hid (ba w (.cells #[.int .i64 r,.int .i64 n,.int .i64 i] 71))
 have HC:=hid (qcd B b v xs [r,n,i] _ (h.below HX.out) (Nat.le_trans hB HX.out.size) (by intro x hx;simp at hx;rcases hx with rfl | rfl | rfl<;>assumption) hlen (by simp) (by simp))
 rw [show (w.alloc (.cells #[.int .i64 r,.int .i64 n,.int .i64 i] 71)).heap.size=w.heap.size+1 by simp] at HC
 clear h
 go_enter Tryz.func136,Tryz.ntmps136
 go_wp2_with fail
 refine HC.out.mono ?_
 rintro e w1 ⟨rfl,v',hW,hx⟩
 have HW:=hid hW
 have HY:=hid hx
 clear hW hx
 go_wp2
 go_end0
 refine ⟨rfl,v',?_,(Wx.of_below HX.out).trans HY.out⟩
 have:=HW.out
 simpa [en3] using this
theorem flag_w (B b:Nat) (v:Value) (xs:List Int) (f:Bool) (w:World) (h:Wr B w b v xs) (hB:B≤w.heap.size) (hlen:xs.length≤1099511627776) :
  Calls Tryz.prog 138 #[.pointer (some ⟨b,0,none⟩),.bool f] w fun e w' =>
   e=.returned (.tuple #[])∧∃ v',Wr B w' b v' (xs++M.enc (if f then 1 else 0))∧Wx b v v' w w':=by
 cases f
 ·have HC:=hid (qcd B b v xs [0] _ h hB (by intro x hx;simp at hx;subst hx;unfold Num49;decide) hlen (by decide) (by decide))
  clear h
  go_enter Tryz.func138,Tryz.ntmps138
  go_wp2_with fail
  refine HC.out.mono ?_
  rintro e w1 ⟨rfl,v',hW,hx⟩
  have HW:=hid hW
  have HY:=hid hx
  clear hW hx
  go_wp2
  go_end0
  refine ⟨rfl,v',?_,HY.out⟩
  have:=HW.out
  simpa using this
 ·have HC:=hid (qcd B b v xs [1] _ h hB (by intro x hx;simp at hx;subst hx;unfold Num49;decide) hlen (by decide) (by decide))
  clear h
  go_enter Tryz.func138,Tryz.ntmps138
  go_wp2_with fail
  refine HC.out.mono ?_
  rintro e w1 ⟨rfl,v',hW,hx⟩
  have HW:=hid hW
  have HY:=hid hx
  clear hW hx
  go_wp2
  go_end0
  refine ⟨rfl,v',?_,HY.out⟩
  have:=HW.out
  simpa using this
theorem xnumb (n:Int) (w:World) (h:Num49 n):Calls Tryz.prog 84 #[.int .i64 n] w fun e w'=>∃ v,e=.returned v∧w'.ownsRow w.heap.size 5 1 v (M.enc n).length (cs (M.enc n))∧Below w.heap.size w w':=by
 have HR:=hid (qdh n w h.1 h.2)
 clear h
 go_enter Tryz.func84,Tryz.ntmps84
 go_wp2_with fail
 refine HR.out.mono ?_
 rintro e w1 ⟨g,rfl,hown,hb⟩
 have HO:=hid hown
 have HB:=hid hb
 clear hown hb
 go_wp2
 go_ret
 exact ⟨_,rfl,by rw [M.enc_length];exact HO.out,HB.out⟩
abbrev cho (r n i:Int):Obj:=.cells #[.int .i64 r,.int .i64 n,.int .i64 i] 71
abbrev chw (r n i:Int):Value:=.agg #[.int .i64 r,.int .i64 n,.int .i64 i]
set_option maxHeartbeats 2000000 in
theorem jaj (c:Nat) (s:St) (w:World) (h:Cu w c s) :
  Calls Tryz.prog 128 #[rdv c] w fun e w' =>
   e=.returned (chw (rn 15 s).1 (rn 1048576 (rn 15 s).2).1 (rn 63 (rn 1048576 (rn 15 s).2).2).1)∧Cu w' c (rn 63 (rn 1048576 (rn 15 s).2).2).2∧Fr (fun k=>k=c) w w':=by
 have hlt:=h.lt
 have HA:=hid (bt (ba w (rdo c)) (ba _ (cho 0 0 0)))
 have HC:=hid (h.below HA.out)
 have R1:=hid (heap_alloc2_old w (rdo c) (cho 0 0 0))
 have R2:=hid (heap_alloc2_new w (rdo c) (cho 0 0 0))
 have N1:=hid (fun W=>qkl c s W)
 obtain ⟨p1,hp1⟩:∃ p1,rn 15 s=p1:=⟨_,rfl⟩
 rw [hp1] at N1 ⊢
 obtain ⟨p2,hp2⟩:∃ p2,rn 1048576 p1.2=p2:=⟨_,rfl⟩
 rw [hp2] at N1 ⊢
 have N2:=hid (fun W=>qjz c p2.2 63 W)
 obtain ⟨p3,hp3⟩:∃ p3,rn 63 p2.2=p3:=⟨_,rfl⟩
 rw [hp3] at N2 ⊢
 clear h hp1 hp2 hp3
 go_enter Tryz.func128,Tryz.ntmps128
 go_wp2_with fail
 refine (N1.out _ HC.out).mono ?_
 rintro e w1 ⟨rfl,hc1,hf1⟩
 have H1:=hid (hf1.rows R1.out (by omega))
 have H2:=hid (hf1.rows R2.out (by omega))
 have HF1:=hid ((Fr.of_below HA.out).trans hf1 (fun _ _ h=>h))
 have hs1:w.heap.size+1<w1.heap.size:=(Array.getElem?_eq_some_iff.1 H2.out).1
 have HA2:=hid (ba w1 (ido 69 p1.1 p2.1))
 have HC1:=hid (hc1.below HA2.out)
 have H3:=hid (((Fr.of_below HA2.out:Fr (fun k=>k=c) _ _)).rows H1.out (by omega))
 have H4:=hid (((Fr.of_below HA2.out:Fr (fun k=>k=c) _ _)).rows H2.out (by omega))
 have H5:=hid (heap_alloc_new w1 (ido 69 p1.1 p2.1))
 have q1:=cell_of_row _ _ 0 _ _ _ H3.out
 simp at q1
 clear hc1 hf1
 go_wp2_with fail
 go_region_law (go_simp;go_at_call 90;refine (N2.out (w1.alloc (ido 69 p1.1 p2.1)).drew HC1.out).mono ?_;rintro e w2 ⟨rfl,hc2,hg2⟩;have HG2:=hid hg2;have HC2:=hid hc2;have H6:=hid (qax hg2 H4.out (by omega));have H7:=hid (qax hg2 H5.out (by omega));have t0:=cell_of_row w2 _ 0 _ _ _ H6.out;have t1:=cell_of_row w2 _ 1 _ _ _ H6.out;have t2:=cell_of_row w2 _ 2 _ _ _ H6.out;have g0:=frozen_of_row w2 _ 0 _ _ H6.out;have g1:=frozen_of_row w2 _ 1 _ _ H6.out;have g2:=frozen_of_row w2 _ 2 _ _ H6.out;have u0:=cell_of_row w2 _ 0 _ _ _ H7.out;have u1:=cell_of_row w2 _ 1 _ _ _ H7.out;simp at t0 t1 t2 u0 u1)
 all_goals
  go_wp2
  have K1:=set_row (i:=0) H6.out (.int .i64 p1.1)
  have K2:=set_row (i:=1) K1 (.int .i64 p2.1)
  have K3:=set_row (i:=2) K2 (.int .i64 p3.1)
  refine bodyPost_ret (results_cell_row rfl _ _ (w.heap.size+1) 71 #[.int .i64 p1.1,.int .i64 p2.1,.int .i64 p3.1] (0,0) _ rfl K3 Tryz.underlying71 rfl (by kernel_rfl)) rfl ?_
  refine ⟨rfl,?_,?_⟩
  ·exact ((HC2.out.set_row H6.out (by omega) ⟨_,rfl,fun x=>by simp⟩ _).set_row K1 (by omega) ⟨_,rfl,fun x=>by simp⟩ _).set_row K2 (by omega) ⟨_,rfl,fun x=>by simp⟩ _
  ·have h0:Fr (fun k=>k=c) w w2:=(HF1.out.trans (Fr.of_below ((HA2.out).drew):Fr (fun k=>k=c) _ _) (fun _ _ h=>h)).trans (Fr.grown HG2.out) (fun _ _ h=>h)
   exact ((h0.set 0 _ (.inl (by omega))).set 1 _ (.inl (by omega))).set 2 _ (.inl (by omega))
def Oi (B c:Nat) (w:World) (b:Nat) (o:Opn):Prop:=∃ v,Ob w b o v∧Cs w v o.cuts∧(0<o.cuts.length→v.ownBlock≠some b∧v.ownBlock≠some c)∧∀ k,v.ownBlock=some k→B<k
theorem Cs.kept {w w':World}{v:Value}{l:List Ct}(h:Cs w v l) (hb:0<l.length→∀ k,v.ownBlock=some k→k<w.heap.size→w'.heap[k]?=w.heap[k]?):Cs w' v l:=by
 by_cases hl:0<l.length
 ·exact Sl.kept h (hb hl)
 ·obtain rfl:=List.eq_nil_of_length_eq_zero (by omega:l.length=0)
  obtain ⟨h0,a,c,h1,h2,h3,h4,_⟩:=h
  exact ⟨h0,a,c,h1,h2,h3,h4,fun j u hu=>by simp at hu⟩
theorem Cs.fr {S:Nat→Prop}{w w':World}{v:Value}{l:List Ct}(h:Cs w v l) (hf:Fr S w w') (hb:0<l.length→∀ k,v.ownBlock=some k→¬ S k):Cs w' v l :=
 h.kept fun hl k hk hkl=>hf.block k hkl (hb hl k hk)
theorem qdk {b c:Nat}{w w1 w2:World}(h:Fr (fun k=>k=c) w w1) (k:Fr (fun k=>k=b) w1 w2):Fr (fun k=>k=b∨k=c) w w2:=(h.mono (fun _ e=>.inr e)).trans k (fun _ _ e=>.inl e)
set_option maxHeartbeats 4000000 in
theorem jbv (f:Nat) (hf:f≤8) (B c b:Nat) (o:Opn) (s:St) (w:World) (hBw:B<w.heap.size) (hO:Oi B c w b o) (h:Cu w c s) (hbc:b≠c) (hv:K.Byt s.1) :
  Calls Tryz.prog 117 #[rdv c,.pointer (some ⟨b,0,none⟩),.int .i64 f] w fun e w'=>e=.returned (.tuple #[]) ∧
   Oi B c w' b (rdF Bnd.own f (o,s)).1∧Cu w' c (rdF Bnd.own f (o,s)).2∧Fr (fun k=>k=b∨k=c) w w':=by
 obtain ⟨v,hob,hcs,hvb,hvB⟩:=hO
 have HVB:=hid hvB
 clear hvB
 have hlt:=h.lt
 have hbl:=hob.lt
 have HA:=hid (ba w (rdo c))
 have HC:=hid (h.below HA.out)
 have HO:=hid (hob.below HA.out)
 have HS:=hid (hcs.below HA.out)
 have HV:=hid hvb
 have HY:=hid hv
 have q0:(w.alloc (rdo c)).cell? ⟨w.heap.size,0,none⟩=some (.pointer (some ⟨c,0,none⟩)):=cell_of_row _ _ 0 _ _ _ (heap_alloc_new w (rdo c))
 clear h hob hcs hvb hv
 have nb1:∀ (n x:Int),(Value.int .i64 n)≠.int .u8 x:=fun n x=>by simp
 have nb2:∀ (t:ByteArray) (x:Int),(Value.string t)≠.int .u8 x:=fun t x=>by simp
 have nb3:∀ (t:Bool) (x:Int),(Value.bool t)≠.int .u8 x:=fun t x=>by simp
 rcases nine hf with rfl | rfl | rfl | rfl | rfl | rfl | rfl | rfl | rfl
 ·have N1:=hid (fun W=>qkl c s W)
  have hrd:rdF Bnd.own 0 (o,s)=({ o with br:=(rn 15 s).1,bm:=(rn 1048576 (rn 15 s).2).1 },(rn 1048576 (rn 15 s).2).2):=rfl
  obtain ⟨p1,hp1⟩:∃ p,rn 15 s=p:=⟨_,rfl⟩
  rw [hp1] at N1 hrd
  obtain ⟨p2,hp2⟩:∃ p,rn 1048576 p1.2=p:=⟨_,rfl⟩
  rw [hp2] at N1 hrd
  rw [hrd]
  clear hrd hp1 hp2
  go_enter Tryz.func117,Tryz.ntmps117
  go_wp2_with fail
  refine (N1.out _ HC.out).mono ?_
  rintro e w1 ⟨rfl,hc1,hf1⟩
  have HF1:=hid (hf1)
  have HC1:=hid hc1
  have HO1:=hid (HF1.out.rows HO.out (by omega))
  have c4:=Ob.cell (w:=w1) HO1.out 4
  have f4:=Ob.frozen (w:=w1) HO1.out 4
  have c5:=Ob.cell (w:=w1) HO1.out 5
  have f5:=Ob.frozen (w:=w1) HO1.out 5
  simp at c4 c5
  clear hc1 hf1 q0
  go_wp2
  go_end0
  have K0:=set_row (i:=4) HO1.out (.int .i64 p1.1)
  have K1:=set_row (i:=5) K0 (.int .i64 p2.1)
  have hFr:Fr (fun k=>k=b∨k=c) w _:=qdk ((Fr.of_below HA.out).trans HF1.out (fun _ _ h=>h)) ((Fr.of_set w1 b 4 (.int .i64 p1.1)).set 5 (.int .i64 p2.1) (.inr rfl))
  refine ⟨rfl,⟨v,K1,?_,HV.out,HVB.out⟩,?_,hFr⟩
  ·refine Cs.fr HS.out (S:=fun k=>k=b∨k=c) ?_ (fun hl k hk hs=>?_)
   ·exact qdk HF1.out ((Fr.of_set w1 b 4 (.int .i64 p1.1)).set 5 (.int .i64 p2.1) (.inr rfl))
   ·have:=HV.out hl
    rcases hs with rfl | rfl
    ·exact this.1 hk
    ·exact this.2 hk
  ·exact (Cur.set_row (Cur.set_row HC1.out HO1.out hbc ⟨_,rfl,nb1 _⟩ _) K0 hbc ⟨_,rfl,nb1 _⟩ _)
 ·have N1:=hid (fun W=>qkl c s W)
  have hrd:rdF Bnd.own 1 (o,s)=({ o with pr:=(rn 15 s).1,pm:=(rn 1048576 (rn 15 s).2).1 },(rn 1048576 (rn 15 s).2).2):=rfl
  obtain ⟨p1,hp1⟩:∃ p,rn 15 s=p:=⟨_,rfl⟩
  rw [hp1] at N1 hrd
  obtain ⟨p2,hp2⟩:∃ p,rn 1048576 p1.2=p:=⟨_,rfl⟩
  rw [hp2] at N1 hrd
  rw [hrd]
  clear hrd hp1 hp2
  go_enter Tryz.func117,Tryz.ntmps117
  go_wp2_with fail
  refine (N1.out _ HC.out).mono ?_
  rintro e w1 ⟨rfl,hc1,hf1⟩
  have HF1:=hid (hf1)
  have HC1:=hid hc1
  have HO1:=hid (HF1.out.rows HO.out (by omega))
  have c6:=Ob.cell (w:=w1) HO1.out 6
  have f6:=Ob.frozen (w:=w1) HO1.out 6
  have c7:=Ob.cell (w:=w1) HO1.out 7
  have f7:=Ob.frozen (w:=w1) HO1.out 7
  simp at c6 c7
  clear hc1 hf1 q0
  go_wp2
  go_end0
  have K0:=set_row (i:=6) HO1.out (.int .i64 p1.1)
  have K1:=set_row (i:=7) K0 (.int .i64 p2.1)
  have hFr:Fr (fun k=>k=b∨k=c) w _:=qdk ((Fr.of_below HA.out).trans HF1.out (fun _ _ h=>h)) ((Fr.of_set w1 b 6 (.int .i64 p1.1)).set 7 (.int .i64 p2.1) (.inr rfl))
  refine ⟨rfl,⟨v,K1,?_,HV.out,HVB.out⟩,?_,hFr⟩
  ·refine Cs.fr HS.out (S:=fun k=>k=b∨k=c) ?_ (fun hl k hk hs=>?_)
   ·exact qdk HF1.out ((Fr.of_set w1 b 6 (.int .i64 p1.1)).set 7 (.int .i64 p2.1) (.inr rfl))
   ·have:=HV.out hl
    rcases hs with rfl | rfl
    ·exact this.1 hk
    ·exact this.2 hk
  ·exact (Cur.set_row (Cur.set_row HC1.out HO1.out hbc ⟨_,rfl,nb1 _⟩ _) K0 hbc ⟨_,rfl,nb1 _⟩ _)
 ·have N1:=hid (fun W=>qqb c s 32 W)
  have hrd:rdF Bnd.own 2 (o,s)=({ o with key:=(rt 32 s).1 },(rt 32 s).2):=rfl
  obtain ⟨p1,hp1⟩:∃ p,rt 32 s=p:=⟨_,rfl⟩
  rw [hp1] at N1 hrd
  rw [hrd]
  clear hrd hp1
  go_enter Tryz.func117,Tryz.ntmps117
  go_wp2_with fail
  refine (N1.out _ HC.out).mono ?_
  rintro e w1 ⟨rfl,hc1,hf1⟩
  have HF1:=hid (Fr.grown hf1)
  have HC1:=hid hc1
  have HO1:=hid (HF1.out.rows HO.out (by omega))
  have c8:=Ob.cell (w:=w1) HO1.out 8
  have f8:=Ob.frozen (w:=w1) HO1.out 8
  simp at c8
  clear hc1 hf1 q0
  go_wp2
  go_end0
  have K0:=set_row (i:=8) HO1.out (.string p1.1)
  have hFr:Fr (fun k=>k=b∨k=c) w _:=qdk ((Fr.of_below HA.out).trans HF1.out (fun _ _ h=>h)) (Fr.of_set w1 b 8 (.string p1.1))
  refine ⟨rfl,⟨v,K0,?_,HV.out,HVB.out⟩,?_,hFr⟩
  ·refine Cs.fr HS.out (S:=fun k=>k=b∨k=c) ?_ (fun hl k hk hs=>?_)
   ·exact qdk HF1.out (Fr.of_set w1 b 8 (.string p1.1))
   ·have:=HV.out hl
    rcases hs with rfl | rfl
    ·exact this.1 hk
    ·exact this.2 hk
  ·exact (Cur.set_row HC1.out HO1.out hbc ⟨_,rfl,nb2 _⟩ _)
 ·have N1:=hid (fun W=>qkl c s W)
  have hrd:rdF Bnd.own 3 (o,s)=({ o with sr:=(rn 15 s).1,sm:=(rn 1048576 (rn 15 s).2).1 },(rn 1048576 (rn 15 s).2).2):=rfl
  obtain ⟨p1,hp1⟩:∃ p,rn 15 s=p:=⟨_,rfl⟩
  rw [hp1] at N1 hrd
  obtain ⟨p2,hp2⟩:∃ p,rn 1048576 p1.2=p:=⟨_,rfl⟩
  rw [hp2] at N1 hrd
  rw [hrd]
  clear hrd hp1 hp2
  go_enter Tryz.func117,Tryz.ntmps117
  go_wp2_with fail
  refine (N1.out _ HC.out).mono ?_
  rintro e w1 ⟨rfl,hc1,hf1⟩
  have HF1:=hid (hf1)
  have HC1:=hid hc1
  have HO1:=hid (HF1.out.rows HO.out (by omega))
  have c9:=Ob.cell (w:=w1) HO1.out 9
  have f9:=Ob.frozen (w:=w1) HO1.out 9
  have c10:=Ob.cell (w:=w1) HO1.out 10
  have f10:=Ob.frozen (w:=w1) HO1.out 10
  simp at c9 c10
  clear hc1 hf1 q0
  go_wp2
  go_end0
  have K0:=set_row (i:=9) HO1.out (.int .i64 p1.1)
  have K1:=set_row (i:=10) K0 (.int .i64 p2.1)
  have hFr:Fr (fun k=>k=b∨k=c) w _:=qdk ((Fr.of_below HA.out).trans HF1.out (fun _ _ h=>h)) ((Fr.of_set w1 b 9 (.int .i64 p1.1)).set 10 (.int .i64 p2.1) (.inr rfl))
  refine ⟨rfl,⟨v,K1,?_,HV.out,HVB.out⟩,?_,hFr⟩
  ·refine Cs.fr HS.out (S:=fun k=>k=b∨k=c) ?_ (fun hl k hk hs=>?_)
   ·exact qdk HF1.out ((Fr.of_set w1 b 9 (.int .i64 p1.1)).set 10 (.int .i64 p2.1) (.inr rfl))
   ·have:=HV.out hl
    rcases hs with rfl | rfl
    ·exact this.1 hk
    ·exact this.2 hk
  ·exact (Cur.set_row (Cur.set_row HC1.out HO1.out hbc ⟨_,rfl,nb1 _⟩ _) K0 hbc ⟨_,rfl,nb1 _⟩ _)
 ·have N1:=hid (fun W=>jaj c s W)
  have hrd:rdF Bnd.own 4 (o,s)=({ o with lr:=(rn 15 s).1,lm:=(rn 1048576 (rn 15 s).2).1,li:=(rn 63 (rn 1048576 (rn 15 s).2).2).1 },(rn 63 (rn 1048576 (rn 15 s).2).2).2):=rfl
  obtain ⟨p1,hp1⟩:∃ p,rn 15 s=p:=⟨_,rfl⟩
  rw [hp1] at N1 hrd
  obtain ⟨p2,hp2⟩:∃ p,rn 1048576 p1.2=p:=⟨_,rfl⟩
  rw [hp2] at N1 hrd
  obtain ⟨p3,hp3⟩:∃ p,rn 63 p2.2=p:=⟨_,rfl⟩
  rw [hp3] at N1 hrd
  rw [hrd]
  clear hrd hp1 hp2 hp3
  go_enter Tryz.func117,Tryz.ntmps117
  go_wp2_with fail
  refine (N1.out _ HC.out).mono ?_
  rintro e w1 ⟨rfl,hc1,hf1⟩
  have HF1:=hid (hf1)
  have HC1:=hid hc1
  have HO1:=hid (HF1.out.rows HO.out (by omega))
  have c11:=Ob.cell (w:=w1) HO1.out 11
  have f11:=Ob.frozen (w:=w1) HO1.out 11
  have c12:=Ob.cell (w:=w1) HO1.out 12
  have f12:=Ob.frozen (w:=w1) HO1.out 12
  have c13:=Ob.cell (w:=w1) HO1.out 13
  have f13:=Ob.frozen (w:=w1) HO1.out 13
  simp at c11 c12 c13
  clear hc1 hf1 q0
  go_wp2
  go_end0
  have K0:=set_row (i:=11) HO1.out (.int .i64 p1.1)
  have K1:=set_row (i:=12) K0 (.int .i64 p2.1)
  have K2:=set_row (i:=13) K1 (.int .i64 p3.1)
  have hFr:Fr (fun k=>k=b∨k=c) w _:=qdk ((Fr.of_below HA.out).trans HF1.out (fun _ _ h=>h)) (((Fr.of_set w1 b 11 (.int .i64 p1.1)).set 12 (.int .i64 p2.1) (.inr rfl)).set 13 (.int .i64 p3.1) (.inr rfl))
  refine ⟨rfl,⟨v,K2,?_,HV.out,HVB.out⟩,?_,hFr⟩
  ·refine Cs.fr HS.out (S:=fun k=>k=b∨k=c) ?_ (fun hl k hk hs=>?_)
   ·exact qdk HF1.out (((Fr.of_set w1 b 11 (.int .i64 p1.1)).set 12 (.int .i64 p2.1) (.inr rfl)).set 13 (.int .i64 p3.1) (.inr rfl))
   ·have:=HV.out hl
    rcases hs with rfl | rfl
    ·exact this.1 hk
    ·exact this.2 hk
  ·exact (Cur.set_row (Cur.set_row (Cur.set_row HC1.out HO1.out hbc ⟨_,rfl,nb1 _⟩ _) K0 hbc ⟨_,rfl,nb1 _⟩ _) K1 hbc ⟨_,rfl,nb1 _⟩ _)
 ·have N1:=hid (fun W=>jaj c s W)
  have hrd:rdF Bnd.own 5 (o,s)=({ o with gr:=(rn 15 s).1,gm:=(rn 1048576 (rn 15 s).2).1,gi:=(rn 63 (rn 1048576 (rn 15 s).2).2).1 },(rn 63 (rn 1048576 (rn 15 s).2).2).2):=rfl
  obtain ⟨p1,hp1⟩:∃ p,rn 15 s=p:=⟨_,rfl⟩
  rw [hp1] at N1 hrd
  obtain ⟨p2,hp2⟩:∃ p,rn 1048576 p1.2=p:=⟨_,rfl⟩
  rw [hp2] at N1 hrd
  obtain ⟨p3,hp3⟩:∃ p,rn 63 p2.2=p:=⟨_,rfl⟩
  rw [hp3] at N1 hrd
  rw [hrd]
  clear hrd hp1 hp2 hp3
  go_enter Tryz.func117,Tryz.ntmps117
  go_wp2_with fail
  refine (N1.out _ HC.out).mono ?_
  rintro e w1 ⟨rfl,hc1,hf1⟩
  have HF1:=hid (hf1)
  have HC1:=hid hc1
  have HO1:=hid (HF1.out.rows HO.out (by omega))
  have c14:=Ob.cell (w:=w1) HO1.out 14
  have f14:=Ob.frozen (w:=w1) HO1.out 14
  have c15:=Ob.cell (w:=w1) HO1.out 15
  have f15:=Ob.frozen (w:=w1) HO1.out 15
  have c16:=Ob.cell (w:=w1) HO1.out 16
  have f16:=Ob.frozen (w:=w1) HO1.out 16
  simp at c14 c15 c16
  clear hc1 hf1 q0
  go_wp2
  go_end0
  have K0:=set_row (i:=14) HO1.out (.int .i64 p1.1)
  have K1:=set_row (i:=15) K0 (.int .i64 p2.1)
  have K2:=set_row (i:=16) K1 (.int .i64 p3.1)
  have hFr:Fr (fun k=>k=b∨k=c) w _:=qdk ((Fr.of_below HA.out).trans HF1.out (fun _ _ h=>h)) (((Fr.of_set w1 b 14 (.int .i64 p1.1)).set 15 (.int .i64 p2.1) (.inr rfl)).set 16 (.int .i64 p3.1) (.inr rfl))
  refine ⟨rfl,⟨v,K2,?_,HV.out,HVB.out⟩,?_,hFr⟩
  ·refine Cs.fr HS.out (S:=fun k=>k=b∨k=c) ?_ (fun hl k hk hs=>?_)
   ·exact qdk HF1.out (((Fr.of_set w1 b 14 (.int .i64 p1.1)).set 15 (.int .i64 p2.1) (.inr rfl)).set 16 (.int .i64 p3.1) (.inr rfl))
   ·have:=HV.out hl
    rcases hs with rfl | rfl
    ·exact this.1 hk
    ·exact this.2 hk
  ·exact (Cur.set_row (Cur.set_row (Cur.set_row HC1.out HO1.out hbc ⟨_,rfl,nb1 _⟩ _) K0 hbc ⟨_,rfl,nb1 _⟩ _) K1 hbc ⟨_,rfl,nb1 _⟩ _)
 ·have N1:=hid (fun W=>qqb c s 64 W)
  have hrd:rdF Bnd.own 6 (o,s)=({ o with text:=(rt 64 s).1 },(rt 64 s).2):=rfl
  obtain ⟨p1,hp1⟩:∃ p,rt 64 s=p:=⟨_,rfl⟩
  rw [hp1] at N1 hrd
  rw [hrd]
  clear hrd hp1
  go_enter Tryz.func117,Tryz.ntmps117
  go_wp2_with fail
  refine (N1.out _ HC.out).mono ?_
  rintro e w1 ⟨rfl,hc1,hf1⟩
  have HF1:=hid (Fr.grown hf1)
  have HC1:=hid hc1
  have HO1:=hid (HF1.out.rows HO.out (by omega))
  have c17:=Ob.cell (w:=w1) HO1.out 17
  have f17:=Ob.frozen (w:=w1) HO1.out 17
  simp at c17
  clear hc1 hf1 q0
  go_wp2
  go_end0
  have K0:=set_row (i:=17) HO1.out (.string p1.1)
  have hFr:Fr (fun k=>k=b∨k=c) w _:=qdk ((Fr.of_below HA.out).trans HF1.out (fun _ _ h=>h)) (Fr.of_set w1 b 17 (.string p1.1))
  refine ⟨rfl,⟨v,K0,?_,HV.out,HVB.out⟩,?_,hFr⟩
  ·refine Cs.fr HS.out (S:=fun k=>k=b∨k=c) ?_ (fun hl k hk hs=>?_)
   ·exact qdk HF1.out (Fr.of_set w1 b 17 (.string p1.1))
   ·have:=HV.out hl
    rcases hs with rfl | rfl
    ·exact this.1 hk
    ·exact this.2 hk
  ·exact (Cur.set_row HC1.out HO1.out hbc ⟨_,rfl,nb2 _⟩ _)
 ·have N1:=hid (fun W=>cuts_r c s W)
  have hrd:rdF Bnd.own 7 (o,s)=({ o with cuts:=(rcuts Bnd.own (rn 16 s).1.toNat (rn 16 s).2).1 },(rcuts Bnd.own (rn 16 s).1.toNat (rn 16 s).2).2):=rfl
  obtain ⟨p1,hp1⟩:∃ p,rcuts Bnd.own (rn 16 s).1.toNat (rn 16 s).2=p:=⟨_,rfl⟩
  rw [hp1] at N1 hrd
  rw [hrd]
  clear hrd hp1
  go_enter Tryz.func117,Tryz.ntmps117
  go_wp2_with fail
  refine (N1.out _ HC.out HY.out).mono ?_
  rintro e w1 ⟨u,rfl,hcu,hc1,hf1,hfr⟩
  obtain ⟨ua,uc,rfl,_,_⟩:=hcu.form
  have HU:=hid hcu
  have HFR:=hid hfr
  have HF1:=hid hf1
  have HC1:=hid hc1
  have HO1:=hid (HF1.out.rows HO.out (by omega))
  have c18:=Ob.cell (w:=w1) HO1.out 18
  have f18:=Ob.frozen (w:=w1) HO1.out 18
  simp at c18
  clear hc1 hf1 q0 hcu hfr
  have hvs:∃ va vc,v=.slice va o.cuts.length vc:=by
   obtain ⟨va,vc,e,_⟩:=HS.out.form
   exact ⟨va,vc,e⟩
  obtain ⟨va,vc,rfl⟩:=hvs
  go_wp2
  go_end0
  have K0:=set_row (i:=18) HO1.out (.slice ua p1.1.length uc)
  have hsz:(w.alloc (rdo c)).heap.size=w.heap.size+1:=by simp
  have hne:∀ k,Value.ownBlock (.slice ua p1.1.length uc)=some k→k≠b∧k≠c:=fun k hk=>by
   have:=HFR.out k hk
   omega
  refine ⟨rfl,⟨.slice ua p1.1.length uc,K0,?_,fun _=>⟨fun e=>(hne b e).1 rfl,fun e=>(hne c e).2 rfl⟩,fun k hk=>by have:=HFR.out k hk;omega⟩,?_,qdk ((Fr.of_below HA.out).trans HF1.out (fun _ _ h=>h)) (Fr.of_set w1 b 18 _)⟩
  ·refine Cs.fr HU.out (Fr.of_set w1 b 18 _) (fun hl k hk hs=>?_)
   exact (hne k hk).1 hs
  ·exact Cur.set_row HC1.out HO1.out hbc ⟨_,rfl,fun x=>by simp⟩ _
 ·have N1:=hid (fun W=>qjz c s 1 W)
  have hrd:rdF Bnd.own 8 (o,s)=({ o with flag:=(rn 1 s).1==1 },(rn 1 s).2):=rfl
  obtain ⟨p1,hp1⟩:∃ p,rn 1 s=p:=⟨_,rfl⟩
  rw [hp1] at N1 hrd
  rw [hrd]
  clear hrd hp1
  go_enter Tryz.func117,Tryz.ntmps117
  go_wp2_with fail
  refine (N1.out _ HC.out).mono ?_
  rintro e w1 ⟨rfl,hc1,hf1⟩
  have HF1:=hid (Fr.grown hf1)
  have HC1:=hid hc1
  have HO1:=hid (HF1.out.rows HO.out (by omega))
  have c19:=Ob.cell (w:=w1) HO1.out 19
  have f19:=Ob.frozen (w:=w1) HO1.out 19
  simp at c19
  clear hc1 hf1 q0
  go_wp2
  go_end0
  have K0:=set_row (i:=19) HO1.out (.bool (p1.1==1))
  have hFr:Fr (fun k=>k=b∨k=c) w _:=qdk ((Fr.of_below HA.out).trans HF1.out (fun _ _ h=>h)) (Fr.of_set w1 b 19 (.bool (p1.1==1)))
  refine ⟨rfl,⟨v,K0,?_,HV.out,HVB.out⟩,?_,hFr⟩
  ·refine Cs.fr HS.out (S:=fun k=>k=b∨k=c) ?_ (fun hl k hk hs=>?_)
   ·exact qdk HF1.out (Fr.of_set w1 b 19 (.bool (p1.1==1)))
   ·have:=HV.out hl
    rcases hs with rfl | rfl
    ·exact this.1 hk
    ·exact this.2 hk
  ·exact (Cur.set_row HC1.out HO1.out hbc ⟨_,rfl,nb3 _⟩ _)
theorem Wx.old {B b:Nat}{v v':Value}{w w':World}{xs:List Int}(h:Wx b v v' w w') (hW:Wr B w b v xs) (hb:B≤b) (hB:B≤w.heap.size):Below B w w' :=
 h.1.below (fun k hk hs=>by
  rcases hs with hs | hs
  ·omega
  ·have:=(hW.2.1.lt k hs).1;omega) hB
theorem Cs.block {w:World}{v:Value}{l:List Ct}(h:Cs w v l) (hl:0<l.length):∀ k,v.ownBlock=some k→k<w.heap.size:=by
 obtain ⟨b,off,c,rfl,_,_,hb,_⟩:=h.inv hl
 intro k hk
 simp [Value.ownBlock] at hk
 omega
theorem jag (c:Ct):[c.r,c.n,c.f,c.t].flatMap M.enc=enC c:=by simp [enC]
theorem qqn {c:Ct}(h:rct c=true):∀ x ∈ [c.r,c.n,c.f,c.t],Num49 x:=by
 simp [rct,ro] at h
 intro x hx
 unfold Num49
 simp at hx
 rcases hx with rfl | rfl | rfl | rfl<;>omega
theorem jbx (c:Ct):(enC c).length≤28:=by
 have:=qlz [c.r,c.n,c.f,c.t]
 rw [jag] at this
 simpa using this
theorem qmc (l:List Ct):(l.flatMap enC).length≤28*l.length:=by
 induction l with
 | nil=>simp
 | cons c l ih =>
  rw [List.flatMap_cons,List.length_append,List.length_cons]
  have:=jbx c
  omega
theorem qnp (l:List Ct) (k:Nat) (hk:k<l.length):(l.take (k+1)).flatMap enC=(l.take k).flatMap enC++enC l[k]:=by
 rw [List.take_succ_eq_append_getElem hk,List.flatMap_append]
 simp
set_option maxHeartbeats 2000000 in
theorem cuts_w (B b:Nat) (v vc:Value) (xs:List Int) (l:List Ct) (w:World) (h:Wr B w b v xs) (hB:B≤w.heap.size) (hbB:B≤b) (hC:Cs w vc l) (hcB:∀ k,vc.ownBlock=some k→k<B) (hl1:1≤l.length) (hl16:l.length≤16) (hr:∀ c ∈ l,rct c=true) (hlen:xs.length≤549755813888) :
  Calls Tryz.prog 137 #[.pointer (some ⟨b,0,none⟩),vc] w fun e w' =>
   e=.returned (.tuple #[])∧∃ v',Wr B w' b v' (xs++(M.enc l.length++l.flatMap enC))∧Wx b v v' w w':=by
 have hC':=hC
 obtain ⟨gb,off,c,rfl,hlc,hcm,hbl,hc⟩:=hC.inv (by omega)
 obtain ⟨n,hn⟩:∃ n,l.length=n:=⟨_,rfl⟩
 have HN:=hid hn
 rw [hn] at hl1 hl16 hlc ⊢
 have HI:=hid (qcd B b v xs [(n:Int)] w h hB (by intro x hx;simp at hx;subst hx;unfold Num49;omega) (by omega) (by simp) (by simp))
 have HW:=hid h
 have HC:=hid hc
 have HR:=hid hr
 have HGB:=hid (hcB gb rfl)
 unfold maxLen at hcm
 clear hn h hC hc hr hC' hcB hbl
 go_enter Tryz.func137,Tryz.ntmps137
 go_wp2_with fail
 refine HI.out.mono ?_
 rintro e w1 ⟨rfl,v1,hW1,hx1⟩
 have HW1:=hid hW1
 have HX1:=hid hx1
 clear hW1 hx1 HI
 go_wp2
 go_loopw [13] (fun i wr=>∃ (k:Nat) (v':Value),k≤n∧i=.int .i64 k∧Wr B wr b v' (xs++(M.enc n++(l.take k).flatMap enC))∧Wx b v v' w wr) (fun i _=>n - (intOf i).toNat)
 case atStart=>exact ⟨0,v1,Nat.zero_le _,rfl,by simpa using HW1.out,HX1.out⟩
 case round =>
  obtain ⟨k,v2,hk,rfl,hw2,hx2⟩:=hrel
  clear HW1 HX1
  obtain ⟨ys,hys⟩:∃ ys,xs++(M.enc n++(l.take k).flatMap enC)=ys:=⟨_,rfl⟩
  rw [hys] at hw2
  have HY:=hid hys
  have HX2:=hid hx2
  have HW2:=hid hw2
  clear hx2 hw2 hys
  by_cases hlt:k<n
  ·have hkl:k<l.length:=by rw [HN.out];exact hlt
   have hbel:=HX2.out.old HW.out hbB hB
   obtain ⟨x,hx⟩:∃ x,l[k]=x:=⟨_,rfl⟩
   have g:=HC.out k hkl
   rw [hx] at g
   have g0:=(hbel.cell (p:=⟨gb,off+k*4,none⟩) HGB.out).trans g.1
   have g1:=(hbel.cell (p:=⟨gb,off+k*4+1,none⟩) HGB.out).trans g.2.1
   have g2:=(hbel.cell (p:=⟨gb,off+k*4+2,none⟩) HGB.out).trans g.2.2.1
   have g3:=(hbel.cell (p:=⟨gb,off+k*4+3,none⟩) HGB.out).trans g.2.2.2
   have hxr:rct x=true:=by rw [←hx];exact HR.out _ (List.getElem_mem hkl)
   have hsz:=HX2.out.size
   have hya:ys.length≤1099511627776:=by
    rw [←HY.out]
    have:=qmc (l.take k)
    have:=(M.sz_pos n).2
    rw [List.length_append,List.length_append,M.enc_length]
    rw [List.length_take] at *
    omega
   have HA:=hid (ba wr (.cells #[.int .i64 x.r,.int .i64 x.n,.int .i64 x.f,.int .i64 x.t] 111))
   have HI:=hid (qcd B b v2 ys [x.r,x.n,x.f,x.t] _ (HW2.out.below HA.out) (Nat.le_trans hB (Nat.le_trans hsz HA.out.size)) (qqn hxr) hya (by simp) (by simp))
   rw [show (wr.alloc (.cells #[.int .i64 x.r,.int .i64 x.n,.int .i64 x.f,.int .i64 x.t] 111)).heap.size=wr.heap.size+1 by simp] at HI
   have HX:=hid hx
   have b1':(k:Int)<(n:Int):=by omega
   clear hx g hbel hxr hya
   go_wp2_with fail
   refine HI.out.mono ?_
   rintro e w3 ⟨rfl,v3,hW3,hx3⟩
   have HW3:=hid hW3
   have HX3:=hid (HX2.out.trans ((Wx.of_below HA.out).trans hx3))
   clear hW3 hx3 HI g0 g1 g2 g3
   go_wp2
   go_roundw
   case rel =>
    refine ⟨k+1,v3,by omega,by go_num,?_,HX3.out⟩
    have:=HW3.out
    rw [jag,←HY.out] at this
    rw [qnp l k hkl,HX.out]
    simpa using this
   case measure=>simp [intOf];omega
  ·have e1:k=n:=by omega
   go_wp2
   go_end0
   refine ⟨rfl,v2,?_,HX2.out⟩
   have:=HW2.out
   rw [←HY.out,List.take_of_length_le (by have:=HN.out;omega)] at this
   exact this
set_option maxHeartbeats 2000000 in
theorem jbu (f:Nat) (hf:f≤8) (B b:Nat) (v vc:Value) (xs:List Int) (o:Opn) (w:World) (h:Wr B w b v xs) (hB:B≤w.heap.size) (hbB:B≤b) (hC:Cs w vc o.cuts) (hcB:0<o.cuts.length→∀ k,vc.ownBlock=some k→k<B) (hr:rightF o f=true) (hlen:xs.length≤549755813888) :
  Calls Tryz.prog 124 #[.pointer (some ⟨b,0,none⟩),opv o vc,.int .i64 f] w fun e w' =>
   e=.returned (.tuple #[])∧∃ v',Wr B w' b v' (xs++encF o f)∧Wx b v v' w w':=by
 have HA:=hid (ba w (opo o vc))
 have HW:=hid (h.below HA.out)
 have HBA:=hid (Nat.le_trans hB HA.out.size)
 have HC:=hid (hC.below HA.out)
 have HCB:=hid hcB
 have hlen':xs.length≤1099511627776:=by omega
 clear h hC hcB
 rcases nine hf with rfl | rfl | rfl | rfl | rfl | rfl | rfl | rfl | rfl
 ·have hq:=qbm hr
  have q1:Num49 o.br:=by unfold Num49;omega
  have q2:Num49 o.bm:=by unfold Num49;omega
  clear hq hr
  go_enter Tryz.func124,Tryz.ntmps124
  go_wp2_with fail
  refine (quz B b v xs _ _ _ HW.out HBA.out q1 q2 hlen').mono ?_
  rintro e w1 ⟨rfl,v1,hW1,hx1⟩
  have HW1:=hid hW1
  have HX1:=hid hx1
  clear hW1 hx1
  go_wp2
  go_end0
  exact ⟨rfl,v1,HW1.out,(Wx.of_below HA.out).trans HX1.out⟩
 ·have hq:=qgv hr
  have q1:Num49 o.pr:=by unfold Num49;omega
  have q2:Num49 o.pm:=by unfold Num49;omega
  clear hq hr
  go_enter Tryz.func124,Tryz.ntmps124
  go_wp2_with fail
  refine (quz B b v xs _ _ _ HW.out HBA.out q1 q2 hlen').mono ?_
  rintro e w1 ⟨rfl,v1,hW1,hx1⟩
  have HW1:=hid hW1
  have HX1:=hid hx1
  clear hW1 hx1
  go_wp2
  go_end0
  exact ⟨rfl,v1,HW1.out,(Wx.of_below HA.out).trans HX1.out⟩
 ·have hs:o.key.size≤1099511627776:=by
   simp [rightF,K.right,qaw] at hr
   omega
  clear hr
  go_enter Tryz.func124,Tryz.ntmps124
  go_wp2_with fail
  refine (qtj B b v xs _ _ HW.out HBA.out hs hlen').mono ?_
  rintro e w1 ⟨rfl,v1,hW1,hx1⟩
  have HW1:=hid hW1
  have HX1:=hid hx1
  clear hW1 hx1
  go_wp2
  go_end0
  exact ⟨rfl,v1,HW1.out,(Wx.of_below HA.out).trans HX1.out⟩
 ·have hq:=qbm hr
  have q1:Num49 o.sr:=by unfold Num49;omega
  have q2:Num49 o.sm:=by unfold Num49;omega
  clear hq hr
  go_enter Tryz.func124,Tryz.ntmps124
  go_wp2_with fail
  refine (quz B b v xs _ _ _ HW.out HBA.out q1 q2 hlen').mono ?_
  rintro e w1 ⟨rfl,v1,hW1,hx1⟩
  have HW1:=hid hW1
  have HX1:=hid hx1
  clear hW1 hx1
  go_wp2
  go_end0
  exact ⟨rfl,v1,HW1.out,(Wx.of_below HA.out).trans HX1.out⟩
 ·have hq:=qdi hr
  have q1:Num49 o.lr:=by unfold Num49;omega
  have q2:Num49 o.lm:=by unfold Num49;omega
  have q3:Num49 o.li:=by unfold Num49;omega
  clear hq hr
  go_enter Tryz.func124,Tryz.ntmps124
  go_wp2_with fail
  refine (jai B b v xs _ _ _ _ HW.out HBA.out q1 q2 q3 hlen').mono ?_
  rintro e w1 ⟨rfl,v1,hW1,hx1⟩
  have HW1:=hid hW1
  have HX1:=hid hx1
  clear hW1 hx1
  go_wp2
  go_end0
  exact ⟨rfl,v1,HW1.out,(Wx.of_below HA.out).trans HX1.out⟩
 ·have hq:=qdi hr
  have q1:Num49 o.gr:=by unfold Num49;omega
  have q2:Num49 o.gm:=by unfold Num49;omega
  have q3:Num49 o.gi:=by unfold Num49;omega
  clear hq hr
  go_enter Tryz.func124,Tryz.ntmps124
  go_wp2_with fail
  refine (jai B b v xs _ _ _ _ HW.out HBA.out q1 q2 q3 hlen').mono ?_
  rintro e w1 ⟨rfl,v1,hW1,hx1⟩
  have HW1:=hid hW1
  have HX1:=hid hx1
  clear hW1 hx1
  go_wp2
  go_end0
  exact ⟨rfl,v1,HW1.out,(Wx.of_below HA.out).trans HX1.out⟩
 ·have hs:o.text.size≤1099511627776:=by
   simp [rightF] at hr
   omega
  clear hr
  go_enter Tryz.func124,Tryz.ntmps124
  go_wp2_with fail
  refine (qtj B b v xs _ _ HW.out HBA.out hs hlen').mono ?_
  rintro e w1 ⟨rfl,v1,hW1,hx1⟩
  have HW1:=hid hW1
  have HX1:=hid hx1
  clear hW1 hx1
  go_wp2
  go_end0
  exact ⟨rfl,v1,HW1.out,(Wx.of_below HA.out).trans HX1.out⟩
 ·have hs:(1≤o.cuts.length∧o.cuts.length≤16)∧∀ c ∈ o.cuts,rct c=true:=by
   simpa [rightF] using hr
  have HS:=hid hs
  clear hs hr
  go_enter Tryz.func124,Tryz.ntmps124
  go_wp2_with fail
  refine (cuts_w B b v _ xs o.cuts _ HW.out HBA.out hbB HC.out (HCB.out HS.out.1.1) HS.out.1.1 HS.out.1.2 HS.out.2 hlen).mono ?_
  rintro e w1 ⟨rfl,v1,hW1,hx1⟩
  have HW1:=hid hW1
  have HX1:=hid hx1
  clear hW1 hx1
  go_wp2
  go_end0
  exact ⟨rfl,v1,HW1.out,(Wx.of_below HA.out).trans HX1.out⟩
 ·clear hr
  go_enter Tryz.func124,Tryz.ntmps124
  go_wp2_with fail
  refine (flag_w B b v xs _ _ HW.out HBA.out hlen').mono ?_
  rintro e w1 ⟨rfl,v1,hW1,hx1⟩
  have HW1:=hid hW1
  have HX1:=hid hx1
  clear hW1 hx1
  go_wp2
  go_end0
  exact ⟨rfl,v1,HW1.out,(Wx.of_below HA.out).trans HX1.out⟩
end Go.Proofs.YtkcjkncpaopjbaaGreatDoor
