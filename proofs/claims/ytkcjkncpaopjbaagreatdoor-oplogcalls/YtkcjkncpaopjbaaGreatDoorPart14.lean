/-
  Parts of the proof, one behind the other; what each proves stands at its head.
-/
import Derived.Test.YtkcjkncpaopjbaaGreatDoorPart10
import Derived.Test.YtkcjkncpaopjbaaGreatDoorPart6
import Derived.Test.YtkcjkncpaopjbaaGreatDoorPart9
import Derived.Deep.QuietTactic
import Derived.BigQuiet
import Derived.RegionTactic

namespace Go.Proofs.YtkcjkncpaopjbaaGreatDoor
open Go.RowKit
set_option linter.unusedVariables false
set_option maxRecDepth 100000
section
variable {B:Nat} {w:World} {b:Nat} {s l:Value} {xs ys:List Int} {R:Nat}
set_option maxHeartbeats 1000000 in
theorem qmt (h:Re B w b s l xs ys R):Calls Tryz.prog 81 #[.pointer (some ⟨b,0,none⟩)] w fun e w'=>e=.returned (.int .i64 ((R:Int) - xs.length - ys.length))∧∃ m,w'=w.drewN m:=by
 obtain ⟨hl,hl2⟩:=h.len
 have hR:=h.lim
 obtain ⟨a,c,a2,c2,rfl,rfl,-,-,g0,g1,g2,-,-⟩:=h.cells
 clear h
 go_enter Tryz.func81,Tryz.ntmps81
 go_wp2
 go_quiet (fail)
 go_wp2
 go_ret
 exact ⟨rfl,_,rfl⟩
set_option maxHeartbeats 2000000 in
theorem qoz (hB:B≤w.heap.size) (h:Re B w b s l xs ys R) (u:Value) (us:List Int) (hu:Bs w u us) :
  Calls Tryz.prog 54 #[.pointer (some ⟨b,0,none⟩),u] w fun e w' =>
   e=.returned (.int .i64 (rapp R us xs ys).1)∧Ro B b R s l w (rapp R us xs ys).2.1 (rapp R us xs ys).2.2 w':=by
 have HF:=hid h
 have HU:=hid hu
 obtain ⟨hl,hl2⟩:=h.len
 have hR:=h.lim
 have hm:=hu.len
 unfold maxLen at hm
 obtain ⟨ua,uc,rfl⟩:=hu.form
 obtain ⟨N,hN⟩:∃ N,xs.length=N:=⟨_,rfl⟩
 obtain ⟨N2,hN2⟩:∃ N,ys.length=N:=⟨_,rfl⟩
 obtain ⟨M,hM⟩:∃ M,us.length=M:=⟨_,rfl⟩
 have HN:=hid hN
 have HN2:=hid hN2
 have HM:=hid hM
 by_cases hlt:(R:Int) - N - N2<M
 ·rw [show rapp R us xs ys=(14,xs,ys) from if_neg (by omega)]
  rw [hN] at hl
  rw [hN2] at hl2
  rw [hM] at hm ⊢
  clear h hu hN hM hN2
  go_enter Tryz.func54,Tryz.ntmps54
  go_wp2_with fail
  refine (qmt HF.out).mono ?_
  rintro e w1 ⟨rfl,m,rfl⟩
  rw [HN.out,HN2.out]
  go_wp2
  go_ret
  exact ⟨rfl,_,_,HF.out.drewN _,(Rx.refl _ _ _ _).drewN _⟩
 ·have hlt':¬ (R:Int) - N - N2<M:=hlt
  have hle:N+N2+M≤R:=by omega
  rw [show rapp R us xs ys=(0,xs,ys++us) from if_pos (by omega)]
  obtain ⟨a,c,a2,c2,rfl,rfl,hc,hc2,g0,g1,g2,f0,f1⟩:=h.cells
  rw [hN] at hl hc g0 HF ⊢
  rw [hN2] at hl2 hc2 g1 HF ⊢
  rw [hM] at hm HU ⊢
  clear h hu hN hM hN2
  go_enter Tryz.func54,Tryz.ntmps54
  go_wp2_with fail
  refine (qmt HF.out).mono ?_
  rintro e w1 ⟨rfl,m,rfl⟩
  rw [HN.out,HN2.out]
  go_wp2_with (at_builtin;refine qag rfl (.tmp 14) (.tmp 15) rfl B (.slice a2 N2 c2) N2 ys rfl ?c0 _ us rfl ?c1 ?c2 ?c3 ?_)
  case c0=>have:=HF.out.ol;rw [Ow,HN2.out] at this;exact this
  case c1=>exact HU.out
  case c2=>rw [HM.out];omega
  case c3=>exact hB
  intro v1 w1 hown hgrow hv
  have hO:Ow B w1 v1 (ys++us):=by rw [Ow,List.length_append,HN2.out];simpa [cs] using hown
  have hP:=HF.out.put1 (w':=w1) (l':=v1) (zs:=ys++us) hO (Fr.of_grown (World.grownBy.of_drewN hgrow) (fun k hk=>hk)) (HF.out.bl.append HU.out.range) (by rw [List.length_append,HN2.out,HM.out];omega) (fun k hk=>by
   rcases hv with e | e
   ·exact .inl (by rw [←e];exact hk)
   ·rw [e] at hk;simp at hk;exact .inr (by rw [←hk];exact Nat.le_refl _))
  have HP:=hid hP
  have qb:=hgrow.block b HF.out.lt (Ne.symm HF.out.nel)
  have q1:w1.frozen? ⟨b,1,none⟩=false:=(World.frozen?_of_block (a:=⟨b,1,none⟩) qb).trans f1
  have q2:w1.cell? ⟨b,1,none⟩=some (.slice a2 N2 c2):=(World.cell?_of_block (a:=⟨b,1,none⟩) qb).trans g1
  obtain ⟨a1,k1,rfl,-⟩:=hO.form
  clear hown hgrow hv hO hP g0 g1 g2 f0 f1 qb
  go_wp2
  go_ret
  have hP:=HP.out
  rw [List.length_append] at hP
  exact ⟨rfl,_,_,hP.1,hP.2⟩
set_option maxHeartbeats 2000000 in
theorem qfd (hB:B≤w.heap.size) (h:Re B w b s l xs ys R) (u:Value) (us:List Int) (hu:Bs w u us) :
  Calls Tryz.prog 9 #[.pointer (some ⟨b,0,none⟩),u] w fun e w' =>
   e=.returned (.int .i64 (rrep R us xs ys).1)∧Ro B b R s l w (rrep R us xs ys).2.1 (rrep R us xs ys).2.2 w':=by
 have HF:=hid h
 have HU:=hid hu
 obtain ⟨hl,hl2⟩:=h.len
 have hR:=h.lim
 have hm:=hu.len
 unfold maxLen at hm
 obtain ⟨ua,uc,rfl⟩:=hu.form
 obtain ⟨a,c,a2,c2,rfl,rfl,hc,hc2,g0,g1,g2,f0,f1⟩:=h.cells
 obtain ⟨M,hM⟩:∃ M,us.length=M:=⟨_,rfl⟩
 have HM:=hid hM
 by_cases hlt:(R:Int)<M
 ·rw [show rrep R us xs ys=(14,xs,ys) from if_neg (by omega)]
  rw [hM] at hm HU ⊢
  clear h hu hM
  go_enter Tryz.func9,Tryz.ntmps9
  go_wp2
  go_ret
  exact ⟨rfl,_,_,HF.out,Rx.refl _ _ _ _⟩
 ·have hlt':¬ (R:Int)<M:=hlt
  rw [show rrep R us xs ys=(0,us,[]) from if_pos (by omega)]
  rw [hM] at hm HU ⊢
  clear h hu hM
  go_enter Tryz.func9,Tryz.ntmps9
  go_wp2_with fail
  refine (qet _ us w HU.out (by rw [HM.out];omega)).mono ?_
  rintro e w1 ⟨g,cap,rfl,hO,hb⟩
  have hF:∀ k,(Value.slice (some ⟨g,0,none⟩) us.length cap).ownBlock=some k→w.heap.size≤k:=fun k hk=>(hO.lt k hk).1
  have hP:=HF.out.put0 (w':=w1) (s':=.slice (some ⟨g,0,none⟩) us.length cap) (zs:=us) (Ow.mono hO hB) (Fr.of_below hb) HU.out.range (by rw [HM.out];omega) (fun k hk=>.inr (hF k hk))
  have hQ:=hP.1.nil1
  have HQ:=hid hQ.1
  have HX:=hid (hP.2.trans hQ.2)
  have q1:w1.frozen? ⟨b,0,none⟩=false:=(World.frozen?_of_block (a:=⟨b,0,none⟩) (hb.block b HF.out.lt)).trans f0
  have q2:w1.cell? ⟨b,0,none⟩=some (.slice a xs.length c):=(World.cell?_of_block (a:=⟨b,0,none⟩) (hb.block b HF.out.lt)).trans g0
  have q3:w1.frozen? ⟨b,1,none⟩=false:=(World.frozen?_of_block (a:=⟨b,1,none⟩) (hb.block b HF.out.lt)).trans f1
  have q4:w1.cell? ⟨b,1,none⟩=some (.slice a2 ys.length c2):=(World.cell?_of_block (a:=⟨b,1,none⟩) (hb.block b HF.out.lt)).trans g1
  clear hO hb hF hP hQ g0 g1 g2 f0 f1
  go_wp2
  go_ret
  exact ⟨rfl,_,_,HQ.out,HX.out⟩
set_option maxHeartbeats 2000000 in
theorem qua (hB:B≤w.heap.size) (h:Re B w b s l xs ys R) (hsum:xs.length+ys.length≤R) :
  Calls Tryz.prog 18 #[.pointer (some ⟨b,0,none⟩)] w fun e w'=>e=.returned (.tuple #[])∧Ro B b R s l w (xs++ys) [] w':=by
 have HF:=hid h
 have hR:=h.lim
 obtain ⟨a,c,a2,c2,rfl,rfl,hc,hc2,g0,g1,g2,f0,f1⟩:=h.cells
 clear h
 have hlx:xs.length+ys.length≤140737488355328:=by omega
 go_enter Tryz.func18,Tryz.ntmps18
 go_wp2_with fail
 go_region_law (refine qbt rfl _ _ rfl B _ _ xs rfl HF.out.os _ ys rfl (HF.out.ol.bs HF.out.bl) hlx hB ?_;intro v3 w3 hown3 hg3 hv3;rw [←List.length_append] at hown3;have hp:=HF.out.put0 (w':=w3) (s':=v3) (zs:=xs++ys) hown3 (Fr.of_grown (World.grownBy.of_drewN (n:=1) hg3) (fun k hk=>hk)) (HF.out.bs.append HF.out.bl) (by rw [List.length_append];exact hsum) (fun k hk=>hv3.elim (fun e=>.inl (e▸hk)) (fun e=>.inr (by rw [e] at hk;simp at hk;exact Nat.le_of_eq hk)));have HP:=hid hp;obtain ⟨a3,c3,rfl,_⟩:=qbb hown3;simp only [List.length_append] at HP;have qb:=hg3.block b HF.out.lt (Ne.symm HF.out.nes);have hc3:w3.cell? ⟨b,0,none⟩=some (.slice a xs.length c):=(World.cell?_of_block (a:=⟨b,0,none⟩) qb).trans g0;have hfz3:w3.frozen? ⟨b,0,none⟩=false:=(World.frozen?_of_block (a:=⟨b,0,none⟩) qb).trans f0;have hc4:=(World.cell?_of_block (a:=⟨b,1,none⟩) qb).trans g1;have hfz4:w3.frozen? ⟨b,1,none⟩=false:=(World.frozen?_of_block (a:=⟨b,1,none⟩) qb).trans f1;clear qb hg3 hv3)
 all_goals
  have hQ:=HP.out.1.nil1
  have HQ:=hid hQ.1
  have HX:=hid (HP.out.2.trans hQ.2)
  clear hQ hp HP
  go_wp2
  go_end0
  exact ⟨rfl,_,_,HQ.out,HX.out⟩
set_option maxHeartbeats 2000000 in
theorem qrz (hB:B≤w.heap.size) (h:Re B w b s l xs ys R) (hsum:xs.length+ys.length≤R) (k:Int) :
  Calls Tryz.prog 22 #[.pointer (some ⟨b,0,none⟩),.int .i64 k] w fun e w'=>e=.returned (.tuple #[])∧Ro B b R s l w (xs++ys.take (min k.toNat ys.length)) [] w':=by
 have HF:=hid h
 have hR:=h.lim
 obtain ⟨a,c,a2,c2,rfl,rfl,hc,hc2,g0,g1,g2,f0,f1⟩:=h.cells
 clear h
 obtain ⟨N2,hN2⟩:∃ N,ys.length=N:=⟨_,rfl⟩
 obtain ⟨L,hL⟩:∃ L,min k.toNat N2=L:=⟨_,rfl⟩
 have hLN:L≤N2:=by omega
 have HY:Hid (Bs w (.slice a2 L c2) (ys.take L)):=(HF.out.ol.bs HF.out.bl).take L (by omega)
 have htl:(ys.take L).length=L:=by rw [List.length_take];omega
 have HTL:=hid htl
 have HLX:Hid (xs.length+(ys.take L).length≤140737488355328):=by show _≤_;omega
 have HSM:Hid ((xs++ys.take L).length≤R):=by show _≤_;rw [List.length_append];omega
 have HBY:Hid (Byt (ys.take L)):=HF.out.bl.take L
 rw [hN2,hL]
 rw [hN2] at hc2 g1 HF
 clear htl hsum HTL
 have hLc:L≤c2:=by omega
 obtain ⟨zs,hzs⟩:∃ zs,ys.take L=zs:=⟨_,rfl⟩
 rw [hzs] at HY HLX HSM HBY ⊢
 clear hzs
 by_cases h1:k<0
 ·obtain rfl:L=0:=by omega
  clear hL hN2
  go_enter Tryz.func22,Tryz.ntmps22
  go_wp2
  go_region_law (refine qbt rfl _ _ rfl B _ _ xs rfl HF.out.os _ zs rfl HY.out HLX.out hB ?_;intro v3 w3 hown3 hg3 hv3;rw [←List.length_append] at hown3;have hp:=HF.out.put0 (w':=w3) (s':=v3) (zs:=xs++zs) hown3 (Fr.of_grown (World.grownBy.of_drewN (n:=1) hg3) (fun k hk=>hk)) (HF.out.bs.append HBY.out) HSM.out (fun k hk=>hv3.elim (fun e=>.inl (e▸hk)) (fun e=>.inr (by rw [e] at hk;simp at hk;exact Nat.le_of_eq hk)));have HP:=hid hp;obtain ⟨a3,c3,rfl,_⟩:=qbb hown3;have qb:=hg3.block b HF.out.lt (Ne.symm HF.out.nes);have hc3:w3.cell? ⟨b,0,none⟩=some (.slice a xs.length c):=(World.cell?_of_block (a:=⟨b,0,none⟩) qb).trans g0;have hfz3:w3.frozen? ⟨b,0,none⟩=false:=(World.frozen?_of_block (a:=⟨b,0,none⟩) qb).trans f0;have hc4:=(World.cell?_of_block (a:=⟨b,1,none⟩) qb).trans g1;have hfz4:w3.frozen? ⟨b,1,none⟩=false:=(World.frozen?_of_block (a:=⟨b,1,none⟩) qb).trans f1;clear qb hg3 hv3)
  all_goals
   have hQ:=HP.out.1.nil1
   have HQ:=hid hQ.1
   have HX:=hid (HP.out.2.trans hQ.2)
   simp only [List.length_append] at HQ HX
   go_wp2
   go_end0
   exact ⟨rfl,_,_,HQ.out,HX.out⟩
 ·obtain ⟨m,rfl⟩:∃ m:Nat,k=m:=⟨k.toNat,by omega⟩
  have h1':¬ (m:Int)<0:=h1
  by_cases h2:(N2:Int)<m
  ·obtain rfl:L=N2:=by omega
   clear hL hN2
   go_enter Tryz.func22,Tryz.ntmps22
   go_wp2
   go_region_law (refine qbt rfl _ _ rfl B _ _ xs rfl HF.out.os _ zs rfl HY.out HLX.out hB ?_;intro v3 w3 hown3 hg3 hv3;rw [←List.length_append] at hown3;have hp:=HF.out.put0 (w':=w3) (s':=v3) (zs:=xs++zs) hown3 (Fr.of_grown (World.grownBy.of_drewN (n:=1) hg3) (fun k hk=>hk)) (HF.out.bs.append HBY.out) HSM.out (fun k hk=>hv3.elim (fun e=>.inl (e▸hk)) (fun e=>.inr (by rw [e] at hk;simp at hk;exact Nat.le_of_eq hk)));have HP:=hid hp;obtain ⟨a3,c3,rfl,_⟩:=qbb hown3;have qb:=hg3.block b HF.out.lt (Ne.symm HF.out.nes);have hc3:w3.cell? ⟨b,0,none⟩=some (.slice a xs.length c):=(World.cell?_of_block (a:=⟨b,0,none⟩) qb).trans g0;have hfz3:w3.frozen? ⟨b,0,none⟩=false:=(World.frozen?_of_block (a:=⟨b,0,none⟩) qb).trans f0;have hc4:=(World.cell?_of_block (a:=⟨b,1,none⟩) qb).trans g1;have hfz4:w3.frozen? ⟨b,1,none⟩=false:=(World.frozen?_of_block (a:=⟨b,1,none⟩) qb).trans f1;clear qb hg3 hv3)
   all_goals
    have hQ:=HP.out.1.nil1
    have HQ:=hid hQ.1
    have HX:=hid (HP.out.2.trans hQ.2)
    simp only [List.length_append] at HQ HX
    go_wp2
    go_end0
    exact ⟨rfl,_,_,HQ.out,HX.out⟩
  ·obtain rfl:L=m:=by omega
   have h2':¬ (N2:Int)<L:=h2
   clear hL hN2
   go_enter Tryz.func22,Tryz.ntmps22
   go_wp2
   go_region_law (refine qbt rfl _ _ rfl B _ _ xs rfl HF.out.os _ zs rfl HY.out HLX.out hB ?_;intro v3 w3 hown3 hg3 hv3;rw [←List.length_append] at hown3;have hp:=HF.out.put0 (w':=w3) (s':=v3) (zs:=xs++zs) hown3 (Fr.of_grown (World.grownBy.of_drewN (n:=1) hg3) (fun k hk=>hk)) (HF.out.bs.append HBY.out) HSM.out (fun k hk=>hv3.elim (fun e=>.inl (e▸hk)) (fun e=>.inr (by rw [e] at hk;simp at hk;exact Nat.le_of_eq hk)));have HP:=hid hp;obtain ⟨a3,c3,rfl,_⟩:=qbb hown3;have qb:=hg3.block b HF.out.lt (Ne.symm HF.out.nes);have hc3:w3.cell? ⟨b,0,none⟩=some (.slice a xs.length c):=(World.cell?_of_block (a:=⟨b,0,none⟩) qb).trans g0;have hfz3:w3.frozen? ⟨b,0,none⟩=false:=(World.frozen?_of_block (a:=⟨b,0,none⟩) qb).trans f0;have hc4:=(World.cell?_of_block (a:=⟨b,1,none⟩) qb).trans g1;have hfz4:w3.frozen? ⟨b,1,none⟩=false:=(World.frozen?_of_block (a:=⟨b,1,none⟩) qb).trans f1;clear qb hg3 hv3)
   all_goals
    have hQ:=HP.out.1.nil1
    have HQ:=hid hQ.1
    have HX:=hid (HP.out.2.trans hQ.2)
    simp only [List.length_append] at HQ HX
    go_wp2
    go_end0
    exact ⟨rfl,_,_,HQ.out,HX.out⟩
end
section
variable {B:Nat} {w:World} {b:Nat} {s l:Value} {xs ys:List Int} {R:Nat}
set_option maxHeartbeats 2000000 in
theorem qtz (h:Re B w b s l xs ys R) (k:Int) :
  Calls Tryz.prog 63 #[.pointer (some ⟨b,0,none⟩),.int .i64 k] w fun e w' =>
   e=.returned (.int .i64 (rtrim k xs ys).1)∧Ro B b R s l w (rtrim k xs ys).2.1 (rtrim k xs ys).2.2 w':=by
 have HF:=hid h
 have hR:=h.lim
 obtain ⟨hl,hl2⟩:=h.len
 obtain ⟨a,c,a2,c2,rfl,rfl,hc,hc2,g0,g1,g2,f0,f1⟩:=h.cells
 clear h
 obtain ⟨N,hN⟩:∃ N,xs.length=N:=⟨_,rfl⟩
 obtain ⟨N2,hN2⟩:∃ N,ys.length=N:=⟨_,rfl⟩
 have HN:=hid hN
 have HN2:=hid hN2
 by_cases h1:k<0
 ·rw [show rtrim k xs ys=(11,xs,ys) from if_neg (by omega)]
  rw [hN] at hl hc g0 HF ⊢
  rw [hN2] at hl2 hc2 g1 HF ⊢
  clear hN hN2
  have h1':decide (k<0)=true:=by simpa using h1
  go_enter Tryz.func63,Tryz.ntmps63
  go_wp2
  go_quiet (fail)
  go_wp2
  go_ret
  exact ⟨rfl,_,_,HF.out.drewN _,(Rx.refl _ _ _ _).drewN _⟩
 ·have h1':decide (k<0)=false:=by simpa using h1
  by_cases h2:(N:Int)+N2<k
  ·rw [show rtrim k xs ys=(11,xs,ys) from if_neg (by omega)]
   rw [hN] at hl hc g0 HF ⊢
   rw [hN2] at hl2 hc2 g1 HF ⊢
   clear hN hN2
   go_enter Tryz.func63,Tryz.ntmps63
   go_wp2
   go_quiet (fail)
   go_wp2
   go_ret
   exact ⟨rfl,_,_,HF.out.drewN _,(Rx.refl _ _ _ _).drewN _⟩
  ·obtain ⟨m,rfl⟩:∃ m:Nat,k=m:=⟨k.toNat,by omega⟩
   have h2':¬ (N:Int)+N2<m:=h2
   by_cases h3:(m:Int)≤N
   ·rw [show rtrim (m:Int) xs ys=(0,xs.take m,[]) by unfold rtrim;rw [if_pos (by omega),if_pos (by omega)];rfl]
    have hm:m≤N:=by omega
    have hmc:m≤c:=by omega
    rw [hN] at hl hc g0 HF ⊢
    rw [hN2] at hl2 hc2 g1 HF ⊢
    clear hN hN2
    have hP:=HF.out.put0 (w':=w) (s':=.slice a m c) (zs:=xs.take m) (HF.out.os.take m (by rw [HN.out];exact hm)) (Fr.refl _ _) (HF.out.bs.take m) (by rw [List.length_take,HN.out];omega) (fun k hk=>.inl (by cases a<;>exact hk))
    have hQ:=hP.1.nil1
    have HQ:=hid hQ.1
    have HX:=hid (hP.2.trans hQ.2)
    clear hP hQ
    go_enter Tryz.func63,Tryz.ntmps63
    go_wp2
    go_quiet (fail)
    go_wp2
    go_ret
    exact ⟨rfl,_,_,HQ.out.drewN _,HX.out.drewN _⟩
   ·rw [show rtrim (m:Int) xs ys=(0,xs,ys.take (m - xs.length)) by unfold rtrim;rw [if_pos (by omega),if_neg (by omega)];rfl]
    obtain ⟨j,hj⟩:∃ j,m - N=j:=⟨_,rfl⟩
    have hjm:(m:Int) - N=j:=by omega
    rw [hN] at hl hc g0 HF ⊢
    rw [hN2] at hl2 hc2 g1 HF ⊢
    clear hN hN2
    rw [hj]
    have hjc:j≤c2:=by omega
    have hj2:j≤N2:=by omega
    clear hj
    have hP:=HF.out.put1 (w':=w) (l':=.slice a2 j c2) (zs:=ys.take j) (HF.out.ol.take j (by rw [HN2.out];exact hj2)) (Fr.refl _ _) (HF.out.bl.take j) (by rw [List.length_take,HN2.out];omega) (fun k hk=>.inl (by cases a2<;>exact hk))
    have HQ:=hid hP.1
    have HX:=hid hP.2
    clear hP
    go_enter Tryz.func63,Tryz.ntmps63
    go_wp2
    go_quiet (fail)
    go_wp2
    go_region
    all_goals
     go_wp2
     go_ret
     exact ⟨rfl,_,_,HQ.out.drewN _,HX.out.drewN _⟩
set_option maxHeartbeats 2000000 in
theorem qfl (h:Re B w b s l xs ys R) :
  Calls Tryz.prog 27 #[.pointer (some ⟨b,0,none⟩)] w fun e w'=>∃ v',e=.returned v'∧Ow w.heap.size w' v' (xs++ys)∧Below w.heap.size w w':=by
 have HF:=hid h
 have hR:=h.lim
 obtain ⟨hl,hl2⟩:=h.len
 obtain ⟨a,c,a2,c2,rfl,rfl,hc,hc2,g0,g1,g2,f0,f1⟩:=h.cells
 clear h
 have hlx:xs.length+ys.length≤140737488355328:=by omega
 go_enter Tryz.func27,Tryz.ntmps27
 go_wp2_with fail
 go_region_law (first
  | (go_simp;go_at_call 42;refine (qet _ xs w.drew (HF.out.os.bs HF.out.bs) (by omega)).mono ?_;rintro e w2 ⟨g,cap,rfl,ho,hb2⟩;have HO:=hid ho;have HB2:Hid (Below w.heap.size w w2):=((Below.refl _ w).drew).trans hb2;have HF2:=hid (HF.out.below HB2.out);have g1':w2.cell? ⟨b,1,none⟩=some (.slice a2 ys.length c2):=(World.cell?_of_block (a:=⟨b,1,none⟩) (hb2.block b HF.out.lt)).trans g1)
  | (refine qbt rfl _ _ rfl w.heap.size _ _ xs rfl HO.out _ ys rfl (HF2.out.ol.bs HF2.out.bl) hlx HB2.out.size ?_;intro v3 w3 hown3 hg3 hv3;rw [←List.length_append] at hown3;have HO3:=hid hown3;have HB3:=hid (Below.grown HB2.out hg3 HB2.out.size (fun k hk=>(HO.out.lt k hk).1))))
 all_goals
  go_wp2
  go_ret
  exact ⟨_,rfl,HO3.out,HB3.out⟩
set_option maxHeartbeats 2000000 in
theorem qxq (k:Int) (h:k<0∨1048576<k):Calls Tryz.prog 7 #[.int .i64 k] w fun e w'=>e=.returned (.tuple #[.pointer none,.int .i64 11])∧w=w':=by
 by_cases h1:k<0
 ·go_enter Tryz.func7,Tryz.ntmps7
  go_wp2
  go_ret2
  exact ⟨rfl,rfl⟩
 ·have h1':decide (k<0)=false:=by simp;omega
  have h2:(1048576:Int)<k:=by omega
  go_enter Tryz.func7,Tryz.ntmps7
  go_wp2
  go_ret2
  exact ⟨rfl,rfl⟩
set_option maxHeartbeats 2000000 in
theorem jax (R:Nat) (hR:R≤1048576):Calls Tryz.prog 7 #[.int .i64 R] w fun e w' =>
  e=.returned (.tuple #[.pointer (some ⟨w.heap.size,0,none⟩),.int .i64 0])∧Below w.heap.size w w'∧Re w.heap.size w' w.heap.size (.slice none 0 0) (.slice none 0 0) [] [] R:=by
 have h1:decide ((R:Int)<0)=false:=by simp
 have h2:decide ((1048576:Int)<(R:Int))=false:=by simp;omega
 have HR:Hid (Re w.heap.size (w.alloc (.cells #[.slice none 0 0,.slice none 0 0,.int .i64 R] 65 (0,0))) w.heap.size (.slice none 0 0) (.slice none 0 0) [] [] R) :=
  ⟨heap_alloc_new w _,Nat.le_refl _,Ow.nil _ _,Ow.nil _ _,Byt.nil,Byt.nil,(fun k hk=>by cases hk),⟨Nat.zero_le _,Nat.zero_le _⟩,hR⟩
 go_enter Tryz.func7,Tryz.ntmps7
 go_wp2
 go_ret2
 exact ⟨rfl,ba _ _,HR.out⟩
end
end Go.Proofs.YtkcjkncpaopjbaaGreatDoor
