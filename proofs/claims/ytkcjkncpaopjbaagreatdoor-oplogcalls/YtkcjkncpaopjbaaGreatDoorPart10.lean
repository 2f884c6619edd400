/-
  Parts of the proof, one behind the other; what each proves stands at its head.
-/
import Derived.Test.YtkcjkncpaopjbaaGreatDoorRows
import Derived.Test.YtkcjkncpaopjbaaGreatDoorPart5
import Derived.Deep.QuietTactic
import Derived.BigQuiet
import Derived.Test.YtkcjkncpaopjbaaGreatDoorPart6
import Derived.RegionTactic
import Derived.Test.YtkcjkncpaopjbaaGreatDoorPart7
import Derived.Deep.SlicePairs
import Derived.Deep.Strs

namespace Go.Proofs.YtkcjkncpaopjbaaGreatDoor
open Go.RowKit
set_option linter.unusedVariables false
set_option maxRecDepth 100000
theorem qtk {xs ys:List Int}{k:Nat}(h1:k<xs.length) (h2:k<ys.length) (h:xs.take k=ys.take k) (he:xs.getD k 0=ys.getD k 0):xs.take (k+1)=ys.take (k+1):=by
 rw [List.take_succ_eq_append_getElem h1,List.take_succ_eq_append_getElem h2,h]
 simp [List.getD,h1,h2] at he
 rw [he]
theorem qmz {xs ys:List Int}{k:Nat}(he:xs.getD k 0≠ys.getD k 0):xs≠ys:=by
 intro e;exact he (by rw [e])
set_option maxHeartbeats 1000000 in
theorem qxk (a b:Value) (xs ys:List Int) (w:World) (h1:Bs w a xs) (h2:Bs w b ys) :
  Calls Tryz.prog 28 #[a,b] w fun e w'=>e=.returned (.bool (decide (xs=ys)))∧∃ n,w'=w.drewN n:=by
 have l1:=h1.len
 have l2:=h2.len
 unfold maxLen at l1 l2
 by_cases hl:xs.length=ys.length
 ·by_cases hz:xs.length=0
  ·have e1:xs=[]:=List.eq_nil_of_length_eq_zero hz
   have e2:ys=[]:=List.eq_nil_of_length_eq_zero (by omega)
   subst e1 e2
   obtain ⟨a1,c1,rfl,_⟩:=h1.inv_nil
   obtain ⟨a2,c2,rfl,_⟩:=h2.inv_nil
   clear h1 h2 l1 l2 hl hz
   go_enter Tryz.func28,Tryz.ntmps28
   go_wp2
   refine wp_loop_rounds 1 ?_
   rw [rounds_succ]
   go_wp2
   go_ret
   exact ⟨rfl,0,rfl⟩
  ·obtain ⟨b1,o1,c1,rfl,_,_,hc1⟩:=h1.inv (by omega)
   obtain ⟨b2,o2,c2,rfl,_,_,hc2⟩:=h2.inv (by omega)
   rw [←hl]
   obtain ⟨n,hn⟩:∃ n,xs.length=n:=⟨_,rfl⟩
   have HL:Hid (ys.length=n):=by rw [←hl];exact hn
   have HN:Hid (xs.length=n):=hn
   rw [hn]
   rw [hn] at hz l1
   clear hn hl h1 h2
   have hnn:((n:Int) != (n:Int))=false:=by simp
   go_enter Tryz.func28,Tryz.ntmps28
   go_wp2
   go_loopw [5] (fun i wr=>∃ k m:Nat,k≤n∧i=.int .i64 k∧wr=w.drewN m∧xs.take k=ys.take k) (fun i _=>n - (intOf i).toNat)
   case atStart=>exact ⟨0,0,Nat.zero_le _,rfl,rfl,by simp⟩
   case round =>
    obtain ⟨k,m,hk,rfl,rfl,ht⟩:=hrel
    have HT:=hid ht
    clear ht
    by_cases hlt:k<n
    ·have g1:=hc1 k (by have:=HN.out;omega)
     have g2:=hc2 k (by have:=HL.out;omega)
     clear hc1 hc2
     have b1':(k:Int)<(n:Int):=by omega
     go_wp2
     go_quiet (fail)
     by_cases he:xs.getD k 0=ys.getD k 0
     ·have he':(xs[k]?.getD 0 != ys[k]?.getD 0)=false:=by simpa [List.getD] using he
      have HE:=hid he
      clear he
      go_wp2
      go_roundw
      case rel=>exact ⟨k+1,_,by omega,by go_num,rfl,qtk (by have:=HN.out;omega) (by have:=HL.out;omega) HT.out HE.out⟩
      case measure=>simp [intOf];omega
     ·have he':(xs[k]?.getD 0 != ys[k]?.getD 0)=true:=by simpa [List.getD] using he
      have HE:=hid he
      clear he
      go_wp2
      go_ret
      exact ⟨by rw [decide_eq_false (qmz HE.out)];rfl,_,World.drewN_drewN _ _ _⟩
    ·clear hc1 hc2
     go_wp2
     go_ret
     refine ⟨?_,_,rfl⟩
     have e1:k=n:=by omega
     have h3:=HT.out
     rw [List.take_of_length_le (by have:=HN.out;omega),List.take_of_length_le (by have:=HL.out;omega)] at h3
     rw [decide_eq_true h3];rfl
 ·have hne:((xs.length:Int) != (ys.length:Int))=true:=by simp;omega
  obtain ⟨a1,c1,rfl,_⟩:=h1
  obtain ⟨a2,c2,rfl,_⟩:=h2
  go_enter Tryz.func28,Tryz.ntmps28
  go_wp2
  go_ret
  exact ⟨by rw [decide_eq_false (by intro e;exact hl (by rw [e]))];rfl,0,rfl⟩
theorem same_b (a b:Value) (xs ys:List Int) (w:World) (h1:Bs w a xs) (h2:Bs w b ys) :
  Calls Tryz.prog 28 #[a,b] w fun e w'=>e=.returned (.bool (decide (xs=ys)))∧Below w.heap.size w w' :=
 (qxk a b xs ys w h1 h2).mono fun _ _ ⟨he,n,hw⟩=>⟨he,by rw [hw];exact bd w n⟩
section
variable {B:Nat} {w:World} {b:Nat} {v:Value} {xs:List Int} {n R:Nat}
set_option maxHeartbeats 1000000 in
theorem qii (h:Fi B w b v xs n R):Calls Tryz.prog 47 #[.pointer (some ⟨b,0,none⟩)] w fun e w'=>e=.returned (.int .i64 ((R:Int) - xs.length))∧∃ m,w'=w.drewN m:=by
 obtain ⟨hn,hl,hR⟩:=h.nums
 obtain ⟨a,c,rfl,hc,c0,c1,c2,-,-⟩:=h.cells
 clear h
 go_enter Tryz.func47,Tryz.ntmps47
 go_wp2
 go_quiet (fail)
 go_wp2
 go_ret
 exact ⟨rfl,_,rfl⟩
set_option maxHeartbeats 1000000 in
theorem qjj (h:Fi B w b v xs n R):Calls Tryz.prog 48 #[.pointer (some ⟨b,0,none⟩)] w fun e w'=>e=.returned (.int .i64 xs.length)∧w=w':=by
 obtain ⟨a,c,rfl,hc,c0,c1,c2,-,-⟩:=h.cells
 clear h
 go_enter Tryz.func48,Tryz.ntmps48
 go_wp2
 go_ret
 exact ⟨rfl,rfl⟩
set_option maxHeartbeats 1000000 in
theorem qkd (h:Fi B w b v xs n R):Calls Tryz.prog 30 #[.pointer (some ⟨b,0,none⟩)] w fun e w'=>e=.returned (.int .i64 n)∧w=w':=by
 obtain ⟨a,c,rfl,hc,c0,c1,c2,-,-⟩:=h.cells
 clear h
 go_enter Tryz.func30,Tryz.ntmps30
 go_wp2
 go_ret
 exact ⟨rfl,rfl⟩
set_option maxHeartbeats 1000000 in
theorem qgo (h:Fi B w b v xs n R):Calls Tryz.prog 55 #[.pointer (some ⟨b,0,none⟩)] w fun e w'=>e=.returned (.tuple #[])∧Fi B w' b v xs xs.length R∧Fx b v v w w':=by
 have HF:=hid h
 obtain ⟨a,c,rfl,hc,c0,c1,c2,f0,f1⟩:=h.cells
 clear h
 go_enter Tryz.func55,Tryz.ntmps55
 go_wp2
 go_end0
 exact ⟨rfl,HF.out.mark _ HF.out.nums.2.1⟩
set_option maxHeartbeats 1000000 in
theorem qnu (h:Fi B w b v xs n R):Calls Tryz.prog 29 #[.pointer (some ⟨b,0,none⟩)] w fun e w'=>∃ v',e=.returned v'∧Ow w.heap.size w' v' xs∧Below w.heap.size w w':=by
 have HF:=hid h
 obtain ⟨hn,hl,hR⟩:=h.nums
 obtain ⟨a,c,rfl,hc,c0,c1,c2,-,-⟩:=h.cells
 clear h
 go_enter Tryz.func29,Tryz.ntmps29
 go_wp2_with fail
 refine (qkf _ xs w HF.out.bs (by omega)).mono ?_
 rintro e w1 ⟨v1,rfl,hO,hb⟩
 have HO:=hid hO
 have HB:=hid hb
 clear hO hb
 go_wp2
 go_ret
 exact ⟨_,rfl,HO.out,HB.out⟩
set_option maxHeartbeats 2000000 in
theorem qjo (hB:B≤w.heap.size) (h:Fi B w b v xs n R) (u:Value) (ys:List Int) (hu:Bs w u ys) :
  Calls Tryz.prog 49 #[.pointer (some ⟨b,0,none⟩),u] w fun e w' =>
   Fe (appS R ys xs n) e∧Fo B b R v w (appS R ys xs n) w':=by
 have HF:=hid h
 have HU:=hid hu
 obtain ⟨hn,hl,hR⟩:=h.nums
 have hm:=hu.len
 unfold maxLen at hm
 obtain ⟨ua,uc,rfl⟩:=hu.form
 obtain ⟨N,hN⟩:∃ N,xs.length=N:=⟨_,rfl⟩
 obtain ⟨M,hM⟩:∃ M,ys.length=M:=⟨_,rfl⟩
 have HN:=hid hN
 have HM:=hid hM
 by_cases hlt:(R:Int) - N<M
 ·rw [hN] at hl
  rw [hM] at hm ⊢
  clear h hu hN hM
  go_enter Tryz.func49,Tryz.ntmps49
  go_wp2_with fail
  refine (qii HF.out).mono ?_
  rintro e w1 ⟨rfl,m,rfl⟩
  rw [HN.out]
  go_wp2
  go_ret
  have hr:appS R ys xs n=(14,xs,n):=if_neg (by rw [HN.out,HM.out];omega)
  exact ⟨Fe.mk hr,Fo.mk (HF.out.drewN _) (Fx.of_below (bd _ _)) hr⟩
 ·have hlt':¬ (R:Int) - N<M:=hlt
  have hle:N+M≤R:=by omega
  obtain ⟨a,c,rfl,hc,c0,c1,c2,f0,f1⟩:=h.cells
  have HO:=hid h.own
  rw [hN] at hl hc c0 HO HF ⊢
  rw [hM] at hm HU ⊢
  clear h hu hN hM
  go_enter Tryz.func49,Tryz.ntmps49
  go_wp2_with fail
  refine (qii HF.out).mono ?_
  rintro e w1 ⟨rfl,m,rfl⟩
  rw [HN.out]
  go_wp2_with (at_builtin;refine qag rfl (.tmp 14) (.tmp 15) rfl B (.slice a N c) N xs rfl ?c0 _ ys rfl ?c1 ?c2 ?c3 ?_)
  case c0=>have:=HO.out;rw [Ow,HN.out] at this;exact this
  case c1=>exact HU.out
  case c2=>rw [HM.out];omega
  case c3=>exact hB
  intro v1 w1 hown hgrow hv
  have hO:Ow B w1 v1 (xs++ys):=by rw [Ow,List.length_append,HN.out];simpa [cs] using hown
  have hP:=HF.out.put (w':=w1) (v':=v1) (ys:=xs++ys) hO (Fr.of_grown (World.grownBy.of_drewN hgrow) (fun k hk=>hk)) (HF.out.byt.append HU.out.range) (by rw [List.length_append,HN.out,HM.out];omega) (fun k hk=>by
   rcases hv with e | e
   ·exact .inl (by rw [←e];exact hk)
   ·rw [e] at hk;simp at hk;exact .inr (by rw [←hk];exact Nat.le_refl _))
  have HP:=hid hP
  have qb:=hgrow.block b HF.out.lt (Ne.symm HF.out.ne)
  have q1:w1.frozen? ⟨b,0,none⟩=false:=(World.frozen?_of_block (a:=⟨b,0,none⟩) qb).trans f0
  have q2:w1.cell? ⟨b,0,none⟩=some (.slice a N c):=(World.cell?_of_block (a:=⟨b,0,none⟩) qb).trans c0
  clear qb
  obtain ⟨a1,k1,rfl,-⟩:=hO.form
  clear hown hgrow hv hO hP c0 c1 c2 f0 f1
  go_wp2
  go_ret
  have hr:appS R ys xs n=(0,xs++ys,n):=if_pos (by rw [HN.out,HM.out];omega)
  have hP:=HP.out
  rw [List.length_append] at hP
  exact ⟨Fe.mk hr,Fo.mk hP.1 hP.2 hr⟩
set_option maxHeartbeats 2000000 in
theorem qco (hB:B≤w.heap.size) (h:Fi B w b v xs n R) (u:Value) (ys:List Int) (hu:Bs w u ys) :
  Calls Tryz.prog 40 #[.pointer (some ⟨b,0,none⟩),u] w fun e w' =>
   Fe (repS R ys xs n) e∧Fo B b R v w (repS R ys xs n) w':=by
 have HF:=hid h
 have HU:=hid hu
 obtain ⟨hn,hl,hR⟩:=h.nums
 have hm:=hu.len
 unfold maxLen at hm
 obtain ⟨ua,uc,rfl⟩:=hu.form
 obtain ⟨a,c,rfl,hc,c0,c1,c2,f0,f1⟩:=h.cells
 obtain ⟨M,hM⟩:∃ M,ys.length=M:=⟨_,rfl⟩
 have HM:=hid hM
 rw [hM] at hm HU ⊢
 clear h hu hM
 by_cases hlt:(R:Int)<M
 ·go_enter Tryz.func40,Tryz.ntmps40
  go_wp2
  go_ret
  have hr:repS R ys xs n=(14,xs,n):=if_neg (by rw [HM.out];omega)
  exact ⟨Fe.mk hr,Fo.mk HF.out (Fx.refl _ _ _) hr⟩
 ·have hlt':¬ (R:Int)<M:=hlt
  go_enter Tryz.func40,Tryz.ntmps40
  go_wp2_with fail
  refine (qkf _ ys w HU.out (by rw [HM.out];omega)).mono ?_
  rintro e w1 ⟨v1,rfl,hO,hb⟩
  have hF:∀ k,v1.ownBlock=some k→w.heap.size≤k:=fun k hk=>(hO.lt k hk).1
  have hP:=HF.out.put (w':=w1) (v':=v1) (ys:=ys) (n:=n) (hO.mono hB) (Fr.of_below hb) HU.out.range (by rw [HM.out];omega) (fun k hk=>.inr (hF k hk))
  have HP:=hid hP
  have q1:w1.frozen? ⟨b,0,none⟩=false:=(World.frozen?_of_block (a:=⟨b,0,none⟩) (hb.block b HF.out.lt)).trans f0
  have q2:w1.cell? ⟨b,0,none⟩=some (.slice a xs.length c):=(World.cell?_of_block (a:=⟨b,0,none⟩) (hb.block b HF.out.lt)).trans c0
  obtain ⟨a1,k1,rfl,-⟩:=hO.form
  clear hO hb hF hP c0 c1 c2 f0 f1
  go_wp2_with fail
  refine (qgo HP.out.1).mono ?_
  rintro e w2 ⟨rfl,hF2,hX2⟩
  have HF2:=hid hF2
  have HX2:=hid hX2
  clear hF2 hX2
  go_wp2
  go_ret
  have hr:repS R ys xs n=(0,ys,ys.length):=if_pos (by rw [HM.out];omega)
  exact ⟨Fe.mk hr,Fo.mk HF2.out (HP.out.2.trans HX2.out) hr⟩
end
section
variable {B:Nat} {w:World} {b:Nat} {v:Value} {xs:List Int} {n R:Nat}
set_option maxHeartbeats 2000000 in
theorem qvo (h:Fi B w b v xs n R) (k:Int) :
  Calls Tryz.prog 61 #[.pointer (some ⟨b,0,none⟩),.int .i64 k] w fun e w' =>
   Fe (trimS k xs n) e∧Fo B b R v w (trimS k xs n) w':=by
 have HF:=hid h
 obtain ⟨hn,hl,hR⟩:=h.nums
 obtain ⟨a,c,rfl,hc,c0,c1,c2,f0,f1⟩:=h.cells
 obtain ⟨N,hN⟩:∃ N,xs.length=N:=⟨_,rfl⟩
 have HN:=hid hN
 rw [hN] at hl hc c0 HF ⊢
 clear h hN
 by_cases h1:k<0
 ·go_enter Tryz.func61,Tryz.ntmps61
  go_wp2
  go_ret
  have hr:trimS k xs n=(11,xs,n):=if_neg (by rw [HN.out];omega)
  exact ⟨Fe.mk hr,Fo.mk HF.out (Fx.refl _ _ _) hr⟩
 ·have h1':decide (k<0)=false:=by simp;omega
  by_cases h2:(N:Int)<k
  ·go_enter Tryz.func61,Tryz.ntmps61
   go_wp2
   go_ret
   have hr:trimS k xs n=(11,xs,n):=if_neg (by rw [HN.out];omega)
   exact ⟨Fe.mk hr,Fo.mk HF.out (Fx.refl _ _ _) hr⟩
  ·have h2':decide ((N:Int)<k)=false:=by simp;omega
   obtain ⟨m,rfl⟩:∃ m:Nat,k=m:=⟨k.toNat,by omega⟩
   have hm:m≤N:=by omega
   have hr:trimS (m:Int) xs n=(0,xs.take m,min n m):=if_pos ⟨by omega,by rw [HN.out];omega⟩
   have hP:=HF.out.put (w':=w) (v':=.slice a m c) (ys:=xs.take m) (HF.out.own.take m (by rw [HN.out];exact hm)) (Fr.refl _ _) (HF.out.byt.take m) (by rw [List.length_take,HN.out];omega) (fun k hk=>.inl (by cases a<;>exact hk))
   have hQ:=hP.1.mark (min n m) (by omega)
   have HR:=hid hr
   have HP:=hid hP
   have HQ:=hid hQ
   clear hr hP hQ
   rcases (by omega:(n:Int)<(m:Int)∨(m:Int)<(n:Int)∨n=m) with hle | hle | hle
   ·have g1:¬ (m:Int)<(n:Int):=by omega
    have g2:(n:Int)≤(m:Int):=by omega
    have hmin:min n m=n:=by omega
    have hmi:min (n:Int) (m:Int)=(n:Int):=by omega
    rw [hmin] at HR HQ
    clear hmin
    go_enter Tryz.func61,Tryz.ntmps61
    go_wp2
    go_ret
    exact ⟨Fe.mk HR.out,Fo.mk (v':=.slice a m c) HQ.out.1 (HP.out.2.trans HQ.out.2) HR.out⟩
   ·have g1:¬ (n:Int)<(m:Int):=by omega
    have g2:¬ (n:Int)≤(m:Int):=by omega
    have hmin:min n m=m:=by omega
    have hmi:min (n:Int) (m:Int)=(m:Int):=by omega
    rw [hmin] at HR HQ
    clear hmin
    go_enter Tryz.func61,Tryz.ntmps61
    go_wp2
    go_ret
    exact ⟨Fe.mk HR.out,Fo.mk (v':=.slice a m c) HQ.out.1 (HP.out.2.trans HQ.out.2) HR.out⟩
   ·subst hle
    rw [Nat.min_self] at HR HQ
    go_enter Tryz.func61,Tryz.ntmps61
    go_wp2
    go_ret
    exact ⟨Fe.mk HR.out,Fo.mk (v':=.slice a n c) HQ.out.1 (HP.out.2.trans HQ.out.2) HR.out⟩
set_option maxHeartbeats 2000000 in
theorem qsq (h:Fi B w b v xs n R) (hx:n≤xs.length) (k:Int) :
  Calls Tryz.prog 21 #[.pointer (some ⟨b,0,none⟩),.int .i64 k] w fun e w' =>
   e=.returned (.tuple #[])∧Fo B b R v w (crashS k xs n) w':=by
 have HF:=hid h
 obtain ⟨hn,hl,hR⟩:=h.nums
 obtain ⟨a,c,rfl,hc,c0,c1,c2,f0,f1⟩:=h.cells
 obtain ⟨N,hN⟩:∃ N,xs.length=N:=⟨_,rfl⟩
 have HN:=hid hN
 rw [hN] at hl hx hc c0 HF ⊢
 clear h hN
 by_cases h1:k<0
 ·have HJ:Hid (left k xs n=n):=by
   show left k xs n=n
   unfold left;omega
  have h2:¬ (N:Int) - n<0:=by omega
  have mx:max k 0=0:=by omega
  have mi:min (0:Int) ((N:Int) - (n:Int))=0:=by omega
  go_enter Tryz.func21,Tryz.ntmps21
  go_wp2
  go_region
  go_wp2
  go_region
  all_goals
   have hP:=HF.out.put (w':=w) (v':=.slice a (n) c) (ys:=xs.take (n)) (HF.out.own.take (n) (by rw [HN.out];omega)) (Fr.refl _ _) (HF.out.byt.take (n)) (by rw [List.length_take,HN.out];omega) (fun k hk=>.inl (by cases a<;>exact hk))
   have HP:=hid hP
   clear hP
   go_wp2_with fail
   refine (qgo (HP.out.1.drewN 2)).mono ?_
   rintro e w2 ⟨rfl,hF2,hX2⟩
   have HF2:=hid hF2
   have HX2:=hid hX2
   clear hF2 hX2
   go_wp2
   go_end0
   have hr:crashS k xs n=(0,xs.take (n),n):=by unfold crashS;rw [HJ.out]
   have hl2:(xs.take (n)).length=n:=by rw [List.length_take,HN.out];omega
   have hF:=HF2.out
   rw [hl2] at hF
   exact ⟨rfl,Fo.mk hF ((HP.out.2.drewN 2).trans HX2.out) hr⟩
 ·obtain ⟨m,rfl⟩:∃ m:Nat,k=m:=⟨k.toNat,by omega⟩
  have h1':¬ (m:Int)<0:=h1
  by_cases h2:(N:Int) - n<m
  ·have HJ:Hid (left (m:Int) xs n=N):=by
    show left (m:Int) xs n=N
    unfold left;rw [HN.out];omega
   have h3:(n:Int)+(N - n)=N:=by omega
   have mx:max (m:Int) 0=(m:Int):=by omega
   have mi:min (m:Int) ((N:Int) - (n:Int))=(N:Int) - (n:Int):=by omega
   have ma:(n:Int)+((N:Int) - (n:Int))=(N:Int):=by omega
   go_enter Tryz.func21,Tryz.ntmps21
   go_wp2
   go_region
   go_wp2
   go_region
   all_goals
    have hP:=HF.out.put (w':=w) (v':=.slice a (N) c) (ys:=xs.take (N)) (HF.out.own.take (N) (by rw [HN.out];omega)) (Fr.refl _ _) (HF.out.byt.take (N)) (by rw [List.length_take,HN.out];omega) (fun k hk=>.inl (by cases a<;>exact hk))
    have HP:=hid hP
    clear hP
    go_wp2_with fail
    refine (qgo (HP.out.1.drewN 2)).mono ?_
    rintro e w2 ⟨rfl,hF2,hX2⟩
    have HF2:=hid hF2
    have HX2:=hid hX2
    clear hF2 hX2
    go_wp2
    go_end0
    have hr:crashS (m:Int) xs n=(0,xs.take (N),N):=by unfold crashS;rw [HJ.out]
    have hl2:(xs.take (N)).length=N:=by rw [List.length_take,HN.out];omega
    have hF:=HF2.out
    rw [hl2] at hF
    exact ⟨rfl,Fo.mk hF ((HP.out.2.drewN 2).trans HX2.out) hr⟩
  ·have HJ:Hid (left (m:Int) xs n=n+m):=by
    show left (m:Int) xs n=n+m
    unfold left;rw [HN.out];omega
   have h2':¬ (N:Int) - n<m:=h2
   have h3:n+m≤N:=by omega
   have mx:max (m:Int) 0=(m:Int):=by omega
   have mi:min (m:Int) ((N:Int) - (n:Int))=(m:Int):=by omega
   go_enter Tryz.func21,Tryz.ntmps21
   go_wp2
   go_region
   go_wp2
   go_region
   all_goals
    have hP:=HF.out.put (w':=w) (v':=.slice a (n+m) c) (ys:=xs.take (n+m)) (HF.out.own.take (n+m) (by rw [HN.out];omega)) (Fr.refl _ _) (HF.out.byt.take (n+m)) (by rw [List.length_take,HN.out];omega) (fun k hk=>.inl (by cases a<;>exact hk))
    have HP:=hid hP
    clear hP
    go_wp2_with fail
    refine (qgo (HP.out.1.drewN 2)).mono ?_
    rintro e w2 ⟨rfl,hF2,hX2⟩
    have HF2:=hid hF2
    have HX2:=hid hX2
    clear hF2 hX2
    go_wp2
    go_end0
    have hr:crashS (m:Int) xs n=(0,xs.take (n+m),n+m):=by unfold crashS;rw [HJ.out]
    have hl2:(xs.take (n+m)).length=n+m:=by rw [List.length_take,HN.out];omega
    have hF:=HF2.out
    rw [hl2] at hF
    exact ⟨rfl,Fo.mk hF ((HP.out.2.drewN 2).trans HX2.out) hr⟩
end
theorem Fi.new (w:World) (R:Nat) (hR:R≤1048576):Fi w.heap.size (w.alloc (.cells #[.slice none 0 0,.int .i64 0,.int .i64 R] 96 (0,0))) w.heap.size (.slice none 0 0) [] 0 R :=
 ⟨heap_alloc_new w _,Nat.le_refl _,Ow.nil _ _,Byt.nil,Nat.zero_le _,Nat.zero_le _,hR⟩
section
variable {w:World}
set_option maxHeartbeats 2000000 in
theorem qym (u:Value) (R:Int) (h:R<0∨1048576<R):Calls Tryz.prog 39 #[u,.int .i64 R] w fun e w'=>e=.returned (.tuple #[.pointer none,.int .i64 11])∧w=w':=by
 by_cases h1:R<0
 ·go_enter Tryz.func39,Tryz.ntmps39
  go_wp2
  go_ret2
  exact ⟨rfl,rfl⟩
 ·have h1':decide (R<0)=false:=by simp;omega
  have h2:(1048576:Int)<R:=by omega
  go_enter Tryz.func39,Tryz.ntmps39
  go_wp2
  go_ret2
  exact ⟨rfl,rfl⟩
set_option maxHeartbeats 2000000 in
theorem load_full (u:Value) (ys:List Int) (R:Nat) (hR:R≤1048576) (hu:Bs w u ys) (h:R<ys.length):Calls Tryz.prog 39 #[u,.int .i64 R] w fun e w'=>e=.returned (.tuple #[.pointer none,.int .i64 14])∧Below w.heap.size w w':=by
 have HF:=hid (Fi.new w R hR)
 have HU:=hid (hu.below (ba w (.cells #[.slice none 0 0,.int .i64 0,.int .i64 R] 96 (0,0))))
 have hr:repS R ys [] 0=(14,[],0):=if_neg (by omega)
 have HR:=hid hr
 obtain ⟨ua,uc,rfl⟩:=hu.form
 have h1:decide ((R:Int)<0)=false:=by simp
 have h2:decide ((1048576:Int)<(R:Int))=false:=by simp;omega
 clear hr hu
 go_enter Tryz.func39,Tryz.ntmps39
 go_wp2_with fail
 refine (qco (by simp) HF.out _ ys HU.out).mono ?_
 rintro e w1 ⟨he,hf⟩
 obtain rfl:=he.out HR.out
 obtain ⟨v1,hf1,hx1⟩:=hf.out HR.out
 have HX:=hid hx1
 clear hf1 hx1 he hf
 go_wp2
 go_ret2
 exact ⟨rfl,(ba w _).trans (HF.out.fr HX.out (by simp))⟩
set_option maxHeartbeats 2000000 in
theorem jbm (u:Value) (ys:List Int) (R:Nat) (hR:R≤1048576) (hu:Bs w u ys) (h:ys.length≤R):Calls Tryz.prog 39 #[u,.int .i64 R] w fun e w' =>
  e=.returned (.tuple #[.pointer (some ⟨w.heap.size,0,none⟩),.int .i64 0])∧Below w.heap.size w w'∧∃ v,Fi w.heap.size w' w.heap.size v ys ys.length R:=by
 have HF:=hid (Fi.new w R hR)
 have HU:=hid (hu.below (ba w (.cells #[.slice none 0 0,.int .i64 0,.int .i64 R] 96 (0,0))))
 have hr:repS R ys [] 0=(0,ys,ys.length):=if_pos h
 have HR:=hid hr
 obtain ⟨ua,uc,rfl⟩:=hu.form
 have h1:decide ((R:Int)<0)=false:=by simp
 have h2:decide ((1048576:Int)<(R:Int))=false:=by simp;omega
 clear hr hu
 go_enter Tryz.func39,Tryz.ntmps39
 go_wp2_with fail
 refine (qco (by simp) HF.out _ ys HU.out).mono ?_
 rintro e w1 ⟨he,hf⟩
 obtain rfl:=he.out HR.out
 obtain ⟨v1,hf1,hx1⟩:=hf.out HR.out
 have HX:=hid hx1
 have HF1:=hid hf1
 clear hf1 hx1 he hf
 go_wp2
 go_ret2
 exact ⟨rfl,(ba w _).trans (HF.out.fr HX.out (by simp)),_,HF1.out⟩
set_option maxHeartbeats 2000000 in
theorem jbl (R:Int) (h:R<0∨1048576<R):Calls Tryz.prog 6 #[.int .i64 R] w fun e w'=>e=.returned (.tuple #[.pointer none,.int .i64 11])∧w=w':=by
 have H:=hid h
 clear h
 go_enter Tryz.func6,Tryz.ntmps6
 go_wp2_with fail
 refine (qym _ R H.out).mono ?_
 rintro e w1 ⟨rfl,rfl⟩
 go_wp2
 go_ret2
 exact ⟨rfl,rfl⟩
set_option maxHeartbeats 2000000 in
theorem jad (R:Nat) (hR:R≤1048576):Calls Tryz.prog 6 #[.int .i64 R] w fun e w' =>
  e=.returned (.tuple #[.pointer (some ⟨w.heap.size,0,none⟩),.int .i64 0])∧Below w.heap.size w w'∧∃ v,Fi w.heap.size w' w.heap.size v [] 0 R:=by
 go_enter Tryz.func6,Tryz.ntmps6
 go_wp2_with fail
 refine (jbm _ [] R hR (Bs.nil w) (Nat.zero_le _)).mono ?_
 rintro e w1 ⟨rfl,hb,v,hf⟩
 have HB:=hid hb
 have HF:=hid hf
 clear hb hf
 go_wp2
 go_ret2
 exact ⟨rfl,HB.out,v,HF.out⟩
end
theorem qxj {s:Nat}(h:s % 2=1) (hs:s<4294967296):bits .xor .i64 ((s:Int) / 2) 3988292384=((C.step s:Nat):Int):=by
 have:=qny (s / 2) 3988292384 (by omega) (by decide)
 rw [show C.step s=(s / 2) ^^^ 3988292384 by unfold C.step;rw [if_pos h]]
 rw [←this]
 rfl
theorem qrq {s:Nat}(h:¬ s % 2=1):((s:Int) / 2)=((C.step s:Nat):Int):=by
 rw [show C.step s=s / 2 by unfold C.step;rw [if_neg h]]
 rfl
set_option maxHeartbeats 1000000 in
theorem qfk (v:Value) (xs:List Int) (w:World) (h:Bs w v xs) :
  Calls Tryz.prog 73 #[v] w fun e w'=>e=.returned (.int .i64 (C.sum xs:Nat))∧w=w':=by
 have hr:C.Bytes xs:=h.range
 have hl:=h.len
 unfold maxLen at hl
 have hB:=hid h
 have hv:∃ a c,v=.slice a xs.length c:=by
  obtain ⟨a,c,e,_⟩:=h
  exact ⟨a,c,e⟩
 obtain ⟨a,c,rfl⟩:=hv
 clear h
 have HR:=hid hr
 clear hr
 obtain ⟨n,hn⟩:∃ n,xs.length=n:=⟨_,rfl⟩
 rw [hn] at hl hB ⊢
 have HN:=hid hn
 clear hn
 go_enter Tryz.func73,Tryz.ntmps73
 go_wp2
 go_loop [3,4] (fun s i=>∃ k:Nat,k≤n∧i=.int .i64 k∧s=.int .i64 (C.run 4294967295 (xs.take k):Nat)) (fun _ i=>n - (intOf i).toNat)
 case atStart=>exact ⟨0,Nat.zero_le _,rfl,rfl⟩
 case round =>
  obtain ⟨k,hk,rfl,rfl⟩:=hrel
  have hN:=C.run_lt (n:=4294967295) (l:=xs.take k) (by decide) (C.Bytes.take HR.out k)
  by_cases hlt:k<n
  ·have hlt':(k:Int)<(n:Int):=by omega
   have hst:=qgr (xs:=xs) (k:=k) (by rw [HN.out];exact hlt) 4294967295
   have hx:=C.getD_byte HR.out k
   obtain ⟨b,off,c',e1,_,_,hc⟩:=hB.out.inv (by rw [HN.out];omega)
   simp only [Value.slice.injEq] at e1
   obtain ⟨rfl,-,rfl⟩:=e1
   have hck:=hc k (by rw [HN.out];exact hlt)
   clear hc
   obtain ⟨N,hN'⟩:∃ N,C.run 4294967295 (xs.take k)=N:=⟨_,rfl⟩
   rw [hN'] at hN hst ⊢
   obtain ⟨x,hx'⟩:∃ x,xs.getD k 0=x:=⟨_,rfl⟩
   rw [hx'] at hx hst hck
   obtain ⟨y,rfl⟩:=Int.eq_ofNat_of_zero_le hx.1
   have hy:y<256:=by omega
   have hxor:=qny N y hN (by omega)
   have hM:=C.xor_lt hN (show y<4294967296 by omega)
   obtain ⟨M,hM'⟩:∃ M,N ^^^ y=M:=⟨_,rfl⟩
   rw [hM'] at hxor hM
   have HST:=hid hst
   have HM:=hid hM'
   clear hst hM' hN' hx' hx
   go_wp2
   go_loop [3,5] (fun s j=>∃ m:Nat,m≤8∧j=.int .i64 m∧s=.int .i64 (C.steps m M:Nat)) (fun _ j=>8 - (intOf j).toNat)
   case atStart=>exact ⟨0,by omega,rfl,rfl⟩
   case round =>
    obtain ⟨m,hm,rfl,rfl⟩:=hrel
    have hs:=C.steps_lt m hM
    have hsn:=C.steps_snoc m M
    obtain ⟨s,hs'⟩:∃ s,C.steps m M=s:=⟨_,rfl⟩
    rw [hs'] at hs hsn ⊢
    by_cases hm8:m<8
    ·have hm8':(m:Int)<8:=by omega
     have HS:=hid hsn
     clear hsn hs'
     by_cases ho:s % 2=1
     ·have ho':((s:Int) % 2==1)=true:=by simp;omega
      have hx2:=qxj ho hs
      clear ho
      go_wp2
      go_round
      case rel=>exact ⟨m+1,by omega,by go_num,by rw [HS.out]⟩
      case measure=>simp [intOf];omega
     ·have ho':((s:Int) % 2==1)=false:=by simp;omega
      have hx2:=hid (qrq ho)
      clear ho
      go_wp2
      go_round
      case rel=>exact ⟨m+1,by omega,by go_num,by rw [HS.out,←hx2.out]⟩
      case measure=>simp [intOf];omega
    ·obtain rfl:m=8:=by omega
     have HS:=hid hs'
     clear hs' hsn
     go_wp2
     go_round
     case rel=>exact ⟨k+1,by omega,by go_num,by rw [HST.out,←HS.out,C.eat,Int.toNat_natCast,HM.out]⟩
     case measure=>simp [intOf];omega
  ·obtain rfl:k=n:=by omega
   have hs:C.sum xs=C.run 4294967295 (xs.take k) ^^^ 4294967295:=by
    rw [List.take_of_length_le (by rw [HN.out];exact Nat.le_refl _)];rfl
   obtain ⟨N,hN'⟩:∃ N,C.run 4294967295 (xs.take k)=N:=⟨_,rfl⟩
   rw [hN'] at hN hs ⊢
   have hx:=qny N 4294967295 hN (by decide)
   rw [←hs] at hx
   have hx2:bits .xor .i64 (N:Int) 4294967295=((C.sum xs:Nat):Int):=hx
   clear hN' hs hx
   go_wp2
   go_ret
   exact ⟨rfl,rfl⟩
set_option maxHeartbeats 1000000 in
theorem qhq (v:Value) (xs:List Int) (w:World) (h:Bs w v xs) (h4:4≤xs.length) :
  Calls Tryz.prog 120 #[v] w fun e w'=>e=.returned (.int .i64 (C.wi xs))∧∃ n,w'=w.drewN n:=by
 have hr:C.Bytes xs:=h.range
 have hl:=h.len
 unfold maxLen at hl
 obtain ⟨b,off,c,rfl,_,_,hc⟩:=h.inv (by omega)
 have g0:=hc 0 (by omega)
 rw [Nat.add_zero] at g0
 have g1:=hc 1 (by omega)
 have g2:=hc 2 (by omega)
 have g3:=hc 3 (by omega)
 have r0:=C.getD_byte hr 0
 have r1:=C.getD_byte hr 1
 have r2:=C.getD_byte hr 2
 have r3:=C.getD_byte hr 3
 have hw:=hid (show C.wi xs=xs.getD 0 0+256*xs.getD 1 0+65536*xs.getD 2 0+16777216*xs.getD 3 0 from rfl)
 obtain ⟨x0,e0⟩:∃ x,xs.getD 0 0=x:=⟨_,rfl⟩
 obtain ⟨x1,e1⟩:∃ x,xs.getD 1 0=x:=⟨_,rfl⟩
 obtain ⟨x2,e2⟩:∃ x,xs.getD 2 0=x:=⟨_,rfl⟩
 obtain ⟨x3,e3⟩:∃ x,xs.getD 3 0=x:=⟨_,rfl⟩
 rw [e0] at g0 r0
 rw [e1] at g1 r1
 rw [e2] at g2 r2
 rw [e3] at g3 r3
 rw [e0,e1,e2,e3] at hw
 clear e0 e1 e2 e3 hc h hr
 obtain ⟨n,hn⟩:∃ n,xs.length=n:=⟨_,rfl⟩
 rw [hn] at hl h4 ⊢
 clear hn
 obtain ⟨r00,r01⟩:=r0
 obtain ⟨r10,r11⟩:=r1
 obtain ⟨r20,r21⟩:=r2
 obtain ⟨r30,r31⟩:=r3
 have l0:(0:Int)<(n:Int):=by omega
 have l0n:0<n:=by omega
 have l1:(1:Int)<(n:Int):=by omega
 have l2:(2:Int)<(n:Int):=by omega
 have l3:(3:Int)<(n:Int):=by omega
 rw [hw.out]
 go_enter Tryz.func120,Tryz.ntmps120
 go_wp2
 go_quiet (fail)
 go_wp2
 go_ret
 exact ⟨rfl,_,rfl⟩
set_option maxHeartbeats 400000 in
theorem qil (n:Nat) (w:World) (hn:n<4294967296) :
  Calls Tryz.prog 72 #[.int .i64 n] w fun e w'=>∃ v,e=.returned v∧w'.ownsRow w.heap.size 5 1 v 4 (cs (C.le n))∧Below w.heap.size w w':=by
 go_enter Tryz.func72,Tryz.ntmps72
 go_wp2
 go_ret
 refine ⟨_,rfl,?_,ba w _⟩
 have h:=World.ownsRow_lit (base:=w.heap.size) (e:=5) (size:=1) w (cs (C.le n)).toArray 4 (Nat.le_refl _) (by decide) (by simp [C.le])
 simpa [C.le,cs] using h
set_option maxHeartbeats 400000 in
theorem qjf (v:Value) (xs:List Int) (w:World) (h:Bs w v xs) (hl:xs.length≤65536) :
  Calls Tryz.prog 44 #[v] w fun e w'=>∃ v',e=.returned (.tuple #[v',.bool true])∧Bs w' v' (C.frame xs)∧Below w.heap.size w w':=by
 have hB:=hid h
 have hr:=hid h.range
 have hv:∃ a c,v=.slice a xs.length c:=by
  obtain ⟨a,c,e,_⟩:=h
  exact ⟨a,c,e⟩
 obtain ⟨a,c,rfl⟩:=hv
 clear h
 have hs:=C.sum_lt hr.out
 have HF:=hid (show C.frame xs=C.le xs.length++C.le (C.sum xs)++xs by rw [C.frame,List.append_assoc])
 obtain ⟨n,hn⟩:∃ n,xs.length=n:=⟨_,rfl⟩
 rw [hn] at hl hB HF ⊢
 have HN:=hid hn
 clear hn
 have hl':¬ (65536:Int)<(n:Int):=by omega
 go_enter Tryz.func44,Tryz.ntmps44
 go_wp2_with fail
 refine (qil n _ (by omega)).mono ?_
 rintro e w1 ⟨v1,rfl,hown1,b1⟩
 go_wp2_with fail
 refine (qfk _ xs _ (hB.out.below b1)).mono ?_
 rintro e w1' ⟨rfl,rfl⟩
 go_wp2_with fail
 refine (qil (C.sum xs) _ hs).mono ?_
 rintro e w2 ⟨v2,rfl,hown2,b2⟩
 have hown1':=qau hown1 b2
 have b12:=bt b1 b2
 have hv2:=Bs.of_own hown2 (C.le_bytes _)
 obtain ⟨a1,c1,rfl,_⟩:=qbb hown1
 obtain ⟨a2,c2,rfl,_⟩:=qbb hown2
 have HV2:=hid hv2
 clear hown1 hown2 hv2 b1 b2
 go_wp2_with (at_builtin;first
  | (refine qag rfl (.tmp 10) (.tmp 13) rfl w.heap.size _ _ (C.le n) rfl hown1' _ (C.le (C.sum xs)) rfl HV2.out (by rw [C.le_length];omega) b12.size ?_;intro v3 w3 hown3 hgrow3 hat3;rw [C.le_length] at hown3;obtain ⟨a3,c3,rfl,_⟩:=qbb hown3;have b13:Below w.heap.size w w3:=b12.grown hgrow3 b12.size (fun k hk=>(hown1'.lt k hk).1);have hB3:=hid (hB.out.below b13))
  | (refine qag rfl (.tmp 15) (.tmp 16) rfl w.heap.size _ _ _ rfl hown3 _ xs rfl hB3.out (by rw [HN.out];omega) b13.size ?_;intro v4 w4 hown4 hgrow4 hat4))
 go_ret2
 refine ⟨_,rfl,?_,b13.grown hgrow4 b13.size (fun k hk=>(hown3.lt k hk).1)⟩
 rw [HF.out]
 exact Bs.of_own hown4 (by rw [←HF.out];exact C.frame_bytes hr.out)
end Go.Proofs.YtkcjkncpaopjbaaGreatDoor

namespace Go.Proofs.YtkcjkncpaopjbaaGreatDoor
open Go.RowKit Go.ChangeShapes Go.WideShapes
set_option linter.unusedVariables false
set_option maxRecDepth 100000
theorem cells_int:Tryz.prog.cellsOf 3=1:=by kernel_rfl
section
variable {H:Type} {enc:TypeId × Value→H} {W:World} {held:Bool}
end
end Go.Proofs.YtkcjkncpaopjbaaGreatDoor

namespace Go.Proofs.YtkcjkncpaopjbaaGreatDoor
open Go.RowKit
set_option linter.unusedVariables false
set_option maxRecDepth 100000
section
variable {B:Nat} {w:World} {b:Nat} {v:Value} {xs:List Int} {n R:Nat}
end
structure Re (B:Nat) (w:World) (b:Nat) (s l:Value) (xs ys:List Int) (R:Nat):Prop where
 blk:w.heap[b]?=some (.cells #[s,l,.int .i64 R] 65 (0,0))
 base:B≤b
 os:Ow B w s xs
 ol:Ow B w l ys
 bs:Byt xs
 bl:Byt ys
 ne:∀ k,s.ownBlock=some k→l.ownBlock≠some k
 len:xs.length≤R∧ys.length≤R
 lim:R≤1048576
structure Rx (b:Nat) (s l s' l':Value) (w w':World):Prop where
 fr:Fr (fun k=>k=b∨s.ownBlock=some k∨l.ownBlock=some k) w w'
 new:∀ k,s'.ownBlock=some k∨l'.ownBlock=some k→s.ownBlock=some k∨l.ownBlock=some k∨w.heap.size≤k
section
variable {B:Nat} {w w' w1 w2:World} {b:Nat} {s l s' l' s2 l2:Value} {xs ys:List Int} {R:Nat}
theorem Rx.refl (b:Nat) (s l:Value) (w:World):Rx b s l s l w w:=⟨Fr.refl _ _,fun k h=>h.elim .inl (fun h=>.inr (.inl h))⟩
theorem Rx.of_below (h:Below w.heap.size w w'):Rx b s l s l w w':=⟨Fr.of_below h,fun k h=>h.elim .inl (fun h=>.inr (.inl h))⟩
theorem Rx.drewN (h:Rx b s l s' l' w w') (m:Nat):Rx b s l s' l' w (w'.drewN m):=⟨h.fr.drewN m,h.new⟩
theorem Rx.size (h:Rx b s l s' l' w w'):w.heap.size≤w'.heap.size:=h.fr.size
theorem Rx.trans (h:Rx b s l s' l' w w1) (k:Rx b s' l' s2 l2 w1 w2):Rx b s l s2 l2 w w2:=by
 refine ⟨h.fr.trans k.fr ?_,?_⟩
 ·intro i hi hs
  rcases hs with hs | hs
  ·exact .inl hs
  ·rcases h.new i hs with e | e | e
   ·exact .inr (.inl e)
   ·exact .inr (.inr e)
   ·omega
 ·intro i hi
  have:=h.fr.size
  rcases k.new i hi with e | e | e
  ·exact h.new i (.inl e)
  ·exact h.new i (.inr e)
  ·exact .inr (.inr (by omega))
theorem Re.lt (h:Re B w b s l xs ys R):b<w.heap.size:=(Array.getElem?_eq_some_iff.1 h.blk).1
theorem Re.nes (h:Re B w b s l xs ys R):s.ownBlock≠some b:=h.os.far h.blk (by decide)
theorem Re.nel (h:Re B w b s l xs ys R):l.ownBlock≠some b:=h.ol.far h.blk (by decide)
theorem Re.of_block (h:Re B w b s l xs ys R) (hb:∀ k,k=b∨s.ownBlock=some k∨l.ownBlock=some k→w'.heap[k]?=w.heap[k]?):Re B w' b s l xs ys R :=
 ⟨by rw [hb b (.inl rfl)];exact h.blk,h.base,h.os.of_block (fun k hk=>hb k (.inr (.inl hk))),h.ol.of_block (fun k hk=>hb k (.inr (.inr hk))),h.bs,h.bl,h.ne,h.len,h.lim⟩
theorem Re.inside (h:Re B w b s l xs ys R) {k:Nat}(hk:k=b∨s.ownBlock=some k∨l.ownBlock=some k):B≤k∧k<w.heap.size:=by
 rcases hk with rfl | hk | hk
 ·exact ⟨h.base,h.lt⟩
 ·exact h.os.lt k hk
 ·exact h.ol.lt k hk
theorem Re.below (h:Re B w b s l xs ys R) (hb:Below w.heap.size w w'):Re B w' b s l xs ys R:=h.of_block (fun k hk=>hb.block k (h.inside hk).2)
theorem Re.drewN (h:Re B w b s l xs ys R) (m:Nat):Re B (w.drewN m) b s l xs ys R:=⟨h.blk,h.base,h.os,h.ol,h.bs,h.bl,h.ne,h.len,h.lim⟩
theorem Re.cells (h:Re B w b s l xs ys R) :
  ∃ a c a2 c2,s=.slice a xs.length c∧l=.slice a2 ys.length c2∧xs.length≤c∧ys.length≤c2∧w.cell? ⟨b,0,none⟩=some (.slice a xs.length c)∧w.cell? ⟨b,1,none⟩=some (.slice a2 ys.length c2)∧w.cell? ⟨b,2,none⟩=some (.int .i64 R)∧w.frozen? ⟨b,0,none⟩=false∧w.frozen? ⟨b,1,none⟩=false:=by
 obtain ⟨a,c,e,hc⟩:=h.os.form
 obtain ⟨a2,c2,e2,hc2⟩:=h.ol.form
 refine ⟨a,c,a2,c2,e,e2,hc,hc2,?_,?_,?_,frozen_of_row w b 0 _ _ h.blk,frozen_of_row w b 1 _ _ h.blk⟩
 ·rw [cell_of_row w b 0 _ _ _ h.blk,←e];rfl
 ·rw [cell_of_row w b 1 _ _ _ h.blk,←e2];rfl
 ·rw [cell_of_row w b 2 _ _ _ h.blk];rfl
theorem Re.put0 {zs:List Int}(h:Re B w b s l xs ys R) (hown:Ow B w' s' zs) (hfr:Fr (fun k=>s.ownBlock=some k) w w') (hz:Byt zs) (hl:zs.length≤R)
  (hv:∀ k,s'.ownBlock=some k→s.ownBlock=some k∨w.heap.size≤k):Re B (w'.setCell ⟨b,0,none⟩ s') b s' l zs ys R∧Rx b s l s' l w (w'.setCell ⟨b,0,none⟩ s'):=by
 have hb':w'.heap[b]?=some (.cells #[s,l,.int .i64 R] 65 (0,0)):=by rw [hfr.block b h.lt h.nes];exact h.blk
 have hne':s'.ownBlock≠some b:=by
  intro e
  rcases hv b e with e | e
  ·exact h.nes e
  ·have:=h.lt;omega
 have hol:Ow B w' l ys:=h.ol.of_block (fun k hk=>hfr.block k (h.ol.lt k hk).2 (fun e=>h.ne k e hk))
 refine ⟨⟨by rw [heap_setCell_same w' b 0 _ _ s' hb'];simp,h.base,ownsRow_setCell_other hown hne' _,ownsRow_setCell_other hol h.nel _,hz,h.bl,?_,⟨hl,h.len.2⟩,h.lim⟩,?_,?_⟩
 ·intro k hk e
  rcases hv k hk with h1 | h1
  ·exact h.ne k h1 e
  ·have:=(h.ol.lt k e).2;omega
 ·exact (hfr.mono (fun k e=>.inr (.inl e))).trans ((Fr.of_set w' b 0 s').mono (fun k e=>.inl e)) (fun _ _ h=>h)
 ·intro k hk
  rcases hk with hk | hk
  ·exact (hv k hk).elim .inl (fun h=>.inr (.inr h))
  ·exact .inr (.inl hk)
theorem Re.put1 {zs:List Int}(h:Re B w b s l xs ys R) (hown:Ow B w' l' zs) (hfr:Fr (fun k=>l.ownBlock=some k) w w') (hz:Byt zs) (hl:zs.length≤R)
  (hv:∀ k,l'.ownBlock=some k→l.ownBlock=some k∨w.heap.size≤k):Re B (w'.setCell ⟨b,1,none⟩ l') b s l' xs zs R∧Rx b s l s l' w (w'.setCell ⟨b,1,none⟩ l'):=by
 have hb':w'.heap[b]?=some (.cells #[s,l,.int .i64 R] 65 (0,0)):=by rw [hfr.block b h.lt h.nel];exact h.blk
 have hne':l'.ownBlock≠some b:=by
  intro e
  rcases hv b e with e | e
  ·exact h.nel e
  ·have:=h.lt;omega
 have hos:Ow B w' s xs:=h.os.of_block (fun k hk=>hfr.block k (h.os.lt k hk).2 (h.ne k hk))
 refine ⟨⟨by rw [heap_setCell_same w' b 1 _ _ l' hb'];simp,h.base,ownsRow_setCell_other hos h.nes _,ownsRow_setCell_other hown hne' _,h.bs,hz,?_,⟨h.len.1,hl⟩,h.lim⟩,?_,?_⟩
 ·intro k hk e
  rcases hv k e with h1 | h1
  ·exact h.ne k hk h1
  ·have:=(h.os.lt k hk).2;omega
 ·exact (hfr.mono (fun k e=>.inr (.inr e))).trans ((Fr.of_set w' b 1 l').mono (fun k e=>.inl e)) (fun _ _ h=>h)
 ·intro k hk
  rcases hk with hk | hk
  ·exact .inl hk
  ·exact (hv k hk).elim (fun h=>.inr (.inl h)) (fun h=>.inr (.inr h))
theorem Re.nil1 (h:Re B w b s l xs ys R):Re B (w.setCell ⟨b,1,none⟩ (.slice none 0 0)) b s (.slice none 0 0) xs [] R∧Rx b s l s (.slice none 0 0) w (w.setCell ⟨b,1,none⟩ (.slice none 0 0)) :=
 h.put1 (Ow.nil _ _) (Fr.refl _ _) Byt.nil (Nat.zero_le _) (fun k hk=>by cases hk)
end
def Ro (B b R:Nat) (s l:Value) (w:World) (xs ys:List Int) (w':World):Prop:=∃ s' l',Re B w' b s' l' xs ys R∧Rx b s l s' l' w w'
theorem Ro.before {B b R:Nat}{s l:Value}{w w1 w':World}{xs ys:List Int}(h:Ro B b R s l w1 xs ys w') (hb:Below w.heap.size w w1):Ro B b R s l w xs ys w':=by
 obtain ⟨s',l',h1,h2⟩:=h
 exact ⟨s',l',h1,(Rx.of_below hb).trans h2⟩
def rapp (R:Nat) (us xs ys:List Int):Int × List Int × List Int:=if xs.length+ys.length+us.length≤R then (0,xs,ys++us) else (14,xs,ys)
def rrep (R:Nat) (us xs ys:List Int):Int × List Int × List Int:=if us.length≤R then (0,us,[]) else (14,xs,ys)
def rtrim (k:Int) (xs ys:List Int):Int × List Int × List Int :=
 if 0≤k∧k≤xs.length+ys.length then (if k≤xs.length then (0,xs.take k.toNat,[]) else (0,xs,ys.take (k.toNat - xs.length))) else (11,xs,ys)
end Go.Proofs.YtkcjkncpaopjbaaGreatDoor
