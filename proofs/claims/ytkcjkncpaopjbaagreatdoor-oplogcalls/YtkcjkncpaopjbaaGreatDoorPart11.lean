/-
  Parts of the proof, one behind the other; what each proves stands at its head.
-/
import Derived.Test.YtkcjkncpaopjbaaGreatDoorPart7
import Derived.Deep.QuietTactic
import Derived.BigQuiet
import Derived.Deep.RegionWith
import Derived.Test.YtkcjkncpaopjbaaGreatDoorPart6
import Derived.Test.YtkcjkncpaopjbaaGreatDoorPart10

namespace Go.Proofs.YtkcjkncpaopjbaaGreatDoor
open Go.RowKit
set_option linter.unusedVariables false
set_option maxRecDepth 100000
set_option maxHeartbeats 1000000 in
theorem qsu (v:Value) (xs:List Int) (w:World) (h:Bs w v xs) :
  Calls Tryz.prog 87 #[v] w fun e w'=>∃ v',e=.returned (.tuple #[v',.int .i64 (C.wh xs:Nat)])∧Bs w' v' (if C.wh xs=0 then C.bd xs else [])∧Below w.heap.size w w':=by
 have hr:C.Bytes xs:=h.range
 have hl:=h.len
 unfold maxLen at hl
 have hB:=hid h
 by_cases h8:xs.length<8
 ·have hw:C.wh xs=1:=by unfold C.wh;rw [if_pos h8]
  rw [hw]
  obtain ⟨a,c,rfl,_⟩:=h
  clear hB
  go_enter Tryz.func87,Tryz.ntmps87
  go_wp2
  go_ret2
  exact ⟨_,rfl,Bs.nil _,Below.refl _ _⟩
 ·obtain ⟨b,off,c,rfl,hnc,hcm,hc⟩:=h.inv (by omega)
  unfold maxLen at hcm
  have hwd:=C.wd_cast hr
  have hwr:=C.wi_range hr
  obtain ⟨W,hW⟩:∃ W,C.wi xs=W:=⟨_,rfl⟩
  have hword:=hid (fun (w':World) (h':Bs w' (.slice (some ⟨b,off,none⟩) xs.length c) xs)=>hW▸qgk _ xs w' h' (by omega))
  rw [hW] at hwd hwr
  have hdef:C.wh xs=if 65536<C.wd xs then 2 else if xs.length - 8<C.wd xs then 1 else if C.sum (C.bd xs)=C.wd (xs.drop 4) then 0 else 2:=by
   conv=>lhs;unfold C.wh
   rw [if_neg h8]
  have HD:=hid hdef
  obtain ⟨n,hn⟩:∃ n,xs.length=n:=⟨_,rfl⟩
  rw [hn] at h8 hl hnc hB hword HD ⊢
  have HN:=hid hn
  clear hdef hn hc h hW
  have HR:=hid hr
  clear hr
  have h8':¬ (n:Int)<8:=by omega
  have g8:(8:Int)≤(n:Int):=by omega
  have g8c:(8:Int)≤(c:Int):=by omega
  have hk:∃ k:Nat,C.wd xs=k:=⟨_,rfl⟩
  obtain ⟨k,hk⟩:=hk
  have HK:=hid hk
  rw [hk] at hwd HD
  obtain rfl:W=(k:Int):=hwd.symm
  clear hk hwd
  have h4w:=C.wd_cast (C.Bytes.drop HR.out 4)
  obtain ⟨V,hV⟩:∃ V,C.wi (xs.drop 4)=V:=⟨_,rfl⟩
  obtain ⟨S,hS⟩:∃ S,C.sum (C.bd xs)=S:=⟨_,rfl⟩
  have HS:=hid hS
  rw [hS] at HD
  have HV:=hid hV
  rw [hV] at h4w
  have H4:=hid h4w
  clear hS hV h4w
  have n4:¬ c=4:=by omega
  have g4:(4:Int)≤(n:Int):=by omega
  have g4c:(4:Int)≤(c:Int):=by omega
  have hB4:=hid (Bs.drop hB.out 4 (by omega))
  have hB8:=hid (Bs.drop hB.out 8 (by omega))
  rw [if_neg n4] at hB4
  by_cases c8:c=8
  ·subst c8
   obtain rfl:n=8:=by omega
   rw [if_pos rfl] at hB8
   by_cases h2:65536<k
   ·have h2':(65536:Int)<(k:Int):=by omega
    rw [if_pos h2] at HD
    rw [HD.out]
    go_enter Tryz.func87,Tryz.ntmps87
    go_wp2_with fail
    go_quiet ((go_at_call 112;exact Calls.quiet_of_same ((hword.out _ (hB.out.drewN _)).mono fun _ _ h=>⟨h.1,h.2.symm⟩)))
    go_wp2_with fail
    go_ret2
    exact ⟨_,rfl,Bs.nil _,bd _ _⟩
   ·have h2':¬ (65536:Int)<(k:Int):=by omega
    rw [if_neg h2] at HD
    by_cases h3:8 - 8<k
    ·have h3':(0:Int)<(k:Int):=by omega
     rw [if_pos h3] at HD
     rw [HD.out]
     go_enter Tryz.func87,Tryz.ntmps87
     go_wp2_with fail
     go_quiet ((go_at_call 112;exact Calls.quiet_of_same ((hword.out _ (hB.out.drewN _)).mono fun _ _ h=>⟨h.1,h.2.symm⟩)))
     go_wp2_with fail
     go_ret2
     exact ⟨_,rfl,Bs.nil _,bd _ _⟩
    ·rw [if_neg h3] at HD
     have h3':¬ (0:Int)<(k:Int):=by omega
     have hkc:(k:Int)≤(0:Int):=by omega
     obtain rfl:k=0:=by omega
     have hbd:Hid (Bs w (.slice (some ⟨b,off,none⟩) 0 (0)) (C.bd xs)):=by
      have:=Bs.take hB8.out 0 (by omega)
      rw [C.bd,HK.out]
      exact this
     by_cases h5:S=C.wd (xs.drop 4)
     ·have h5':((S:Int) != V)=false:=by have:=H4.out;simp;omega
      rw [if_pos h5] at HD
      rw [HD.out,if_pos rfl]
      clear h5
      go_enter Tryz.func87,Tryz.ntmps87
      go_wp2_with fail
      go_quiet ((go_at_call 112;exact Calls.quiet_of_same ((hword.out _ (hB.out.drewN _)).mono fun _ _ h=>⟨h.1,h.2.symm⟩)))
      go_wp2_with fail
      go_region_with (first
       | (go_at_call 107;refine (qix _ (C.bd xs) _ ?_).mono ?_;exact hbd.out;rintro e w2 ⟨rfl,b2⟩;rw [HS.out])
       | (go_at_call 112;refine (qgk _ (xs.drop 4) _ ?_ (by rw [List.length_drop,HN.out];omega)).mono ?_;exact Bs.below (hB4.out.drewN _) b2;rintro e w3 ⟨rfl,rfl⟩;rw [HV.out]))
      all_goals
       go_wp2
       go_ret2
       exact ⟨_,rfl,(hbd.out.drewN _).below b2,bt (bd w _) b2⟩
     ·have h5':((S:Int) != V)=true:=by have:=H4.out;simp;omega
      rw [if_neg h5] at HD
      rw [HD.out,if_neg (by decide)]
      clear h5
      go_enter Tryz.func87,Tryz.ntmps87
      go_wp2_with fail
      go_quiet ((go_at_call 112;exact Calls.quiet_of_same ((hword.out _ (hB.out.drewN _)).mono fun _ _ h=>⟨h.1,h.2.symm⟩)))
      go_wp2_with fail
      go_region_with (first
       | (go_at_call 107;refine (qix _ (C.bd xs) _ ?_).mono ?_;exact hbd.out;rintro e w2 ⟨rfl,b2⟩;rw [HS.out])
       | (go_at_call 112;refine (qgk _ (xs.drop 4) _ ?_ (by rw [List.length_drop,HN.out];omega)).mono ?_;exact Bs.below (hB4.out.drewN _) b2;rintro e w3 ⟨rfl,rfl⟩;rw [HV.out]))
      all_goals
       go_wp2
       go_ret2
       exact ⟨_,rfl,Bs.nil _,bt (bd w _) b2⟩
  ·rw [if_neg c8] at hB8
   by_cases h2:65536<k
   ·have h2':(65536:Int)<(k:Int):=by omega
    rw [if_pos h2] at HD
    rw [HD.out]
    go_enter Tryz.func87,Tryz.ntmps87
    go_wp2_with fail
    go_quiet ((go_at_call 112;exact Calls.quiet_of_same ((hword.out _ (hB.out.drewN _)).mono fun _ _ h=>⟨h.1,h.2.symm⟩)))
    go_wp2_with fail
    go_ret2
    exact ⟨_,rfl,Bs.nil _,bd _ _⟩
   ·have h2':¬ (65536:Int)<(k:Int):=by omega
    rw [if_neg h2] at HD
    by_cases h3:n - 8<k
    ·have h3':((n - 8:Nat):Int)<(k:Int):=by omega
     rw [if_pos h3] at HD
     rw [HD.out]
     go_enter Tryz.func87,Tryz.ntmps87
     go_wp2_with fail
     go_quiet ((go_at_call 112;exact Calls.quiet_of_same ((hword.out _ (hB.out.drewN _)).mono fun _ _ h=>⟨h.1,h.2.symm⟩)))
     go_wp2_with fail
     go_ret2
     exact ⟨_,rfl,Bs.nil _,bd _ _⟩
    ·rw [if_neg h3] at HD
     have h3':¬ ((n - 8:Nat):Int)<(k:Int):=by omega
     have hkc:(k:Int)≤((c - 8:Nat):Int):=by omega
     have hbd:Hid (Bs w (.slice (some ⟨b,off+8,none⟩) k (c - 8)) (C.bd xs)):=by
      have:=Bs.take hB8.out k (by omega)
      rw [C.bd,HK.out]
      exact this
     by_cases h5:S=C.wd (xs.drop 4)
     ·have h5':((S:Int) != V)=false:=by have:=H4.out;simp;omega
      rw [if_pos h5] at HD
      rw [HD.out,if_pos rfl]
      clear h5
      go_enter Tryz.func87,Tryz.ntmps87
      go_wp2_with fail
      go_quiet ((go_at_call 112;exact Calls.quiet_of_same ((hword.out _ (hB.out.drewN _)).mono fun _ _ h=>⟨h.1,h.2.symm⟩)))
      go_wp2_with fail
      go_region_with (first
       | (go_at_call 107;refine (qix _ (C.bd xs) _ ?_).mono ?_;exact hbd.out;rintro e w2 ⟨rfl,b2⟩;rw [HS.out])
       | (go_at_call 112;refine (qgk _ (xs.drop 4) _ ?_ (by rw [List.length_drop,HN.out];omega)).mono ?_;exact Bs.below (hB4.out.drewN _) b2;rintro e w3 ⟨rfl,rfl⟩;rw [HV.out]))
      all_goals
       go_wp2
       go_ret2
       exact ⟨_,rfl,(hbd.out.drewN _).below b2,bt (bd w _) b2⟩
     ·have h5':((S:Int) != V)=true:=by have:=H4.out;simp;omega
      rw [if_neg h5] at HD
      rw [HD.out,if_neg (by decide)]
      clear h5
      go_enter Tryz.func87,Tryz.ntmps87
      go_wp2_with fail
      go_quiet ((go_at_call 112;exact Calls.quiet_of_same ((hword.out _ (hB.out.drewN _)).mono fun _ _ h=>⟨h.1,h.2.symm⟩)))
      go_wp2_with fail
      go_region_with (first
       | (go_at_call 107;refine (qix _ (C.bd xs) _ ?_).mono ?_;exact hbd.out;rintro e w2 ⟨rfl,b2⟩;rw [HS.out])
       | (go_at_call 112;refine (qgk _ (xs.drop 4) _ ?_ (by rw [List.length_drop,HN.out];omega)).mono ?_;exact Bs.below (hB4.out.drewN _) b2;rintro e w3 ⟨rfl,rfl⟩;rw [HV.out]))
      all_goals
       go_wp2
       go_ret2
       exact ⟨_,rfl,Bs.nil _,bt (bd w _) b2⟩
theorem qlq {v:Value}{a b:Int}{k:Value}(h:a=b):Ending.returned (.tuple #[v,.int .i64 a,k])=.returned (.tuple #[v,.int .i64 b,k]):=by rw [h]
def nxV (xs:List Int) (p:Nat):List Int:=if C.wh (xs.drop p)=0 then C.bd (xs.drop p) else []
def nxP (xs:List Int) (p:Nat):Nat:=if C.wh (xs.drop p)=0 then p+8+C.wd (xs.drop p) else p
theorem qpy {xs:List Int}(h:C.wh xs=0):8≤xs.length∧C.wd xs≤xs.length - 8∧C.wd xs≤65536∧C.sum (C.bd xs)=C.wd (xs.drop 4)∧(C.bd xs).length=C.wd xs:=by
 unfold C.wh at h
 split at h
 ·simp at h
 ·split at h
  ·simp at h
  ·split at h
   ·simp at h
   ·split at h
    ·refine ⟨by omega,by omega,by omega,by assumption,?_⟩
     rw [C.bd,List.length_take,List.length_drop]
     omega
    ·simp at h
set_option maxHeartbeats 1000000 in
theorem qqs (v:Value) (xs:List Int) (p:Nat) (w:World) (h:Bs w v xs) (hp:p≤xs.length) (hl:xs.length≤140737488355328) :
  Calls Tryz.prog 58 #[v,.int .i64 p] w fun e w'=>∃ v',e=.returned (.tuple #[v',.int .i64 (nxP xs p),.int .i64 (C.wh (xs.drop p):Nat)])∧Bs w' v' (nxV xs p)∧Below w.heap.size w w'∧Fresh w.heap.size v':=by
 have hB:=hid h
 have hv:∃ a c,v=.slice a xs.length c∧xs.length≤c:=by
  obtain ⟨a,c,e,h2,_⟩:=h
  exact ⟨a,c,e,h2⟩
 obtain ⟨a,c,rfl,hlc⟩:=hv
 have hD:=hid (Bs.drop h p hp)
 clear h
 have hpn:¬ (xs.length:Int)<(p:Int):=by omega
 have hp0:decide ((p:Int)<0)=false:=by simp
 have hpc:(p:Int)≤(c:Int):=by omega
 have hpl:(p:Int)≤(xs.length:Int):=by omega
 have hV:=hid (show nxV xs p=if C.wh (xs.drop p)=0 then C.bd (xs.drop p) else [] from rfl)
 have hP:=hid (show nxP xs p=if C.wh (xs.drop p)=0 then p+8+C.wd (xs.drop p) else p from rfl)
 have hW:=hid (fun e=>qpy (xs:=xs.drop p) e)
 have hfit:(C.bd (xs.drop p)).length≤140737488355328:=by
  rw [C.bd,List.length_take,List.length_drop,List.length_drop];omega
 obtain ⟨W,hW'⟩:∃ W,C.wh (xs.drop p)=W:=⟨_,rfl⟩
 have hfirst:=hid (fun (w':World) (v:Value) (h':Bs w' v (xs.drop p))=>qsu v (xs.drop p) w' h')
 rw [hW'] at hV hP hW hfirst ⊢
 by_cases hcp:c=p
 ·subst hcp
  have hxc:xs.length=c:=by omega
  rw [if_pos rfl,hxc,Nat.sub_self] at hD
  rw [hxc] at hpn hpl hlc hl hp ⊢
  clear hxc
  go_enter Tryz.func58,Tryz.ntmps58
  go_wp2_with fail
  refine (hfirst.out _ _ hD.out).mono ?_
  rintro e w1 ⟨v1,rfl,hB1,b1⟩
  by_cases h0:W=0
  ·subst h0
   rw [if_pos rfl] at hB1 hP hV
   have hW0:=hid (hW.out rfl)
   clear hfirst hD hB
   have hv1:∃ a1 c1,v1=.slice a1 (C.bd (xs.drop c)).length c1:=by
    obtain ⟨a1,c1,e1,_⟩:=hB1
    exact ⟨a1,c1,e1⟩
   obtain ⟨a1,c1,rfl⟩:=hv1
   have HB1:=hid hB1
   clear hB1
   have hbl:(C.bd (xs.drop c)).length≤65536:=by have:=hW0.out;omega
   obtain ⟨m,hm⟩:∃ m,(C.bd (xs.drop c)).length=m:=⟨_,rfl⟩
   rw [hm] at hfit HB1 hbl ⊢
   have HM:=hid hm
   clear hm
   go_wp2_with fail
   refine (qgh _ _ _ HB1.out (by rw [HM.out];exact hfit)).mono ?_
   rintro e w2 ⟨v2,rfl,hB2,b2,hf2⟩
   go_wp2
   go_ret3
   rw [hP.out,hV.out]
   refine ⟨_,qlq ?_,hB2,bt b1 b2,fun x n c e=>Nat.le_trans b1.size (hf2 x n c e)⟩
   have:=hW0.out
   have:=HM.out
   omega
  ·rw [if_neg h0] at hB1 hP hV
   have h0':((W:Int) != 0)=true:=by simp;omega
   clear h0 hfirst hD hB hW
   have HB1:=hid hB1
   clear hB1
   have hv1:∃ a1 n1 c1,v1=.slice a1 n1 c1:=by
    obtain ⟨a1,c1,e1,_⟩:=HB1.out
    exact ⟨a1,_,c1,e1⟩
   obtain ⟨a1,n1,c1,rfl⟩:=hv1
   go_wp2
   go_ret3
   rw [hP.out,hV.out]
   exact ⟨_,rfl,Bs.nil _,b1,fun x n c e=>by cases e⟩
 ·rw [if_neg hcp] at hD
  go_enter Tryz.func58,Tryz.ntmps58
  go_wp2_with fail
  refine (hfirst.out _ _ hD.out).mono ?_
  rintro e w1 ⟨v1,rfl,hB1,b1⟩
  by_cases h0:W=0
  ·subst h0
   rw [if_pos rfl] at hB1 hP hV
   have hW0:=hid (hW.out rfl)
   clear hfirst hD hB
   have hv1:∃ a1 c1,v1=.slice a1 (C.bd (xs.drop p)).length c1:=by
    obtain ⟨a1,c1,e1,_⟩:=hB1
    exact ⟨a1,c1,e1⟩
   obtain ⟨a1,c1,rfl⟩:=hv1
   have HB1:=hid hB1
   clear hB1
   have hbl:(C.bd (xs.drop p)).length≤65536:=by have:=hW0.out;omega
   obtain ⟨m,hm⟩:∃ m,(C.bd (xs.drop p)).length=m:=⟨_,rfl⟩
   rw [hm] at hfit HB1 hbl ⊢
   have HM:=hid hm
   clear hm
   go_wp2_with fail
   refine (qgh _ _ _ HB1.out (by rw [HM.out];exact hfit)).mono ?_
   rintro e w2 ⟨v2,rfl,hB2,b2,hf2⟩
   go_wp2
   go_ret3
   rw [hP.out,hV.out]
   refine ⟨_,qlq ?_,hB2,bt b1 b2,fun x n c e=>Nat.le_trans b1.size (hf2 x n c e)⟩
   have:=hW0.out
   have:=HM.out
   omega
  ·rw [if_neg h0] at hB1 hP hV
   have h0':((W:Int) != 0)=true:=by simp;omega
   clear h0 hfirst hD hB hW
   have HB1:=hid hB1
   clear hB1
   have hv1:∃ a1 n1 c1,v1=.slice a1 n1 c1:=by
    obtain ⟨a1,c1,e1,_⟩:=HB1.out
    exact ⟨a1,_,c1,e1⟩
   obtain ⟨a1,n1,c1,rfl⟩:=hv1
   go_wp2
   go_ret3
   rw [hP.out,hV.out]
   exact ⟨_,rfl,Bs.nil _,b1,fun x n c e=>by cases e⟩
set_option maxHeartbeats 400000 in
theorem qxy (v:Value) (xs:List Int) (n:Int) (w:World) (h:Bs w v xs) (hn:n<0∨(xs.length:Int)<n) :
  Calls Tryz.prog 95 #[v,.int .i64 n] w fun e w'=>e=.returned (.tuple #[.slice none 0 0,.int .i64 0,.int .i64 2])∧w=w':=by
 have hl:=h.len
 unfold maxLen at hl
 obtain ⟨a,c,rfl,_⟩:=h
 by_cases h0:n<0
 ·clear hn
  go_enter Tryz.func95,Tryz.ntmps95
  go_wp2
  go_ret3
  exact ⟨rfl,rfl⟩
 ·have h1:(xs.length:Int)<n:=by omega
  have h0':decide (n<0)=false:=by simpa using h0
  clear hn
  go_enter Tryz.func95,Tryz.ntmps95
  go_wp2
  go_ret3
  exact ⟨rfl,rfl⟩
set_option maxHeartbeats 1000000 in
theorem qow (v:Value) (xs:List Int) (p:Nat) (w:World) (h:Bs w v xs) (hp:p≤xs.length) (hl:xs.length≤140737488355328) :
  Calls Tryz.prog 95 #[v,.int .i64 p] w fun e w'=>∃ v',e=.returned (.tuple #[v',.int .i64 (nxP xs p),.int .i64 (C.wh (xs.drop p):Nat)])∧Bs w' v' (nxV xs p)∧Below w.heap.size w w'∧Fresh w.heap.size v':=by
 have hB:=hid h
 have hv:∃ a c,v=.slice a xs.length c∧xs.length≤c:=by
  obtain ⟨a,c,e,h2,_⟩:=h
  exact ⟨a,c,e,h2⟩
 obtain ⟨a,c,rfl,hlc⟩:=hv
 have hD:=hid (Bs.drop h p hp)
 have hp0:decide ((p:Int)<0)=false:=by simp
 have hpn:¬ (xs.length:Int)<(p:Int):=by omega
 have hpc:(p:Int)≤(c:Int):=by omega
 have hpl:(p:Int)≤(xs.length:Int):=by omega
 have hV:=hid (show nxV xs p=if C.wh (xs.drop p)=0 then C.bd (xs.drop p) else [] from rfl)
 have hP:=hid (show nxP xs p=if C.wh (xs.drop p)=0 then p+8+C.wd (xs.drop p) else p from rfl)
 have hnil:∀ B:Nat,Fresh B (.slice none 0 0):=fun B x n c e=>by cases e
 by_cases h8:xs.length - p<8
 ·have hw:C.wh (xs.drop p)=1:=by unfold C.wh;rw [List.length_drop,if_pos h8]
  rw [hw,if_neg (by decide)] at hV hP
  rw [hw]
  have h8':((xs.length - p:Nat):Int)<8:=by omega
  clear hw h hD hB
  by_cases hcp:c=p
  ·subst hcp
   have hxc:xs.length=c:=by omega
   rw [hxc] at hpn hpl hl ⊢
   clear hxc h8 h8'
   go_enter Tryz.func95,Tryz.ntmps95
   go_wp2
   go_ret3
   rw [hP.out,hV.out]
   exact ⟨_,rfl,Bs.nil _,Below.refl _ _,hnil _⟩
  ·go_enter Tryz.func95,Tryz.ntmps95
   go_wp2
   go_ret3
   rw [hP.out,hV.out]
   exact ⟨_,rfl,Bs.nil _,Below.refl _ _,hnil _⟩
 ·have hcp:¬ c=p:=by omega
  rw [if_neg hcp] at hD
  obtain ⟨b,off,c',e,_,_,_⟩:=h.inv (by omega)
  simp only [Value.slice.injEq] at e
  obtain ⟨rfl,-,rfl⟩:=e
  have eadd:Option.map (fun x=>x.add p) (some ⟨b,off,none⟩:Option Addr)=some ⟨b,off+p,none⟩:=by
   simp only [Option.map_some,Addr.add_lit]
  rw [eadd] at hD
  have hlen:=hid (show (xs.drop p).length=xs.length - p from List.length_drop)
  obtain ⟨ys,hys⟩:∃ ys,xs.drop p=ys:=⟨_,rfl⟩
  rw [hys] at hV hP hD hlen ⊢
  clear hys h hB
  have hr:C.Bytes ys:=hD.out.range
  have hwd:=C.wd_cast hr
  obtain ⟨k,hk⟩:∃ k,C.wd ys=k:=⟨_,rfl⟩
  have hkr:k<4294967296:=by have:=C.wi_range hr;omega
  have hdef:C.wh ys=if 65536<k then 2 else if xs.length - p - 8<k then 1 else if C.sum (C.bd ys)=C.wd (ys.drop 4) then 0 else 2:=by
   conv=>lhs;unfold C.wh
   rw [hlen.out,if_neg h8,hk]
  have HD:=hid hdef
  have HK:=hid hk
  have HWD:=hid hwd
  have HR:=hid hr
  clear hdef hwd hk hr eadd
  have h8':¬ ((xs.length - p:Nat):Int)<8:=by omega
  go_enter Tryz.func95,Tryz.ntmps95
  go_wp2_with fail
  refine (qhq _ ys _ hD.out (by rw [hlen.out];omega)).mono ?_
  rintro e w1 ⟨rfl,q1,rfl⟩
  rw [←HWD.out,HK.out]
  obtain ⟨R,hR⟩:∃ R,xs.length - p=R:=⟨_,rfl⟩
  obtain ⟨Q,hQ⟩:∃ Q,c - p=Q:=⟨_,rfl⟩
  have hRQ:R≤Q:=by omega
  have hRb:R≤140737488355328:=by omega
  have h8R:8≤R:=by omega
  rw [hR] at hD hlen HD h8' ⊢
  rw [hQ] at hD ⊢
  clear hR hQ h8
  by_cases h2:65536<k
  ·have h2':(65536:Int)<(k:Int):=by omega
   rw [if_pos h2] at HD
   rw [HD.out,if_neg (by decide)] at hV hP
   go_wp2
   go_ret3
   rw [hP.out,hV.out,HD.out]
   exact ⟨_,rfl,Bs.nil _,bd _ _,hnil _⟩
  ·have h2':¬ (65536:Int)<(k:Int):=by omega
   rw [if_neg h2] at HD
   by_cases h3:R - 8<k
   ·have h3':(R:Int) - 8<(k:Int):=by omega
    rw [if_pos h3] at HD
    rw [HD.out,if_neg (by decide)] at hV hP
    go_wp2
    go_ret3
    rw [hP.out,hV.out,HD.out]
    exact ⟨_,rfl,Bs.nil _,bd _ _,hnil _⟩
   ·have h3':¬ (R:Int) - 8<(k:Int):=by omega
    rw [if_neg h3] at HD
    have hkQ:(8:Int)+(k:Int)≤(Q:Int):=by omega
    have hD8:=Bs.drop hD.out 8 h8R
    have hD4:=Bs.drop hD.out 4 (by omega)
    have hbl:(C.bd ys).length=k:=by rw [C.bd,HK.out,List.length_take,List.length_drop,hlen.out];omega
    have g4:(4:Int)≤(R:Int):=by omega
    have g4Q:(4:Int)≤(Q:Int):=by omega
    have n4:¬ Q=4:=by omega
    rw [if_neg n4] at hD4
    have e4:Option.map (fun x=>x.add 4) (some ⟨b,off+p,none⟩:Option Addr)=some ⟨b,off+p+4,none⟩:=by
     simp only [Option.map_some,Addr.add_lit]
    rw [e4] at hD4
    have HD4:=hid hD4
    clear hD4 e4
    by_cases q8:Q=8
    ·subst q8
     have hk0:k=0:=by omega
     subst hk0
     rw [if_pos rfl] at hD8
     have hR8:R=8:=by omega
     subst hR8
     have HT:=hid (Bs.take hD8 0 (by omega))
     clear hD8
     have HB:Hid (Bs w (.slice (some ⟨b,off+p,none⟩) 0 0) (C.bd ys)):=by
      have:=HT.out
      rw [C.bd,HK.out]
      exact this
     have hb1:Below w.heap.size w ((w.drewN q1).alloc (.cells #[] 5)):=(bd w q1).alloc (Nat.le_refl _) _
     have hown0:((w.drewN q1).alloc (.cells #[] 5)).ownsRow w.heap.size 5 1 (.slice (some ⟨w.heap.size,0,none⟩) 0 0) 0 (cs []):=World.ownsRow_made (w.drewN q1) #[] 0 (Nat.le_refl _) (Nat.zero_le _) rfl
     have hsb:=hid (fun w' v' (h':Bs w' v' (C.bd ys))=>qfk v' (C.bd ys) w' h')
     have hnb:=hid (fun w' v' (h':Bs w' v' (ys.drop 4))=>qhq v' (ys.drop 4) w' h' (by rw [List.length_drop,hlen.out];omega))
     have h4w:=C.wd_cast (C.Bytes.drop HR.out 4)
     obtain ⟨V,hVV⟩:∃ V,C.wi (ys.drop 4)=V:=⟨_,rfl⟩
     obtain ⟨S,hSS⟩:∃ S,C.sum (C.bd ys)=S:=⟨_,rfl⟩
     rw [hVV] at h4w hnb
     rw [hSS] at HD hsb
     have H4:=hid h4w
     clear h4w hVV hSS HT
     go_wp2_with (at_builtin;refine qag rfl (.tmp 37) (.tmp 41) rfl w.heap.size _ _ [] rfl hown0 _ (C.bd ys) rfl (HB.out.below hb1) (by rw [hbl];omega) hb1.size ?_;intro v3 w3 hown3 hgrow3 hat3;rw [Nat.zero_add,hbl,List.nil_append] at hown3;obtain ⟨a3,c3,rfl,_⟩:=qbb hown3)
     have b3:Below w.heap.size w w3:=hb1.grown hgrow3 hb1.size (fun k hk=>(hown0.lt k hk).1)
     have hB3:=hid (Bs.of_own hown3 (C.Bytes.take (C.Bytes.drop HR.out 8) _))
     have hF3:=hid (Fresh.of_own hown3)
     have hR3:=hid (HD4.out.below b3)
     clear hown3 hgrow3 hat3 hown0 hb1 HB
     by_cases h5:S=C.wd (ys.drop 4)
     ·have h5':((S:Int) != V)=false:=by have:=H4.out;simp;omega
      rw [if_pos h5] at HD
      rw [HD.out,if_pos rfl] at hV hP
      clear h5
      go_quiet ((first
       | (go_at_call 73;exact Calls.quiet_of_same ((hsb.out _ _ (hB3.out.drewN _)).mono fun _ _ h=>⟨h.1,h.2.symm⟩))
       | (go_at_call 120;exact Calls.quiet_of (hnb.out _ _ (hR3.out.drewN _)))))
      go_wp2
      go_ret3
      rw [hP.out,hV.out,HD.out]
      refine ⟨_,qlq ?_,hB3.out.drewN _,bt b3 (bd _ _),hF3.out⟩
      rw [HK.out]
      omega
     ·have h5':((S:Int) != V)=true:=by have:=H4.out;simp;omega
      rw [if_neg h5] at HD
      rw [HD.out,if_neg (by decide)] at hV hP
      clear h5
      go_quiet ((first
       | (go_at_call 73;exact Calls.quiet_of_same ((hsb.out _ _ (hB3.out.drewN _)).mono fun _ _ h=>⟨h.1,h.2.symm⟩))
       | (go_at_call 120;exact Calls.quiet_of (hnb.out _ _ (hR3.out.drewN _)))))
      go_wp2
      go_ret3
      rw [hP.out,hV.out,HD.out]
      exact ⟨_,rfl,Bs.nil _,bt b3 (bd _ _),hnil _⟩
    ·rw [if_neg q8] at hD8
     have e8:Option.map (fun x=>x.add 8) (some ⟨b,off+p,none⟩:Option Addr)=some ⟨b,off+p+8,none⟩:=by
      simp only [Option.map_some,Addr.add_lit]
     rw [e8] at hD8
     have HT:=hid (Bs.take hD8 k (by omega))
     clear hD8 e8
     have HB:Hid (Bs w (.slice (some ⟨b,off+p+8,none⟩) (8+k - 8) (Q - 8)) (C.bd ys)):=by
      have:=HT.out
      rw [C.bd,HK.out,Nat.add_sub_cancel_left]
      exact this
     have hb1:Below w.heap.size w ((w.drewN q1).alloc (.cells #[] 5)):=(bd w q1).alloc (Nat.le_refl _) _
     have hown0:((w.drewN q1).alloc (.cells #[] 5)).ownsRow w.heap.size 5 1 (.slice (some ⟨w.heap.size,0,none⟩) 0 0) 0 (cs []):=World.ownsRow_made (w.drewN q1) #[] 0 (Nat.le_refl _) (Nat.zero_le _) rfl
     have hsb:=hid (fun w' v' (h':Bs w' v' (C.bd ys))=>qfk v' (C.bd ys) w' h')
     have hnb:=hid (fun w' v' (h':Bs w' v' (ys.drop 4))=>qhq v' (ys.drop 4) w' h' (by rw [List.length_drop,hlen.out];omega))
     have h4w:=C.wd_cast (C.Bytes.drop HR.out 4)
     obtain ⟨V,hVV⟩:∃ V,C.wi (ys.drop 4)=V:=⟨_,rfl⟩
     obtain ⟨S,hSS⟩:∃ S,C.sum (C.bd ys)=S:=⟨_,rfl⟩
     rw [hVV] at h4w hnb
     rw [hSS] at HD hsb
     have H4:=hid h4w
     clear h4w hVV hSS HT
     go_wp2_with (at_builtin;refine qag rfl (.tmp 37) (.tmp 41) rfl w.heap.size _ _ [] rfl hown0 _ (C.bd ys) rfl (HB.out.below hb1) (by rw [hbl];omega) hb1.size ?_;intro v3 w3 hown3 hgrow3 hat3;rw [Nat.zero_add,hbl,List.nil_append] at hown3;obtain ⟨a3,c3,rfl,_⟩:=qbb hown3)
     have b3:Below w.heap.size w w3:=hb1.grown hgrow3 hb1.size (fun k hk=>(hown0.lt k hk).1)
     have hB3:=hid (Bs.of_own hown3 (C.Bytes.take (C.Bytes.drop HR.out 8) _))
     have hF3:=hid (Fresh.of_own hown3)
     have hR3:=hid (HD4.out.below b3)
     clear hown3 hgrow3 hat3 hown0 hb1 HB
     by_cases h5:S=C.wd (ys.drop 4)
     ·have h5':((S:Int) != V)=false:=by have:=H4.out;simp;omega
      rw [if_pos h5] at HD
      rw [HD.out,if_pos rfl] at hV hP
      clear h5
      go_quiet ((first
       | (go_at_call 73;exact Calls.quiet_of_same ((hsb.out _ _ (hB3.out.drewN _)).mono fun _ _ h=>⟨h.1,h.2.symm⟩))
       | (go_at_call 120;exact Calls.quiet_of (hnb.out _ _ (hR3.out.drewN _)))))
      go_wp2
      go_ret3
      rw [hP.out,hV.out,HD.out]
      refine ⟨_,qlq ?_,hB3.out.drewN _,bt b3 (bd _ _),hF3.out⟩
      rw [HK.out]
      omega
     ·have h5':((S:Int) != V)=true:=by have:=H4.out;simp;omega
      rw [if_neg h5] at HD
      rw [HD.out,if_neg (by decide)] at hV hP
      clear h5
      go_quiet ((first
       | (go_at_call 73;exact Calls.quiet_of_same ((hsb.out _ _ (hB3.out.drewN _)).mono fun _ _ h=>⟨h.1,h.2.symm⟩))
       | (go_at_call 120;exact Calls.quiet_of (hnb.out _ _ (hR3.out.drewN _)))))
      go_wp2
      go_ret3
      rw [hP.out,hV.out,HD.out]
      exact ⟨_,rfl,Bs.nil _,bt b3 (bd _ _),hnil _⟩
set_option maxHeartbeats 2000000 in
theorem qic (v:Value) (xs:List Int) (w:World) (h:Bs w v xs) (hl:xs.length≤1099511627776) :
  Calls Tryz.prog 62 #[v] w fun e w'=>∃ (v':Value) (fs:List (List Int)) (p t:Nat),e=.returned (.tuple #[v',.int .i64 p,.int .i64 t])∧C.Sp xs fs p t∧Ls w' v' fs∧Below w.heap.size w w':=by
 have hB:=hid h
 have hv:∃ a c,v=.slice a xs.length c:=by
  obtain ⟨a,c,e,_⟩:=h
  exact ⟨a,c,e⟩
 obtain ⟨a,c,rfl⟩:=hv
 clear h
 obtain ⟨n,hn⟩:∃ n,xs.length=n:=⟨_,rfl⟩
 rw [hn] at hl hB ⊢
 have HN:=hid hn
 clear hn
 obtain ⟨i0,hi,hz0,hz1,hz2⟩:=info_parts qyw
 go_enter Tryz.func62,Tryz.ntmps62
 go_wp2
 go_loopw [5,6] (fun o i wr=>∃ (fs:List (List Int)) (p:Nat),p≤n∧i=.int .i64 p∧fs.length≤p∧OL wr w.heap.size o fs∧Below w.heap.size w wr∧∀ gs m t,C.Sp (xs.drop p) gs m t→C.Sp xs (fs++gs) (p+m) t) (fun _ i _=>n - (intOf i).toNat)
 case atStart=>exact ⟨[],0,Nat.zero_le _,rfl,Nat.le_refl _,OL.made w w.heap.size (Nat.le_refl _),ba w _,fun gs m t h=>by simpa using h⟩
 case round =>
  obtain ⟨fs,p,hp,rfl,hfl,hol,bel,hsp⟩:=hrel
  have HSP:=hid hsp
  have HOL:=hid hol
  obtain ⟨ao,co,rfl⟩:=hol.form
  clear hsp hol
  by_cases hlt:p<n
  ·have hlt':(p:Int)<(n:Int):=by omega
   go_wp2_with fail
   refine (qow _ xs p _ (hB.out.below bel) (by rw [HN.out];exact hp) (by rw [HN.out];omega)).mono ?_
   rintro e w1 ⟨v1,rfl,hB1,b1,hf1⟩
   have hol1:=hid (HOL.out.below b1)
   have hlo:=hid HOL.out.lt
   have bel1:=bt bel b1
   clear HOL
   have hne:xs.drop p≠[]:=by
    intro e
    have:=congrArg List.length e
    rw [List.length_drop,HN.out] at this
    simp at this
    omega
   by_cases h0:C.wh (xs.drop p)=0
   ·have hw0:=qpy h0
    have e1:nxP xs p=p+8+C.wd (xs.drop p):=by rw [nxP,if_pos h0]
    have e2:nxV xs p=C.bd (xs.drop p):=by rw [nxV,if_pos h0]
    rw [e2] at hB1
    rw [e1,h0]
    rw [List.length_drop,HN.out] at hw0
    have HW:=hid hw0
    have hwl:p+8+C.wd (xs.drop p)≤n:=by omega
    have hnext:Hid (∀ gs m t,C.Sp (xs.drop (p+8+C.wd (xs.drop p))) gs m t→C.Sp xs (fs++[C.bd (xs.drop p)]++gs) (p+8+C.wd (xs.drop p)+m) t):=by
     intro gs m t hs
     have h1:C.Sp ((xs.drop p).drop (8+C.wd (xs.drop p))) gs m t:=by
      rw [List.drop_drop,←Nat.add_assoc];exact hs
     have h2:=HSP.out _ _ _ (C.Sp.more h0 h1)
     rw [List.append_assoc,List.singleton_append]
     rw [show p+8+C.wd (xs.drop p)+m=p+(8+C.wd (xs.drop p)+m) by omega]
     exact h2
    clear hw0 e1 e2 h0 HSP hne
    obtain ⟨q,hq⟩:∃ q,p+8+C.wd (xs.drop p)=q:=⟨_,rfl⟩
    have hqp:p+8≤q:=by omega
    rw [hq] at hwl hnext ⊢
    clear hq HW
    obtain ⟨l,hl'⟩:∃ l,C.bd (xs.drop p)=l:=⟨_,rfl⟩
    rw [hl'] at hB1 hnext
    clear hl'
    obtain ⟨vs,hown,hel⟩:=hol1.out
    have hvs:vs.length=fs.length:=by have:=hown.1;omega
    have hfar:Far (Value.ownBlock (.slice ao fs.length co)) v1 l:=by
     intro hl x m c e hx
     have h1:=hf1 x m c e
     have h2:=hlo.out x.block hx.symm
     omega
    have hv1:∃ a1 c1,v1=.slice a1 l.length c1:=by
     obtain ⟨a1,c1,e,_⟩:=hB1
     exact ⟨a1,c1,e⟩
    obtain ⟨a1,c1,rfl⟩:=hv1
    have bA:=ba w1 (.cells #[.slice a1 l.length c1] 36)
    have hown1:=hown.alloc (.cells #[.slice a1 l.length c1] 36)
    have hel1:=hid (fun i hi=>(fun ⟨u,e1,e2,e3⟩=>⟨u,e1,e2.below bA,e3⟩:(∃ u,vs[i]?=some u∧Bs w1 u (fs.getD i [])∧Far (Value.ownBlock (.slice ao fs.length co)) u (fs.getD i []))→∃ u,vs[i]?=some u∧Bs (w1.alloc (.cells #[.slice a1 l.length c1] 36)) u (fs.getD i [])∧Far (Value.ownBlock (.slice ao fs.length co)) u (fs.getD i [])) (hel i hi))
    have hB2:=hid (hB1.below bA)
    have HB1:=hid hB1
    clear hel hB1 hol1
    go_wp2_with (at_builtin;refine wpList_append_own_at _ rfl (.tmp 27) (.tmp 29) 104 rfl w.heap.size 36 i0 (.slice none 0 0) 1 24 Tryz.underlying104 hi hz0 hz1 hz2 rfl (by decide) _ _ _ rfl hown1 ⟨w1.heap.size,0,none⟩ 1 1 [.slice a1 l.length c1] rfl rfl (cell_one_new _ _ _) ?c2 ?c3 ?c4 ?c5 ?_)
    case c2=>intro u hu;simp at hu;subst hu;rfl
    case c3=>unfold maxLen;omega
    case c4=>omega
    case c5=>have:=bel1.size;simp;omega
    intro v' w2 hown2 hgrow _ hat
    have b2:Below w.heap.size w w2:=(bel1.alloc bel1.size _).grown hgrow (by have:=bel1.size;simp;omega) (fun k hk=>(hlo.out k hk).1)
    have hOL2:=hid (OL.snoc hel1.out hvs hB2.out hfar hown2 hgrow (by simpa using hat))
    obtain ⟨ao2,co2,rfl⟩:=hOL2.out.form
    clear hown2 hown hown1 hgrow hat bel1 bel b1 bA hel1 hB2 HB1 hfar hlo hf1
    go_wp2
    go_roundw
    case rel =>
     have R:∃ (gs:List (List Int)) (p':Nat),p'≤n∧Value.int .i64 (q:Int)=.int .i64 p'∧gs.length≤p'∧OL w2 w.heap.size (.slice ao2 (fs++[l]).length co2) gs∧Below w.heap.size w w2∧∀ hs m t,C.Sp (xs.drop p') hs m t→C.Sp xs (gs++hs) (p'+m) t :=
      ⟨fs++[l],q,hwl,rfl,by rw [List.length_append,List.length_singleton];omega,hOL2.out,b2,hnext.out⟩
     first | exact R | (rw [List.length_append,List.length_singleton] at R;exact R) | ((repeat apply Exists.intro);exact ⟨R,rfl⟩)
    case measure=>simp [intOf];omega
   ·have h0':((C.wh (xs.drop p):Int) != 0)=true:=by simp;omega
    have hs:=hid (HSP.out _ _ _ (C.Sp.stop hne h0))
    have e1:nxP xs p=p:=by rw [nxP,if_neg h0]
    rw [e1]
    obtain ⟨a1,c1,rfl,_⟩:∃ a1 c1,v1=.slice a1 0 c1∧True:=by
     obtain ⟨a1,c1,e,_⟩:=hB1
     rw [nxV,if_neg h0] at e
     exact ⟨a1,c1,e,trivial⟩
    obtain ⟨W,hW⟩:∃ W,C.wh (xs.drop p)=W:=⟨_,rfl⟩
    rw [hW] at hs h0' ⊢
    clear HSP hne h0 e1 hB1 hW hf1
    go_wp2
    go_ret3
    refine ⟨_,fs,p,W,rfl,?_,hol1.out.ls,bel1⟩
    have:=hs.out
    simpa using this
  ·obtain rfl:p=n:=by omega
   have hs:=hid (HSP.out [] 0 0 (by rw [List.drop_of_length_le (by rw [HN.out];exact Nat.le_refl _)];exact C.Sp.done))
   clear HSP
   go_wp2
   go_ret3
   refine ⟨_,fs,p,0,rfl,?_,HOL.out.ls,bel⟩
   have:=hs.out
   simpa using this
end Go.Proofs.YtkcjkncpaopjbaaGreatDoor
