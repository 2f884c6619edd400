/-
  Parts of the proof, one behind the other; what each proves stands at its head.
-/
import Derived.Test.YtkcjkncpaopjbaaGreatDoorPart6
import Derived.Test.YtkcjkncpaopjbaaGreatDoorPart5
import Derived.Lib.Strings
import Derived.Lib.Slices
import Derived.Lib.Small
import Derived.Lib.Walk
import Derived.Lib.BitFns
import Derived.Deep.QuietTactic
import Derived.BigQuiet
import Derived.Laws.BytesString
import Derived.Test.YtkcjkncpaopjbaaGreatDoorPart1

namespace Go.Proofs.YtkcjkncpaopjbaaGreatDoor
open Go.RowKit
set_option linter.unusedVariables false
set_option maxRecDepth 100000
theorem qyp (x:Int) (w:World) (h0:0≤x) (h1:x≤255) :
  Calls Tryz.prog 140 #[.int .u8 x] w fun e w'=>e=.returned (.int .i64 (Lib.bitLen x.toNat))∧w=w':=by
 have e:wrap64 (Lib.len8 x)=(Lib.bitLen x.toNat:Int):=by
  rw [Lib.len8_of x h0 h1]
  have:=Lib.bitLen_le8' x h0 h1
  unfold wrap64
  omega
 rw [←e]
 clear e
 go_enter Tryz.func140,Tryz.ntmps140
 go_wp2
 go_ret
 exact ⟨rfl,rfl⟩
theorem qyr:∀ b:Nat,b<256→8 - (Lib.bitLen (255 - b):Int)=(M.cnt b:Int) - 1:=by decide +kernel
theorem qyq (b:Int) (w:World) (hb0:0≤b) (hb1:b<256) :
  Calls Tryz.prog 127 #[.int .u8 (255 - b)] w fun e w'=>e=.returned (.int .i64 ((M.cnt b:Int) - 1))∧w=w':=by
 obtain ⟨x,hx⟩:∃ x,255 - b=x:=⟨_,rfl⟩
 have h0:0≤x:=by omega
 have h1:x≤255:=by omega
 rw [hx,show b=255 - x by omega]
 clear hx hb0 hb1
 have l:=Lib.bitLen_le8 ⟨x.toNat,by omega⟩
 simp only at l
 have e8:8 - (Lib.bitLen x.toNat:Int)=(M.cnt (255 - x):Int) - 1:=by
  have:=qyr (255 - x).toNat (by omega)
  rw [show 255 - (255 - x).toNat=x.toNat by omega,show (((255 - x).toNat:Nat):Int)=255 - x by omega] at this
  exact this
 rw [←e8]
 clear e8
 go_enter Tryz.func127,Tryz.ntmps127
 go_wp2_with (go_at_call 140;refine (qyp x _ h0 h1).mono ?_;rintro e w' ⟨rfl,rfl⟩)
 go_ret
 exact ⟨rfl,rfl⟩
theorem or_low (n:Nat) (x:Nat) (hn:n<36028797018963968) (hx:x<256):bits BinOp.or IntKind.i64 ((n:Int)*256) (x:Int)=(n:Int)*256+x:=by
 have e1:((n:Int)*256)=((2 ^ 8*n:Nat):Int):=by omega
 rw [e1]
 unfold bits
 have h1:(BitVec.ofInt IntKind.i64.bits ((2 ^ 8*n:Nat):Int)).toNat=2 ^ 8*n:=by
  rw [BitVec.ofInt_natCast,BitVec.toNat_ofNat]
  exact Nat.mod_eq_of_lt (by simp [IntKind.bits];omega)
 have h2:(BitVec.ofInt IntKind.i64.bits (x:Int)).toNat=x:=by
  rw [BitVec.ofInt_natCast,BitVec.toNat_ofNat]
  exact Nat.mod_eq_of_lt (by simp [IntKind.bits];omega)
 simp only [BitVec.toNat_or,h1,h2]
 rw [←Nat.two_pow_add_eq_or_of_lt (by omega)]
 rw [IntKind.wrap_i64]
 omega
theorem jbf (n x:Int) (h0:0≤n) (hn:n<36028797018963968) (hx0:0≤x) (hx:x<256):bits BinOp.or IntKind.i64 (n*256) x=n*256+x:=by
 obtain ⟨a,rfl⟩:=Int.eq_ofNat_of_zero_le h0
 obtain ⟨b,rfl⟩:=Int.eq_ofNat_of_zero_le hx0
 exact or_low a b (by omega) (by omega)
theorem qpv:∀ k:Nat,k<8→∀ b:Nat,b<256→bits BinOp.and IntKind.u8 (b:Int) (255 / 2 ^ k)=(b:Int) % 2 ^ (8 - k):=by decide +kernel
theorem jbk:∀ b:Nat,b<256→bits BinOp.xor IntKind.u8 IntKind.u8.max (b:Int)=255 - (b:Int):=by decide +kernel
theorem qyg (b:Int) (h0:0≤b) (h1:b<256):bits BinOp.xor IntKind.u8 IntKind.u8.max b=255 - b:=by
 obtain ⟨a,rfl⟩:=Int.eq_ofNat_of_zero_le h0
 exact jbk a (by omega)
theorem jcf (b:Int) (k:Nat) (hk:k<8) (h0:0≤b) (h1:b<256):bits BinOp.and IntKind.u8 b (255 / 2 ^ k)=b % 2 ^ (8 - k):=by
 obtain ⟨a,rfl⟩:=Int.eq_ofNat_of_zero_le h0
 exact qpv k hk a (by omega)
theorem qkq {xs:List Int}(h:M.first xs=none):M.fn xs=0∧M.fc xs=0∧M.fo xs=false:=by
 simp [M.fn,M.fc,M.fo,h]
theorem qqt (b:Int) (k:Nat) (hk:1≤k) (h0:0≤b) (h1:b<256):0≤b % 2 ^ (8 - k)∧b % 2 ^ (8 - k)<256∧(k=1∨b % 2 ^ (8 - k)<64):=by
 have hp:(0:Int)<2 ^ (8 - k):=Int.pow_pos (by decide)
 have h2:=Int.emod_nonneg b (Int.ne_of_gt hp)
 have h3:=Int.emod_lt_of_pos b hp
 refine ⟨h2,?_,?_⟩
 ·have:(2:Int) ^ (8 - k)≤2 ^ 7:=M.pow2_le (by omega)
  omega
 ·by_cases e:k=1
  ·exact .inl e
  ·have:(2:Int) ^ (8 - k)≤2 ^ 6:=M.pow2_le (by omega)
   exact .inr (by omega)
theorem qko (n0:Int) (r:List Int) (j:Nat) (h0:0≤n0) (h1:n0<64) (hr:∀ x ∈ r,0≤x∧x<256) (hj:j≤6) :
  (0≤M.fold n0 (r.take j)∧M.fold n0 (r.take j)<18014398509481984)∧(j≤5→0≤M.fold n0 (r.take j)∧M.fold n0 (r.take j)<70368744177664):=by
 have h:=M.fold_bound 64 (r.take j) (fun x hx=>hr x (List.mem_of_mem_take hx)) n0 h0 h1
 have hl:(r.take j).length≤j:=List.length_take_le _ _
 constructor
 ·have:(256:Int) ^ (r.take j).length≤256 ^ 6:=M.pow256_le (by omega)
  omega
 ·intro hj5
  have:(256:Int) ^ (r.take j).length≤256 ^ 5:=M.pow256_le (by omega)
  omega
set_option maxHeartbeats 2000000 in
theorem qvx (v:Value) (xs:List Int) (w:World) (h:Bs w v xs) :
  Calls Tryz.prog 113 #[v] w fun e w'=>e=.returned (.tuple #[.int .i64 (M.fn xs),.int .i64 (M.fc xs),.bool (M.fo xs)])∧∃ n,w'=w.drewN n:=by
 have hlen:=h.len
 unfold maxLen at hlen
 cases xs with
 | nil =>
  obtain ⟨e1,e2,e3⟩:=qkq (xs:=[]) rfl
  rw [e1,e2,e3]
  clear e1 e2 e3
  obtain ⟨a,c,rfl,_⟩:=h.inv_nil
  go_enter Tryz.func113,Tryz.ntmps113
  go_wp2
  go_ret3
  exact ⟨rfl,0,rfl⟩
 | cons b r =>
  have hb:=h.range b (by simp)
  have hr:∀ x ∈ r,0≤x∧x<256:=fun x hx=>h.range x (by simp [hx])
  obtain ⟨bl,off,c,rfl,hc1,hc2,hcell⟩:=h.inv (by simp)
  have hc0:w.cell? ⟨bl,off,none⟩=some (.int .u8 b):=by simpa using hcell 0 (by simp)
  have hcr:∀ j,j<r.length→w.cell? ⟨bl,off+1+j,none⟩=some (.int .u8 (r.getD j 0)):=fun j hj=>by
   have:=hcell (j+1) (by simpa using hj)
   rw [Nat.add_assoc,Nat.add_comm 1 j,this];simp
  simp only [List.length_cons] at hc1 hlen ⊢
  obtain ⟨n,hn⟩:∃ n,r.length=n:=⟨_,rfl⟩
  rw [hn] at hc1 hlen ⊢
  have HN:=hid hn
  have HR:=hid hr
  have HCR:=hid hcr
  clear hcell h hn hr hcr
  have hnot:=qyg b hb.1 hb.2
  obtain ⟨k,hk⟩:∃ k,M.cnt b=k:=⟨_,rfl⟩
  have hk1:=M.cnt_pos b
  rw [hk] at hk1
  have hlead:=fun w=>qyq b w hb.1 hb.2
  rw [hk] at hlead
  have HLD:=hid hlead
  have HK:=hid hk
  clear hlead hk
  by_cases hbad:7<k∨n+1<k
  ·have hf:M.first (b::r)=none:=by
    rw [M.first,HK.out,HN.out,if_pos hbad]
   obtain ⟨e1,e2,e3⟩:=qkq hf
   rw [e1,e2,e3]
   clear e1 e2 e3 hf
   by_cases h7:7<k
   ·go_enter Tryz.func113,Tryz.ntmps113
    go_wp2_with (go_at_call 127;refine (HLD.out _).mono ?_;rintro e w' ⟨rfl,rfl⟩)
    go_ret3
    exact ⟨rfl,0,rfl⟩
   ·go_enter Tryz.func113,Tryz.ntmps113
    go_wp2_with (go_at_call 127;refine (HLD.out _).mono ?_;rintro e w' ⟨rfl,rfl⟩)
    go_ret3
    exact ⟨rfl,0,rfl⟩
  ·have hk7:k≤7:=by omega
   have hkn:k≤n+1:=by omega
   clear hbad
   have hand:=jcf b k (by omega) hb.1 hb.2
   have hmin:min k 8=k:=by omega
   go_enter Tryz.func113,Tryz.ntmps113
   go_wp2_with (go_at_call 127;refine (HLD.out _).mono ?_;rintro e w' ⟨rfl,rfl⟩)
   obtain ⟨n0,hn0⟩:∃ n0,b % 2 ^ (8 - k)=n0:=⟨_,rfl⟩
   have hb0:=qqt b k hk1.1 hb.1 hb.2
   rw [hn0] at hand hb0
   have HN0:=hid hn0
   clear hn0
   have h00:0≤n0:=hb0.1
   have h01:n0<256:=hb0.2.1
   have h02:=hb0.2.2
   clear hb0
   by_cases hk1:k=1
   ·subst hk1
    clear h02
    have hand1:bits BinOp.and IntKind.u8 b 127=n0:=by simpa using hand
    clear hand
    by_cases hc1:c=1
    all_goals
     go_quiet (fail)
     go_wp2
     refine wp_loop_rounds 1 ?_
     rw [rounds_succ]
     by_cases hs:M.sz n0=1
     ·have hs':((M.sz n0:Int) != 1)=false:=by simp;omega
      have HS:=hid hs
      clear hs
      go_wp2_with (go_at_call 105;refine (qgq _ _ (by omega)).mono ?_;rintro e w' ⟨rfl,rfl⟩)
      go_ret3
      have hf:M.first (b::r)=some (n0,1):=by
       rw [M.first,HK.out,HN.out,if_neg (by omega),HN0.out]
       simp only [Nat.sub_self,List.take_zero,M.fold,List.foldl_nil]
       rw [if_pos HS.out]
      exact ⟨by simp only [M.fn,M.fc,M.fo,hf];rfl,_,rfl⟩
     ·have hs':((M.sz n0:Int) != 1)=true:=by simp;omega
      have HS:=hid hs
      clear hs
      go_wp2_with (go_at_call 105;refine (qgq _ _ (by omega)).mono ?_;rintro e w' ⟨rfl,rfl⟩)
      go_ret3
      have hf:M.first (b::r)=none:=by
       rw [M.first,HK.out,HN.out,if_neg (by omega),HN0.out]
       simp only [Nat.sub_self,List.take_zero,M.fold,List.foldl_nil]
       rw [if_neg HS.out]
      exact ⟨by simp only [M.fn,M.fc,M.fo,hf];rfl,_,rfl⟩
   ·have hc2:2≤c:=by omega
    have hc3:¬ c=1:=by omega
    have hb64:n0<64:=by omega
    have hbd:=fun j (hj:j≤6)=>qko n0 r j h00 hb64 HR.out hj
    have HBD:=hid hbd
    clear hbd
    go_quiet (fail)
    go_wp2
    go_loop [2,35] (fun m i=>∃ j:Nat,j≤k - 1∧i=.int .i64 j∧m=.int .i64 (M.fold n0 (r.take j))) (fun _ i=>k - (intOf i).toNat)
    case atStart=>exact ⟨0,by omega,rfl,by simp [M.fold]⟩
    case round =>
     obtain ⟨j,hj,rfl,rfl⟩:=hrel
     by_cases hlt:j<k - 1
     ·have hcj:=HCR.out j (by have:=HN.out;omega)
      have hsn:M.fold n0 (r.take (j+1))=M.fold n0 (r.take j)*256+r.getD j 0:=by
       rw [List.take_succ_eq_append_getElem (by have:=HN.out;omega),M.fold_snoc]
       simp [List.getD,show j<r.length by have:=HN.out;omega]
      have hxr:0≤r.getD j 0∧r.getD j 0<256:=HR.out _ (by simp [List.getD,show j<r.length by have:=HN.out;omega])
      have hNb:=(HBD.out j (by omega)).2 (by omega)
      obtain ⟨x,hx⟩:∃ x,r.getD j 0=x:=⟨_,rfl⟩
      rw [hx] at hcj hsn hxr
      obtain ⟨N,hN⟩:∃ N,M.fold n0 (r.take j)=N:=⟨_,rfl⟩
      rw [hN] at hsn hNb ⊢
      have hor:=jbf N x hNb.1 (by omega) hxr.1 hxr.2
      have HSN:=hid hsn
      clear hx hsn hN
      go_wp2
      go_round
      case rel=>exact ⟨j+1,by omega,by go_num,by rw [HSN.out]⟩
      case measure=>simp [intOf];omega
     ·obtain rfl:j=k - 1:=by omega
      have hNb:=(HBD.out (k - 1) (by omega)).1
      obtain ⟨N,hN⟩:∃ N,M.fold n0 (r.take (k - 1))=N:=⟨_,rfl⟩
      rw [hN] at hNb ⊢
      have HFN:=hid hN
      clear hN
      by_cases hs:M.sz N=k
      ·have hs':((M.sz N:Int) != (k:Int))=false:=by simp;omega
       have HS:=hid hs
       clear hs
       go_wp2_with (go_at_call 105;refine (qgq _ _ (by omega)).mono ?_;rintro e w' ⟨rfl,rfl⟩)
       go_ret3
       have hf:M.first (b::r)=some (N,k):=by
        rw [M.first,HK.out,HN.out,if_neg (by omega),HN0.out,HFN.out,if_pos HS.out]
       exact ⟨by simp only [M.fn,M.fc,M.fo,hf];rfl,_,rfl⟩
      ·have hs':((M.sz N:Int) != (k:Int))=true:=by simp;omega
       have HS:=hid hs
       clear hs
       go_wp2_with (go_at_call 105;refine (qgq _ _ (by omega)).mono ?_;rintro e w' ⟨rfl,rfl⟩)
       go_ret3
       have hf:M.first (b::r)=none:=by
        rw [M.first,HK.out,HN.out,if_neg (by omega),HN0.out,HFN.out,if_neg HS.out]
       exact ⟨by simp only [M.fn,M.fc,M.fo,hf];rfl,_,rfl⟩
set_option maxHeartbeats 400000 in
theorem qij (b:Nat) (xs:List Int) (lost:Bool) (w:World) (h:Cur 141 w b xs lost) :
  Calls Tryz.prog 114 #[.pointer (some ⟨b,0,none⟩)] w fun e w'=>e=.returned (.tuple #[])∧Cur 141 w' b [] true∧w.grownBy w' (some b):=by
 obtain ⟨a,c,hB,hc0,hc1,hf0,hf1⟩:=h.cells
 have h1:=h.set0 (Bs.nil w)
 have h2:=h1.1.set1 (l':=true)
 have H1:=hid h1
 have H2:=hid h2
 clear h1 h2 hB h
 go_enter Tryz.func114,Tryz.ntmps114
 go_wp2
 go_end0
 exact ⟨rfl,H2.out.1,H1.out.2.trans H2.out.2⟩
set_option maxHeartbeats 1000000 in
theorem qlv (b:Nat) (xs:List Int) (lost:Bool) (most:Int) (w:World) (h:Cur 141 w b xs lost) :
  Calls Tryz.prog 90 #[.pointer (some ⟨b,0,none⟩),.int .i64 most] w fun e w' =>
   e=.returned (.int .i64 (M.numV most xs))∧Cur 141 w' b (M.numS most xs) (M.numL most xs lost)∧w.grownBy w' (some b):=by
 obtain ⟨a,c,hB,hc0,hc1,hf0,hf1⟩:=h.cells
 have HB:=hid hB
 have HC:=hid h
 have HF:=fun w=>qvx (.slice a xs.length c) xs w
 have HFH:=hid HF
 clear hB h HF
 by_cases hok:M.numOk most xs=true
 ·have hfo:M.fo xs=true:=by unfold M.numOk at hok;simp at hok;exact hok.1
  have hle:M.fn xs≤most:=by unfold M.numOk at hok;simp at hok;exact hok.2
  have hfc:=M.fo_spec hfo
  have hfl:=hfc.2.1
  have hf1:=hfc.1
  have e1:M.numV most xs=M.fn xs:=by simp [M.numV,hok]
  have e2:M.numS most xs=xs.drop (M.fc xs):=by simp [M.numS,hok]
  have e3:M.numL most xs lost=lost:=by simp [M.numL,hok]
  rw [e1,e2,e3]
  clear e1 e2 e3 hfc hok
  have hD:=Bs.drop HB.out (M.fc xs) hfl
  have hl:=HB.out.len
  unfold maxLen at hl
  obtain ⟨bl,off,c',hv,hcc,_⟩:=HB.out.inv (by omega)
  simp only [Value.slice.injEq,true_and] at hv
  obtain ⟨rfl,rfl⟩:=hv
  have HD:=hid hD
  clear hD
  by_cases hcf:c=M.fc xs
  ·subst hcf
   go_enter Tryz.func90,Tryz.ntmps90
   go_wp2_with fail
   refine (HFH.out _ HB.out).mono ?_
   rintro e w1 ⟨rfl,nd,rfl⟩
   go_wp2
   go_ret
   have hs:=(HC.out.drewN nd).set0 (v:=_) (HD.out.drewN nd)
   simp only [if_pos] at hs
   rw [show xs.length - M.fc xs=0 by omega,Nat.sub_self] at hs
   exact ⟨rfl,hs.1,World.grownBy.of_drewN hs.2⟩
  ·skip
   go_enter Tryz.func90,Tryz.ntmps90
   go_wp2_with fail
   refine (HFH.out _ HB.out).mono ?_
   rintro e w1 ⟨rfl,nd,rfl⟩
   go_wp2
   go_ret
   have hs:=(HC.out.drewN nd).set0 (v:=_) (HD.out.drewN nd)
   simp only [if_neg hcf,Option.map_some,Addr.add_lit] at hs
   exact ⟨rfl,hs.1,World.grownBy.of_drewN hs.2⟩
 ·have e1:M.numV most xs=0:=by simp [M.numV,hok]
  have e2:M.numS most xs=[]:=by simp [M.numS,hok]
  have e3:M.numL most xs lost=true:=by simp [M.numL,hok]
  rw [e1,e2,e3]
  clear e1 e2 e3
  have hl:=HB.out.len
  unfold maxLen at hl
  by_cases hfo:M.fo xs=true
  ·have hgt:most<M.fn xs:=by unfold M.numOk at hok;simp [hfo] at hok;exact hok
   clear hok
   go_enter Tryz.func90,Tryz.ntmps90
   go_wp2_with fail
   refine (HFH.out _ HB.out).mono ?_
   rintro e w1 ⟨rfl,nd,rfl⟩
   go_wp2_with fail
   refine (qij b xs lost _ (HC.out.drewN nd)).mono ?_
   rintro e w1 ⟨rfl,hc,hg⟩
   go_wp2
   go_ret
   exact ⟨rfl,hc,World.grownBy.of_drewN hg⟩
  ·have hfo':M.fo xs=false:=by simpa using hfo
   clear hok hfo
   go_enter Tryz.func90,Tryz.ntmps90
   go_wp2_with fail
   refine (HFH.out _ HB.out).mono ?_
   rintro e w1 ⟨rfl,nd,rfl⟩
   go_wp2_with fail
   refine (qij b xs lost _ (HC.out.drewN nd)).mono ?_
   rintro e w1 ⟨rfl,hc,hg⟩
   go_wp2
   go_ret
   exact ⟨rfl,hc,World.grownBy.of_drewN hg⟩
set_option maxHeartbeats 1000000 in
theorem qxd (b:Nat) (xs:List Int) (lost:Bool) (n:Int) (w:World) (h:Cur 141 w b xs lost) :
  Calls Tryz.prog 119 #[.pointer (some ⟨b,0,none⟩),.int .i64 n] w fun e w' =>
   ∃ v,e=.returned v∧Bs w' v (M.takeV n xs)∧Cur 141 w' b (M.takeS n xs) (M.takeL n xs lost)∧w.grownBy w' (some b):=by
 obtain ⟨a,c,hB,hc0,hc1,hf0,hf1⟩:=h.cells
 have HB:=hid hB
 have HC:=hid h
 have hl:=hB.len
 have hlc:xs.length≤c:=by
  obtain ⟨a',c',hv,h2,_⟩:=hB
  simp only [Value.slice.injEq,true_and] at hv
  omega
 unfold maxLen at hl
 clear hB h
 by_cases hok:M.takeOk n xs=true
 ·have hn:0≤n∧n≤xs.length:=by unfold M.takeOk at hok;simpa using hok
  obtain ⟨h0,h1⟩:=hn
  rw [show M.takeV n xs=xs.take n.toNat by simp [M.takeV,hok],show M.takeS n xs=xs.drop n.toNat by simp [M.takeS,hok],show M.takeL n xs lost=lost by simp [M.takeL,hok]]
  clear hok
  obtain ⟨k,rfl⟩:=Int.eq_ofNat_of_zero_le h0
  rw [Int.toNat_natCast]
  have hk:k≤xs.length:=by omega
  have hD:=Bs.drop HB.out k hk
  have hT:=Bs.take HB.out k hk
  have HD:=hid hD
  have HT:=hid hT
  clear hD hT h0
  by_cases hcf:c=k
  ·subst hcf
   have hck:(c:Int)≤(c:Int):=by omega
   go_enter Tryz.func119,Tryz.ntmps119
   go_wp2
   go_ret
   have hs:=HC.out.set0 HD.out
   simp only [if_pos] at hs
   rw [show xs.length - c=0 by omega,Nat.sub_self] at hs
   exact ⟨_,rfl,HT.out.keeps (HC.out.keeps hs.2),hs.1,hs.2⟩
  ·have hck:(k:Int)≤(c:Int):=by omega
   go_enter Tryz.func119,Tryz.ntmps119
   go_wp2
   go_ret
   have hs:=HC.out.set0 HD.out
   simp only [if_neg hcf] at hs
   exact ⟨_,rfl,HT.out.keeps (HC.out.keeps hs.2),hs.1,hs.2⟩
 ·have hn:¬ (0≤n∧n≤xs.length):=by unfold M.takeOk at hok;simpa using hok
  rw [show M.takeV n xs=[] by simp [M.takeV,hok],show M.takeS n xs=[] by simp [M.takeS,hok],show M.takeL n xs lost=true by simp [M.takeL,hok]]
  clear hok
  by_cases h0:n<0
  ·clear hn
   go_enter Tryz.func119,Tryz.ntmps119
   go_wp2_with fail
   refine (qij b xs lost _ HC.out).mono ?_
   rintro e w1 ⟨rfl,hc,hg⟩
   go_wp2
   go_ret
   exact ⟨_,rfl,Bs.nil _,hc,hg⟩
  ·have h1:(xs.length:Int)<n:=by omega
   clear hn
   go_enter Tryz.func119,Tryz.ntmps119
   go_wp2_with fail
   refine (qij b xs lost _ HC.out).mono ?_
   rintro e w1 ⟨rfl,hc,hg⟩
   go_wp2
   go_ret
   exact ⟨_,rfl,Bs.nil _,hc,hg⟩
def M.textV (most:Int) (xs:List Int):List Int:=M.takeV (M.numV most xs) (M.numS most xs)
def M.textS (most:Int) (xs:List Int):List Int:=M.takeS (M.numV most xs) (M.numS most xs)
def M.textL (most:Int) (xs:List Int) (lost:Bool):Bool:=M.takeL (M.numV most xs) (M.numS most xs) (M.numL most xs lost)
set_option maxHeartbeats 400000 in
theorem qxc (b:Nat) (xs:List Int) (lost:Bool) (most:Int) (w:World) (h:Cur 141 w b xs lost) :
  Calls Tryz.prog 93 #[.pointer (some ⟨b,0,none⟩),.int .i64 most] w fun e w' =>
   e=.returned (.string (M.str (M.textV most xs)))∧Cur 141 w' b (M.textS most xs) (M.textL most xs lost)∧w.grownBy w' (some b):=by
 go_enter Tryz.func93,Tryz.ntmps93
 go_wp2_with fail
 refine (qlv b xs lost most _ h).mono ?_
 rintro e w1 ⟨rfl,hc1,hg1⟩
 go_wp2_with fail
 refine (qxd b _ _ _ _ hc1).mono ?_
 rintro e w2 ⟨v,rfl,hB,hc2,hg2⟩
 have hcv:=qme hB
 go_wp2
 go_ret
 exact ⟨rfl,hc2,hg1.trans hg2⟩
set_option maxHeartbeats 400000 in
theorem qqx (b:Nat) (xs:List Int) (lost:Bool) (w:World) (h:Cur 141 w b xs lost) :
  Calls Tryz.prog 94 #[.pointer (some ⟨b,0,none⟩)] w fun e w'=>e=.returned (.int .i64 xs.length)∧w=w':=by
 obtain ⟨a,c,hB,hc0,hc1,hf0,hf1⟩:=h.cells
 clear hB h
 go_enter Tryz.func94,Tryz.ntmps94
 go_wp2
 go_ret
 exact ⟨rfl,rfl⟩
set_option maxHeartbeats 400000 in
theorem qpp (b:Nat) (xs:List Int) (lost:Bool) (w:World) (h:Cur 141 w b xs lost) :
  Calls Tryz.prog 91 #[.pointer (some ⟨b,0,none⟩)] w fun e w'=>e=.returned (.bool (!lost && xs.isEmpty))∧w=w':=by
 obtain ⟨a,c,hB,hc0,hc1,hf0,hf1⟩:=h.cells
 clear hB h
 have he:((xs.length:Int)==0)=xs.isEmpty:=by cases xs<;>simp;omega
 cases lost
 ·go_enter Tryz.func91,Tryz.ntmps91
  go_wp2
  go_ret
  exact ⟨rfl,rfl⟩
 ·go_enter Tryz.func91,Tryz.ntmps91
  go_wp2
  go_ret
  exact ⟨rfl,rfl⟩
structure Opn where
 (k ir im t br bm pr pm:Int)
 (key:ByteArray)
 (sr sm lr lm li gr gm gi:Int)
 (text:ByteArray)
 (cuts:List Ct)
 (flag:Bool)
def Opn.zero:Opn:=⟨0,0,0,0,0,0,0,0,⟨#[]⟩,0,0,0,0,0,0,0,0,⟨#[]⟩,[],false⟩
def rb (r n:Int):Bool:=decide (n=0∧(r=0∨r=1)) || ro r n
def rc (r n i:Int):Bool:=decide (r=0∧n=0∧i=0) || (ro r n && decide (0≤i∧i<64))
def rct (c:Ct):Bool:=ro c.r c.n && decide (0≤c.f∧c.f<c.t∧c.t≤64)
def told (k:Int):List Nat :=
 if k=1 then [1,2] else if k=2 then [0,1,2] else if k=3 then [3,4,5,6] else if k=4 then [7] else if k=5 then [3,4,5,1,2] else if k=6 then [0,8] else []
def rightF (o:Opn):Nat→Bool
 | 0=>ro o.br o.bm
 | 1=>rb o.pr o.pm
 | 2=>K.right (tx o.key)
 | 3=>ro o.sr o.sm
 | 4=>rc o.lr o.lm o.li
 | 5=>rc o.gr o.gm o.gi
 | 6=>decide (1≤o.text.size∧o.text.size≤64)
 | 7=>decide (1≤o.cuts.length∧o.cuts.length≤16) && o.cuts.all rct
 | _=>true
def noughtF (o:Opn):Nat→Bool
 | 0=>decide (o.br=0∧o.bm=0)
 | 1=>decide (o.pr=0∧o.pm=0)
 | 2=>decide (o.key.size=0)
 | 3=>decide (o.sr=0∧o.sm=0)
 | 4=>decide (o.lr=0∧o.lm=0∧o.li=0)
 | 5=>decide (o.gr=0∧o.gm=0∧o.gi=0)
 | 6=>decide (o.text.size=0)
 | 7=>decide (o.cuts.length=0)
 | _=>!o.flag
def goodF (o:Opn) (f:Nat):Bool:=if f ∈ told o.k then rightF o f else noughtF o f
def rightO (o:Opn):Bool:=ro o.ir o.im && rs o.t o.ir && (List.range 9).all (goodF o) && !(told o.k).isEmpty
def en2 (a b:Int):List Int:=M.enc a++M.enc b
def en3 (a b c:Int):List Int:=M.enc a++M.enc b++M.enc c
def enC (c:Ct):List Int:=M.enc c.r++M.enc c.n++M.enc c.f++M.enc c.t
def encF (o:Opn):Nat→List Int
 | 0=>en2 o.br o.bm
 | 1=>en2 o.pr o.pm
 | 2=>M.encText o.key
 | 3=>en2 o.sr o.sm
 | 4=>en3 o.lr o.lm o.li
 | 5=>en3 o.gr o.gm o.gi
 | 6=>M.encText o.text
 | 7=>M.enc o.cuts.length++o.cuts.flatMap enC
 | _=>M.enc (if o.flag then 1 else 0)
def encO (o:Opn):List Int:=(M.enc o.k++M.enc o.ir++M.enc o.im++M.enc o.t)++(told o.k).flatMap (encF o)
abbrev St:=List Int × Bool
def rn (m:Int) (s:St):Int × St:=(M.numV m s.1,(M.numS m s.1,M.numL m s.1 s.2))
def rt (m:Int) (s:St):ByteArray × St:=(M.str (M.textV m s.1),(M.textS m s.1,M.textL m s.1 s.2))
structure Bnd where
 (k t r n i key text ft:Int)
def rcut (B:Bnd) (s:St):Ct × St :=
 (⟨(rn B.r s).1,(rn B.n (rn B.r s).2).1,(rn B.ft (rn B.n (rn B.r s).2).2).1,(rn B.ft (rn B.ft (rn B.n (rn B.r s).2).2).2).1⟩,(rn B.ft (rn B.ft (rn B.n (rn B.r s).2).2).2).2)
def rcuts (B:Bnd):Nat→St→List Ct × St
 | 0,s=>([],s)
 | j+1,s=>((rcuts B j s).1++[(rcut B (rcuts B j s).2).1],(rcut B (rcuts B j s).2).2)
def rdF (B:Bnd) (f:Nat) (p:Opn × St):Opn × St :=
 match f with
 | 0=>({ p.1 with br:=(rn B.r p.2).1,bm:=(rn B.n (rn B.r p.2).2).1 },(rn B.n (rn B.r p.2).2).2)
 | 1=>({ p.1 with pr:=(rn B.r p.2).1,pm:=(rn B.n (rn B.r p.2).2).1 },(rn B.n (rn B.r p.2).2).2)
 | 2=>({ p.1 with key:=(rt B.key p.2).1 },(rt B.key p.2).2)
 | 3=>({ p.1 with sr:=(rn B.r p.2).1,sm:=(rn B.n (rn B.r p.2).2).1 },(rn B.n (rn B.r p.2).2).2)
 | 4=>({ p.1 with lr:=(rn B.r p.2).1,lm:=(rn B.n (rn B.r p.2).2).1,li:=(rn B.i (rn B.n (rn B.r p.2).2).2).1 },(rn B.i (rn B.n (rn B.r p.2).2).2).2)
 | 5=>({ p.1 with gr:=(rn B.r p.2).1,gm:=(rn B.n (rn B.r p.2).2).1,gi:=(rn B.i (rn B.n (rn B.r p.2).2).2).1 },(rn B.i (rn B.n (rn B.r p.2).2).2).2)
 | 6=>({ p.1 with text:=(rt B.text p.2).1 },(rt B.text p.2).2)
 | 7=>({ p.1 with cuts:=(rcuts B (rn 16 p.2).1.toNat (rn 16 p.2).2).1 },(rcuts B (rn 16 p.2).1.toNat (rn 16 p.2).2).2)
 | _=>({ p.1 with flag:=(rn 1 p.2).1==1 },(rn 1 p.2).2)
def rdH (B:Bnd) (b:List Int):Opn × St :=
 ({ Opn.zero with k:=(rn B.k (b,false)).1,ir:=(rn B.r (rn B.k (b,false)).2).1,im:=(rn B.n (rn B.r (rn B.k (b,false)).2).2).1,t:=(rn B.t (rn B.n (rn B.r (rn B.k (b,false)).2).2).2).1 },(rn B.t (rn B.n (rn B.r (rn B.k (b,false)).2).2).2).2)
def rdO (B:Bnd) (b:List Int):Opn × St:=(told (rdH B b).1.k).foldl (fun p f=>rdF B f p) (rdH B b)
def decB (p:Opn × St):Bool:=!p.2.2 && p.2.1.isEmpty && rightO p.1
def decO (B:Bnd) (b:List Int):Opn × Bool:=if decB (rdO B b) then ((rdO B b).1,true) else (Opn.zero,false)
def Vl (s:St):Prop:=K.Byt s.1∧(s.2=true→s.1=[])
def Sd (e:List Int) (s s':St):Prop:=Vl s'∧(s'.2=false→s.2=false∧s.1=e++s'.1)
theorem Sd.trans {e e':List Int}{a b c:St}(h:Sd e a b) (k:Sd e' b c):Sd (e++e') a c:=by
 refine ⟨k.1,fun hc=>?_⟩
 obtain ⟨h1,h2⟩:=k.2 hc
 obtain ⟨h3,h4⟩:=h.2 h1
 exact ⟨h3,by rw [h4,h2,List.append_assoc]⟩
theorem Sd.refl {s:St}(h:Vl s):Sd [] s s:=⟨h,fun hc=>⟨hc,rfl⟩⟩
theorem qjn {xs:List Int}(h:M.fo xs=true):M.first xs=some (M.fn xs,M.fc xs):=by
 unfold M.fo at h
 obtain ⟨⟨n,k⟩,hnk⟩:=Option.isSome_iff_exists.1 h
 unfold M.fn M.fc
 rw [hnk]
theorem qqr {m:Int}{xs:List Int}(h:M.numOk m xs=true):M.fo xs=true∧M.fn xs≤m:=by
 unfold M.numOk at h
 simpa using h
theorem qfe {m:Int}{s:St}(h:K.Byt s.1):0≤(rn m s).1∧(rn m s).1<562949953421312∧(0≤m→(rn m s).1≤m):=by
 unfold rn M.numV
 dsimp only
 split
 ·rename_i hok
  have h1:=qqr hok
  have:=M.enc_first_eq h (qjn h1.1)
  exact ⟨this.1,this.2.1,fun _=>h1.2⟩
 ·exact ⟨Int.le_refl _,by decide,fun h=>h⟩
theorem qln {m:Int}{s:St}(h:Vl s):Vl (rn m s).2:=by
 obtain ⟨xs,l⟩:=s
 unfold rn
 refine ⟨?_,?_⟩
 ·intro x hx
  unfold M.numS at hx
  dsimp only at hx
  split at hx
  ·exact h.1 x (List.mem_of_mem_drop hx)
  ·cases hx
 ·dsimp only
  unfold M.numL M.numS
  by_cases hok:M.numOk m xs=true
  ·rw [if_pos hok,if_pos hok]
   intro hl
   rw [show xs=[] from h.2 hl];simp
  ·rw [if_neg hok,if_neg hok]
   intro _;rfl
theorem qbd (m:Int) {s:St}(h:Vl s):Sd (M.enc (rn m s).1) s (rn m s).2:=by
 refine ⟨qln h,?_⟩
 obtain ⟨xs,l⟩:=s
 unfold rn
 intro hl
 dsimp only at hl ⊢
 unfold M.numL at hl
 by_cases hok:M.numOk m xs=true
 ·rw [if_pos hok] at hl
  refine ⟨hl,?_⟩
  unfold M.numV M.numS
  rw [if_pos hok,if_pos hok]
  have:=M.enc_first_eq h.1 (qjn (qqr hok).1)
  rw [this.2.2.2.1,List.take_append_drop]
 ·rw [if_neg hok] at hl;cases hl
theorem qbg {m n:Int}(h0:0≤n) (hm:n≤m) (hn:n<562949953421312) (r:List Int):rn m (M.enc n++r,false)=(n,(r,false)):=by
 have hf:=M.first_enc h0 hn r
 have e1:M.fn (M.enc n++r)=n:=by unfold M.fn;rw [hf]
 have e2:M.fc (M.enc n++r)=M.sz n:=by unfold M.fc;rw [hf]
 have hok:M.numOk m (M.enc n++r)=true:=by
  unfold M.numOk M.fo
  rw [hf,e1]
  simpa using hm
 unfold rn M.numV M.numS M.numL
 dsimp only
 rw [if_pos hok,if_pos hok,if_pos hok,e1,e2,←M.enc_length,List.drop_left]
theorem qjc {m:Int}{s:St}:(rt m s).2=(M.takeS (rn m s).1 (rn m s).2.1,M.takeL (rn m s).1 (rn m s).2.1 (rn m s).2.2)∧(rt m s).1=M.str (M.takeV (rn m s).1 (rn m s).2.1):=⟨rfl,rfl⟩
theorem qtl {n:Int}{xs:List Int}(h:K.Byt xs):K.Byt (M.takeV n xs):=by
 intro x hx
 unfold M.takeV at hx
 split at hx
 ·exact h x (List.mem_of_mem_take hx)
 ·cases hx
theorem qye (s:ByteArray):M.ofStr s=tx s:=rfl
theorem qfi (m:Int) {s:St}(h:Vl s):Sd (M.encText (rt m s).1) s (rt m s).2:=by
 have h1:=qbd m h
 have hv:=qfe (m:=m) h.1
 rw [qjc.1,qjc.2]
 generalize rn m s=p at h1 hv ⊢
 obtain ⟨n,xs,l⟩:=p
 dsimp only at h1 hv ⊢
 refine ⟨⟨?_,?_⟩,?_⟩
 ·intro x hx
  unfold M.takeS at hx
  dsimp only at hx
  split at hx
  ·exact h1.1.1 x (List.mem_of_mem_drop hx)
  ·cases hx
 ·dsimp only
  unfold M.takeL M.takeS
  by_cases hok:M.takeOk n xs=true
  ·rw [if_pos hok,if_pos hok]
   intro hl
   rw [show xs=[] from h1.1.2 hl];simp
  ·rw [if_neg hok,if_neg hok]
   intro _;rfl
 ·intro hl
  dsimp only at hl ⊢
  unfold M.takeL at hl
  by_cases hok:M.takeOk n xs=true
  ·rw [if_pos hok] at hl
   obtain ⟨h2,h3⟩:=h1.2 hl
   refine ⟨h2,?_⟩
   have ht:0≤n∧n≤xs.length:=by unfold M.takeOk at hok;simpa using hok
   unfold M.takeV M.takeS M.encText
   rw [if_pos hok,if_pos hok,qye]
   have hb:K.Byt (xs.take n.toNat):=fun x hx=>h1.1.1 x (List.mem_of_mem_take hx)
   rw [qgl hb,qqf hb,List.length_take,Nat.min_eq_left (by omega),Int.toNat_of_nonneg ht.1,List.append_assoc,List.take_append_drop]
   exact h3
  ·rw [if_neg hok] at hl;cases hl
theorem qot {m:Int}{s:ByteArray}(hm:(s.size:Int)≤m) (hn:(s.size:Int)<562949953421312) (r:List Int):rt m (M.encText s++r,false)=(s,(r,false)):=by
 have h1:=qbg (m:=m) (n:=s.size) (by omega) hm hn (M.ofStr s++r)
 unfold M.encText
 rw [List.append_assoc]
 have e:=qjc (m:=m) (s:=(M.enc s.size++(M.ofStr s++r),false))
 rw [h1] at e
 dsimp only at e
 have hok:M.takeOk (s.size:Int) (M.ofStr s++r)=true:=by
  unfold M.takeOk
  rw [List.length_append,M.ofStr_length]
  simp
  omega
 unfold M.takeS M.takeL M.takeV at e
 rw [if_pos hok,if_pos hok,if_pos hok,Int.toNat_natCast,List.drop_left' (M.ofStr_length s),List.take_left' (M.ofStr_length s),M.str_ofStr] at e
 exact Prod.ext e.2 e.1
theorem qry (B:Bnd) {s:St}(h:Vl s):Sd (enC (rcut B s).1) s (rcut B s).2:=by
 unfold enC rcut
 have h1:=qbd B.r h
 have h2:=qbd B.n h1.1
 have h3:=qbd B.ft h2.1
 exact ((h1.trans h2).trans h3).trans (qbd B.ft h3.1)
theorem qes (B:Bnd) (j:Nat) {s:St}(h:Vl s):Sd ((rcuts B j s).1.flatMap enC) s (rcuts B j s).2∧(rcuts B j s).1.length=j:=by
 induction j with
 | zero=>exact ⟨Sd.refl h,rfl⟩
 | succ j ih =>
  refine ⟨?_,by unfold rcuts;simp [ih.2]⟩
  unfold rcuts
  rw [List.flatMap_append]
  have:=ih.1.trans (qry B ih.1.1)
  simpa using this
def Bnd.ok (B:Bnd):Prop:=6≤B.k∧1099511627776≤B.t∧15≤B.r∧1048576≤B.n∧63≤B.i∧32≤B.key∧64≤B.text∧64≤B.ft
theorem quo {B:Bnd}(hB:B.ok) {c:Ct}(hc:rct c=true) (r:List Int):rcut B (enC c++r,false)=(c,(r,false)):=by
 obtain ⟨_,_,h1,h2,_,_,_,h3⟩:=hB
 simp [rct,ro] at hc
 unfold enC rcut
 simp only [List.append_assoc]
 rw [qbg (by omega) (by omega) (by omega)]
 dsimp only
 rw [qbg (by omega) (by omega) (by omega)]
 dsimp only
 rw [qbg (by omega) (by omega) (by omega)]
 dsimp only
 rw [qbg (by omega) (by omega) (by omega)]
theorem qrx {B:Bnd}(hB:B.ok):∀ (j:Nat) (l:List Ct) (r:List Int),l.length=j→(∀ c ∈ l,rct c=true)→rcuts B j (l.flatMap enC++r,false)=(l,(r,false)):=by
 intro j
 induction j with
 | zero =>
  intro l r hl _
  obtain rfl:=List.eq_nil_of_length_eq_zero hl
  rfl
 | succ j ih =>
  intro l r hl hc
  have hne:l≠[]:=by intro h;subst h;simp at hl
  obtain ⟨l',c,rfl⟩:∃ l' c,l=l'++[c]:=⟨l.dropLast,l.getLast hne,(List.dropLast_concat_getLast hne).symm⟩
  have hl':l'.length=j:=by simpa using hl
  unfold rcuts
  rw [List.flatMap_append,List.append_assoc,ih l' _ hl' (fun c hc'=>hc c (by simp [hc']))]
  simp only [List.flatMap_cons,List.flatMap_nil,List.append_nil]
  rw [quo hB (hc c (by simp))]
theorem qbm {r n:Int}(h:ro r n=true):0≤r∧r<16∧1≤n∧n≤1048576:=by simpa [ro] using h
theorem qgv {r n:Int}(h:rb r n=true):0≤r∧r<16∧0≤n∧n≤1048576:=by
 simp [rb] at h
 rcases h with h | h
 ·omega
 ·have:=qbm h;omega
theorem qdi {r n i:Int}(h:rc r n i=true):0≤r∧r<16∧0≤n∧n≤1048576∧0≤i∧i<64:=by
 simp [rc] at h
 rcases h with h | ⟨h,h2⟩
 ·omega
 ·have:=qbm h;omega
def cpF (f:Nat) (q o:Opn):Opn :=
 match f with
 | 0=>{ o with br:=q.br,bm:=q.bm }
 | 1=>{ o with pr:=q.pr,pm:=q.pm }
 | 2=>{ o with key:=q.key }
 | 3=>{ o with sr:=q.sr,sm:=q.sm }
 | 4=>{ o with lr:=q.lr,lm:=q.lm,li:=q.li }
 | 5=>{ o with gr:=q.gr,gm:=q.gm,gi:=q.gi }
 | 6=>{ o with text:=q.text }
 | 7=>{ o with cuts:=q.cuts }
 | _=>{ o with flag:=q.flag }
theorem nine {f:Nat}(h:f≤8):f=0∨f=1∨f=2∨f=3∨f=4∨f=5∨f=6∨f=7∨f=8:=by omega
theorem qui (B:Bnd) (f:Nat) (hf:f≤8) (p:Opn × St) (h:Vl p.2) (hb:(rdF B f p).2.2=false):Sd (encF (rdF B f p).1 f) p.2 (rdF B f p).2:=by
 obtain ⟨o,s⟩:=p
 dsimp only at h
 have h1:=qbd B.r h
 have h2:=qbd B.n h1.1
 have h3:=qbd B.i h2.1
 rcases nine hf with rfl | rfl | rfl | rfl | rfl | rfl | rfl | rfl | rfl
 ·exact h1.trans h2
 ·exact h1.trans h2
 ·exact qfi B.key h
 ·exact h1.trans h2
 ·exact (h1.trans h2).trans h3
 ·exact (h1.trans h2).trans h3
 ·exact qfi B.text h
 ·have h4:=qbd 16 h
  have hv:=qfe (m:=16) h.1
  have h5:=qes B (rn 16 s).1.toNat h4.1
  have:=h4.trans h5.1
  simp only [encF,rdF]
  rw [h5.2,Int.toNat_of_nonneg hv.1]
  exact this
 ·have h4:=qbd 1 h
  have hv:=qfe (m:=1) h.1
  simp only [encF,rdF]
  have e:(if ((rn 1 s).1==1)=true then (1:Int) else 0)=(rn 1 s).1:=by
   by_cases hc:(rn 1 s).1=1
   ·simp [hc]
   ·simp [hc];omega
  rw [e]
  exact h4
theorem qzz (B:Bnd) (f:Nat) (hf:f≤8) (p:Opn × St) (h:Vl p.2):Vl (rdF B f p).2:=by
 obtain ⟨o,s⟩:=p
 dsimp only at h
 have h1:=qbd B.r h
 have h2:=qbd B.n h1.1
 have h3:=qbd B.i h2.1
 rcases nine hf with rfl | rfl | rfl | rfl | rfl | rfl | rfl | rfl | rfl
 ·exact h2.1
 ·exact h2.1
 ·exact (qfi B.key h).1
 ·exact h2.1
 ·exact h3.1
 ·exact h3.1
 ·exact (qfi B.text h).1
 ·exact (qes B _ (qbd 16 h).1).1.1
 ·exact (qbd 1 h).1
theorem quk (B:Bnd) {f g:Nat}(hf:f≤8) (hg:g≤8) (hne:f≠g) (p:Opn × St):encF (rdF B g p).1 f=encF p.1 f:=by
 rcases nine hf with rfl | rfl | rfl | rfl | rfl | rfl | rfl | rfl | rfl<;>rcases nine hg with rfl | rfl | rfl | rfl | rfl | rfl | rfl | rfl | rfl<;>first | exact absurd rfl hne | simp only [encF,rdF]
theorem qya {B:Bnd}(hB:B.ok) (f:Nat) (hf:f≤8) (q o:Opn) (hq:rightF q f=true) (r:List Int):rdF B f (o,(encF q f++r,false))=(cpF f q o,(r,false)):=by
 have hB':=hB
 obtain ⟨b1,b2,b3,b4,b5,b6,b7,b8⟩:=hB
 rcases nine hf with rfl | rfl | rfl | rfl | rfl | rfl | rfl | rfl | rfl
 ·have:=qbm hq
  simp only [rdF,encF,en2,cpF,List.append_assoc]
  rw [qbg (by omega) (by omega) (by omega)]
  dsimp only
  rw [qbg (by omega) (by omega) (by omega)]
 ·have:=qgv hq
  simp only [rdF,encF,en2,cpF,List.append_assoc]
  rw [qbg (by omega) (by omega) (by omega)]
  dsimp only
  rw [qbg (by omega) (by omega) (by omega)]
 ·have:q.key.size≤32:=by
   simp [rightF,K.right,qaw] at hq
   exact hq.2.1
  simp only [rdF,encF,cpF]
  rw [qot (by omega) (by omega)]
 ·have:=qbm hq
  simp only [rdF,encF,en2,cpF,List.append_assoc]
  rw [qbg (by omega) (by omega) (by omega)]
  dsimp only
  rw [qbg (by omega) (by omega) (by omega)]
 ·have:=qdi hq
  simp only [rdF,encF,en3,cpF,List.append_assoc]
  rw [qbg (by omega) (by omega) (by omega)]
  dsimp only
  rw [qbg (by omega) (by omega) (by omega)]
  dsimp only
  rw [qbg (by omega) (by omega) (by omega)]
 ·have:=qdi hq
  simp only [rdF,encF,en3,cpF,List.append_assoc]
  rw [qbg (by omega) (by omega) (by omega)]
  dsimp only
  rw [qbg (by omega) (by omega) (by omega)]
  dsimp only
  rw [qbg (by omega) (by omega) (by omega)]
 ·have:q.text.size≤64:=by
   simp [rightF] at hq
   exact hq.2
  simp only [rdF,encF,cpF]
  rw [qot (by omega) (by omega)]
 ·simp [rightF] at hq
  simp only [rdF,encF,cpF,List.append_assoc]
  rw [qbg (by omega) (by omega) (by omega)]
  dsimp only
  rw [qrx hB' _ q.cuts r (by simp) hq.2]
 ·simp only [rdF,encF,cpF]
  rw [qbg (by split<;>decide) (by split<;>decide) (by split<;>decide)]
  dsimp only
  cases q.flag<;>rfl
theorem qdc (k:Int):∀ f ∈ told k,f≤8:=by
 unfold told
 intro f
 repeat' split
 all_goals simp
 all_goals omega
theorem qro (k:Int):(told k).Nodup:=by
 unfold told
 repeat' split
 all_goals decide
theorem qso (B:Bnd):∀ (L:List Nat) (p:Opn × St),(∀ f ∈ L,f≤8)→L.Nodup→Vl p.2 →
  Vl (L.foldl (fun p f=>rdF B f p) p).2∧(∀ g,g≤8→g ∉ L→encF (L.foldl (fun p f=>rdF B f p) p).1 g=encF p.1 g) ∧
  Sd (L.flatMap (encF (L.foldl (fun p f=>rdF B f p) p).1)) p.2 (L.foldl (fun p f=>rdF B f p) p).2:=by
 intro L
 induction L with
 | nil=>intro p _ _ h;exact ⟨h,fun _ _ _=>rfl,Sd.refl h⟩
 | cons f L ih =>
  intro p hL hN hv
  have hf:=hL f (by simp)
  have hv':=qzz B f hf p hv
  have hN':=List.nodup_cons.1 hN
  obtain ⟨i1,i2,i3⟩:=ih (rdF B f p) (fun g hg=>hL g (by simp [hg])) hN'.2 hv'
  rw [List.foldl_cons]
  refine ⟨i1,fun g hg hn=>?_,?_⟩
  ·rw [i2 g hg (fun h=>hn (by simp [h]))]
   exact quk B hg hf (fun e=>hn (by simp [e])) p
  ·rw [List.flatMap_cons,i2 f hf hN'.1]
   refine ⟨i3.1,fun hl=>?_⟩
   obtain ⟨e1,e2⟩:=i3.2 hl
   exact ((qui B f hf p hv e1).trans i3).2 hl
theorem qvq {B:Bnd}(hB:B.ok) (q:Opn):∀ (L:List Nat) (o:Opn) (r:List Int),(∀ f ∈ L,f≤8)→(∀ f ∈ L,rightF q f=true) →
  L.foldl (fun p f=>rdF B f p) (o,(L.flatMap (encF q)++r,false))=(L.foldl (fun o f=>cpF f q o) o,(r,false)):=by
 intro L
 induction L with
 | nil=>intro o r _ _;rfl
 | cons f L ih =>
  intro o r hL hq
  rw [List.flatMap_cons,List.append_assoc,List.foldl_cons,qya hB f (hL f (by simp)) q o (hq f (by simp))]
  exact ih _ r (fun g hg=>hL g (by simp [hg])) (fun g hg=>hq g (by simp [hg]))
theorem six {k:Int}(h:told k≠[]):k=1∨k=2∨k=3∨k=4∨k=5∨k=6:=by
 unfold told at h
 by_cases h1:k=1;· exact .inl h1
 by_cases h2:k=2;· exact .inr (.inl h2)
 by_cases h3:k=3;· exact .inr (.inr (.inl h3))
 by_cases h4:k=4;· exact .inr (.inr (.inr (.inl h4)))
 by_cases h5:k=5;· exact .inr (.inr (.inr (.inr (.inl h5))))
 by_cases h6:k=6;· exact .inr (.inr (.inr (.inr (.inr h6))))
 simp [h1,h2,h3,h4,h5,h6] at h
theorem qbn {o:Opn}(h:rightO o=true):(ro o.ir o.im=true∧rs o.t o.ir=true∧told o.k≠[])∧∀ f,f≤8→goodF o f=true:=by
 unfold rightO at h
 simp only [Bool.and_eq_true,List.all_eq_true,List.mem_range,Bool.not_eq_true'] at h
 obtain ⟨⟨⟨h1,h2⟩,h3⟩,h4⟩:=h
 exact ⟨⟨h1,h2,by simpa using h4⟩,fun f hf=>h3 f (by omega)⟩
theorem qce {o:Opn}(h:rightO o=true):∀ f ∈ told o.k,rightF o f=true:=fun f hf=>by
 have:=(qbn h).2 f (qdc _ f hf)
 unfold goodF at this
 rwa [if_pos hf] at this
theorem qgu {o:Opn}(h:rightO o=true) {f:Nat}(h8:f≤8) (hf:f ∉ told o.k):noughtF o f=true:=by
 have:=(qbn h).2 f h8
 unfold goodF at this
 rwa [if_neg hf] at this
theorem ba_nil {s:ByteArray}(h:s.size=0):s=⟨#[]⟩:=by
 obtain ⟨d⟩:=s
 have:d.size=0:=h
 rw [Array.eq_empty_of_size_eq_zero this]
theorem qth {o:Opn}(h:rightO o=true):(told o.k).foldl (fun p f=>cpF f o p) { Opn.zero with k:=o.k,ir:=o.ir,im:=o.im,t:=o.t }=o:=by
 have hk:=six (qbn h).1.2.2
 have hn:=fun f (h8:f≤8) (hf:f ∉ told o.k)=>qgu h h8 hf
 clear h
 obtain ⟨k,ir,im,t,br,bm,pr,pm,key,sr,sm,lr,lm,li,gr,gm,gi,text,cuts,flag⟩:=o
 dsimp only at hk hn ⊢
 rcases hk with rfl | rfl | rfl | rfl | rfl | rfl
 all_goals
  have n0:=hn 0 (by decide)
  have n1:=hn 1 (by decide)
  have n2:=hn 2 (by decide)
  have n3:=hn 3 (by decide)
  have n4:=hn 4 (by decide)
  have n5:=hn 5 (by decide)
  have n6:=hn 6 (by decide)
  have n7:=hn 7 (by decide)
  have n8:=hn 8 (by decide)
  clear hn
  simp [told,noughtF] at n0 n1 n2 n3 n4 n5 n6 n7 n8
  simp [told,cpF,Opn.zero, *]
  try rfl
theorem qxz {B:Bnd}(hB:B.ok) {o:Opn}(h:rightO o=true) (r:List Int):rdO B (encO o++r)=(o,(r,false)):=by
 have hB':=hB
 obtain ⟨b1,b2,b3,b4,b5,b6,b7,b8⟩:=hB
 have hp:=(qbn h).1
 have h1:=qbm hp.1
 have h2:0≤o.ir∧o.ir<16∧1≤o.t∧o.t≤1099511627776:=by simpa [rs] using hp.2.1
 have h3:=six hp.2.2
 have e:rdH B (encO o++r)=({ Opn.zero with k:=o.k,ir:=o.ir,im:=o.im,t:=o.t },((told o.k).flatMap (encF o)++r,false)):=by
  unfold rdH encO
  simp only [List.append_assoc]
  rw [qbg (by omega) (by omega) (by omega)]
  dsimp only
  rw [qbg (by omega) (by omega) (by omega)]
  dsimp only
  rw [qbg (by omega) (by omega) (by omega)]
  dsimp only
  rw [qbg (by omega) (by omega) (by omega)]
 unfold rdO
 rw [e]
 dsimp only
 rw [qvq hB' o _ _ r (qdc _) (qce h),qth h]
theorem qjs {B:Bnd}(hB:B.ok) {o:Opn}(h:rightO o=true):decO B (encO o)=(o,true):=by
 have:=qxz hB h []
 rw [List.append_nil] at this
 unfold decO decB
 rw [this]
 simp [h]
theorem jbz (B:Bnd):∀ (L:List Nat) (p:Opn × St),(∀ f ∈ L,f≤8)→(L.foldl (fun p f=>rdF B f p) p).1.k=p.1.k∧(L.foldl (fun p f=>rdF B f p) p).1.ir=p.1.ir∧(L.foldl (fun p f=>rdF B f p) p).1.im=p.1.im∧(L.foldl (fun p f=>rdF B f p) p).1.t=p.1.t:=by
 intro L
 induction L with
 | nil=>intro p _;exact ⟨rfl,rfl,rfl,rfl⟩
 | cons f L ih =>
  intro p hL
  obtain ⟨h1,h2,h3,h4⟩:=ih (rdF B f p) (fun g hg=>hL g (by simp [hg]))
  rw [List.foldl_cons,h1,h2,h3,h4]
  rcases nine (hL f (by simp)) with rfl | rfl | rfl | rfl | rfl | rfl | rfl | rfl | rfl<;>exact ⟨rfl,rfl,rfl,rfl⟩
theorem qhy (B:Bnd) {b:List Int}(hb:K.Byt b) (h:(decO B b).2=true):rightO (decO B b).1=true∧encO (decO B b).1=b:=by
 unfold decO at h ⊢
 by_cases hd:decB (rdO B b)=true
 ·rw [if_pos hd] at h ⊢
  dsimp only
  unfold decB at hd
  simp only [Bool.and_eq_true,Bool.not_eq_true',List.isEmpty_iff] at hd
  obtain ⟨⟨h1,h2⟩,h3⟩:=hd
  refine ⟨h3,?_⟩
  have hv:Vl ((b,false):St):=⟨hb,fun h=>by cases h⟩
  have s1:=qbd B.k hv
  have s2:=qbd B.r s1.1
  have s3:=qbd B.n s2.1
  have s4:=qbd B.t s3.1
  have hs:=((s1.trans s2).trans s3).trans s4
  have hf:=qso B (told (rdH B b).1.k) (rdH B b) (qdc _) (qro _) hs.1
  have hc:=jbz B (told (rdH B b).1.k) (rdH B b) (qdc _)
  have:=(hs.trans hf.2.2).2 h1
  unfold encO
  rw [show (rdO B b).1.k=(rdH B b).1.k from hc.1,show (rdO B b).1.ir=(rdH B b).1.ir from hc.2.1,show (rdO B b).1.im=(rdH B b).1.im from hc.2.2.1,show (rdO B b).1.t=(rdH B b).1.t from hc.2.2.2]
  have e:=this.2
  dsimp only at e
  rw [show ((told (rdH B b).1.k).foldl (fun p f=>rdF B f p) (rdH B b)).2.1=[] from h2,List.append_nil] at e
  exact e.symm
 ·rw [if_neg hd] at h;cases h
theorem qwe {B B':Bnd}(hB:B.ok) (hB':B'.ok) {b:List Int}(hb:K.Byt b):decO B b=decO B' b:=by
 cases h:(decO B b).2 with
 | true =>
  obtain ⟨h1,h2⟩:=qhy B hb h
  have:=qjs hB' h1
  rw [h2] at this
  rw [this]
  exact Prod.ext rfl h
 | false =>
  cases h':(decO B' b).2 with
  | true =>
   obtain ⟨h1,h2⟩:=qhy B' hb h'
   have:=qjs hB h1
   rw [h2] at this
   rw [this] at h
   cases h
  | false =>
   unfold decO at h h' ⊢
   split at h
   ·cases h
   ·split at h'
    ·cases h'
    ·rename_i x y
     rw [if_neg x,if_neg y]
def Bnd.own:Bnd:=⟨6,1099511627776,15,1048576,63,32,64,64⟩
def Bnd.ref:Bnd:=⟨281474976710656,281474976710656,281474976710656,281474976710656,281474976710656,281474976710656,281474976710656,281474976710656⟩
theorem jac:Bnd.own.ok:=by unfold Bnd.ok Bnd.own;decide
theorem ref_ok:Bnd.ref.ok:=by unfold Bnd.ok Bnd.ref;decide
abbrev opl (o:Opn) (v:Value):Array Value :=
 #[.int .i64 o.k,.int .i64 o.ir,.int .i64 o.im,.int .i64 o.t,.int .i64 o.br,.int .i64 o.bm,.int .i64 o.pr,.int .i64 o.pm,.string o.key,.int .i64 o.sr,.int .i64 o.sm,.int .i64 o.lr,.int .i64 o.lm,.int .i64 o.li,.int .i64 o.gr,.int .i64 o.gm,.int .i64 o.gi,.string o.text,v,.bool o.flag]
abbrev opv (o:Opn) (v:Value):Value:=.agg (opl o v)
abbrev opo (o:Opn) (v:Value):Obj:=.cells (opl o v) 74
def Ob (w:World) (b:Nat) (o:Opn) (v:Value):Prop:=w.heap[b]?=some (opo o v)
theorem Ob.new (w:World) (o:Opn) (v:Value):Ob (w.alloc (opo o v)) w.heap.size o v:=heap_alloc_new w _
theorem Ob.lt {w:World}{b:Nat}{o:Opn}{v:Value}(h:Ob w b o v):b<w.heap.size:=(Array.getElem?_eq_some_iff.1 h).1
theorem Ob.below {w w':World}{b:Nat}{o:Opn}{v:Value}(h:Ob w b o v) (hb:Below w.heap.size w w'):Ob w' b o v:=by
 unfold Ob;rw [hb.block b h.lt];exact h
theorem Ob.cell {w:World}{b:Nat}{o:Opn}{v:Value}(h:Ob w b o v) (j:Nat):w.cell? ⟨b,j,none⟩=(opl o v)[j]?:=cell_of_row w b j _ _ _ h
theorem Ob.frozen {w:World}{b:Nat}{o:Opn}{v:Value}(h:Ob w b o v) (j:Nat):w.frozen? ⟨b,j,none⟩=false:=frozen_of_row w b j _ _ h
structure Oc (w:World) (b:Nat) (o:Opn) (v:Value):Prop where
 c0:w.cell? ⟨b,0,none⟩=some (.int .i64 o.k)
 c1:w.cell? ⟨b,1,none⟩=some (.int .i64 o.ir)
 c2:w.cell? ⟨b,2,none⟩=some (.int .i64 o.im)
 c3:w.cell? ⟨b,3,none⟩=some (.int .i64 o.t)
 c4:w.cell? ⟨b,4,none⟩=some (.int .i64 o.br)
 c5:w.cell? ⟨b,5,none⟩=some (.int .i64 o.bm)
 c6:w.cell? ⟨b,6,none⟩=some (.int .i64 o.pr)
 c7:w.cell? ⟨b,7,none⟩=some (.int .i64 o.pm)
 c8:w.cell? ⟨b,8,none⟩=some (.string o.key)
 c9:w.cell? ⟨b,9,none⟩=some (.int .i64 o.sr)
 c10:w.cell? ⟨b,10,none⟩=some (.int .i64 o.sm)
 c11:w.cell? ⟨b,11,none⟩=some (.int .i64 o.lr)
 c12:w.cell? ⟨b,12,none⟩=some (.int .i64 o.lm)
 c13:w.cell? ⟨b,13,none⟩=some (.int .i64 o.li)
 c14:w.cell? ⟨b,14,none⟩=some (.int .i64 o.gr)
 c15:w.cell? ⟨b,15,none⟩=some (.int .i64 o.gm)
 c16:w.cell? ⟨b,16,none⟩=some (.int .i64 o.gi)
 c17:w.cell? ⟨b,17,none⟩=some (.string o.text)
 c18:w.cell? ⟨b,18,none⟩=some v
 c19:w.cell? ⟨b,19,none⟩=some (.bool o.flag)
theorem Ob.cells {w:World}{b:Nat}{o:Opn}{v:Value}(h:Ob w b o v):Oc w b o v :=
 ⟨h.cell 0,h.cell 1,h.cell 2,h.cell 3,h.cell 4,h.cell 5,h.cell 6,h.cell 7,h.cell 8,h.cell 9,h.cell 10,h.cell 11,h.cell 12,h.cell 13,h.cell 14,h.cell 15,h.cell 16,h.cell 17,h.cell 18,h.cell 19⟩
theorem Ob.load {w:World}{b:Nat}{o:Opn}{v:Value}(h:Ob w b o v):(loadVar 74 ⟨b,0,none⟩).run Tryz.prog w=.ok (opv o v) w :=
 run_loadVar_row w b 74 74 (opl o v) (0,0) _ h Tryz.underlying74 rfl (by kernel_rfl)
theorem qae {ops:Array Oper}{rest:List Oper}{p:Oper}{a:Act}{w:World}{Q:Exit→Act→World→Prop}(hgd:p.guard=none) (x:Operand) (ho:p.op=.load 74 x)
  (b:Nat) (hx:a.eval x=.pointer (some ⟨b,0,none⟩)) (o:Opn) (v:Value) (h:Ob w b o v)
  (hk:wpList Tryz.prog ops Q rest (a.put p.dst (opv o v)) w):wpList Tryz.prog ops Q (p::rest) a w :=
 wpList_load_row hgd 74 x ho b hx 74 (opl o v) (0,0) _ h Tryz.underlying74 rfl (by kernel_rfl) hk
def Wr (B:Nat) (w:World) (b:Nat) (v:Value) (xs:List Int):Prop :=
 w.heap[b]?=some (.cells #[v] 133 (0,0))∧w.ownsRow B 5 1 v xs.length (cs xs)∧∀ x ∈ xs,0≤x∧x<256
def Wx (b:Nat) (v v':Value) (w w':World):Prop :=
 Fr (fun k=>k=b∨v.ownBlock=some k) w w'∧(v'.ownBlock=v.ownBlock∨∃ k,v'.ownBlock=some k∧w.heap.size≤k)
theorem Wx.refl (b:Nat) (v:Value) (w:World):Wx b v v w w:=⟨Fr.refl _ _,.inl rfl⟩
theorem Wx.of_below {b:Nat}{v:Value}{w w':World}(h:Below w.heap.size w w'):Wx b v v w w':=⟨Fr.of_below h,.inl rfl⟩
theorem Wx.size {b:Nat}{v v':Value}{w w':World}(h:Wx b v v' w w'):w.heap.size≤w'.heap.size:=h.1.size
theorem Wx.trans {b:Nat}{u v x:Value}{w w1 w2:World}(h:Wx b u v w w1) (k:Wx b v x w1 w2):Wx b u x w w2:=by
 refine ⟨h.1.trans k.1 ?_,?_⟩
 ·intro i hi hs
  rcases hs with hs | hs
  ·exact .inl hs
  ·rcases h.2 with e | ⟨j,e,hj⟩
   ·rw [e] at hs;exact .inr hs
   ·rw [e] at hs
    simp only [Option.some.injEq] at hs
    omega
 ·have:=h.1.size
  rcases k.2 with e | ⟨j,e,hj⟩
  ·rw [e];exact h.2
  ·exact .inr ⟨j,e,by omega⟩
theorem Wx.block {b:Nat}{v v':Value}{w w':World}(h:Wx b v v' w w') {k:Nat}(hk:k<w.heap.size) (hb:k≠b) (hv:v.ownBlock≠some k):w'.heap[k]?=w.heap[k]?:=h.1.block k hk (fun h=>h.elim hb hv)
theorem Wr.lt {B:Nat}{w:World}{b:Nat}{v:Value}{xs:List Int}(h:Wr B w b v xs):b<w.heap.size:=(Array.getElem?_eq_some_iff.1 h.1).1
theorem Wr.far {B:Nat}{w:World}{b:Nat}{v:Value}{xs:List Int}(h:Wr B w b v xs) {k:Nat}{c:Array Value}{T:TypeId}{fr:Nat × Nat}(hk:w.heap[k]?=some (.cells c T fr)) (hT:T≠5):v.ownBlock≠some k:=by
 intro e
 rcases h.2.1.2 with ⟨rfl,_⟩ | ⟨g,cap,cur,rfl,_,hg,_⟩
 ·cases e
 ·simp [Value.ownBlock] at e
  subst e
  rw [hg] at hk
  simp at hk
  exact hT hk.2.1.symm
theorem Wr.below {B:Nat}{w w':World}{b:Nat}{v:Value}{xs:List Int}(h:Wr B w b v xs) (hb:Below w.heap.size w w'):Wr B w' b v xs :=
 ⟨by rw [hb.block b h.lt];exact h.1,qau h.2.1 hb,h.2.2⟩
theorem Wr.put {B:Nat}{w w':World}{b:Nat}{v v':Value}{xs ys:List Int}(h:Wr B w b v xs) (hown:w'.ownsRow B 5 1 v' (xs++ys).length (cs (xs++ys))) (hg:w.grownBy w' v.ownBlock) (hy:∀ x ∈ ys,0≤x∧x<256)
  (hv:v'.ownBlock=v.ownBlock∨v'.ownBlock=some w.heap.size):Wr B (w'.setCell ⟨b,0,none⟩ v') b v' (xs++ys)∧Wx b v v' w (w'.setCell ⟨b,0,none⟩ v'):=by
 have hne:=h.far h.1 (by decide)
 have hb':w'.heap[b]?=some (.cells #[v] 133 (0,0)):=by rw [hg.block b h.lt (Ne.symm hne)];exact h.1
 have hne':v'.ownBlock≠some b:=by
  rcases hv with e | e
  ·rw [e];exact hne
  ·rw [e]
   have:=h.lt
   simp
   omega
 refine ⟨⟨by rw [heap_setCell_same w' b 0 _ _ v' hb'];simp,ownsRow_setCell_other hown hne' _,?_⟩,?_,?_⟩
 ·intro x hx
  rcases List.mem_append.1 hx with hx | hx
  ·exact h.2.2 x hx
  ·exact hy x hx
 ·exact (Fr.of_grown hg (fun k e=>.inr e)).trans ((Fr.of_set w' b 0 v').mono (fun k e=>.inl e)) (fun _ _ h=>h)
 ·rcases hv with e | e
  ·exact .inl e
  ·exact .inr ⟨_,e,Nat.le_refl _⟩
theorem Wr.cell {B:Nat}{w:World}{b:Nat}{v:Value}{xs:List Int}(h:Wr B w b v xs):w.cell? ⟨b,0,none⟩=some v∧w.frozen? ⟨b,0,none⟩=false∧∃ a c,v=.slice a xs.length c∧xs.length≤c:=by
 refine ⟨by rw [cell_of_row w b 0 _ _ _ h.1];rfl,frozen_of_row w b 0 _ _ h.1,qbb h.2.1⟩
def Num49 (n:Int):Prop:=0≤n∧n<562949953421312
theorem qlz (ns:List Int):(ns.flatMap M.enc).length≤7*ns.length:=by
 induction ns with
 | nil=>simp
 | cons n ns ih =>
  rw [List.flatMap_cons,List.length_append,M.enc_length,List.length_cons]
  have:=(M.sz_pos n).2
  omega
theorem qvy (ns:List Int) (k:Nat) (hk:k<ns.length):(ns.take (k+1)).flatMap M.enc=(ns.take k).flatMap M.enc++M.enc ns[k]:=by
 rw [List.take_succ_eq_append_getElem hk,List.flatMap_append]
 simp
set_option maxHeartbeats 2000000 in
theorem qpc (B b:Nat) (v:Value) (xs ns:List Int) (g:Nat) (w:World) (h:Wr B w b v xs) (hB:B≤w.heap.size) (hns:∀ n ∈ ns,Num49 n) (hlen:xs.length+7*ns.length≤140737488355328) (hpos:0<ns.length)
  (hg:w.heap[g]?=some (.cells (ns.map (Value.int .i64)).toArray 3 (0,0))) :
  Calls Tryz.prog 101 #[.pointer (some ⟨b,0,none⟩),.slice (some ⟨g,0,none⟩) ns.length ns.length] w fun e w' =>
   e=.returned (.tuple #[])∧∃ v',Wr B w' b v' (xs++ns.flatMap M.enc)∧Wx b v v' w w':=by
 obtain ⟨n,hn⟩:∃ n,ns.length=n:=⟨_,rfl⟩
 have HN:=hid hn
 have HW:=hid h
 have HG:=hid hg
 have HS:=hid hns
 have HGL:g<w.heap.size:=(Array.getElem?_eq_some_iff.1 hg).1
 have HGB:g≠b:=by intro e;subst e;rw [h.1] at hg;simp at hg
 have HGV:=hid (h.far hg (by decide))
 rw [hn] at hlen hpos ⊢
 clear hn h hg hns
 go_enter Tryz.func101,Tryz.ntmps101
 go_wp2
 go_loopw [10] (fun i wr=>∃ (k:Nat) (v':Value),k≤n∧i=.int .i64 k∧Wr B wr b v' (xs++(ns.take k).flatMap M.enc)∧Wx b v v' w wr) (fun i _=>n - (intOf i).toNat)
 case atStart=>exact ⟨0,v,Nat.zero_le _,rfl,by simpa using HW.out,Wx.refl _ _ _⟩
 case round =>
  obtain ⟨k,v1,hk,rfl,hw1,hx1⟩:=hrel
  have HX1:=hid hx1
  obtain ⟨ys,hys⟩:∃ ys,xs++(ns.take k).flatMap M.enc=ys:=⟨_,rfl⟩
  rw [hys] at hw1
  have HY:=hid hys
  have HW1:=hid hw1
  clear hx1 hw1 hys
  by_cases hlt:k<n
  ·have hkl:k<ns.length:=by rw [HN.out];exact hlt
   have hg1:wr.heap[g]?=some (.cells (ns.map (Value.int .i64)).toArray 3 (0,0)):=by rw [HX1.out.block HGL HGB HGV.out];exact HG.out
   have g1:wr.cell? ⟨g,k,none⟩=some (.int .i64 ns[k]):=by
    rw [cell_of_row wr g k _ _ _ hg1]
    simp [hkl]
   obtain ⟨x,hx⟩:∃ x,ns[k]=x:=⟨_,rfl⟩
   have hx49:Num49 x:=by rw [←hx];exact HS.out _ (List.getElem_mem hkl)
   rw [hx] at g1
   have HX:=hid hx
   have HX49:=hid hx49
   have b1':(k:Int)<(n:Int):=by omega
   clear hx hg1 hx49
   go_wp2_with fail
   refine (qup x _ HX49.out.1 HX49.out.2).mono ?_
   rintro e w2 ⟨u,rfl,hu,hb2⟩
   have HW2:=hid (HW1.out.below hb2)
   have HX2:=hid (HX1.out.trans (Wx.of_below (v:=v1) (b:=b) hb2))
   have HU:=hid hu
   have hsz:w.heap.size≤w2.heap.size:=HX2.out.size
   have hlx:ys.length+(M.enc x).length≤140737488355328:=by
    have:=qlz (ns.take k)
    rw [←HY.out]
    have:=(M.sz_pos x).2
    have:=HN.out
    rw [List.length_append,M.enc_length]
    rw [List.length_take] at *
    omega
   obtain ⟨hc,hfz,a1,c1,rfl,_⟩:=HW2.out.cell
   clear hb2 hu g1
   go_wp2_with (at_builtin;refine qag rfl _ _ rfl B _ _ ys rfl HW2.out.2.1 _ (M.enc x) rfl HU.out hlx (by omega) ?_)
   intro v3 w3 hown3 hg3 hv3
   rw [←List.length_append,←List.map_append] at hown3
   have hp:=HW2.out.put hown3 hg3 (M.enc_byte x HX49.out.1 HX49.out.2) hv3
   have HP:=hid hp
   obtain ⟨a3,c3,rfl,_⟩:=qbb hown3
   simp only [List.length_append] at HP
   have hc3:w3.cell? ⟨b,0,none⟩=some (.slice a1 ys.length c1):=hg3.cell hc (Ne.symm (HW2.out.far HW2.out.1 (by decide)))
   have hfz3:w3.frozen? ⟨b,0,none⟩=false:=by rw [World.frozen?_of_block (w:=w2) (hg3.block b HW2.out.lt (Ne.symm (HW2.out.far HW2.out.1 (by decide))))];exact hfz
   clear hp hown3 hg3 hv3 hc hfz
   go_wp2
   go_roundw
   case rel =>
    refine ⟨k+1,_,by omega,by go_num,?_,HX2.out.trans HP.out.2⟩
    rw [qvy ns k hkl,HX.out,←List.append_assoc,HY.out]
    exact HP.out.1
   case measure=>simp [intOf];omega
  ·have e1:k=n:=by omega
   go_wp2
   go_end0
   refine ⟨rfl,v1,?_,HX1.out⟩
   have:=HW1.out
   rw [←HY.out,List.take_of_length_le (by have:=HN.out;omega)] at this
   exact this
abbrev rdv (c:Nat):Value:=.agg #[.pointer (some ⟨c,0,none⟩)]
abbrev rdo (c:Nat):Obj:=.cells #[.pointer (some ⟨c,0,none⟩)] 126
theorem Bs.set {w:World}{u:Value}{xs:List Int}(h:Bs w u xs) {b i:Nat}{z:Value}(hz:w.cell? ⟨b,i,none⟩=some z) (hn:∀ x,z≠.int .u8 x) (v:Value):Bs (w.setCell ⟨b,i,none⟩ v) u xs:=by
 obtain ⟨a,c,h1,h2,h3,h4,h5,h6⟩:=h
 refine ⟨a,c,h1,h2,h3,h4,fun j hj=>?_,h6⟩
 obtain ⟨b',off,e1,e2⟩:=h5 j hj
 refine ⟨b',off,e1,?_⟩
 by_cases hb:b'=b∧off+j=i
 ·obtain ⟨rfl,hoff⟩:=hb
  rw [hoff] at e2
  rw [hz] at e2
  exact absurd (Option.some.inj e2) (hn _)
 ·have hne:(⟨b,i,none⟩:Addr)≠⟨b',off+j,none⟩:=by
   intro e
   simp only [Addr.mk.injEq,and_true] at e
   exact hb ⟨e.1.symm,e.2.symm⟩
  rw [World.cell?_setCell_other _ _ _ _ hne]
  exact e2
theorem Cur.set {T:Nat}{w:World}{c:Nat}{xs:List Int}{lost:Bool}(h:Cur T w c xs lost) {b i:Nat}{z:Value}(hbc:b≠c) (hz:w.cell? ⟨b,i,none⟩=some z) (hn:∀ x,z≠.int .u8 x) (v:Value):Cur T (w.setCell ⟨b,i,none⟩ v) c xs lost:=by
 obtain ⟨u,h1,h2⟩:=h
 exact ⟨u,by rw [heap_setCell_other w ⟨b,i,none⟩ c v (fun e=>hbc e.symm)];exact h1,h2.set hz hn v⟩
theorem Fr.rows {S:Nat→Prop}{w w':World}(h:Fr S w w') {k:Nat}{c:Array Value}{T:TypeId}{f:Nat × Nat}(hk:w.heap[k]?=some (.cells c T f)) (hs:¬ S k):w'.heap[k]?=some (.cells c T f):=by
 rw [h.block k (Array.getElem?_eq_some_iff.1 hk).1 hs];exact hk
theorem Fr.grown {w w':World}{b:Nat}(h:w.grownBy w' (some b)):Fr (fun k=>k=b) w w':=Fr.of_grown h (fun k e=>by simpa using e.symm)
theorem qax {w w':World}{b k:Nat}{c:Array Value}{T:TypeId}{f:Nat × Nat}(h:w.grownBy w' (some b)) (hk:w.heap[k]?=some (.cells c T f)) (hs:k≠b):w'.heap[k]?=some (.cells c T f):=(Fr.grown h).rows hk hs
theorem set_row {w:World}{b i:Nat}{cs:Array Value}{T:TypeId}(h:w.heap[b]?=some (.cells cs T (0,0))) (v:Value):(w.setCell ⟨b,i,none⟩ v).heap[b]?=some (.cells (cs.setIfInBounds i v) T (0,0)):=heap_setCell_same w b i cs T v h
theorem Cur.set_row {U:Nat}{w:World}{c:Nat}{xs:List Int}{lost:Bool}(h:Cur U w c xs lost) {b i:Nat}{cs:Array Value}{T:TypeId}(hr:w.heap[b]?=some (.cells cs T (0,0))) (hbc:b≠c) (hi:∃ z,cs[i]?=some z∧∀ x,z≠.int .u8 x) (v:Value):Cur U (w.setCell ⟨b,i,none⟩ v) c xs lost:=by
 obtain ⟨z,h1,h2⟩:=hi
 exact h.set hbc (by rw [cell_of_row w b i _ _ _ hr];exact h1) h2 v
theorem Fr.set {S:Nat→Prop}{a w:World}(h:Fr S a w) {b:Nat}(i:Nat) (v:Value) (hb:a.heap.size≤b∨S b):Fr S a (w.setCell ⟨b,i,none⟩ v) :=
 h.trans (Fr.of_set w b i v) (fun k hk e=>by subst e;rcases hb with hb | hb;omega;exact hb)
abbrev Cu (w:World) (c:Nat) (s:St):Prop:=Cur 141 w c s.1 s.2
theorem qjz (c:Nat) (s:St) (most:Int) (w:World) (h:Cu w c s) :
  Calls Tryz.prog 90 #[.pointer (some ⟨c,0,none⟩),.int .i64 most] w fun e w' =>
   e=.returned (.int .i64 (rn most s).1)∧Cu w' c (rn most s).2∧w.grownBy w' (some c):=qlv c s.1 s.2 most w h
theorem qqb (c:Nat) (s:St) (most:Int) (w:World) (h:Cu w c s) :
  Calls Tryz.prog 93 #[.pointer (some ⟨c,0,none⟩),.int .i64 most] w fun e w' =>
   e=.returned (.string (rt most s).1)∧Cu w' c (rt most s).2∧w.grownBy w' (some c):=qxc c s.1 s.2 most w h
set_option maxHeartbeats 1000000 in
theorem qkl (c:Nat) (s:St) (w:World) (h:Cu w c s) :
  Calls Tryz.prog 115 #[rdv c] w fun e w' =>
   e=.returned (idv (rn 15 s).1 (rn 1048576 (rn 15 s).2).1)∧Cu w' c (rn 1048576 (rn 15 s).2).2∧Fr (fun k=>k=c) w w':=by
 have hlt:=h.lt
 have HA:=hid (bt (ba w (rdo c)) (ba _ (ido 69 0 0)))
 have HC:=hid (h.below HA.out)
 have r1:=heap_alloc2_old w (rdo c) (ido 69 0 0)
 have r2:=heap_alloc2_new w (rdo c) (ido 69 0 0)
 have R1:=hid r1
 have R2:=hid r2
 obtain ⟨p1,hp1⟩:∃ p1,rn 15 s=p1:=⟨_,rfl⟩
 have N1:=hid (fun W=>qjz c s 15 W)
 rw [hp1] at N1 ⊢
 obtain ⟨p2,hp2⟩:∃ p2,rn 1048576 p1.2=p2:=⟨_,rfl⟩
 have N2:=hid (fun W=>qjz c p1.2 1048576 W)
 rw [hp2] at N2 ⊢
 clear h r1 r2 hp1 hp2
 go_enter Tryz.func115,Tryz.ntmps115
 go_wp2_with fail
 refine (N1.out _ HC.out).mono ?_
 rintro e w1 ⟨rfl,hc1,hg1⟩
 have H1:=hid (qax hg1 R1.out (by omega))
 have H2:=hid (qax hg1 R2.out (by omega))
 have HC1:=hid hc1
 have HG1:=hid hg1
 have q1:=cell_of_row w1 w.heap.size 0 _ _ _ H1.out
 simp at q1
 clear hc1 hg1
 go_wp2_with fail
 refine (N2.out _ HC1.out).mono ?_
 rintro e w2 ⟨rfl,hc2,hg2⟩
 have H3:=hid (qax hg2 H2.out (by omega))
 have HC2:=hid hc2
 have HG2:=hid hg2
 have q2:w2.cell? ⟨w.heap.size+1,0,none⟩=some (.int .i64 0):=cell_of_row w2 (w.heap.size+1) 0 _ _ _ H3.out
 have q3:w2.cell? ⟨w.heap.size+1,1,none⟩=some (.int .i64 0):=cell_of_row w2 (w.heap.size+1) 1 _ _ _ H3.out
 have f2:=frozen_of_row w2 (w.heap.size+1) 0 _ _ H3.out
 have f3:=frozen_of_row w2 (w.heap.size+1) 1 _ _ H3.out
 clear hc2 hg2 q1
 go_wp2
 have H4:=set_row (i:=0) H3.out (.int .i64 p1.1)
 have H5:=set_row (i:=1) H4 (.int .i64 p2.1)
 refine bodyPost_ret (results_cell_row rfl _ _ (w.heap.size+1) 69 #[.int .i64 p1.1,.int .i64 p2.1] (0,0) _ rfl H5 Tryz.underlying69 rfl (by kernel_rfl)) rfl ?_
 refine ⟨rfl,?_,?_⟩
 ·exact (HC2.out.set_row H3.out (by omega) ⟨_,rfl,fun x=>by simp⟩ _).set_row H4 (by omega) ⟨_,rfl,fun x=>by simp⟩ _
 ·have h0:Fr (fun k=>k=c) w w2:=((Fr.of_below HA.out).trans (Fr.grown HG1.out) (fun _ _ h=>h)).trans (Fr.grown HG2.out) (fun _ _ h=>h)
  exact (h0.set 0 _ (.inl (by omega))).set 1 _ (.inl (by omega))
end Go.Proofs.YtkcjkncpaopjbaaGreatDoor
