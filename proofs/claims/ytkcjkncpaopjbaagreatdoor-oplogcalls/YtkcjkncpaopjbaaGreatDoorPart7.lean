/-
  Parts of the proof, one behind the other; what each proves stands at its head.
-/
import Derived.Test.YtkcjkncpaopjbaaGreatDoorPart6
import Derived.Test.YtkcjkncpaopjbaaGreatDoorPart2
import Derived.Laws.AppendOwnNone
import Derived.Test.YtkcjkncpaopjbaaGreatDoorRows
import Derived.Test.YtkcjkncpaopjbaaGreatDoorPart5
import Derived.Deep.Matrix
import Derived.SizedLaws
import Derived.Maps.AppendAt

namespace Go.Proofs.YtkcjkncpaopjbaaGreatDoor
open Go.RowKit
set_option linter.unusedVariables false
set_option maxRecDepth 100000
theorem qgr {xs:List Int}{k:Nat}(h:k<xs.length) (n:Nat):C.run n (xs.take (k+1))=C.eat (C.run n (xs.take k)) (xs.getD k 0):=by
 rw [List.take_succ_eq_append_getElem h,C.run_snoc]
 congr 1
 simp [List.getD,h]
theorem quad (n r:Nat) (hn:n<4294967296) (hr:n % 16=r):bits .xor .u32 ((n:Int) / 16) ((C.steps 4 r:Nat):Int)=((C.steps 4 n:Nat):Int):=by
 subst hr
 have h:=qkz (n / 16) (C.steps 4 (n % 16)) (by omega) (C.steps_lt 4 (by omega))
 rw [C.nibble] at h
 rw [←h]
 rfl
theorem qrm {n:Nat}(h:n<4294967296):wrap64 (n:Int)=(n:Int):=by unfold wrap64;omega
set_option maxHeartbeats 1000000 in
theorem qix (v:Value) (xs:List Int) (w:World) (h:Bs w v xs) :
  Calls Tryz.prog 107 #[v] w fun e w'=>e=.returned (.int .i64 (C.sum xs:Nat))∧Below w.heap.size w w':=by
 have hr:C.Bytes xs:=h.range
 have hl:=h.len
 unfold maxLen at hl
 have hB:=hid h
 have hv:∃ a c,v=.slice a xs.length c:=by
  obtain ⟨a,c,e,_⟩:=h
  exact ⟨a,c,e⟩
 obtain ⟨a,c,rfl⟩:=hv
 clear h
 have HR:=hid hr
 clear hr
 go_enter Tryz.func107,Tryz.ntmps107
 go_wp2_with fail
 refine (qvp _).mono ?_
 rintro e w1 ⟨rfl,b1⟩
 rw [qok]
 go_wp2
 rw [←qok]
 have b2:=ba w1 (.cells (tabA 16) 155)
 have hB2:=hid (hB.out.below (bt b1 b2))
 obtain ⟨n,hn⟩:∃ n,xs.length=n:=⟨_,rfl⟩
 rw [hn] at hl hB2 ⊢
 have HN:=hid hn
 clear hn hB
 go_loop [4,10] (fun s i=>∃ k:Nat,k≤n∧i=.int .i64 k∧s=.int .u32 (C.run 4294967295 (xs.take k):Nat)) (fun _ i=>n - (intOf i).toNat)
 case atStart=>exact ⟨0,Nat.zero_le _,rfl,rfl⟩
 case round =>
  obtain ⟨k,hk,rfl,rfl⟩:=hrel
  have hN:=C.run_lt (n:=4294967295) (l:=xs.take k) (by decide) (C.Bytes.take HR.out k)
  by_cases hlt:k<n
  ·have hlt':(k:Int)<(n:Int):=by omega
   have hst:=qgr (xs:=xs) (k:=k) (by rw [HN.out];exact hlt) 4294967295
   have hx:=C.getD_byte HR.out k
   obtain ⟨b,off,c',e1,_,_,hc⟩:=hB2.out.inv (by rw [HN.out];omega)
   simp only [Value.slice.injEq] at e1
   obtain ⟨rfl,-,rfl⟩:=e1
   have hck:=hc k (by rw [HN.out];exact hlt)
   clear hc
   obtain ⟨N,hN'⟩:∃ N,C.run 4294967295 (xs.take k)=N:=⟨_,rfl⟩
   rw [hN'] at hN hst ⊢
   obtain ⟨x,hx'⟩:∃ x,xs.getD k 0=x:=⟨_,rfl⟩
   rw [hx'] at hx hst hck
   obtain ⟨y,rfl⟩:=Int.eq_ofNat_of_zero_le hx.1
   have hy:y<256:=by omega
   have hxor:=qkz N y hN (by omega)
   have hM:=C.xor_lt hN (show y<4294967296 by omega)
   obtain ⟨M,hM'⟩:∃ M,N ^^^ y=M:=⟨_,rfl⟩
   rw [hM'] at hxor hM
   have HST:=hid hst
   have HM:=hid hM'
   clear hst hM' hN' hx' hx
   go_wp2
   go_loop [4,18] (fun s j=>∃ m:Nat,m≤2∧j=.int .i64 m∧s=.int .u32 (C.steps (4*m) M:Nat)) (fun _ j=>2 - (intOf j).toNat)
   case atStart=>exact ⟨0,by omega,rfl,rfl⟩
   case round =>
    obtain ⟨m,hm,rfl,rfl⟩:=hrel
    have hs:=C.steps_lt (4*m) hM
    have hsn:=C.steps_add (4*m) 4 M
    obtain ⟨s,hs'⟩:∃ s,C.steps (4*m) M=s:=⟨_,rfl⟩
    rw [hs'] at hs hsn ⊢
    by_cases hm2:m<2
    ·have hm2':(m:Int)<2:=by omega
     have HS:=hid hsn
     clear hsn hs'
     have hand:=qwp s hs
     obtain ⟨r,hr⟩:∃ r,s % 16=r:=⟨_,rfl⟩
     rw [hr] at hand
     have hr16:r<16:=by omega
     have hq:=quad s r hs hr
     have ht:=qtn 16 r hr16
     rw [if_pos hr16] at ht
     have hr16':(r:Int)<16:=by omega
     clear hr
     go_wp2
     go_round
     case rel=>exact ⟨m+1,by omega,by go_num,by rw [show 4*(m+1)=4*m+4 by omega,HS.out]⟩
     case measure=>simp [intOf];omega
    ·obtain rfl:m=2:=by omega
     have HS:=hid hs'
     clear hs' hsn
     go_wp2
     go_round
     case rel=>exact ⟨k+1,by omega,by go_num,by rw [HST.out,←HS.out,C.eat,Int.toNat_natCast,HM.out]⟩
     case measure=>simp [intOf];omega
  ·obtain rfl:k=n:=by omega
   have hs:C.sum xs=C.run 4294967295 (xs.take k) ^^^ 4294967295:=by
    rw [List.take_of_length_le (by rw [HN.out];exact Nat.le_refl _)];rfl
   obtain ⟨N,hN'⟩:∃ N,C.run 4294967295 (xs.take k)=N:=⟨_,rfl⟩
   rw [hN'] at hN hs ⊢
   have hx:=jbj N hN
   have hlt2:=C.xor_lt hN (show 4294967295<4294967296 by decide)
   rw [←hs] at hx hlt2
   clear hN' hs
   have HL:=hid hlt2
   clear hlt2
   go_wp2
   go_ret
   exact ⟨by show Ending.returned (.int .i64 (wrap64 (C.sum xs:Nat)))=_;rw [qrm HL.out],bt b1 b2⟩
set_option maxHeartbeats 400000 in
theorem qpn (v:Value) (xs:List Int) (w:World) (h:Bs w v xs) (hl:65536<xs.length) :
  Calls Tryz.prog 71 #[v] w fun e w'=>e=.returned (.tuple #[.slice none 0 0,.bool false])∧w=w':=by
 have hm:=h.len
 unfold maxLen at hm
 obtain ⟨a,c,rfl,_⟩:=h
 go_enter Tryz.func71,Tryz.ntmps71
 go_wp2
 go_ret2
 exact ⟨rfl,rfl⟩
set_option maxHeartbeats 1000000 in
theorem qjk (v:Value) (xs:List Int) (w:World) (h:Bs w v xs) (hl:xs.length≤65536) :
  Calls Tryz.prog 71 #[v] w fun e w'=>∃ v',e=.returned (.tuple #[v',.bool true]) ∧
   w'.ownsRow w.heap.size 5 1 v' (8+xs.length) (cs (C.frame xs))∧Below w.heap.size w w':=by
 have hB:=hid h
 have hr:=hid h.range
 have hv:∃ a c,v=.slice a xs.length c:=by
  obtain ⟨a,c,e,_⟩:=h
  exact ⟨a,c,e⟩
 obtain ⟨a,c,rfl⟩:=hv
 clear h
 have hfr:C.frame xs=C.le xs.length++C.le (C.sum xs)++xs:=by rw [C.frame,List.append_assoc]
 have HF:=hid hfr
 clear hfr
 have hs:=C.sum_lt hr.out
 obtain ⟨n,hn⟩:∃ n,xs.length=n:=⟨_,rfl⟩
 rw [hn] at hl hB HF ⊢
 have HN:=hid hn
 clear hn
 obtain ⟨i0,hi,hz0,hz1,hz2⟩:=info_parts qei
 have hnb:i0.bytes*(8+n)≤281474976710656:=by rw [hz2];omega
 have hnm:8+n≤maxLen:=by unfold maxLen;omega
 have hl':¬ (65536:Int)<(n:Int):=by omega
 go_enter Tryz.func71,Tryz.ntmps71
 go_wp2_with (at_make;refine wpList_make_own _ rfl (.const (.int .i64 0)) (.tmp 10) 36 rfl w.heap.size 5 i0 (.int .u8 0) 1 Tryz.underlying36 hi hz0 hz1 .i64 .i64 _ (8+n) rfl rfl (by simp) hnb hnm (Nat.le_refl _) ?_;intro w1 hown hgrow)
 have b1:Below w.heap.size w w1:=(Below.refl _ w).grown hgrow (Nat.le_refl _) (by intro k hk;cases hk)
 have hown':w1.ownsRow w.heap.size 5 1 (.slice (some ⟨w.heap.size,0,none⟩) 0 (8+n)) 0 (cs []):=hown
 clear hown hgrow hnb hnm
 refine (qjy _ [] 0 n w.heap.size _ hown' b1.size (by omega) (by omega) (by omega)).mono ?_
 rintro e w2 ⟨v2,rfl,hown2,b2⟩
 have b12:=b1.trans b2
 clear b1 b2 hown'
 go_wp2_with fail
 refine (qix _ xs _ (hB.out.below b12)).mono ?_
 rintro e w3 ⟨rfl,b3⟩
 have hown3:=qau hown2 b3
 have b13:Below w.heap.size w w3:=bt b12 b3
 clear hown2 b12 b3
 go_wp2_with fail
 refine (qjy _ _ _ (C.sum xs) w.heap.size _ hown3 b13.size (by omega) hs (by omega)).mono ?_
 rintro e w4 ⟨v4,rfl,hown4,b4⟩
 have b14:=b13.trans b4
 clear b13 b4 hown3
 have hB4:=hB.out.below b14
 cases a with
 | none =>
  obtain ⟨rfl,rfl,rfl⟩:=hB4.none_nil
  have H4:=hid hown4
  clear hown4
  go_wp2_with (at_builtin;refine wpList_append_own_none rfl (.tmp 20) (.tmp 21) 36 rfl w.heap.size 5 i0 1 Tryz.underlying36 hi _ _ _ rfl H4.out rfl ?_)
  go_ret2
  refine ⟨_,rfl,?_,b14⟩
  have:=H4.out
  rw [HF.out]
  simpa using this
 | some A =>
  have hcell:=hid (cells_at hB4)
  clear hB4
  go_wp2_with (at_builtin;refine wpList_append_own _ rfl (.tmp 20) (.tmp 21) 36 rfl w.heap.size 5 i0 (.int .u8 0) 1 1 Tryz.underlying36 hi hz0 hz1 hz2 rfl (by decide) _ _ _ rfl hown4 A n c (cs xs) rfl ?c0 hcell.out (ints_oneCell .u8 xs) ?c3 ?c4 b14.size ?_)
  case c0=>simp [HN.out]
  case c3=>unfold maxLen;omega
  case c4=>omega
  intro v' w5 hown5 hgrow _
  have b5:Below w.heap.size w w5:=b14.grown hgrow b14.size (fun k hk=>(hown4.lt k hk).1)
  have H5:Hid (w5.ownsRow w.heap.size 5 1 v' (8+n) (cs (C.frame xs))):=by
   rw [HF.out]
   show w5.ownsRow w.heap.size 5 1 v' (8+n) _
   have:=hown5
   rw [show 0+4+4+n=8+n by omega] at this
   simpa [cs] using this
  clear hown5 hgrow hown4 b14
  go_wp2
  go_ret2
  exact ⟨_,rfl,H5.out,b5⟩
theorem qyy (v:Value) (xs:List Int) (w:World) (h:Bs w v xs) (hl:xs.length≤65536) :
  Calls Tryz.prog 71 #[v] w fun e w'=>∃ v',e=.returned (.tuple #[v',.bool true])∧Bs w' v' (C.frame xs)∧Below w.heap.size w w' :=
 (qjk v xs w h hl).mono fun _ _ ⟨v',he,ho,hb⟩=>⟨v',he,Bs.of_own ho (C.frame_bytes h.range),hb⟩
def part (xs:List Int):Nat→Int
 | 0=>0
 | k+1=>part xs k+xs.getD k 0*2 ^ (8*k)
theorem part_4 (xs:List Int):part xs 4=C.wi xs:=by
 simp only [part,C.wi]
 omega
theorem qyu (i:Nat) (hi:i≤54) (y x:Int) (hy₀:0≤y) (hy:y<2 ^ i) (hx₀:0≤x) (hx:x<256):bits .or .i64 y (x*2 ^ i)=y+x*2 ^ i:=by
 obtain ⟨a,rfl⟩:=Int.eq_ofNat_of_zero_le hx₀
 obtain ⟨b,rfl⟩:=Int.eq_ofNat_of_zero_le hy₀
 have ha:a<256:=by omega
 have hb:b<2 ^ i:=by exact_mod_cast hy
 have e:((a:Int)*2 ^ i)=((2 ^ i*a:Nat):Int):=by push_cast;rw [Int.mul_comm]
 have h1:2 ^ i≤2 ^ 54:=Nat.pow_le_pow_right (by decide) hi
 have h2:2 ^ i*a<2 ^ 62:=by
  have:2 ^ i*a≤2 ^ 54*a:=Nat.mul_le_mul_right a h1
  omega
 rw [e,(bits_nat .i64 62 (by decide) qkb b (2 ^ i*a) (by omega) h2).2,Nat.or_comm,←Nat.two_pow_add_eq_or_of_lt hb]
 omega
theorem qus {xs:List Int}(h:C.Bytes xs) {k:Nat}(hk:k<4):0≤part xs k∧part xs k<2 ^ (8*k):=by
 have h0:=C.getD_byte h 0
 have h1:=C.getD_byte h 1
 have h2:=C.getD_byte h 2
 have:k=0∨k=1∨k=2∨k=3:=by omega
 rcases this with rfl | rfl | rfl | rfl<;>simp only [part]<;>omega
theorem jbd {xs:List Int}(h:C.Bytes xs) {k:Nat}(hk:k<4):bits .or .i64 (part xs k) (wrap64 (xs.getD k 0*2 ^ (8*k)))=part xs k+xs.getD k 0*2 ^ (8*k):=by
 have hp:=qus h hk
 have hx:=C.getD_byte h k
 rw [show wrap64 (xs.getD k 0*2 ^ (8*k))=xs.getD k 0*2 ^ (8*k) by
  have:k=0∨k=1∨k=2∨k=3:=by omega
  unfold wrap64
  rcases this with rfl | rfl | rfl | rfl<;>omega]
 exact qyu (8*k) (by omega) _ _ hp.1 hp.2 hx.1 hx.2
set_option maxHeartbeats 1000000 in
theorem qgk (v:Value) (xs:List Int) (w:World) (h:Bs w v xs) (h4:4≤xs.length) :
  Calls Tryz.prog 112 #[v] w fun e w'=>e=.returned (.int .i64 (C.wi xs))∧w=w':=by
 have hr:C.Bytes xs:=h.range
 have hl:=h.len
 unfold maxLen at hl
 obtain ⟨b,off,c,rfl,_,_,hc⟩:=h.inv (by omega)
 obtain ⟨n,hn⟩:∃ n,xs.length=n:=⟨_,rfl⟩
 rw [hn] at hl h4 hc ⊢
 have HC:=hid hc
 have HR:=hid hr
 clear hr hn h hc
 go_enter Tryz.func112,Tryz.ntmps112
 go_wp2
 go_loop [3,5] (fun s i=>∃ k:Nat,k≤4∧i=.int .i64 k∧s=.int .i64 (part xs k)) (fun _ i=>4 - (intOf i).toNat)
 case atStart=>exact ⟨0,Nat.zero_le _,rfl,rfl⟩
 case round =>
  obtain ⟨k,hk,rfl,rfl⟩:=hrel
  by_cases hlt:k<4
  ·have hck:=HC.out k (by omega)
   have hx:=C.getD_byte HR.out k
   obtain ⟨x,hx'⟩:∃ x,xs.getD k 0=x:=⟨_,rfl⟩
   rw [hx'] at hx hck
   have hlt':(k:Int)<4:=by omega
   have hn4:(k:Int)<(n:Int):=by omega
   have hp:=qus HR.out hlt
   have hj:=hid (jbd HR.out hlt)
   go_wp2
   go_round
   case rel=>exact ⟨k+1,by omega,by go_num,by rw [part,←hj.out,hx']⟩
   case measure=>simp [intOf];omega
  ·obtain rfl:k=4:=by omega
   rw [part_4]
   go_wp2
   go_ret
   exact ⟨rfl,rfl⟩
def Ls (w:World) (v:Value) (xss:List (List Int)):Prop :=
 ∃ a c,v=.slice a xss.length c∧xss.length≤c∧c≤maxLen∧(a=none→c=0) ∧
  ∀ i,i<xss.length→∃ b off u,a=some ⟨b,off,none⟩∧w.cell? ⟨b,off+i,none⟩=some u∧Bs w u (xss.getD i [])
theorem Ls.nil (w:World):Ls w (.slice none 0 0) []:=⟨none,0,rfl,Nat.le_refl _,Nat.zero_le _,fun _=>rfl,fun i hi=>absurd hi (Nat.not_lt_zero _)⟩
theorem Ls.form {w:World}{v:Value}{xs:List (List Int)}(h:Ls w v xs):∃ a c,v=.slice a xs.length c:=by
 obtain ⟨a,c,e,_⟩:=h
 exact ⟨a,c,e⟩
theorem Ls.inv_nil {w:World}{v:Value}(h:Ls w v []):∃ a c,v=.slice a 0 c∧c≤maxLen∧(a=none→c=0):=by
 obtain ⟨a,c,h1,_,h3,h4,_⟩:=h
 exact ⟨a,c,h1,h3,h4⟩
theorem Ls.inv {w:World}{v:Value}{xss:List (List Int)}(h:Ls w v xss) (hx:0<xss.length) :
  ∃ b off c,v=.slice (some ⟨b,off,none⟩) xss.length c∧xss.length≤c∧c≤maxLen∧∀ i,i<xss.length→∃ u,w.cell? ⟨b,off+i,none⟩=some u∧Bs w u (xss.getD i []):=by
 obtain ⟨a,c,h1,h2,h3,_,h5⟩:=h
 obtain ⟨b,off,u,e1,_⟩:=h5 0 hx
 refine ⟨b,off,c,by rw [h1,e1],h2,h3,fun i hi=>?_⟩
 obtain ⟨b',off',u',e2,e3,e4⟩:=h5 i hi
 rw [e1] at e2
 simp only [Option.some.injEq,Addr.mk.injEq,and_true] at e2
 obtain ⟨rfl,rfl⟩:=e2
 exact ⟨u',e3,e4⟩
theorem qyw:(Tryz.prog.info? 36).map (fun i=>(i.zero,i.size,i.bytes))=some (some (.slice none 0 0),1,24):=by kernel_rfl
def Far (row:Option Nat) (u:Value) (l:List Int):Prop:=l≠[]→∀ x n c,u=.slice (some x) n c→some x.block≠row
theorem Bs.cell_lt {w:World}{u:Value}{l:List Int}(h:Bs w u l) (hl:l≠[]):∀ x n c,u=.slice (some x) n c→x.block<w.heap.size:=by
 intro x n c hu
 have hp:0<l.length:=by cases l with
  | nil=>exact absurd rfl hl
  | cons _ _=>simp
 obtain ⟨b,off,c',e,_,_,hc⟩:=h.inv hp
 have h0:=World.block_lt_of_cell? _ _ (hc 0 hp)
 rw [hu] at e
 simp only [Value.slice.injEq,Option.some.injEq] at e
 rw [e.1]
 exact h0
theorem Bs.grown {w w':World}{u:Value}{l:List Int}{row:Option Nat}(h:Bs w u l) (hg:w.grownBy w' row) (hf:Far row u l):Bs w' u l:=by
 by_cases hl:l=[]
 ·subst hl
  obtain ⟨a,c,e,h2,h3⟩:=h.inv_nil
  exact ⟨a,c,e,Nat.zero_le _,h2,h3,fun i hi=>absurd hi (Nat.not_lt_zero _),fun x hx=>by cases hx⟩
 ·obtain ⟨a,c,h1,h2,h3,h4,h5,h6⟩:=h
  refine ⟨a,c,h1,h2,h3,h4,fun i hi=>?_,h6⟩
  obtain ⟨b,off,e1,e2⟩:=h5 i hi
  refine ⟨b,off,e1,hg.cell e2 ?_⟩
  have:=hf hl ⟨b,off,none⟩ l.length c (by rw [h1,e1])
  exact this
def OL (w:World) (B:Nat) (v:Value) (fs:List (List Int)):Prop :=
 ∃ vs:List Value,w.ownsRow B 36 1 v fs.length vs∧∀ i,i<fs.length→∃ u,vs[i]?=some u∧Bs w u (fs.getD i [])∧Far v.ownBlock u (fs.getD i [])
theorem OL.made (w:World) (B:Nat) (hb:B≤w.heap.size):OL (w.alloc (.cells #[] 36)) B (.slice (some ⟨w.heap.size,0,none⟩) 0 0) [] :=
 ⟨[],World.ownsRow_made w #[] 0 hb (Nat.zero_le _) rfl,fun i hi=>absurd hi (Nat.not_lt_zero _)⟩
theorem OL.below {w w':World}{B:Nat}{v:Value}{fs:List (List Int)}(h:OL w B v fs) (hb:Below w.heap.size w w'):OL w' B v fs:=by
 obtain ⟨vs,h1,h3⟩:=h
 refine ⟨vs,qau h1 hb,fun i hi=>?_⟩
 obtain ⟨u,e1,e2,e3⟩:=h3 i hi
 exact ⟨u,e1,e2.below hb,e3⟩
theorem OL.ls {w:World}{B:Nat}{v:Value}{fs:List (List Int)}(h:OL w B v fs):Ls w v fs:=by
 obtain ⟨vs,h1,h3⟩:=h
 rcases h1.2 with ⟨rfl,h0⟩ | ⟨g,cap,cur,rfl,hb,hg,hnc,hcm,hcs,htake⟩
 ·have e:fs=[]:=List.eq_nil_of_length_eq_zero h0
  subst e
  exact Ls.nil w
 ·refine ⟨some ⟨g,0,none⟩,cap,rfl,hnc,hcm,(fun e=>by cases e),fun i hi=>?_⟩
  obtain ⟨u,e1,e2,_⟩:=h3 i hi
  refine ⟨g,0,u,rfl,?_,e2⟩
  rw [Nat.zero_add,h1.cellAt i (by omega)]
  exact e1
theorem OL.lt {w:World}{B:Nat}{v:Value}{fs:List (List Int)}(h:OL w B v fs):∀ k,v.ownBlock=some k→B≤k∧k<w.heap.size:=by
 obtain ⟨vs,h1,_⟩:=h
 exact h1.lt
theorem OL.form {w:World}{B:Nat}{v:Value}{fs:List (List Int)}(h:OL w B v fs):∃ a c,v=.slice a fs.length c:=by
 obtain ⟨vs,h1,_⟩:=h
 rcases h1.2 with ⟨rfl,h0⟩ | ⟨g,cap,cur,rfl,_⟩
 ·exact ⟨none,0,by rw [h0]⟩
 ·exact ⟨_,_,rfl⟩
theorem OL.snoc {w w':World}{B:Nat}{v v' u:Value}{fs:List (List Int)}{l:List Int}{vs:List Value}
  (hel:∀ i,i<fs.length→∃ u,vs[i]?=some u∧Bs w u (fs.getD i [])∧Far v.ownBlock u (fs.getD i [])) (hvs:vs.length=fs.length)
  (hu:Bs w u l) (hf:Far v.ownBlock u l)
  (ho:w'.ownsRow B 36 1 v' (fs.length+1) (vs++[u])) (hg:w.grownBy w' v.ownBlock) (hat:v'.ownBlock=v.ownBlock∨v'.ownBlock=some w.heap.size):OL w' B v' (fs++[l]):=by
 have far:∀ u l,Bs w u l→Far v.ownBlock u l→Far v'.ownBlock u l:=by
  intro u l h1 h2 hl x n c e
  rcases hat with h | h
  ·rw [h];exact h2 hl x n c e
  ·rw [h]
   have:=h1.cell_lt hl x n c e
   simp only [ne_eq,Option.some.injEq]
   omega
 refine ⟨vs++[u],by rw [List.length_append];exact ho,fun i hi=>?_⟩
 rw [List.length_append,List.length_singleton] at hi
 by_cases h:i<fs.length
 ·obtain ⟨u',e1,e2,e3⟩:=hel i h
  have eg:(fs++[l]).getD i []=fs.getD i []:=by simp [List.getD,List.getElem?_append,h]
  rw [eg]
  refine ⟨u',?_,e2.grown hg e3,far _ _ e2 e3⟩
  rw [List.getElem?_append_left (by omega)]
  exact e1
 ·have hi':i=fs.length:=by omega
  subst hi'
  have eg:(fs++[l]).getD fs.length []=l:=by simp [List.getD]
  rw [eg]
  refine ⟨u,?_,hu.grown hg hf,far _ _ hu hf⟩
  rw [←hvs]
  simp
end Go.Proofs.YtkcjkncpaopjbaaGreatDoor
