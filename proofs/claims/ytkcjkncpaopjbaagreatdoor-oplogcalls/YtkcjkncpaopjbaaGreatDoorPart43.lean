import Derived.Test.YtkcjkncpaopjbaaGreatDoorPart40
import Derived.Test.YtkcjkncpaopjbaaGreatDoorPart41
import Derived.Test.YtkcjkncpaopjbaaGreatDoorPart42
import Derived.Test.YtkcjkncpaopjbaaGreatDoorPart36
import Derived.Test.YtkcjkncpaopjbaaGreatDoorPart33
import Derived.Deep.CutRange
import Derived.Deep.CutBlock
namespace Go.Proofs.YtkcjkncpaopjbaaGreatDoor
open Go.RowKit
set_option linter.unusedVariables false
set_option maxRecDepth 100000
structure Lp (B C fb mb R:Nat) (r:Int) (qs:List Cao) (w:World) (k lb:Nat) (wr:World):Prop where
 it:∃ n fv vo ve s lz Fs l xs ys,Iw B C lb fb mb n R fv vo ve s lz r Fs l xs ys wr∧xs++ys=lby r Fs∧xs.length=n∧Fs.flatten.length≤totC (qs.take k)∧10≤n
 below:Below w.heap.size w wr
 base:w.heap.size≤B∧B≤C∧C≤wr.heap.size
abbrev Kc (w:World) (b:Nat) (q1 q2:Int) (u:Value):Prop:=w.heap[b]?=some (.cells #[.int .i64 q1,.int .i64 q2,u] 40 (0,0))
theorem Kc.lt {w:World}{b:Nat}{q1 q2:Int}{u:Value}(h:Kc w b q1 q2 u):b<w.heap.size:=(Array.getElem?_eq_some_iff.1 h).1
theorem Kc.below {w w':World}{b:Nat}{q1 q2:Int}{u:Value}(h:Kc w b q1 q2 u) (hb:Below w.heap.size w w'):Kc w' b q1 q2 u:=(hb.block b h.lt).trans h
theorem Kc.fr {S:Nat→Prop}{w w':World}{b:Nat}{q1 q2:Int}{u:Value}(h:Kc w b q1 q2 u) (hf:Fr S w w') (hs:¬ S b):Kc w' b q1 q2 u:=(hf.block b h.lt hs).trans h
theorem Kc.cells {w:World}{b:Nat}{q1 q2:Int}{u:Value}(h:Kc w b q1 q2 u):w.cell? ⟨b,0,none⟩=some (.int .i64 q1)∧w.cell? ⟨b,1,none⟩=some (.int .i64 q2)∧w.cell? ⟨b,2,none⟩=some u:=by
 refine ⟨?_,?_,?_⟩
 ·rw [cell_of_row w b 0 _ _ _ h];rfl
 ·rw [cell_of_row w b 1 _ _ _ h];rfl
 ·rw [cell_of_row w b 2 _ _ _ h];rfl
abbrev kcz:Obj:=.cells #[.int .i64 0,.int .i64 0,.slice none 0 0] 40 (0,0)
section
variable {ops:Array Oper} {rest:List Oper} {p:Oper} {a:Act} {W w':World} {Q:Exit→Act→World→Prop}
theorem qty (ho:p.op=.alloc 40):(execOp a.eval p).run Tryz.prog W=.ok (.value (.pointer (some ⟨W.heap.size,0,none⟩))) (W.alloc kcz):=by
 unfold execOp
 simp only [ho]
 kernel_rfl
theorem qmn (hw:Region.wanted p (yielded ops a.tmps)=true) (ho:p.op=.alloc 40)
  (hk:∀ W',Kc W' W.heap.size 0 0 (.slice none 0 0)→Below W.heap.size W W'→W.heap.size<W'.heap.size→wpList Tryz.prog ops Q rest (a.put p.dst (.pointer (some ⟨W.heap.size,0,none⟩))) W'):wpList Tryz.prog ops Q (p::rest) a W :=
 BigFrame.wpList_want hw fun K hK=>by unfold Oper.wp;rw [qty ho];exact hK _ _ (hk _ (heap_alloc_new W _) (ba W _) (by simp))
theorem qmk {x y:Operand}{b:Nat}{q1 q2 z1 z2:Int}{u z:Value}(hgd:p.guard=none) (ho:p.op=.store 40 x y)
  (hx:a.eval x=.pointer (some ⟨b,0,none⟩)) (hy:a.eval y=.agg #[.int .i64 q1,.int .i64 q2,u]) (hv:∃ va n vc,u=.slice va n vc) (h:Kc W b z1 z2 z)
  (hk:∀ W',Kc W' b q1 q2 u→Fr (fun k=>k=b) W W'→wpList Tryz.prog ops Q rest (a.put p.dst undef) W'):wpList Tryz.prog ops Q (p::rest) a W :=
 wpList_store_row hgd 40 x y ho b #[.int .i64 q1,.int .i64 q2,u] hx hy 40 #[.int .i64 z1,.int .i64 z2,z] h (by kernel_rfl) rfl (by obtain ⟨va,n,vc,rfl⟩:=hv;simp [Value.oneCell']) (hk _ (setRow_heap _ _ _ _ _ _ h) (Fr.of_row W b _))
end
set_option maxHeartbeats 16000000 in
theorem qsx (room replica:Int) (v:Value) (qs:List Cao) (w:World) (h0:Dq w v qs) (hL:Lay w) :
  Calls Tryz.prog 3 #[.int .i64 room,.int .i64 replica,v] w fun e w'=>e=.returned (.bool true)∧Below w.heap.size w w':=by
 have HV:=hid h0
 have HL:=hid hL
 have H2:=hid hL.two
 have HG:=hid (fun W (hb:Below w.heap.size w W)=>qsk v qs W (h0.below hb))
 obtain ⟨va,vc,rfl⟩:=h0.form
 obtain ⟨N,hN⟩:∃ N,qs.length=N:=⟨_,rfl⟩
 have HN:=hid hN
 rw [hN] at HV HG ⊢
 clear h0 hL hN
 go_enter Tryz.func3,Tryz.ntmps3
 go_wp2_with fail
 refine (qsl w HL.out).mono ?_
 rintro e w1 ⟨rfl,b1⟩
 have B1:=hid b1
 clear b1
 go_wp2_with fail
 refine (HG.out w1 B1.out).mono ?_
 rintro e w1' ⟨⟨g,rfl,hg⟩,rfl⟩
 cases g with
 | true =>
  go_wp2
  go_ret
  exact ⟨rfl,B1.out⟩
 | false =>
  obtain ⟨hN60,htot,hlong⟩:=hg rfl
  rw [HN.out] at hN60
  have HTOT:=hid htot
  have HLONG:=hid hlong
  clear hg htot hlong HG
  go_wp2_with fail
  by_cases hr:room<0∨1048576<room
  ·refine (jbl room hr).mono ?_
   rintro e w3 ⟨rfl,rfl⟩
   go_wp2_with fail
   refine (qxq room hr).mono ?_
   rintro e w3 ⟨rfl,rfl⟩
   clear hr
   go_wp2
   go_ret
   exact ⟨rfl,B1.out⟩
  ·obtain ⟨R,rfl⟩:∃ R:Nat,room=R:=⟨room.toNat,by omega⟩
   have hR:R≤1048576:=by omega
   refine (jad R hR).mono ?_
   rintro e w3 ⟨rfl,b3,fv,f3⟩
   obtain ⟨fb,hfb⟩:∃ b,w1.heap.size=b:=⟨_,rfl⟩
   have HFB:Hid (w.heap.size≤fb∧2≤fb):=hid ⟨by rw [←hfb];exact B1.out.size,by rw [←hfb];exact Nat.le_trans H2.out B1.out.size⟩
   have B3:=hid (bt B1.out b3)
   have S3:Hid (fb≤w3.heap.size):=hid (by rw [←hfb];exact b3.size)
   rw [hfb] at f3 b3 ⊢
   have F3:=hid f3
   clear b3 f3 hfb
   go_wp2_with fail
   refine (jax R hR).mono ?_
   rintro e w4 ⟨rfl,b4,m4⟩
   obtain ⟨mb,hmb⟩:∃ b,w3.heap.size=b:=⟨_,rfl⟩
   have HIN:Hid (∀ k,Fb fb fv k→fb≤k∧k<mb):=hid (fun k hk=>by
    rw [←hmb]
    rcases hk with rfl | hk
    ·exact ⟨F3.out.2.1,F3.out.lt⟩
    ·exact F3.out.own.lt k hk)
   have HMB:Hid (w.heap.size≤mb∧fb≤mb):=hid ⟨by rw [←hmb];exact B3.out.size,by rw [←hmb];exact S3.out⟩
   have F4:=hid (F3.out.below b4)
   have B4:=hid (bt B3.out b4)
   have S4:Hid (mb≤w4.heap.size):=hid (by rw [←hmb];exact b4.size)
   rw [hmb] at m4 b4 ⊢
   have M4:=hid m4
   clear b4 m4 hmb hr F3
   go_wp2_with fail
   by_cases hrp:replica<0∨15<replica
   ·refine (qsm _ replica _ hrp).mono ?_
    rintro e w5 ⟨rfl,rfl⟩
    rcases (by omega:replica<0∨(¬ replica<0∧15<replica)) with h | ⟨h,h'⟩
    all_goals
     clear hrp
     go_wp2
     go_ret
     exact ⟨rfl,B4.out⟩
   ·have hrp0:0≤replica:=by omega
    have hrp1:replica≤15:=by omega
    have hn0:¬ replica<0:=by omega
    have hn1:¬ 15<replica:=by omega
    refine (qkn F4.out (HL.out.below B4.out) (Nat.le_trans HMB.out.2 S4.out) replica hrp0 hrp1).mono ?_
    have HR0:=hid hrp0
    have HR1:=hid hrp1
    clear hrp hrp0 hrp1
    rintro e w5 (⟨hR10,rfl,fv5,f5,x5⟩ | ⟨hR10,lb,fv5,rfl,lo5,x5⟩)
    ·have M5:Hid (Re mb w5 mb (.slice none 0 0) (.slice none 0 0) [] [] R):=hid (M4.out.of_block (fun k hk=>x5.fr.block k (M4.out.inside hk).2 (fun e=>by
      have h1:=HIN.out k e
      have h2:=(M4.out.inside hk).1
      omega)))
     have B5:Hid (Below w.heap.size w w5):=hid (B4.out.trans ((x5.below (fun k hk=>(HIN.out k hk).1) (Nat.le_trans HMB.out.2 S4.out)).mono HFB.out.1))
     have S5:Hid (mb≤w5.heap.size):=hid (Nat.le_trans S4.out x5.size)
     clear f5 x5
     go_wp2_with fail
     refine (qka replica w5 HR0.out HR1.out).mono ?_
     rintro e w6 ⟨v6,rfl,hv6,b6⟩
     have V6:=hid hv6
     have M6:=hid (M5.out.below b6)
     have B6:=hid (bt B5.out b6)
     have S6:=hid (Nat.le_trans S5.out b6.size)
     obtain ⟨a6,c6,rfl⟩:=hv6.form
     have hrr:rrep R (C.frame (fb0 replica)) [] []=(14,[],[]):=by unfold rrep;rw [if_neg (by rw [C.frame_length,qcz HR0.out HR1.out];omega)]
     have HRR:=hid hrr
     clear hv6 b6 hrr
     go_wp2_with fail
     refine (qfd S6.out M6.out _ _ V6.out).mono ?_
     rintro e w7 ⟨rfl,s7,l7,re7,x7⟩
     rw [HRR.out]
     have B7:Hid (Below w.heap.size w w7):=hid (B6.out.trans (x7.low M6.out HMB.out.1 B6.out.size))
     clear re7 x7
     go_wp2
     go_ret
     exact ⟨rfl,B7.out⟩
    ·have hB5:Below w.heap.size w w5:=B4.out.trans ((x5.below (fun k hk=>(HIN.out k hk).1) (Nat.le_trans HMB.out.2 S4.out)).mono HFB.out.1)
     have I5:Hid (Iw fb mb lb fb mb 10 R fv5 (.slice none 0 0) (.slice none 0 0) (.slice none 0 0) (.slice none 0 0) replica [] [] [] [] w5):=hid ⟨lo5,M4.out.of_block (fun k hk=>x5.fr.block k (M4.out.inside hk).2 (fun e=>by
      have h1:=HIN.out k e
      have h2:=(M4.out.inside hk).1
      omega)),fun k hk e=>by
      have h2:=M4.out.inside e
      rcases x5.new k hk with e2 | e2
      ·have h1:=HIN.out k e2;omega
      ·omega,fun p hp=>by cases hp⟩
     have B5:=hid hB5
     have S5:Hid (mb≤w5.heap.size):=hid (Nat.le_trans S4.out x5.size)
     clear lo5 x5 hB5
     go_wp2_with fail
     refine (qka replica w5 HR0.out HR1.out).mono ?_
     rintro e w6 ⟨v6,rfl,hv6,b6⟩
     have V6:=hid hv6
     have I6:=hid (I5.out.below b6)
     have B6:=hid (bt B5.out b6)
     have S6:=hid (Nat.le_trans S5.out b6.size)
     obtain ⟨a6,c6,rfl⟩:=hv6.form
     have hrr:rrep R (C.frame (fb0 replica)) [] []=(0,C.frame (fb0 replica),[]):=by unfold rrep;rw [if_pos (by rw [C.frame_length,qcz HR0.out HR1.out];omega)]
     have HRR:=hid hrr
     clear hv6 b6 hrr I5
     go_wp2_with fail
     refine (qfd S6.out I6.out.re _ _ V6.out).mono ?_
     rintro e w7 ⟨rfl,s7,l7,re7,x7⟩
     rw [HRR.out] at re7 ⊢
     have B7:Hid (Below w.heap.size w w7):=hid (B6.out.trans (x7.low I6.out.re HMB.out.1 B6.out.size))
     have hlby:lby replica []=C.frame (fb0 replica):=by rw [qcy];simp [C.cat]
     have P7:Hid (Lp fb mb fb mb R replica qs w 0 lb w7):=hid ⟨⟨10,fv5,_,_,s7,l7,[],[],_,_,I6.out.ref x7 re7,by rw [List.append_nil,hlby],by rw [C.frame_length,qcz HR0.out HR1.out],Nat.zero_le _,Nat.le_refl _⟩,B7.out,HFB.out.1,HMB.out.2,Nat.le_trans S6.out x7.size⟩
     clear re7 x7 hlby I6 B7 B6 V6
     go_wp2_with fail
     go_loopw [11,12] (fun lp i wr=>∃ k lb:Nat,lp=.pointer (some ⟨lb,0,none⟩)∧i=.int .i64 k∧k≤N∧Lp fb mb fb mb R replica qs w k lb wr) (fun _ i _=>N - (intOf i).toNat)
     case atStart=>exact ⟨0,lb,rfl,rfl,Nat.zero_le _,P7.out⟩
     case round =>
      clear P7
      obtain ⟨k,lb,rfl,rfl,hk,hp⟩:=hrel
      have LP:=hid hp
      clear hp
      by_cases hlt:k<N
      ·have hlt':(k:Int)<(N:Int):=by omega
       have hx:k<qs.length:=by rw [HN.out];exact hlt
       obtain ⟨b,off,c,e1,hc⟩:=HV.out.inv (by omega)
       rw [HN.out] at e1
       simp only [Value.slice.injEq] at e1
       obtain ⟨rfl,-,rfl⟩:=e1
       obtain ⟨u,d0,d1,d2,hou⟩:=hc k hx
       obtain ⟨⟨q1,q2,ql⟩,hq⟩:∃ q,qs.getD k cao0=q:=⟨_,rfl⟩
       have hqk:qs[k]=(q1,q2,ql):=by rw [←hq];simp only [List.getD,List.getElem?_eq_getElem hx,Option.getD_some]
       rw [hq] at d0 d1 hou
       dsimp only at d0 d1 hou
       have hlg:=qyl (HLONG.out (q1,q2,ql) (by rw [←hqk];exact List.getElem_mem hx))
       have HLG:Hid (ql.length≤100∧∀ p ∈ ql,p.1.fine∧p.1.cuts.length≤40):=hid hlg
       have HTC:Hid (totC (qs.take (k+1))=totC (qs.take k)+ql.length):=hid (by rw [List.take_succ_eq_append_getElem hx,qmp,hqk])
       have HTK:Hid (totC (qs.take (k+1))≤200):=hid (by
        have h1:=HTOT.out
        have h2:totC qs=totC (qs.take (k+1))+totC (qs.drop (k+1)):=by
         unfold totC
         rw [←List.sum_append,←List.map_append,List.take_append_drop]
        omega)
       have c0:wr.cell? ⟨b,off+k*3,none⟩=some (.int .i64 q1):=(LP.out.below.cell (p:=⟨b,off+k*3,none⟩) (World.block_lt_of_cell? _ _ d0)).trans d0
       have c1:wr.cell? ⟨b,off+k*3+1,none⟩=some (.int .i64 q2):=(LP.out.below.cell (p:=⟨b,off+k*3+1,none⟩) (World.block_lt_of_cell? _ _ d1)).trans d1
       have c2:wr.cell? ⟨b,off+k*3+2,none⟩=some u:=(LP.out.below.cell (p:=⟨b,off+k*3+2,none⟩) (World.block_lt_of_cell? _ _ d2)).trans d2
       have OU:=hid (hou.later LP.out.below)
       have OU0:=hid hou
       have HSU:Hid (∃ va n vc,u=.slice va n vc):=hid (by obtain ⟨a,c,e,_⟩:=hou.1.form;exact ⟨_,_,_,e⟩)
       obtain ⟨ua,uc,rfl,_,_⟩:=hou.1.form
       obtain ⟨L,hLL⟩:∃ L,ql.length=L:=⟨_,rfl⟩
       have HLL:=hid hLL
       rw [hLL] at c2 OU OU0 HSU
       clear hc d0 d1 d2 hou hq hqk hlg hLL
       go_upto_region 20 with (first
        | (refine qmn rfl rfl ?_;intro w2 hk2 hb2 hl2;have KC:=hid hk2;have HB2:=hid hb2;clear hk2 hb2 hl2)
        | (refine qmk rfl rfl rfl rfl HSU.out KC.out ?_;intro w3 hk3 hf3;replace KC:=hid hk3;have HB3:=hid (qaa HB2.out hf3 (Nat.le_refl _));clear hk3 hf3 HB2)
        | fail)
       obtain ⟨cb,hcb⟩:∃ r,wr.heap.size=r:=⟨_,rfl⟩
       have HCB:=hid hcb
       rw [hcb] at KC ⊢
       have LP3:=hid (show Lp fb mb fb mb R replica qs w k lb w3 from ⟨by
        obtain ⟨n,fv,vo,ve,s,lz,Fs,l,xs,ys,h1,h2⟩:=LP.out.it
        exact ⟨n,fv,vo,ve,s,lz,Fs,l,xs,ys,h1.below HB3.out,h2⟩,bt LP.out.below HB3.out,LP.out.base.1,LP.out.base.2.1,Nat.le_trans LP.out.base.2.2 HB3.out.size⟩)
       have OU3:=hid (OU.out.later HB3.out)
       obtain ⟨k0,k1,k2⟩:=KC.out.cells
       clear hcb c0 c1 c2
       go_wp2_with fail
       refine (qjv _ ql w3 OU3.out (fun p hp=>by have:=(HLG.out.2 p hp).2;omega) (by have:=HLG.out.1;omega)).mono ?_
       rintro e w4 ⟨v4,rfl,l4,hr4,hf4,hn4,b4⟩
       have R4:=hid hr4
       have F4':=hid hf4
       have N4:=hid hn4
       have K4:=hid (KC.out.below b4)
       have OU4:=hid (OU3.out.later b4)
       have HB4:=hid (HB3.out.trans (b4.mono HB3.out.size))
       have S34:Hid (wr.heap.size<w3.heap.size∧w3.heap.size≤w4.heap.size):=hid ⟨by rw [HCB.out];exact KC.out.lt,b4.size⟩
       obtain ⟨a4,c4,rfl⟩:=hr4.form
       have hl4:l4.length=L:=by have h1:=congrArg List.length hf4;simp only [fsts,List.length_map] at h1;rw [h1];exact HLL.out
       rw [hl4] at R4 ⊢
       have HL4:=hid hl4
       clear hr4 hf4 hn4 b4 k0 k1 k2 hl4 KC OU3 LP3
       obtain ⟨k0,k1,k2⟩:=K4.out.cells
       obtain ⟨n,fv,vo,ve,s,lz,Fs,l,xs,ys,hiw,hxy,hsy,hft,hn10⟩:=LP.out.it
       have HN10:=hid hn10
       clear hn10
       have IW:=hid (hiw.below HB4.out)
       have HFTB:Hid (∀ j,Ft lb fb fv vo ve j→j<wr.heap.size):=hid (fun j hj=>(hiw.lo.lg.inside hj).2)
       have HRBB:Hid (∀ j,Rb mb s lz j→j<wr.heap.size):=hid (fun j hj=>(hiw.re.rb hj).2)
       have HXY:=hid hxy
       have HSY:=hid hsy
       have HFT:=hid hft
       have BW4:=hid (bt LP.out.below HB4.out)
       have HBS:=hid LP.out.base
       have HSW:Hid (wr.heap.size≤w4.heap.size):=hid HB4.out.size
       clear hiw hxy hsy hft
       go_upto_block 2 with fail
       go_cut [11] from 96 to 239 (fun lp wx=>∃ lb',lp=.pointer (some ⟨lb',0,none⟩)∧Lp fb mb fb mb R replica qs w (k+1) lb' wx)
       case first =>
        have HD:Hid (∀ (lb' n':Nat) (fv' vo' ve' s' lz':Value) (Fs':List (List Opn)) (l':List (Opn × Value)) (xs' ys':List Int) (W:World),Iw fb mb lb' fb mb n' R fv' vo' ve' s' lz' replica Fs' l' xs' ys' W→xs'++ys'=lby replica Fs'→xs'.length=n'→Fs'.flatten.length≤Fs.flatten.length+L→Below w.heap.size w W→w4.heap.size≤W.heap.size→10≤n'→Lp fb mb fb mb R replica qs w (k+1) lb' W):=hid (fun lb' n' fv' vo' ve' s' lz' Fs' l' xs' ys' W h1 h2 h3 h4 h5 h6 h7 =>
         ⟨⟨n',fv',vo',ve',s',lz',Fs',l',xs',ys',h1,h2,h3,by rw [HTC.out,HLL.out];have:=HFT.out;omega,h7⟩,h5,HBS.out.1,HBS.out.2.1,Nat.le_trans HBS.out.2.2 (Nat.le_trans HSW.out h6)⟩)
        have HSUM:Hid (xs.length+ys.length≤R):=hid (by
         have h1:=congrArg List.length HXY.out
         rw [List.length_append,qbo IW.out.lo.r0 IW.out.lo.r1] at h1
         have:=IW.out.lo.room
         omega)
        have SB4:Hid (mb≤w4.heap.size):=hid (Nat.le_trans HBS.out.2.2 HSW.out)
        by_cases h0:q1=0
        ·subst h0
         have HFO:Hid (∀ p ∈ l4,p.1.fine∧p.1.cuts.length≤100000):=hid (fun p hp=>by
          have h1:p.1 ∈ fsts l4:=List.mem_map_of_mem (f:=Prod.fst) hp
          rw [F4'.out] at h1
          obtain ⟨p',hp',he⟩:=List.mem_map.1 h1
          have h2:=HLG.out.2 p' hp'
          rw [←he]
          exact ⟨h2.1,by omega⟩)
         have HFQ:Hid (∀ p ∈ ql,p.1.fine):=hid (fun p hp=>(HLG.out.2 p hp).1)
         have HQN:Hid (ql.length≤1000000):=hid (by have:=HLG.out.1;omega)
         have HLN:Hid (l4.length≤1000000):=hid (by rw [HL4.out,←HLL.out];exact HQN.out)
         have OQ4:Hid (Oq (Ft lb fb fv vo ve) w4 (.slice a4 L c4) l4):=hid ⟨R4.out.os,.inr (fun j hj e=>by have h1:=(R4.out.1.lt j hj).1;have h2:=HFTB.out j e;have h3:=S34.out;omega),fun p hp=>⟨R4.out.os.2 p hp,.inr (fun j hj e=>by have h1:=N4.out p hp j hj;have h2:=HFTB.out j e;have h3:=S34.out;omega)⟩⟩
         have HXA:=hid (jal (R:=R) (q:=fsts ql) HXY.out IW.out.lo.r0 IW.out.lo.r1)
         have HAL:=hid (jce R Fs (fsts ql))
         obtain ⟨E,hE⟩:∃ E,apE R Fs (fsts ql)=E:=⟨_,rfl⟩
         obtain ⟨EB,hEB⟩:∃ EB,(E==0)=EB:=⟨_,rfl⟩
         have hfit:=qvf IW.out.lo (HL.out.below BW4.out) _ l4 R4.out.os (fun p hp=>(HFO.out p hp).1) HLN.out
         rw [F4'.out,hE,hEB] at hfit
         have HFIT:=hid hfit
         have HE:=hid hE
         rw [hE] at HXA
         clear hfit hE
         go_wp2_with fail
         refine HFIT.out.mono ?_
         rintro e w5 ⟨rfl,b5⟩
         have I5:=hid (IW.out.below b5)
         have BW5:=hid (bt BW4.out b5)
         have OQ5:=hid (OQ4.out.below b5)
         have K5:=hid (K4.out.below b5)
         have S5:=hid b5.size
         have hap:=qgf I5.out.lo (HL.out.below BW5.out) (Nat.le_trans (Nat.le_trans HBS.out.2.1 SB4.out) b5.size) OQ5.out HFO.out HLN.out
         rw [F4'.out,HE.out] at hap
         have HAP:=hid hap
         clear b5 hap HFIT k0 k1 k2
         go_wp2_with fail
         refine HAP.out.mono ?_
         rintro e w6 ⟨rfl,fv6,vo6,ve6,l6,lo6,x6,cn6⟩
         have I6:=hid (I5.out.log (fun _ h=>h) x6 lo6 (fun p hp=>(cn6 p hp).imp id (fun h=>.inr h)))
         have BW6:=hid (show Below w.heap.size w w6 from BW5.out.trans ((I5.out.lo.lg.fr x6 (Nat.le_trans (Nat.le_trans HBS.out.2.1 SB4.out) S5.out)).mono HBS.out.1))
         have OQ6:=hid (OQ5.out.step x6).os
         have K6:=hid (K5.out.fr x6.fr (fun e=>by have h1:=HFTB.out _ e;have h2:=HCB.out;omega))
         have OU6:=hid (OU0.out.later BW6.out)
         have S6:Hid (w5.heap.size≤w6.heap.size):=hid x6.size
         have hxf:=qtb I6.out.re _ ql OU6.out HFQ.out HQN.out
         rw [HXA.out.1,hEB] at hxf
         have HXF:=hid hxf
         obtain ⟨k0,k1,k2⟩:=K6.out.cells
         clear lo6 x6 cn6 hxf HAP
         go_wp2_with fail
         refine HXF.out.mono ?_
         rintro e w7 ⟨rfl,b7⟩
         have I7:=hid (I6.out.below b7)
         have BW7:=hid (bt BW6.out b7)
         have K7:=hid (K6.out.below b7)
         have OU7:=hid (OU6.out.later b7)
         have OQ7:=hid (OQ6.out.later b7)
         have S7:=hid b7.size
         clear k0 k1 k2 b7 HXF
         obtain ⟨k0,k1,k2⟩:=K7.out.cells
         have hxa:=qip (Nat.le_trans (Nat.le_trans SB4.out S5.out) (Nat.le_trans S6.out S7.out)) I7.out.re _ ql OU7.out HFQ.out HQN.out
         have HXP:=hid hxa
         clear hxa
         go_wp2_with fail
         refine HXP.out.mono ?_
         rintro e w8 ⟨rfl,s8,lz8,re8,x8⟩
         rw [HXA.out.1]
         have I8:=hid (I7.out.ref x8 re8)
         have BW8:=hid (show Below w.heap.size w w8 from BW7.out.trans (x8.low I7.out.re (Nat.le_trans HBS.out.1 HBS.out.2.1) BW7.out.size))
         have K8:=hid (K7.out.fr x8.fr (fun e=>by have h1:=HRBB.out _ e;have h2:=HCB.out;omega))
         have OU8:=hid (OU0.out.later BW8.out)
         have OQ8:Hid (Os w8 (.slice a4 L c4) l4):=hid (OQ7.out.kept (B:=w3.heap.size) ⟨fun j hj=>(R4.out.1.lt j hj).1,N4.out⟩ x8.fr (fun j e=>by have h1:=HRBB.out j e;have h2:=S34.out;omega))
         have S8:Hid (w7.heap.size≤w8.heap.size):=hid x8.size
         clear k0 k1 k2 re8 x8 HXP
         obtain ⟨k0,k1,k2⟩:=K8.out.cells
         go_wp2_with fail
         refine (qgd _ _ l4 ql w8 OQ8.out OU8.out).mono ?_
         rintro e w9 ⟨rr,rfl,hrr,b9⟩
         obtain rfl:rr=true:=hrr.2 F4'.out
         have I9:=hid (I8.out.below b9)
         have BW9:=hid (bt BW8.out b9)
         have S9:=hid b9.size
         clear b9 hrr k0 k1 k2
         go_wp2_with fail
         go_meet
         exact ⟨lb,rfl,HD.out _ _ _ _ _ _ _ _ _ _ _ _ I9.out HXA.out.2.1 (by rw [HXA.out.2.2];exact HSY.out) (by have h1:=HAL.out;simp only [fsts,List.length_map] at h1;rw [HLL.out] at h1;exact h1) BW9.out (Nat.le_trans S5.out (Nat.le_trans S6.out (Nat.le_trans S7.out (Nat.le_trans S8.out S9.out)))) HN10.out⟩
        ·by_cases h1:q1=1
         ·subst h1
          clear h0
          go_wp2_with fail
          refine (qve IW.out.lo).mono ?_
          rintro e w5 ⟨rfl,fv5,vo5,ve5,l5,lo5,x5,cn5⟩
          have I5:=hid (IW.out.log (fun _ h=>h) x5 lo5 (fun p hp=>(cn5 p hp).imp id (fun h=>.inr h)))
          have BW5:=hid (show Below w.heap.size w w5 from BW4.out.trans ((IW.out.lo.lg.fr x5 (Nat.le_trans HBS.out.2.1 SB4.out)).mono HBS.out.1))
          have S5:Hid (w4.heap.size≤w5.heap.size):=hid x5.size
          clear lo5 x5 cn5
          go_wp2_with fail
          refine (qua (Nat.le_trans SB4.out S5.out) I5.out.re HSUM.out).mono ?_
          rintro e w6 ⟨rfl,s6,lz6,re6,x6⟩
          have I6:=hid (I5.out.ref x6 re6)
          have BW6:=hid (show Below w.heap.size w w6 from BW5.out.trans (x6.low I5.out.re (Nat.le_trans HBS.out.1 HBS.out.2.1) BW5.out.size))
          have S6:Hid (w5.heap.size≤w6.heap.size):=hid x6.size
          clear re6 x6
          go_wp2_with fail
          go_meet
          exact ⟨lb,rfl,HD.out _ _ _ _ _ _ _ _ _ _ _ _ I6.out (by rw [List.append_nil];exact HXY.out) (by rw [HXY.out]) (Nat.le_add_right _ _) BW6.out (Nat.le_trans S5.out S6.out) (by rw [qbo IW.out.lo.r0 IW.out.lo.r1];omega)⟩
         ·by_cases h2:q1=2
          ·subst h2
           clear h0 h1
           have HTX:Hid (Tl (xs++ys) (some (replica,Fs))):=hid (by rw [HXY.out];exact qzs IW.out.lo.good IW.out.lo.r0 IW.out.lo.r1)
           have HSZ:Hid (szF Fs≤1048576):=hid (by have:=IW.out.lo.room;omega)
           have HFQ:Hid (Fs.flatten.length≤1000000):=hid (by have h1:=HFT.out;have h2:=HTK.out;have h3:=HTC.out;omega)
           have HPA:Hid ((partsP Fs.flatten).flatten.length≤Fs.flatten.length+L):=hid (by rw [qfm];exact Nat.le_add_right _ _)
           have HLP:=hid (qbo IW.out.lo.r0 IW.out.lo.r1 (partsP Fs.flatten))
           go_wp2_with fail
           refine (qpt IW.out.lo (HL.out.below BW4.out) (Nat.le_trans HBS.out.2.1 SB4.out)).mono ?_
           rintro e w5 (⟨hfit,rfl,fv5,ve5,lo5,x5⟩ | ⟨hno,rfl,fv5,lo5,x5⟩)
           ·have I5:=hid (IW.out.log (fun _ h=>h) x5 lo5 (fun p hp=>.inl hp))
            have BW5:=hid (show Below w.heap.size w w5 from BW4.out.trans ((IW.out.lo.lg.fr x5 (Nat.le_trans HBS.out.2.1 SB4.out)).mono HBS.out.1))
            have S5:Hid (w4.heap.size≤w5.heap.size):=hid x5.size
            have hxc:=qhz (Nat.le_trans SB4.out S5.out) I5.out.re HTX.out HSZ.out HFQ.out
            rw [show rrep R (lby replica (partsP Fs.flatten)) xs ys=(0,lby replica (partsP Fs.flatten),[]) by unfold rrep;rw [if_pos (by rw [HLP.out];exact hfit)]] at hxc
            have HXC:=hid hxc
            clear lo5 x5 hxc hfit
            go_wp2_with fail
            refine HXC.out.mono ?_
            rintro e w6 ⟨rfl,s6,lz6,re6,x6⟩
            dsimp only at re6 ⊢
            have I6:=hid (I5.out.ref x6 re6)
            have BW6:=hid (show Below w.heap.size w w6 from BW5.out.trans (x6.low I5.out.re (Nat.le_trans HBS.out.1 HBS.out.2.1) BW5.out.size))
            have S6:Hid (w5.heap.size≤w6.heap.size):=hid x6.size
            clear re6 x6 HXC
            go_wp2_with fail
            go_meet
            exact ⟨lb,rfl,HD.out _ _ _ _ _ _ _ _ _ _ _ _ I6.out (by rw [List.append_nil]) (by rw [HLP.out]) HPA.out BW6.out (Nat.le_trans S5.out S6.out) (Nat.le_add_right _ _)⟩
           ·have I5:=hid (IW.out.log (fun _ h=>h) x5 lo5 (fun p hp=>.inl hp))
            have BW5:=hid (show Below w.heap.size w w5 from BW4.out.trans ((IW.out.lo.lg.fr x5 (Nat.le_trans HBS.out.2.1 SB4.out)).mono HBS.out.1))
            have S5:Hid (w4.heap.size≤w5.heap.size):=hid x5.size
            have hxc:=qhz (Nat.le_trans SB4.out S5.out) I5.out.re HTX.out HSZ.out HFQ.out
            rw [show rrep R (lby replica (partsP Fs.flatten)) xs ys=(14,xs,ys) by unfold rrep;rw [if_neg (by rw [HLP.out];omega)]] at hxc
            have HXC:=hid hxc
            clear lo5 x5 hxc hno
            go_wp2_with fail
            refine HXC.out.mono ?_
            rintro e w6 ⟨rfl,s6,lz6,re6,x6⟩
            dsimp only at re6 ⊢
            have I6:=hid (I5.out.ref x6 re6)
            have BW6:=hid (show Below w.heap.size w w6 from BW5.out.trans (x6.low I5.out.re (Nat.le_trans HBS.out.1 HBS.out.2.1) BW5.out.size))
            have S6:Hid (w5.heap.size≤w6.heap.size):=hid x6.size
            clear re6 x6 HXC
            go_wp2_with fail
            go_meet
            exact ⟨lb,rfl,HD.out _ _ _ _ _ _ _ _ _ _ _ _ I6.out HXY.out HSY.out (Nat.le_add_right _ _) BW6.out (Nat.le_trans S5.out S6.out) HN10.out⟩
          ·by_cases h3:q1=3
           ·subst h3
            clear h0 h1 h2
            have hfb:∀ j,Fb fb fv j→Ft lb fb fv vo ve j:=fun j e=>e.elim (fun e=>.inr (.inl e)) (fun e=>.inr (.inr (.inl e)))
            have HFF:=hid hfb
            have hlb:=qpi (keep:=q2) IW.out.lo.ns
            have hzc:(lby replica Fs).take (left q2 (lby replica Fs) n)=xs++ys.take (min q2.toNat ys.length):=by rw [←HXY.out,←HSY.out];exact qzl q2
            obtain ⟨kk,ysx,hkk,_,_,_,_,htl⟩:=Tl.cut IW.out.lo.good IW.out.lo.r0 IW.out.lo.r1 (left q2 (lby replica Fs) n) (by have:=HN10.out;omega) hlb.2
            obtain ⟨ZS,hZS⟩:∃ ZS,xs++ys.take (min q2.toNat ys.length)=ZS:=⟨_,rfl⟩
            have hzl:left q2 (lby replica Fs) n=ZS.length:=by
             have h1:=congrArg List.length hzc
             rw [List.length_take,hZS] at h1
             omega
            obtain ⟨c5,hc5⟩:∃ c5,ZS.length=c5:=⟨_,rfl⟩
            rw [hzc,hZS] at htl
            have HTZ:=hid htl
            have HCZ:=hid hc5
            have HZE:=hid hZS
            have HFK:Hid ((Fs.take kk).flatten.length≤Fs.flatten.length+L):=hid (by
             have h1:=congrArg (fun x=>(List.flatten x).length) (List.take_append_drop kk Fs)
             simp only [List.flatten_append,List.length_append] at h1
             omega)
            have HGK:=hid (IW.out.lo.good.take kk)
            have HSK:Hid (szF (Fs.take kk)≤1048576):=hid (by have h1:=qiw Fs kk;have h2:=IW.out.lo.room;omega)
            have hcr:=qqv IW.out.lo q2
            rw [hzc,hZS,hzl,hc5] at hcr
            have HCR:=hid hcr
            clear hfb hlb hzc htl hZS hzl hc5 hcr
            go_wp2_with fail
            refine HCR.out.mono ?_
            rintro e w5 ⟨rfl,fv5,f5,x5⟩
            have M5:=hid (IW.out.re.of_block (fun j hj=>x5.fr.block j (IW.out.re.rb hj).2 (fun e=>IW.out.sep j (HFF.out j e) hj)))
            have BW5:=hid (show Below w.heap.size w w5 from BW4.out.trans ((x5.below (fun j hj=>(IW.out.lo.lg.inside (HFF.out j hj)).1) (Nat.le_trans HBS.out.2.1 SB4.out)).mono HBS.out.1))
            have K5:=hid (K4.out.fr x5.fr (fun e=>by have h1:=HFTB.out _ (HFF.out _ e);have h2:=HCB.out;omega))
            have FB5:Hid (∀ j,Fb fb fv5 j→(Fb fb fv j∨w4.heap.size≤j)∧fb≤j∧j<w5.heap.size):=hid (fun j hj=>⟨x5.new j hj,by
             rcases hj with rfl | hj
             ·exact ⟨f5.2.1,f5.lt⟩
             ·exact f5.own.lt j hj⟩)
            have F5:=hid f5
            have S5:Hid (w4.heap.size≤w5.heap.size):=hid x5.size
            clear f5 x5 HCR k0 k1 k2
            obtain ⟨k0,k1,k2⟩:=K5.out.cells
            have hrc:=qrz (Nat.le_trans SB4.out S5.out) M5.out HSUM.out q2
            rw [HZE.out] at hrc
            have HRC:=hid hrc
            clear hrc
            go_wp2_with fail
            refine HRC.out.mono ?_
            rintro e w6 ⟨rfl,s6,lz6,re6,x6⟩
            have F6:=hid (F5.out.of_block (fun j hj=>x6.fr.block j (FB5.out j hj).2.2 (fun e=>by
             rcases (FB5.out j hj).1 with e2 | e2
             ·exact IW.out.sep j (HFF.out j e2) e
             ·have h1:=HRBB.out j e;have h2:=HSW.out;omega)))
            have SEP6:Hid (∀ j,Fb fb fv5 j→¬ Rb mb s6 lz6 j):=hid (fun j hj e=>by
             have hold:Rb mb s lz j→False:=fun e=>by
              rcases (FB5.out j hj).1 with e2 | e2
              ·exact IW.out.sep j (HFF.out j e2) e
              ·have h1:=HRBB.out j e;have h2:=HSW.out;omega
             rcases e with e | e
             ·exact hold (.inl e)
             ·rcases x6.new j e with e2 | e2 | e2
              ·exact hold (.inr (.inl e2))
              ·exact hold (.inr (.inr e2))
              ·have:=(FB5.out j hj).2.2;omega)
            have RB6:Hid (∀ j,Rb mb s6 lz6 j→j<w6.heap.size):=hid (fun j hj=>(re6.rb hj).2)
            have M6:=hid re6
            have BW6:=hid (show Below w.heap.size w w6 from BW5.out.trans (x6.low M5.out (Nat.le_trans HBS.out.1 HBS.out.2.1) BW5.out.size))
            have S6:Hid (w5.heap.size≤w6.heap.size):=hid x6.size
            have SF6:Hid (fb≤w6.heap.size):=hid (Nat.le_trans (Nat.le_trans HBS.out.2.1 SB4.out) (Nat.le_trans S5.out x6.size))
            clear re6 x6 HRC k0 k1 k2 F5 M5 K5
            go_wp2_with fail
            refine (qqp F6.out (HL.out.below BW6.out) SF6.out HFB.out.2).mono ?_
            rintro e w7 (⟨hbad,_⟩ | ⟨r7,G7,lb7,vo7,ve7,fv7,l7,v7,q7,htl7,rfl,lo7,oq7,hf7,hn7,x7,hnl7⟩)
            ·have:=Tl.det HTZ.out hbad
             cases this
            ·have hdt:=Tl.det HTZ.out htl7
             simp only [Option.some.injEq,Prod.mk.injEq] at hdt
             obtain ⟨rfl,rfl⟩:=hdt
             have M7:Hid (Re mb w7 mb s6 lz6 ZS [] R):=hid (M6.out.of_block (fun j hj=>x7.fr.block j (M6.out.rb hj).2 (fun e=>SEP6.out j e hj)))
             have hbz:=qxb M6.out.bs HTZ.out
             have hll:=qbo lo7.r0 lo7.r1 (Fs.take kk)
             have hmin:min c5 (10+szF (Fs.take kk))=10+szF (Fs.take kk)∧10+szF (Fs.take kk)≤ZS.length:=by
              have h1:=congrArg List.length hbz
              rw [hll,List.length_take,HCZ.out] at h1
              rw [HCZ.out]
              omega
             have HMN:=hid hmin
             have HLL7:=hid hll
             have hrt:rtrim ((10+szF (Fs.take kk):Nat):Int) ZS []=(0,lby replica (Fs.take kk),[]):=by
              unfold rtrim
              rw [if_pos (by have:=hmin.2;simp;omega),if_pos (by have:=hmin.2;omega),Int.toNat_natCast,hbz]
             have HRT:=hid hrt
             have I7:Hid (Iw fb mb lb7 fb mb (min c5 (10+szF (Fs.take kk))) R fv7 vo7 ve7 s6 lz6 replica (Fs.take kk) l7 ZS [] w7):=hid ⟨lo7,M7.out,fun j hj e=>by
              rcases x7.new j hj with e2 | e2
              ·exact SEP6.out j e2 e
              ·have:=RB6.out j e;omega,fun p hp=>.inr (fun j hj e=>by have h1:=hnl7 p hp j hj;have h2:=RB6.out j e;omega)⟩
             have BW7:=hid (show Below w.heap.size w w7 from BW6.out.trans ((x7.below (fun j hj=>(FB5.out j hj).2.1) SF6.out).mono HBS.out.1))
             have Q7:=hid oq7.os
             have QF:=hid hf7
             have QN:=hid hn7
             have S7:Hid (w6.heap.size≤w7.heap.size):=hid x7.size
             obtain ⟨a7,c7,rfl,_,_⟩:=oq7.os.1.form
             clear htl7 lo7 oq7 hf7 hn7 x7 hnl7 hbz hll hmin hrt F6 M6
             go_wp2_with fail
             refine (qta M7.out).mono ?_
             rintro e w8 (⟨htl8,_⟩ | ⟨r8,G8,vf,vt,lls,htl8,hgd,hr0,hr1,hsz,rfl,hto,s8,lz8,re8,x8⟩)
             ·rw [List.append_nil] at htl8
              have:=Tl.det HTZ.out htl8
              cases this
             ·rw [List.append_nil] at htl8
              have hdt:=Tl.det HTZ.out htl8
              simp only [Option.some.injEq,Prod.mk.injEq] at hdt
              obtain ⟨rfl,rfl⟩:=hdt
              rw [HRT.out] at re8
              have I8:=hid (I7.out.ref x8 re8)
              have BW8:=hid (show Below w.heap.size w w8 from BW7.out.trans (x8.low M7.out (Nat.le_trans HBS.out.1 HBS.out.2.1) BW7.out.size))
              have Q8:=hid (Q7.out.kept QN.out x8.fr (fun j e=>RB6.out j e))
              have TO8:=hid hto
              have HSF:Hid ((∃ va n vc,vf=.slice va n vc)∧∃ va n vc,vt=.slice va n vc):=hid (by
               obtain ⟨us,_,h2,_⟩:=hto.us
               obtain ⟨va,vc,e,_⟩:=h2.form
               obtain ⟨va2,vc2,e2,_⟩:=hto.ends.form
               exact ⟨⟨_,_,_,e⟩,⟨_,_,_,e2⟩⟩)
              have S8:Hid (w7.heap.size≤w8.heap.size):=hid x8.size
              clear htl8 hgd hr0 hr1 hsz hto re8 x8 HRT
              go_upto_region 38 with (first
               | (refine qbx rfl rfl ?_;intro w9 hr9 hb9 hlt9;have HK:=hid hr9;have HB9:=hid hb9;clear hr9 hb9 hlt9)
               | (refine qas rfl rfl rfl rfl HSF.out HK.out ?_;intro w10 hr10 hf10;have K10:=hid hr10;have HB10:=hid (qaa HB9.out hf10 (Nat.le_refl _));clear hr10 hf10 HK HB9)
               | fail)
              have I10:=hid (I8.out.below HB10.out)
              have BW10:=hid (bt BW8.out HB10.out)
              have TO10:=hid (TO8.out.below HB10.out)
              have Q10:=hid (Q8.out.later HB10.out)
              have S10:Hid (w8.heap.size≤w10.heap.size):=hid HB10.out.size
              obtain ⟨tc0,tc1,tc2⟩:=K10.out.cells
              go_wp2_with fail
              refine (qld TO10.out HGK.out HSK.out).mono ?_
              rintro e w11 ⟨v11,rfl,l11,ho11,hf11,b11⟩
              have O11:=hid ho11
              have E11:=hid hf11
              have I11:=hid (I10.out.below b11)
              have BW11:=hid (bt BW10.out b11)
              have Q11:=hid (Q10.out.later b11)
              have S11:=hid b11.size
              obtain ⟨a11,c11,rfl,_,_⟩:=ho11.1.form
              clear ho11 hf11 b11 tc0 tc1 tc2 K10
              go_wp2_with fail
              refine (qgd _ _ q7 l11 w11 Q11.out O11.out).mono ?_
              rintro e w12 ⟨rr,rfl,hrr,b12⟩
              obtain rfl:rr=true:=hrr.2 (by rw [E11.out];exact QF.out)
              have I12:=hid (I11.out.below b12)
              have BW12:=hid (bt BW11.out b12)
              have S12:=hid b12.size
              clear b12 hrr
              go_wp2_with fail
              go_meet
              exact ⟨lb7,rfl,HD.out _ _ _ _ _ _ _ _ _ _ _ _ I12.out (List.append_nil _) (by rw [HLL7.out,HMN.out.1]) HFK.out BW12.out (Nat.le_trans S5.out (Nat.le_trans S6.out (Nat.le_trans S7.out (Nat.le_trans S8.out (Nat.le_trans S10.out (Nat.le_trans S11.out S12.out)))))) (by rw [HMN.out.1];omega)⟩
           ·have e0:(q1==0)=false:=by simpa using h0
            have e1:(q1==1)=false:=by simpa using h1
            have e2:(q1==2)=false:=by simpa using h2
            have e3:(q1==3)=false:=by simpa using h3
            clear h0 h1 h2 h3
            go_wp2_with fail
            go_meet
            exact ⟨lb,rfl,HD.out _ _ _ _ _ _ _ _ _ _ _ _ IW.out HXY.out HSY.out (Nat.le_add_right _ _) BW4.out (Nat.le_refl _) HN10.out⟩
       case rest =>
        clear IW HXY HSY HFT HN10 R4 F4' N4 K4 OU4 k0 k1 k2
        obtain ⟨lb',rfl,hp⟩:=hcut
        obtain ⟨n,fv,vo,ve,s,lz,Fs,l,xs,ys,hiw,hxy,hsy,hft,hn10⟩:=hp.it
        have HN10:=hid hn10
        clear hn10
        have IW:=hid hiw
        have HXY:=hid hxy
        have HSY:=hid hsy
        have HFT:=hid hft
        have BWc:=hid hp.below
        have HBc:=hid hp.base
        have HTL:=hid (qzs hiw.lo.good hiw.lo.r0 hiw.lo.r1)
        have HSZ:Hid (szF Fs≤1048576):=hid (by have:=hiw.lo.room;omega)
        have HXL:Hid (xs.length≤1048576):=hid (by have h1:=hiw.re.len;have h2:=hiw.re.lim;omega)
        clear hiw hxy hsy hft hp
        go_wp2_with fail
        refine (qfl IW.out.re).mono ?_
        rintro e w6 ⟨v6,rfl,ho6,b6⟩
        have V6:=hid (ho6.bs (IW.out.re.bs.append IW.out.re.bl))
        have IW6:=hid (IW.out.below b6)
        have B6:=hid (bt BWc.out b6)
        have S6:=hid (Nat.le_trans HBc.out.2.2 b6.size)
        have HXN:Hid ((xs++ys).length≤1099511627776):=hid (by rw [HXY.out,qbo IW.out.lo.r0 IW.out.lo.r1];have:=HSZ.out;omega)
        obtain ⟨a6,c6,rfl⟩:=V6.out.form
        obtain ⟨NX,hNX⟩:∃ NX,(xs++ys).length=NX:=⟨_,rfl⟩
        rw [hNX] at V6 ⊢
        clear ho6 b6 IW hNX
        go_wp2_with fail
        refine (qin _ (xs++ys) w6 V6.out HXN.out).mono ?_
        rintro e w7 (⟨htl,_⟩ | ⟨r',Gs,vf,vt,lls,htl,hgd,hr0,hr1,hsz,rfl,hto,b7⟩)
        ·rw [HXY.out] at htl
         have:=Tl.det HTL.out htl
         cases this
        ·rw [HXY.out] at htl
         have hdt:=Tl.det HTL.out htl
         simp only [Option.some.injEq,Prod.mk.injEq] at hdt
         obtain ⟨rfl,rfl⟩:=hdt
         have TO7:=hid hto
         have HSF:Hid ((∃ va n vc,vf=.slice va n vc)∧∃ va n vc,vt=.slice va n vc):=hid (by
          obtain ⟨us,_,h2,_⟩:=hto.us
          obtain ⟨va,vc,e,_⟩:=h2.form
          obtain ⟨va2,vc2,e2,_⟩:=hto.ends.form
          exact ⟨⟨_,_,_,e⟩,⟨_,_,_,e2⟩⟩)
         have IW7:=hid (IW6.out.below b7)
         have B7:=hid (bt B6.out b7)
         have S7:=hid (Nat.le_trans S6.out b7.size)
         clear htl hgd hr0 hr1 hsz hto b7 IW6 V6
         go_upto_region 42 with (first
          | (refine qbx rfl rfl ?_;intro w8 hr8 hb8 hlt8;have HK:=hid hr8;have HB8:=hid hb8;clear hr8 hb8 hlt8)
          | (refine qas rfl rfl rfl rfl HSF.out HK.out ?_;intro w9 hr9 hf9;have K9:=hid hr9;have HB9:=hid (qaa HB8.out hf9 (Nat.le_refl _));clear hr9 hf9 HK HB8)
          | fail)
         have IW9:=hid (IW7.out.below HB9.out)
         have TO9:=hid (TO7.out.below HB9.out)
         have B9:=hid (bt B7.out HB9.out)
         have S9:=hid (Nat.le_trans S7.out HB9.out.size)
         refine qxx ⟨IW9.out.lo,IW9.out.re,K9.out,TO9.out⟩ HXY.out HSY.out HSZ.out HXL.out (fun _ _ _ _ _ h=>h) (fun _ _ _ _ _ _ _ _ _ _ _ _ _ _ _ _ _ _ _ _ _ _ _ _ _ _ _ _ _ _ _ _ _ _ _ _ _ _ _ _ _ _ _ _ _ _ _ _ _ _ _ _ _ W hS hb=>?_)
         have HS:=hid hS
         have HB:=hid (show Below w.heap.size w W from bt B9.out (bt (bd w9 1) hb))
         have HBW:=hid (show w9.heap.size≤W.heap.size from hb.size)
         clear hS hb
         go_wp2_with fail
         exact ⟨⟨k+1,lb',rfl,by go_num,hlt,⟨⟨n,fv,vo,ve,s,lz,Fs,l,xs,ys,⟨HS.out.lo,HS.out.re,IW9.out.sep,IW9.out.cut⟩,HXY.out,HSY.out,HFT.out,HN10.out⟩,HB.out,HBc.out.1,HBc.out.2.1,Nat.le_trans S9.out HBW.out⟩⟩,by simp [intOf];omega⟩
      ·have hlt':¬ (k:Int)<(N:Int):=by omega
       go_wp2
       go_ret
       exact ⟨rfl,LP.out.below⟩
end Go.Proofs.YtkcjkncpaopjbaaGreatDoor
