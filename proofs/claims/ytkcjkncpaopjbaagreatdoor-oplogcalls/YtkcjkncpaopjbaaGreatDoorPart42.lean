/-
  Parts of the proof, one behind the other; what each proves stands at its head.
-/
import Derived.Test.YtkcjkncpaopjbaaGreatDoorPart15
import Derived.Test.YtkcjkncpaopjbaaGreatDoorPart37
import Derived.Test.YtkcjkncpaopjbaaGreatDoorPart35
import Derived.Deep.SlicePairs
import Derived.Deep.Strs

namespace Go.Proofs.YtkcjkncpaopjbaaGreatDoor
open Go.RowKit Go.ChangeShapes Go.WideShapes Go.ChangeAt
set_option linter.unusedVariables false
set_option maxRecDepth 100000
theorem qwl:Tryz.prog.cellsOf 38=1:=by kernel_rfl
section
variable {H:Type} {enc:TypeId × Value→H} {W:World} {held:Bool}
theorem qwy {n:Nat}{v:Value}{x:DataW H × List MemPlace}(h:DataW.trod enc Tryz.prog W 0 (fun _=>true) held n 38 [v]=some x):∃ l,Os W v l:=by
 rcases Go.Deep.open_slice Tryz.underlying38 h with ⟨hcs,_⟩ | ⟨x,len,c,m,n,D,Pl,hcs,_,hl,hm,hmm,_,hx⟩
 ·simp at hcs
  subst hcs
  exact ⟨[],Sl.nil 20 W,fun p hp=>by cases hp⟩
 ·simp at hcs
  subst hcs
  simp at hmm
  subst hmm
  rw [qrh] at hx
  have each:∀ i,i<len→∃ q:Opn × Value,W.cells? 0 (x.add (i*20)) 20=some (opc q)∧Cs W q.2 q.1.cuts:=fun i hi=>by
   obtain ⟨cs',h1,h2⟩:=hx i (by omega)
   obtain ⟨o,u,rfl,hc⟩:=jao h2
   exact ⟨(o,u),h1,hc⟩
  have hinh:Inhabited (Opn × Value):=⟨(Opn.zero,.slice none 0 0)⟩
  obtain ⟨q,hq⟩:=Go.Deep.choose_lt each
  refine ⟨(List.range len).map q,?_,fun p hp=>?_⟩
  ·have:=Sl.of_rows (sz:=20) (W:=W) (x:=x) (by decide) hl hm (fun i=>opc (q i)) (fun i hi=>⟨rfl,fun j u hu=>by
    obtain ⟨_,_,hcell⟩:=World.cells?_some (hq i hi).1
    have hj:j<20:=(List.getElem?_eq_some_iff.1 hu).1
    have:=hcell j hj
    rw [Go.Deep.add_add] at this
    rw [this,hu]⟩)
   rw [List.length_map,List.length_range,List.flatMap_map]
   exact this
  ·obtain ⟨i,hi,rfl⟩:=List.mem_map.1 hp
   exact (hq i (List.mem_range.1 hi)).2
end
end Go.Proofs.YtkcjkncpaopjbaaGreatDoor

namespace Go.Proofs.YtkcjkncpaopjbaaGreatDoor
open Go.RowKit Go.ChangeShapes Go.WideShapes
set_option linter.unusedVariables false
set_option maxRecDepth 100000
abbrev Cao:=Int × Int × List (Opn × Value)
def cao0:Cao:=(0,0,[])
def Dq (w:World) (v:Value) (qs:List Cao):Prop :=
 ∃ a c,v=.slice a qs.length c∧qs.length≤c∧c≤maxLen ∧
  ∀ i,i<qs.length→∃ b off u,a=some ⟨b,off,none⟩∧w.cell? ⟨b,off+i*3,none⟩=some (.int .i64 (qs.getD i cao0).1)∧w.cell? ⟨b,off+i*3+1,none⟩=some (.int .i64 (qs.getD i cao0).2.1) ∧
   w.cell? ⟨b,off+i*3+2,none⟩=some u∧Os w u (qs.getD i cao0).2.2
theorem Dq.below {w w':World}{v:Value}{qs:List Cao}(h:Dq w v qs) (hb:Below w.heap.size w w'):Dq w' v qs:=by
 obtain ⟨a,c,h1,h2,h3,h4⟩:=h
 refine ⟨a,c,h1,h2,h3,fun i hi=>?_⟩
 obtain ⟨b,off,u,e1,e2,e3,e4,e5⟩:=h4 i hi
 exact ⟨b,off,u,e1,by rw [hb.cell (World.block_lt_of_cell? _ _ e2)];exact e2,by rw [hb.cell (World.block_lt_of_cell? _ _ e3)];exact e3,by rw [hb.cell (World.block_lt_of_cell? _ _ e4)];exact e4,e5.later hb⟩
theorem Dq.nil (w:World):Dq w (.slice none 0 0) []:=⟨none,0,rfl,Nat.le_refl _,Nat.zero_le _,fun i hi=>absurd hi (Nat.not_lt_zero _)⟩
theorem Dq.len {w:World}{v:Value}{qs:List Cao}(h:Dq w v qs):qs.length≤maxLen:=by
 obtain ⟨a,c,_,h2,h3,_⟩:=h
 exact Nat.le_trans h2 h3
theorem Dq.form {w:World}{v:Value}{qs:List Cao}(h:Dq w v qs):∃ a c,v=.slice a qs.length c:=by
 obtain ⟨a,c,e,_⟩:=h
 exact ⟨a,c,e⟩
theorem Dq.inv {w:World}{v:Value}{qs:List Cao}(h:Dq w v qs) (hx:0<qs.length) :
  ∃ b off c,v=.slice (some ⟨b,off,none⟩) qs.length c∧∀ i,i<qs.length→∃ u,w.cell? ⟨b,off+i*3,none⟩=some (.int .i64 (qs.getD i cao0).1)∧w.cell? ⟨b,off+i*3+1,none⟩=some (.int .i64 (qs.getD i cao0).2.1) ∧
   w.cell? ⟨b,off+i*3+2,none⟩=some u∧Os w u (qs.getD i cao0).2.2:=by
 obtain ⟨a,c,h1,h2,h3,h5⟩:=h
 obtain ⟨b,off,u,e1,_⟩:=h5 0 hx
 refine ⟨b,off,c,by rw [h1,e1],fun i hi=>?_⟩
 obtain ⟨b',off',u',e2,e3⟩:=h5 i hi
 rw [e1] at e2
 simp only [Option.some.injEq,Addr.mk.injEq,and_true] at e2
 obtain ⟨rfl,rfl⟩:=e2
 exact ⟨u',e3⟩
theorem qnt:Tryz.prog.cellsOf 40=3:=by kernel_rfl
theorem qwm:Tryz.prog.cellsOf 3=1:=by kernel_rfl
theorem list3' {α:Type}{l:List α}(h:l.length=3):∃ a b c,l=[a,b,c]:=by
 match l,h with
 | [a,b,c],_=>exact ⟨a,b,c,rfl⟩
section
variable {H:Type} {enc:TypeId × Value→H} {W:World} {held:Bool}
theorem qxa {n:Nat}{cs:List Value}{x:DataW H × List MemPlace}(h:DataW.trod enc Tryz.prog W 0 (fun _=>true) held n 40 cs=some x) :
  ∃ (q:Cao) (u:Value),cs=[.int .i64 q.1,.int .i64 q.2.1,u]∧Os W u q.2.2:=by
 obtain ⟨d,p⟩:=x
 obtain ⟨y0,y1,y2,k,hx,hl,g0,g1,g2⟩:=Go.Deep.trod_struct3 Tryz.underlying40 h
 rw [qnt] at hl
 obtain ⟨v0,v1,v2,rfl⟩:=list3' hl
 simp [qwm,qwl] at g0 g1 g2
 obtain ⟨a,e0,_⟩:=DataW.trod_int Tryz.underlying3 g0
 obtain ⟨b,e1,_⟩:=DataW.trod_int Tryz.underlying3 g1
 simp at e0 e1
 subst e0;subst e1
 obtain ⟨l,hl2⟩:=qwy (x:=y2) g2
 exact ⟨(a,b,l),v2,rfl,hl2⟩
theorem quv {b0:Nat}{v:Value}{d:DataW H}{p:List MemPlace}(hv:Value.okWide Tryz.prog W .any b0 22 v) (h:DataW.Trod enc Tryz.prog W 0 (fun _=>true) held 22 v d p):∃ qs,Dq W v qs:=by
 obtain ⟨a,len,cap,rfl⟩:=okWide_slice Tryz.underlying22 hv
 obtain ⟨fuel,hf⟩:=h
 rcases Go.Deep.open_slice Tryz.underlying22 hf with ⟨hcs,_⟩ | ⟨x,l,c,m,n,D,Pl,hcs,_,hl,hm,hmm,hd,hx⟩
 ·simp [Value.cells] at hcs
  obtain ⟨rfl,rfl,rfl⟩:=hcs
  exact ⟨[],Dq.nil W⟩
 ·simp [Value.cells] at hcs
  obtain ⟨rfl,rfl,rfl⟩:=hcs
  simp at hmm
  subst hmm
  rw [qnt] at hx
  have each:∀ i,i<len→∃ q:Cao × Value,W.cells? 0 (x.add (i*3)) 3=some [.int .i64 q.1.1,.int .i64 q.1.2.1,q.2]∧Os W q.2 q.1.2.2:=fun i hi=>by
   obtain ⟨cs',h1,h2⟩:=hx i (by omega)
   obtain ⟨q,u,rfl,h3⟩:=qxa h2
   exact ⟨(q,u),h1,h3⟩
  have hinh:Inhabited (Cao × Value):=⟨(cao0,.slice none 0 0)⟩
  obtain ⟨q,hq⟩:=Go.Deep.choose_lt each
  refine ⟨(List.range len).map (fun i=>(q i).1),some x,_,by simp,by simpa using hl,hm,fun i hi=>?_⟩
  simp at hi
  obtain ⟨g0,g1⟩:=hq i hi
  obtain ⟨_,_,hcell⟩:=World.cells?_some g0
  have c0:=hcell 0 (by decide)
  have c1:=hcell 1 (by decide)
  have c2:=hcell 2 (by decide)
  rw [Go.Deep.add_add] at c0 c1 c2
  obtain ⟨b,off,spot⟩:=x
  have hs:spot=none:=by
   obtain ⟨_,_,hcell0⟩:=World.cells?_some (hq 0 (by omega)).1
   simpa [Addr.add] using World.cell?_spot (hcell0 0 (by decide))
  subst hs
  rw [Addr.add_lit] at c0 c1 c2
  have hg:((List.range len).map (fun i=>(q i).1)).getD i cao0=(q i).1:=by simp [List.getD,hi]
  rw [hg]
  refine ⟨b,off,(q i).2,rfl,c0,?_,?_,g1⟩
  ·rw [Nat.add_assoc];exact c1
  ·rw [Nat.add_assoc];exact c2
end
def totC (qs:List Cao):Nat:=(qs.map (fun q=>q.2.2.length)).sum
theorem qmp (qs:List Cao) (q:Cao):totC (qs++[q])=totC qs+q.2.2.length:=by simp [totC]
def GR (qs:List Cao) (e:Ending):Prop:=∃ g:Bool,e=.returned (.bool g)∧(g=false→qs.length≤60∧totC qs≤200∧∀ q ∈ qs,longB q.2.2 100=false)
set_option maxHeartbeats 2000000 in
theorem qsk (a:Value) (qs:List Cao) (w:World) (h:Dq w a qs) :
  Calls Tryz.prog 5 #[a] w fun e w'=>GR qs e∧w=w':=by
 have l1:=h.len
 unfold maxLen at l1
 by_cases hz:qs.length=0
 ·have e1:qs=[]:=List.eq_nil_of_length_eq_zero hz
  subst e1
  obtain ⟨a1,c1,rfl⟩:=h.form
  clear h l1 hz
  go_enter Tryz.func5,Tryz.ntmps5
  go_wp2
  refine wp_loop_rounds 1 ?_
  rw [rounds_succ]
  go_wp2
  go_ret
  exact ⟨⟨false,rfl,fun _=>⟨by decide,by decide,fun q hq=>by cases hq⟩⟩,rfl⟩
 ·obtain ⟨b,off,c,rfl,hc⟩:=h.inv (by omega)
  obtain ⟨n,hn⟩:∃ n,qs.length=n:=⟨_,rfl⟩
  have HN:=hid hn
  have HC:=hid hc
  rw [hn] at l1 hz ⊢
  clear h hc hn
  by_cases hb:(60:Int)<n
  ·go_enter Tryz.func5,Tryz.ntmps5
   go_wp2
   go_ret
   exact ⟨⟨true,rfl,fun h=>by cases h⟩,rfl⟩
  ·have hb':¬ (60:Int)<n:=hb
   go_enter Tryz.func5,Tryz.ntmps5
   go_wp2
   go_loopw [3,4] (fun s i wr=>∃ k m:Nat,k≤n∧i=.int .i64 k∧s=.int .i64 m∧m≤200∧m=totC (qs.take k)∧(∀ q ∈ qs.take k,longB q.2.2 100=false)∧w=wr) (fun _ i _=>n - (intOf i).toNat)
   case atStart=>exact ⟨0,0,Nat.zero_le _,rfl,rfl,Nat.zero_le _,rfl,fun q hq=>by simp at hq,rfl⟩
   case round =>
    obtain ⟨k,m,hk,rfl,rfl,hm,ht,hl,rfl⟩:=hrel
    have HT:=hid ht
    have HL:=hid hl
    clear ht hl
    by_cases hlt:k<n
    ·have hlt':(k:Int)<(n:Int):=by omega
     have hx:k<qs.length:=by rw [HN.out];exact hlt
     obtain ⟨u,c0,c1,c2,ho⟩:=HC.out k hx
     obtain ⟨q,hq⟩:∃ q,qs.getD k cao0=q:=⟨_,rfl⟩
     have hqk:qs[k]=q:=by rw [←hq];simp [List.getD,hx]
     rw [hq] at c0 c1 ho
     have HO:=hid ho
     obtain ⟨ua,uc,rfl,hu1,hu2⟩:=Sl.form ho.1
     obtain ⟨L,hL⟩:∃ L,q.2.2.length=L:=⟨_,rfl⟩
     have HLL:=hid hL
     rw [hL] at c2 HO hu1
     have hLm:L≤9223372036854775807:=by unfold maxLen at hu2;omega
     have htk:qs.take (k+1)=qs.take k++[q]:=by rw [List.take_succ_eq_append_getElem hx,hqk]
     have HTK:=hid htk
     clear ho hq hqk hu1 hu2 hL c0 c1 htk
     by_cases hbig:1000<L
     ·have HLG:Hid (longB q.2.2 100=true):=hid (by unfold longB;rw [HLL.out];simp;omega)
      obtain ⟨S2,hS2⟩:∃ S2,wrap64 ((m:Int)+(L:Int))=S2:=⟨_,rfl⟩
      rcases (by omega:¬ (200:Int)<S2∨(200:Int)<S2) with hs | hs
      ·go_wp2_with fail
       refine (qqu _ q.2.2 100 w HO.out (by decide)).mono ?_
       rintro e w2 ⟨rfl,rfl⟩
       rw [HLG.out]
       go_wp2
       go_ret
       exact ⟨⟨true,rfl,fun h=>by cases h⟩,rfl⟩
      ·go_wp2
       go_ret
       exact ⟨⟨true,rfl,fun h=>by cases h⟩,rfl⟩
     ·by_cases hs:200<m+L
      ·have hs':(200:Int)<(m:Int)+(L:Int):=by omega
       go_wp2
       go_ret
       exact ⟨⟨true,rfl,fun h=>by cases h⟩,rfl⟩
      ·have hs':¬ (200:Int)<(m:Int)+(L:Int):=by omega
       obtain ⟨G,hG⟩:∃ G,longB q.2.2 100=G:=⟨_,rfl⟩
       have HG:=hid hG
       clear hG
       go_wp2_with fail
       refine (qqu _ q.2.2 100 w HO.out (by decide)).mono ?_
       rintro e w2 ⟨rfl,rfl⟩
       rw [HG.out]
       cases G with
       | true =>
        go_wp2
        go_ret
        exact ⟨⟨true,rfl,fun h=>by cases h⟩,rfl⟩
       | false =>
        go_wp2
        go_roundw
        case rel=>exact ⟨k+1,m+L,hlt,by go_num,by go_num,by omega,by rw [HTK.out,qmp,HLL.out,HT.out],fun p hp=>by
         rw [HTK.out] at hp
         rcases List.mem_append.1 hp with hp | hp
         ·exact HL.out p hp
         ·rw [List.mem_singleton.1 hp];exact HG.out,by first | rfl | trivial⟩
        case measure=>simp [intOf];omega
    ·have hlt':¬ (k:Int)<(n:Int):=by omega
     have htk:qs.take k=qs:=List.take_of_length_le (by rw [HN.out];omega)
     go_wp2
     go_ret
     have h1:=HT.out
     have h2:=HL.out
     rw [htk] at h1 h2
     exact ⟨⟨false,rfl,fun _=>⟨by rw [HN.out];omega,by omega,h2⟩⟩,rfl⟩
theorem qvf {B:Nat}{w:World}{lb fb:Nat}{fv vo ve:Value}{r:Int}{Fs:List (List Opn)}{n R:Nat}{l:List (Opn × Value)}(h:Lo B w lb fb fv vo ve r Fs n R l) (hL:Lay w) (u:Value) (q:List (Opn × Value)) (hq:Os w u q) (hf:∀ p ∈ q,p.1.fine) (hn:q.length≤1000000) :
  Calls Tryz.prog 12 #[.pointer (some ⟨lb,0,none⟩),u] w fun e w'=>e=.returned (.bool (apE R Fs (fsts q)==0))∧Below w.heap.size w w':=by
 have HF:=hid (qjl u q w hL hq hf hn)
 have HL:=hid h
 obtain ⟨ua,uc,rfl,_,_⟩:=Sl.form hq.1
 obtain ⟨G,hG⟩:∃ G,fsts q=G:=⟨_,rfl⟩
 rw [hG] at HF ⊢
 clear h hq hf hL hG
 by_cases hz:frE G=0
 ·have hfb:frB G=C.frame (encA G):=by unfold frB;rw [hz];rfl
  rw [hz,hfb] at HF
  obtain ⟨YS,hYS⟩:∃ YS,C.frame (encA G)=YS:=⟨_,rfl⟩
  obtain ⟨M',hM⟩:∃ M',YS.length=M':=⟨_,rfl⟩
  have hfl:8+(encA G).length=M':=by rw [←hM,←hYS,C.frame_length]
  rw [hYS] at HF
  have HM:=hid hM
  obtain ⟨X,hX⟩:∃ X,(lby r Fs).length=X:=⟨_,rfl⟩
  have hxl:=qbo HL.out.r0 HL.out.r1 Fs
  have hrm:=HL.out.room
  have hap:apE R Fs G=if X+M'≤R then 0 else 14:=by unfold apE;rw [if_neg (by simp [hz]),hfl,←hxl,hX]
  have HX:=hid hX
  have hXR:X≤R:=by omega
  have hR:R≤1048576:=hrm.2
  clear hX hM hYS hfl hfb hxl hrm
  have c0:=HL.out.lg.c0
  by_cases hfit:X+M'≤R
  ·have hb:(apE R Fs G==0)=true:=by rw [hap,if_pos hfit];rfl
   rw [hb]
   have hle:(M':Int)≤(R:Int) - (X:Int):=by omega
   clear hap hb
   go_enter Tryz.func12,Tryz.ntmps12
   go_wp2_with fail
   refine HF.out.mono ?_
   rintro e w1 ⟨v1,rfl,hv1,b1⟩
   obtain ⟨a1,c1,e1⟩:=hv1.form
   rw [HM.out] at e1
   subst e1
   have B1:=hid b1
   have HL1:=hid (HL.out.below b1)
   clear hv1 b1 c0
   have c0:=HL1.out.lg.c0
   go_wp2_with fail
   refine (qii HL1.out.lg.fi).mono ?_
   rintro e w2 ⟨rfl,m,rfl⟩
   rw [HX.out]
   go_wp2
   go_ret
   exact ⟨by first | rfl | (show Ending.returned (Value.bool (decide ((M':Int)≤(R:Int) - (X:Int))))=_;rw [decide_eq_true hle]),below_drewN B1.out m⟩
  ·have hb:(apE R Fs G==0)=false:=by rw [hap,if_neg hfit];rfl
   rw [hb]
   have hle:¬ (M':Int)≤(R:Int) - (X:Int):=by omega
   clear hap hb
   go_enter Tryz.func12,Tryz.ntmps12
   go_wp2_with fail
   refine HF.out.mono ?_
   rintro e w1 ⟨v1,rfl,hv1,b1⟩
   obtain ⟨a1,c1,e1⟩:=hv1.form
   rw [HM.out] at e1
   subst e1
   have B1:=hid b1
   have HL1:=hid (HL.out.below b1)
   clear hv1 b1 c0
   have c0:=HL1.out.lg.c0
   go_wp2_with fail
   refine (qii HL1.out.lg.fi).mono ?_
   rintro e w2 ⟨rfl,m,rfl⟩
   rw [HX.out]
   go_wp2
   go_ret
   exact ⟨by first | rfl | (show Ending.returned (Value.bool (decide ((M':Int)≤(R:Int) - (X:Int))))=_;rw [decide_eq_false (by omega)]),below_drewN B1.out m⟩
 ·have hb:(apE R Fs G==0)=false:=by unfold apE;rw [if_pos hz];simpa using hz
  rw [hb]
  have hz':(frE G==0)=false:=by simpa using hz
  obtain ⟨E,hE⟩:∃ E,frE G=E:=⟨_,rfl⟩
  rw [hE] at HF hz'
  clear hb hz hE
  go_enter Tryz.func12,Tryz.ntmps12
  go_wp2_with fail
  refine HF.out.mono ?_
  rintro e w1 ⟨v1,rfl,hv1,b1⟩
  obtain ⟨a1,c1,rfl⟩:=hv1.form
  have B1:=hid b1
  clear hv1 b1
  go_wp2
  go_ret
  exact ⟨rfl,B1.out⟩
end Go.Proofs.YtkcjkncpaopjbaaGreatDoor
