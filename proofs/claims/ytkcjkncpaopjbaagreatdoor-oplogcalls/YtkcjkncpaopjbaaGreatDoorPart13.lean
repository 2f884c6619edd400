/-
  Parts of the proof, one behind the other; what each proves stands at its head.
-/
import Derived.Test.YtkcjkncpaopjbaaGreatDoorPart12
import Derived.Test.YtkcjkncpaopjbaaGreatDoorPart6
import Derived.Test.YtkcjkncpaopjbaaGreatDoorPart1
import Derived.Laws.AppendOwnNone
import Derived.BigQuiet

namespace Go.Proofs.YtkcjkncpaopjbaaGreatDoor
open Go.RowKit
set_option linter.unusedVariables false
set_option maxRecDepth 100000
abbrev fc (l:List Nat):List Value:=l.map (fun (f:Nat)=>.int .i64 f)
def Fs (w:World) (v:Value) (l:List Nat):Prop:=Sl 1 w v l.length (fc l)
theorem Fs.below {w w':World}{v:Value}{l:List Nat}(h:Fs w v l) (hb:Below w.heap.size w w'):Fs w' v l:=Sl.below h hb
theorem Fs.inv {w:World}{v:Value}{l:List Nat}(h:Fs w v l) (hn:0<l.length) :
  ∃ b off c,v=.slice (some ⟨b,off,none⟩) l.length c∧l.length≤c∧c≤maxLen∧b<w.heap.size∧∀ i (hi:i<l.length),w.cell? ⟨b,off+i,none⟩=some (.int .i64 (l[i]:Nat)):=by
 obtain ⟨b,off,c,h1,h2,h3,h4,h5⟩:=Sl.inv h hn (by decide)
 exact ⟨b,off,c,h1,h2,h3,h4,fun i hi=>h5 i _ (by simp [hi])⟩
theorem qfg (w:World) (l:List Nat) (h:l.length≤9):Fs (w.alloc (.cells (fc l).toArray 147)) (.slice (some ⟨w.heap.size,0,none⟩) l.length l.length) l:=by
 have:=Sl.lit (sz:=1) w 147 (fc l).toArray l.length (by unfold maxLen;omega) (by simp)
 unfold Fs
 simpa using this
theorem qle (k:Int) (w:World):Calls Tryz.prog 116 #[.int .i64 k] w fun e w'=>∃ v,e=.returned v∧Fs w' v (told k)∧Below w.heap.size w w'∧∀ b,v.ownBlock=some b→w.heap.size≤b:=by
 by_cases hk:told k=[]
 ·rw [hk]
  have h1:(k==1)=false:=by simp;rintro rfl;simp [told] at hk
  have h2:(k==2)=false:=by simp;rintro rfl;simp [told] at hk
  have h3:(k==3)=false:=by simp;rintro rfl;simp [told] at hk
  have h4:(k==4)=false:=by simp;rintro rfl;simp [told] at hk
  have h5:(k==5)=false:=by simp;rintro rfl;simp [told] at hk
  have h6:(k==6)=false:=by simp;rintro rfl;simp [told] at hk
  clear hk
  go_enter Tryz.func116,Tryz.ntmps116
  go_wp2
  go_ret
  exact ⟨_,rfl,Sl.nil 1 w,Below.refl _ _,fun b hb=>by cases hb⟩
 ·rcases six hk with rfl | rfl | rfl | rfl | rfl | rfl
  ·rw [show told 1=[1,2] from rfl]
   have HF:=hid (qfg w [1,2] (by decide))
   go_enter Tryz.func116,Tryz.ntmps116
   go_wp2
   go_ret
   exact ⟨_,rfl,HF.out,ba _ _,fun b hb=>by simp [Value.ownBlock] at hb;omega⟩
  ·rw [show told 2=[0,1,2] from rfl]
   have HF:=hid (qfg w [0,1,2] (by decide))
   go_enter Tryz.func116,Tryz.ntmps116
   go_wp2
   go_ret
   exact ⟨_,rfl,HF.out,ba _ _,fun b hb=>by simp [Value.ownBlock] at hb;omega⟩
  ·rw [show told 3=[3,4,5,6] from rfl]
   have HF:=hid (qfg w [3,4,5,6] (by decide))
   go_enter Tryz.func116,Tryz.ntmps116
   go_wp2
   go_ret
   exact ⟨_,rfl,HF.out,ba _ _,fun b hb=>by simp [Value.ownBlock] at hb;omega⟩
  ·rw [show told 4=[7] from rfl]
   have HF:=hid (qfg w [7] (by decide))
   go_enter Tryz.func116,Tryz.ntmps116
   go_wp2
   go_ret
   exact ⟨_,rfl,HF.out,ba _ _,fun b hb=>by simp [Value.ownBlock] at hb;omega⟩
  ·rw [show told 5=[3,4,5,1,2] from rfl]
   have HF:=hid (qfg w [3,4,5,1,2] (by decide))
   go_enter Tryz.func116,Tryz.ntmps116
   go_wp2
   go_ret
   exact ⟨_,rfl,HF.out,ba _ _,fun b hb=>by simp [Value.ownBlock] at hb;omega⟩
  ·rw [show told 6=[0,8] from rfl]
   have HF:=hid (qfg w [0,8] (by decide))
   go_enter Tryz.func116,Tryz.ntmps116
   go_wp2
   go_ret
   exact ⟨_,rfl,HF.out,ba _ _,fun b hb=>by simp [Value.ownBlock] at hb;omega⟩
theorem qvj (v:Value) (l:List Nat) (f:Nat) (w:World) (h:Fs w v l) (hl:l.length≤9) (hf:f≤8) (hall:∀ x ∈ l,x≤8) :
  Calls Tryz.prog 142 #[v,.int .i64 f] w fun e w'=>∃ n:Int,e=.returned (.int .i64 n)∧(0≤n ↔ f ∈ l)∧w=w':=by
 by_cases hz:l.length=0
 ·obtain rfl:=List.eq_nil_of_length_eq_zero hz
  obtain ⟨a,c,rfl,_,_⟩:=Sl.form h
  clear h hl hall hz
  go_enter Tryz.func142,Tryz.ntmps142
  go_wp2
  refine wp_loop_rounds 1 ?_
  rw [rounds_succ]
  go_wp2
  go_ret
  exact ⟨_,rfl,by simp,rfl⟩
 ·obtain ⟨b,off,c,rfl,_,_,_,hc⟩:=h.inv (by omega)
  obtain ⟨n,hn⟩:∃ n,l.length=n:=⟨_,rfl⟩
  have HN:=hid hn
  rw [hn] at hl hz ⊢
  have HC:=hid hc
  clear hn hc h hall
  go_enter Tryz.func142,Tryz.ntmps142
  go_wp2
  go_loopw [8] (fun i wr=>∃ k:Nat,k≤n∧i=.int .i64 k∧wr=w∧∀ j (hj:j<l.length),j<k→l[j]≠f) (fun i _=>n - (intOf i).toNat)
  case atStart=>exact ⟨0,Nat.zero_le _,rfl,rfl,fun j _ h=>absurd h (Nat.not_lt_zero _)⟩
  case round =>
   obtain ⟨k,hk,rfl,rfl,ht⟩:=hrel
   have HT:=hid ht
   clear ht
   by_cases hlt:k<n
   ·have hkl:k<l.length:=by rw [HN.out];exact hlt
    have g1:=HC.out k hkl
    obtain ⟨x,hx⟩:∃ x,l[k]=x:=⟨_,rfl⟩
    rw [hx] at g1
    have HX:=hid hx
    clear hx
    have b1':(k:Int)<(n:Int):=by omega
    by_cases he:x=f
    ·have he':((f:Int)==(x:Int))=true:=by simp [he]
     have HE:=hid he
     clear he
     go_wp2
     go_ret
     refine ⟨_,rfl,?_,rfl⟩
     have hkl:k<l.length:=by rw [HN.out];exact hlt
     have hm:l[k] ∈ l:=List.getElem_mem hkl
     rw [HX.out,HE.out] at hm
     exact ⟨fun _=>hm,fun _=>by omega⟩
    ·have he':((f:Int)==(x:Int))=false:=by simp;omega
     have HE:=hid he
     clear he
     go_wp2
     go_roundw
     case rel =>
      refine ⟨k+1,by omega,by go_num,by first | rfl | trivial,fun j hj hjk=>?_⟩
      by_cases e:j=k
      ·subst e
       rw [HX.out];exact HE.out
      ·exact HT.out j hj (by omega)
     case measure=>simp [intOf];omega
   ·have e1:k=n:=by omega
    clear HC
    go_wp2
    go_ret
    refine ⟨_,rfl,?_,rfl⟩
    constructor
    ·intro h;omega
    ·intro hm
     obtain ⟨j,hj,e⟩:=List.getElem_of_mem hm
     exact absurd e (HT.out j hj (by have:=HN.out;omega))
theorem qif (v:Value) (l:List Nat) (f:Nat) (w:World) (h:Fs w v l) (hl:l.length≤9) (hf:f≤8) (hall:∀ x ∈ l,x≤8) :
  Calls Tryz.prog 133 #[v,.int .i64 f] w fun e w'=>e=.returned (.bool (decide (f ∈ l)))∧w=w':=by
 have HI:=hid (fun W=>qvj v l f W)
 obtain ⟨a,c,rfl,_,_⟩:=Sl.form h
 go_enter Tryz.func133,Tryz.ntmps133
 go_wp2_with fail
 refine (HI.out _ h hl hf hall).mono ?_
 rintro e w1 ⟨n,rfl,hn,rfl⟩
 have HN:=hid hn
 clear hn h hl hf hall
 go_wp2
 go_ret
 refine ⟨retb ?_,rfl⟩
 simpa using HN.out
abbrev cutv (c:Ct):Value:=.agg #[.int .i64 c.r,.int .i64 c.n,.int .i64 c.f,.int .i64 c.t]
theorem qmg (c:Ct) (w:World):Calls Tryz.prog 147 #[cutv c] w fun e w'=>e=.returned (.bool (!rct c))∧Below w.heap.size w w':=by
 obtain ⟨b,hb⟩:∃ b,rct c=b:=⟨_,rfl⟩
 rw [hb]
 have HR:=hid hb
 have HB:=hid (ba w (.cells #[.int .i64 c.r,.int .i64 c.n,.int .i64 c.f,.int .i64 c.t] 111))
 have hp:=heap_alloc_new w (.cells #[.int .i64 c.r,.int .i64 c.n,.int .i64 c.f,.int .i64 c.t] 111)
 have k2:=fun o=>((ba (w.alloc (.cells #[.int .i64 c.r,.int .i64 c.n,.int .i64 c.f,.int .i64 c.t] 111)) o).cell (p:=⟨w.heap.size,2,none⟩) (by simp)).trans (by rw [cell_of_row _ _ 2 _ _ _ hp];rfl:_=some (.int .i64 c.f))
 have k3:=fun o=>((ba (w.alloc (.cells #[.int .i64 c.r,.int .i64 c.n,.int .i64 c.f,.int .i64 c.t] 111)) o).cell (p:=⟨w.heap.size,3,none⟩) (by simp)).trans (by rw [cell_of_row _ _ 3 _ _ _ hp];rfl:_=some (.int .i64 c.t))
 clear hp hb
 cases hro:ro c.r c.n
 all_goals cases h0:decide (c.f<0)
 all_goals cases h1:decide (c.f<c.t)
 all_goals
  have HO:=hid hro
  have H0:=hid h0
  have H1:=hid h1
  have h1':decide (c.t≤c.f)=!decide (c.f<c.t):=by rw [Bool.eq_iff_iff];simp
  rw [h1] at h1'
  go_enter Tryz.func147,Tryz.ntmps147
  go_wp2_with (go_at_call 130;refine (qgt _ _ _).mono ?_;rintro e w2 ⟨rfl,rfl⟩;rw [hro])
  go_ret
  refine ⟨retb ?_,bt HB.out (ba _ _)⟩
  rw [←HR.out]
  have a1:=HO.out
  have a2:=H0.out
  have a3:=H1.out
  simp at a2 a3
  simp [rct,a1]
  try omega
abbrev wrongv:Value:=.func (.func 147) #[] #[]
set_option maxHeartbeats 1000000 in
theorem qsi (v:Value) (l:List Ct) (w:World) (h:Cs w v l) :
  Calls Tryz.prog 149 #[v,wrongv] w fun e w'=>∃ n:Int,e=.returned (.int .i64 n)∧(0≤n ↔ l.all rct=false)∧Below w.heap.size w w':=by
 by_cases hz:l.length=0
 ·obtain rfl:=List.eq_nil_of_length_eq_zero hz
  obtain ⟨a,c,rfl,_,_⟩:=h.form
  clear h hz
  go_enter Tryz.func149,Tryz.ntmps149
  go_wp2
  refine wp_loop_rounds 1 ?_
  rw [rounds_succ]
  go_wp2
  go_ret
  exact ⟨_,rfl,by simp,Below.refl _ _⟩
 ·obtain ⟨b,off,c,rfl,hlc,hcm,hbl,hc⟩:=h.inv (by omega)
  obtain ⟨n,hn⟩:∃ n,l.length=n:=⟨_,rfl⟩
  have HN:=hid hn
  rw [hn] at hz hlc ⊢
  unfold maxLen at hcm
  have HC:=hid hc
  have HBL:=hid hbl
  clear hn hc h hbl
  go_enter Tryz.func149,Tryz.ntmps149
  go_wp2
  go_loopw [8] (fun i wr=>∃ k:Nat,k≤n∧i=.int .i64 k∧Below w.heap.size w wr∧∀ j (hj:j<l.length),j<k→rct l[j]=true) (fun i _=>n - (intOf i).toNat)
  case atStart=>exact ⟨0,Nat.zero_le _,rfl,Below.refl _ _,fun j _ h=>absurd h (Nat.not_lt_zero _)⟩
  case round =>
   obtain ⟨k,hk,rfl,hbel,ht⟩:=hrel
   have HT:=hid ht
   have HBE:=hid hbel
   clear ht hbel
   by_cases hlt:k<n
   ·have hkl:k<l.length:=by rw [HN.out];exact hlt
    obtain ⟨x,hx⟩:∃ x,l[k]=x:=⟨_,rfl⟩
    have g:=HC.out k hkl
    rw [hx] at g
    have g0:=(HBE.out.cell (p:=⟨b,off+k*4,none⟩) HBL.out).trans g.1
    have g1:=(HBE.out.cell (p:=⟨b,off+k*4+1,none⟩) HBL.out).trans g.2.1
    have g2:=(HBE.out.cell (p:=⟨b,off+k*4+2,none⟩) HBL.out).trans g.2.2.1
    have g3:=(HBE.out.cell (p:=⟨b,off+k*4+3,none⟩) HBL.out).trans g.2.2.2
    have HX:=hid hx
    clear hx g
    have b1':(k:Int)<(n:Int):=by omega
    cases he:rct x
    ·go_wp2_with fail
     refine (qmg x _).mono ?_
     rintro e w1 ⟨rfl,hb1⟩
     have HB1:=hid hb1
     clear hb1
     rw [he]
     have HE:=hid he
     clear he
     go_wp2
     go_ret
     refine ⟨_,rfl,?_,HBE.out.trans (HB1.out.mono HBE.out.size)⟩
     have hm:l[k] ∈ l:=List.getElem_mem hkl
     rw [HX.out] at hm
     refine ⟨fun _=>?_,fun _=>by omega⟩
     rw [List.all_eq_false]
     exact ⟨x,hm,by rw [HE.out];decide⟩
    ·go_wp2_with fail
     refine (qmg x _).mono ?_
     rintro e w1 ⟨rfl,hb1⟩
     have HB1:=hid hb1
     clear hb1
     rw [he]
     have HE:=hid he
     clear he
     go_wp2
     go_roundw
     case rel =>
      refine ⟨k+1,by omega,by go_num,HBE.out.trans (HB1.out.mono HBE.out.size),fun j hj hjk=>?_⟩
      by_cases e:j=k
      ·subst e
       rw [HX.out];exact HE.out
      ·exact HT.out j hj (by omega)
     case measure=>simp [intOf];omega
   ·have e1:k=n:=by omega
    clear HC
    go_wp2
    go_ret
    refine ⟨_,rfl,?_,HBE.out⟩
    constructor
    ·intro h;omega
    ·intro hm
     rw [List.all_eq_false] at hm
     obtain ⟨x,hx,hne⟩:=hm
     obtain ⟨j,hj,e⟩:=List.getElem_of_mem hx
     have:=HT.out j hj (by have:=HN.out;omega)
     rw [e] at this
     exact absurd this hne
theorem qmf (v:Value) (l:List Ct) (w:World) (h:Cs w v l) :
  Calls Tryz.prog 148 #[v,wrongv] w fun e w'=>e=.returned (.bool (!l.all rct))∧Below w.heap.size w w':=by
 have HI:=hid (fun W=>qsi v l W)
 obtain ⟨a,c,rfl,_,_⟩:=h.form
 go_enter Tryz.func148,Tryz.ntmps148
 go_wp2_with fail
 refine (HI.out _ h).mono ?_
 rintro e w1 ⟨n,rfl,hn,hb⟩
 have HN:=hid hn
 have HB:=hid hb
 clear hn h hb
 go_wp2
 go_ret
 refine ⟨retb ?_,HB.out⟩
 have:=HN.out
 simp only [decide_eq_true_eq,Bool.not_eq_true']
 exact this
theorem qzj (v:Value) (l:List Ct) (w:World) (h:Cs w v l) :
  Calls Tryz.prog 146 #[v] w fun e w'=>e=.returned (.bool (decide (1≤l.length∧l.length≤16) && l.all rct))∧Below w.heap.size w w':=by
 have HI:=hid (fun W=>qmf v l W)
 obtain ⟨a,c,rfl,_,_⟩:=h.form
 obtain ⟨b,hb⟩:∃ b,l.all rct=b:=⟨_,rfl⟩
 rw [hb] at HI ⊢
 clear hb
 have HH:=hid h
 clear h
 obtain ⟨n,hn⟩:∃ n,l.length=n:=⟨_,rfl⟩
 rw [hn] at HI HH ⊢
 clear hn
 by_cases h1:1≤n
 ·by_cases h2:n≤16
  ·rw [decide_eq_true ⟨h1,h2⟩]
   have h1':decide ((1:Int)≤n)=true:=by simp;omega
   have h2':decide ((n:Int)≤16)=true:=by simp;omega
   go_enter Tryz.func146,Tryz.ntmps146
   go_wp2_with fail
   refine (HI.out _ HH.out).mono ?_
   rintro e w1 ⟨rfl,hb⟩
   have HB:=hid hb
   clear hb
   go_wp2
   go_ret
   refine ⟨retb ?_,HB.out⟩
   simp
  ·rw [decide_eq_false (fun h=>h2 h.2)]
   have h1':decide ((1:Int)≤n)=true:=by simp;omega
   have h2':decide ((n:Int)≤16)=false:=by simp;omega
   go_enter Tryz.func146,Tryz.ntmps146
   go_wp2
   go_ret
   exact ⟨rfl,Below.refl _ _⟩
 ·rw [decide_eq_false (fun h=>h1 h.1)]
  have h1':decide ((1:Int)≤n)=false:=by simp;omega
  go_enter Tryz.func146,Tryz.ntmps146
  go_wp2
  go_ret
  exact ⟨rfl,Below.refl _ _⟩
theorem qik:(Tryz.prog.info? 111).map (fun i=>(i.zero,i.size,i.bytes))=some (some (.agg #[.int .i64 0,.int .i64 0,.int .i64 0,.int .i64 0]),4,32):=by kernel_rfl
abbrev aa:Value:=.int .i64 0
def cutrow (l:List Ct) (m:Nat):List Value:=l.flatMap cutc++List.replicate (m*4) aa
theorem qwh (l:List Ct) (m:Nat) (j:Nat) (hj:j<4):(cutrow l (m+1))[l.length*4+j]?=some aa:=by
 unfold cutrow
 rw [List.getElem?_append_right (by rw [qbj cutc 4 (fun _=>rfl)];omega),qbj cutc 4 (fun _=>rfl),List.getElem?_replicate]
 rw [if_pos (by omega)]
theorem qss (l:List Ct) (m:Nat) (c:Ct):((((cutrow l (m+1)).set (l.length*4) (.int .i64 c.r)).set (l.length*4+1) (.int .i64 c.n)).set (l.length*4+2) (.int .i64 c.f)).set (l.length*4+3) (.int .i64 c.t)=cutrow (l++[c]) m:=by
 unfold cutrow
 have e:List.replicate ((m+1)*4) aa=aa::aa::aa::aa::List.replicate (m*4) aa:=by
  rw [show (m+1)*4=m*4+1+1+1+1 by omega]
  rfl
 have hl:(l.flatMap cutc).length=l.length*4:=qbj cutc 4 (fun _=>rfl) l
 rw [e,←hl]
 simp [List.set_append_right,List.flatMap_append,cutc]
theorem qyj (n:Nat):(madeCells #[aa,aa,aa,aa] (n*4)).toList=cutrow [] n:=by
 refine List.ext_getElem (by simp [cutrow,madeCells]) fun j h1 h2=>?_
 simp [madeCells,cutrow]
 rcases (by omega:j % 4=0∨j % 4=1∨j % 4=2∨j % 4=3) with e | e | e | e<;>rw [e]<;>rfl
theorem qyi {w:World}{B n g:Nat}(h:w.ownsRow B 111 4 (.slice (some ⟨g,0,none⟩) n n) n (cutrow [] n)):w.heap[g]?=some (.cells (cutrow [] n).toArray 111 (0,0)):=by
 rcases h.2 with ⟨e,_⟩ | ⟨g',cap,cur,e,_,hg,_,_,hcs,ht⟩
 ·cases e
 ·simp only [Value.slice.injEq,Option.some.injEq,Addr.mk.injEq,and_true,true_and] at e
  obtain ⟨rfl,rfl⟩:=e
  rw [hg]
  have:cur.toList=cutrow [] n:=by rw [←ht,List.take_of_length_le (by rw [Array.length_toList];omega)]
  rw [←this]
theorem qwj {w:World}{g:Nat}{l:List Ct}(hl:l.length≤maxLen) (h:w.heap[g]?=some (.cells (cutrow l 0).toArray 111 (0,0))):Cs w (.slice (some ⟨g,0,none⟩) l.length l.length) l:=by
 refine ⟨qbj cutc 4 (fun _=>rfl) l,some ⟨g,0,none⟩,l.length,rfl,Nat.le_refl _,hl,(fun e=>by cases e),fun j u hu=>⟨g,0,rfl,?_⟩⟩
 rw [Nat.zero_add,cell_of_row w g j _ _ _ h]
 simpa [cutrow] using hu
theorem qun (B:Bnd) (j:Nat) (s:St):(rcuts B j s).1.length=j:=by
 induction j with
 | zero=>rfl
 | succ j ih=>unfold rcuts;simp [ih]
set_option maxHeartbeats 4000000 in
theorem cuts_r (c:Nat) (s:St) (w:World) (h:Cu w c s) (hv:K.Byt s.1) :
  Calls Tryz.prog 129 #[rdv c] w fun e w'=>∃ v,e=.returned v ∧
   Cs w' v (rcuts Bnd.own (rn 16 s).1.toNat (rn 16 s).2).1∧Cu w' c (rcuts Bnd.own (rn 16 s).1.toNat (rn 16 s).2).2∧Fr (fun k=>k=c) w w'∧∀ k,v.ownBlock=some k→w.heap.size≤k:=by
 have hlt:=h.lt
 have HA:=hid (ba w (rdo c))
 have HC:=hid (h.below HA.out)
 have R1:=hid (heap_alloc_new w (rdo c))
 have N1:=hid (fun W=>qjz c s 16 W)
 obtain ⟨p1,hp1⟩:∃ p1,rn 16 s=p1:=⟨_,rfl⟩
 have hb:=qfe (m:=16) hv
 rw [hp1] at N1 hb ⊢
 obtain ⟨n,hn⟩:∃ n:Nat,p1.1=n:=⟨p1.1.toNat,by omega⟩
 have hn16:n≤16:=by have:=hb.2.2 (by decide);omega
 rw [hn] at N1 ⊢
 rw [Int.toNat_natCast]
 obtain ⟨s1,hs1⟩:∃ s1,p1.2=s1:=⟨_,rfl⟩
 rw [hs1] at N1 ⊢
 obtain ⟨i0,hi,hz0,hz1,hz2⟩:=info_parts qik
 have hmk:i0.bytes*n≤281474976710656:=by rw [hz2];omega
 have hkm:n≤maxLen:=by unfold maxLen;omega
 clear h hp1 hv hb hn hs1
 go_enter Tryz.func129,Tryz.ntmps129
 go_wp2_with fail
 refine (N1.out _ HC.out).mono ?_
 rintro e w1 ⟨rfl,hc1,hg1⟩
 have H1:=hid (qax hg1 R1.out (by omega))
 have HC1:=hid hc1
 have HF1:=hid ((Fr.of_below HA.out).trans (Fr.grown hg1) (fun _ _ h=>h))
 have hs1:w.heap.size<w1.heap.size:=(Array.getElem?_eq_some_iff.1 H1.out).1
 clear hc1 hg1
 go_wp2_with (at_make;refine wpList_make_full _ rfl (.tmp 10) (.tmp 10) 72 rfl w1.heap.size 111 i0 _ 4 Tryz.underlying72 hi hz0 hz1 .i64 .i64 _ _ n rfl rfl rfl rfl hmk hkm (Nat.le_refl _) ?_;intro w2 hown hgrow)
 have hrow:w2.heap[w1.heap.size]?=some (.cells (cutrow [] n).toArray 111 (0,0)):=qyi (by rw [←qyj];exact hown)
 have hb2:Below w1.heap.size w1 w2:=(Below.refl _ w1).grown hgrow (Nat.le_refl _) (by intro k hk;cases hk)
 have HR2:=hid hrow
 have HC2:=hid (HC1.out.below hb2)
 have HF2:=hid (HF1.out.trans (Fr.of_below hb2:Fr (fun k=>k=c) _ _) (fun _ _ h=>h))
 have H2:=hid (((Fr.of_below hb2:Fr (fun k=>k=c) _ _)).rows H1.out (by omega))
 clear hown hgrow hrow hb2
 go_wp2
 go_loopw [14] (fun i wr=>∃ k:Nat,k≤n∧i=.int .i64 k∧Cu wr c (rcuts Bnd.own k s1).2∧wr.heap[w1.heap.size]?=some (.cells (cutrow (rcuts Bnd.own k s1).1 (n - k)).toArray 111 (0,0))∧wr.heap[w.heap.size]?=some (rdo c)∧Fr (fun k=>k=c) w wr) (fun i _=>n - (intOf i).toNat)
 case atStart=>exact ⟨0,Nat.zero_le _,rfl,HC2.out,HR2.out,H2.out,HF2.out⟩
 case round =>
  obtain ⟨k,hk,rfl,hck,hrk,hbk,hfk⟩:=hrel
  clear HR2 HC2 HF2 H2 HC1 HF1 HC N1
  have hlk:(rcuts Bnd.own k s1).1.length=k:=qun _ _ _
  have hnext:rcuts Bnd.own (k+1) s1=((rcuts Bnd.own k s1).1++[(rcut Bnd.own (rcuts Bnd.own k s1).2).1],(rcut Bnd.own (rcuts Bnd.own k s1).2).2):=rfl
  obtain ⟨q,hq⟩:∃ q,rcuts Bnd.own k s1=q:=⟨_,rfl⟩
  rw [hq] at hck hrk hlk hnext
  have HN:=hid hnext
  have HQ:=hid hq
  have HL:=hid hlk
  have HCK:=hid hck
  have HRK:=hid hrk
  have HBK:=hid hbk
  have HFK:=hid hfk
  clear hnext hq hlk hck hrk hbk hfk
  by_cases hlt':k<n
  ·have b1':(k:Int)<(n:Int):=by omega
   have N1:=hid (fun W=>qkl c q.2 W)
   have hcut:rcut Bnd.own q.2=(⟨(rn 15 q.2).1,(rn 1048576 (rn 15 q.2).2).1,(rn 64 (rn 1048576 (rn 15 q.2).2).2).1,(rn 64 (rn 64 (rn 1048576 (rn 15 q.2).2).2).2).1⟩,(rn 64 (rn 64 (rn 1048576 (rn 15 q.2).2).2).2).2):=rfl
   obtain ⟨x1,hx1⟩:∃ x,rn 15 q.2=x:=⟨_,rfl⟩
   rw [hx1] at N1 hcut
   obtain ⟨x2,hx2⟩:∃ x,rn 1048576 x1.2=x:=⟨_,rfl⟩
   rw [hx2] at N1 hcut
   have N2:=hid (fun W=>qjz c x2.2 64 W)
   obtain ⟨x3,hx3⟩:∃ x,rn 64 x2.2=x:=⟨_,rfl⟩
   rw [hx3] at N2 hcut
   have N3:=hid (fun W=>qjz c x3.2 64 W)
   obtain ⟨x4,hx4⟩:∃ x,rn 64 x3.2=x:=⟨_,rfl⟩
   rw [hx4] at N3 hcut
   have HCT:=hid hcut
   have d1:=cell_of_row wr w.heap.size 0 _ _ _ HBK.out
   simp at d1
   have hsz:w1.heap.size<wr.heap.size:=(Array.getElem?_eq_some_iff.1 HRK.out).1
   clear hx1 hx2 hx3 hx4 hcut
   go_wp2_with fail
   refine (N1.out _ HCK.out).mono ?_
   rintro e w3 ⟨rfl,hc3,hf3⟩
   have HA3:=hid (ba w3 (ido 69 x1.1 x2.1))
   have HC3:=hid (hc3.below HA3.out)
   have HF3:=hid (hf3.trans (Fr.of_below HA3.out:Fr (fun k=>k=c) _ _) (fun _ _ h=>h))
   have hs3:=hf3.size
   have H3:=hid (heap_alloc_new w3 (ido 69 x1.1 x2.1))
   have B3:=hid (HF3.out.rows HBK.out (by omega))
   have R3:=hid (HF3.out.rows HRK.out (by omega))
   have d2:=cell_of_row _ w.heap.size 0 _ _ _ B3.out
   simp at d2
   clear hc3 hf3 d1
   go_wp2_with fail
   refine (N2.out _ HC3.out).mono ?_
   rintro e w4 ⟨rfl,hc4,hg4⟩
   have HC4:=hid hc4
   have HF4:=hid (HF3.out.trans (Fr.grown hg4) (fun _ _ h=>h))
   have H4:=hid (qax hg4 H3.out (by omega))
   have B4:=hid (qax hg4 B3.out (by omega))
   have R4:=hid (qax hg4 R3.out (by omega))
   have d3:=cell_of_row _ w.heap.size 0 _ _ _ B4.out
   simp at d3
   clear hc4 hg4 d2
   go_wp2_with fail
   refine (N3.out _ HC4.out).mono ?_
   rintro e w5 ⟨rfl,hc5,hg5⟩
   have HC5:=hid hc5
   have HF5:=hid (HF4.out.trans (Fr.grown hg5) (fun _ _ h=>h))
   have H5:=hid (qax hg5 H4.out (by omega))
   have B5:=hid (qax hg5 B4.out (by omega))
   have R5:=hid (qax hg5 R4.out (by omega))
   have e0:=cell_of_row w5 w3.heap.size 0 _ _ _ H5.out
   have e1:=cell_of_row w5 w3.heap.size 1 _ _ _ H5.out
   simp at e0 e1
   have hat:=fun j (hj:j<4)=>qwh q.1 (n - (k+1)) j hj
   rw [HL.out,show n - (k+1)+1=n - k by omega] at hat
   have r0:w5.cell? ⟨w1.heap.size,k*4,none⟩=some aa:=by rw [cell_of_row w5 w1.heap.size _ _ _ _ R5.out];simpa using hat 0 (by decide)
   have r1:w5.cell? ⟨w1.heap.size,k*4+1,none⟩=some aa:=by rw [cell_of_row w5 w1.heap.size _ _ _ _ R5.out];simpa using hat 1 (by decide)
   have r2:w5.cell? ⟨w1.heap.size,k*4+2,none⟩=some aa:=by rw [cell_of_row w5 w1.heap.size _ _ _ _ R5.out];simpa using hat 2 (by decide)
   have r3:w5.cell? ⟨w1.heap.size,k*4+3,none⟩=some aa:=by rw [cell_of_row w5 w1.heap.size _ _ _ _ R5.out];simpa using hat 3 (by decide)
   have f0:=frozen_of_row w5 w1.heap.size (k*4) _ _ R5.out
   have f1:=frozen_of_row w5 w1.heap.size (k*4+1) _ _ R5.out
   have f2:=frozen_of_row w5 w1.heap.size (k*4+2) _ _ R5.out
   have f3:=frozen_of_row w5 w1.heap.size (k*4+3) _ _ R5.out
   have HAT:=hid hat
   clear hc5 hg5 d3 hat
   go_wp2
   go_roundw
   case rel =>
    have K1:=set_row (i:=k*4) R5.out (.int .i64 x1.1)
    have K2:=set_row (i:=k*4+1) K1 (.int .i64 x2.1)
    have K3:=set_row (i:=k*4+2) K2 (.int .i64 x3.1)
    have K4:=set_row (i:=k*4+3) K3 (.int .i64 x4.1)
    have a0:=HAT.out 0 (by decide)
    have a1:=HAT.out 1 (by decide)
    have a2:=HAT.out 2 (by decide)
    have a3:=HAT.out 3 (by decide)
    have nb:∀ x,aa≠.int .u8 x:=fun x=>by simp
    have hrow:(((((cutrow q.1 (n - k)).toArray.setIfInBounds (k*4) (.int .i64 x1.1)).setIfInBounds (k*4+1) (.int .i64 x2.1)).setIfInBounds (k*4+2) (.int .i64 x3.1)).setIfInBounds (k*4+3) (.int .i64 x4.1))=(cutrow (q.1++[⟨x1.1,x2.1,x3.1,x4.1⟩]) (n - (k+1))).toArray:=by
     have:=qss q.1 (n - (k+1)) ⟨x1.1,x2.1,x3.1,x4.1⟩
     rw [HL.out,show n - (k+1)+1=n - k by omega] at this
     rw [←this]
     simp
    refine ⟨k+1,by omega,by go_num,?_,?_,?_,?_⟩
    ·rw [HN.out,HCT.out]
     refine Cur.set_row (Cur.set_row (Cur.set_row (Cur.set_row HC5.out R5.out (by omega) ⟨aa,?_,nb⟩ _) K1 (by omega) ⟨aa,?_,nb⟩ _) K2 (by omega) ⟨aa,?_,nb⟩ _) K3 (by omega) ⟨aa,?_,nb⟩ _
     ·simpa using a0
     ·simp [a1]
     ·simp [a2]
     ·simp [a3]
    ·rw [HN.out,HCT.out,←hrow]
     exact K4
    ·rw [heap_setCell_other _ _ _ _ (by simp;omega),heap_setCell_other _ _ _ _ (by simp;omega),heap_setCell_other _ _ _ _ (by simp;omega),heap_setCell_other _ _ _ _ (by simp;omega)]
     exact B5.out
    ·exact (((((HFK.out.trans HF5.out (fun _ _ h=>h)).set _ _ (.inl (by omega))).set _ _ (.inl (by omega))).set _ _ (.inl (by omega))).set _ _ (.inl (by omega)))
   case measure=>simp [intOf];omega
  ·have e1:k=n:=by omega
   subst e1
   go_wp2
   go_ret
   refine ⟨_,rfl,?_,by rw [HQ.out];exact HCK.out,HFK.out,fun j hj=>by simp [Value.ownBlock] at hj;omega⟩
   rw [HQ.out]
   have:=HRK.out
   rw [Nat.sub_self] at this
   have h2:=qwj (by rw [HL.out];exact hkm) this
   rw [HL.out] at h2
   exact h2
theorem beq_no (s:ByteArray):(s.toList==ByteArray.toList ⟨#[]⟩)=decide (s.size=0):=by
 rw [qwn,Bool.eq_iff_iff]
 simp only [decide_eq_true_eq]
 rw [←qaw]
 constructor<;>intro h
 ·rw [h];rfl
 ·rw [List.eq_nil_of_length_eq_zero h];rfl
theorem qrp (s:ByteArray):s.toList=[] ↔ s=ByteArray.empty:=by
 have:=beq_no s
 constructor<;>intro h
 ·have e:(s.toList==ByteArray.toList ⟨#[]⟩)=true:=by rw [h];unfold ByteArray.toList ByteArray.toList.loop;decide
  rw [this] at e
  exact ba_nil (by simpa using e)
 ·rw [h];unfold ByteArray.toList ByteArray.toList.loop;decide
theorem qsh (f:Nat) (hf:f≤8) (o:Opn) (a:Option Addr) (c:Nat) (w:World):Calls Tryz.prog 132 #[opv o (.slice a o.cuts.length c),.int .i64 f] w fun e w'=>e=.returned (.bool (noughtF o f))∧Below w.heap.size w w':=by
 have HB:=hid (ba w (opo o (.slice a o.cuts.length c)))
 obtain ⟨b,hb⟩:∃ b,noughtF o f=b:=⟨_,rfl⟩
 rw [hb]
 have HR:=hid hb
 clear hb
 rcases nine hf with rfl | rfl | rfl | rfl | rfl | rfl | rfl | rfl | rfl
 all_goals
  go_enter Tryz.func132,Tryz.ntmps132
  go_wp2_with fail
  all_goals
   go_ret
   refine ⟨retb ?_,HB.out⟩
   rw [←HR.out]
   simp [noughtF,qrp, *]
set_option maxHeartbeats 400000 in
theorem qbu (b:Nat) (xs:List Int) (lost:Bool) (w:World) (h:Cur 109 w b xs lost) :
  Calls Tryz.prog 96 #[.pointer (some ⟨b,0,none⟩)] w fun e w'=>e=.returned (.tuple #[])∧Cur 109 w' b [] true∧w.grownBy w' (some b):=by
 obtain ⟨a,c,hB,hc0,hc1,hf0,hf1⟩:=h.cells
 have h1:=h.set1 (l':=true)
 have h2:=h1.1.set0 (Bs.nil _)
 have H1:=hid h1
 have H2:=hid h2
 clear h1 h2 hB h
 go_enter Tryz.func96,Tryz.ntmps96
 go_wp2
 go_end0
 exact ⟨rfl,H2.out.1,H1.out.2.trans H2.out.2⟩
theorem qzm {b:Int}{k:Nat}(h0:0≤b) (h1:b<256) (hk1:1≤k) (hk8:k≤8) (hm:M.mask k≤b) (he:k=8∨b - M.mask k<2 ^ (8 - k)) :
  (k=8→7<M.cnt b)∧(k≤7→M.cnt b=k∧b - M.mask k=b % 2 ^ (8 - k)):=by
 have:k=1∨k=2∨k=3∨k=4∨k=5∨k=6∨k=7∨k=8:=by omega
 rcases this with rfl | rfl | rfl | rfl | rfl | rfl | rfl | rfl<;>simp [M.mask] at hm he ⊢<;>unfold M.cnt<;>(first | (refine ⟨?_,by omega⟩;(repeat' split)<;>omega) | ((repeat' split)<;>omega))
theorem qvc {k:Nat}(hk1:1≤k) (hk7:k≤7):M.mask k+2 ^ (8 - k)=M.mask (k+1)∧(2:Int) ^ (8 - k) / 2=2 ^ (8 - (k+1))∧(0:Int)≤2 ^ (8 - k)∧(2:Int) ^ (8 - k)≤128:=by
 rcases M.seven ⟨hk1,hk7⟩ with rfl | rfl | rfl | rfl | rfl | rfl | rfl<;>decide
theorem qkr {b:Int}{r:List Int}{k:Nat}(hk:M.cnt b=k):M.first (b::r)=if 7<k∨r.length+1<k then none else
  if M.sz (M.fold (b % 2 ^ (8 - k)) (r.take (k - 1)))=k then some (M.fold (b % 2 ^ (8 - k)) (r.take (k - 1)),k) else none:=by
 rw [M.first,hk]
theorem qfn {most:Int}{xs:List Int}(h:M.first xs=none):M.numV most xs=0∧M.numS most xs=[]∧∀ l,M.numL most xs l=true:=by
 have:M.numOk most xs=false:=by simp [M.numOk,M.fo,h]
 simp [M.numV,M.numS,M.numL,this]
theorem qpe {most n:Int}{k:Nat}{xs:List Int}(h:M.first xs=some (n,k)) (hn:most<n):M.numV most xs=0∧M.numS most xs=[]∧∀ l,M.numL most xs l=true:=by
 have:M.numOk most xs=false:=by simp [M.numOk,M.fo,M.fn,h];omega
 simp [M.numV,M.numS,M.numL,this]
theorem qsg {most n:Int}{k:Nat}{xs:List Int}(h:M.first xs=some (n,k)) (hn:n≤most):M.numV most xs=n∧M.numS most xs=xs.drop k∧∀ l,M.numL most xs l=l:=by
 have:M.numOk most xs=true:=by simp [M.numOk,M.fo,M.fn,h];omega
 simp [M.numV,M.numS,M.numL,this,M.fn,M.fc,h]
theorem qnh {x:Int}{r:List Int}{k:Nat}(hk1:1≤k) (hk7:k≤7) (hr:∀ y ∈ r,0≤y∧y<256) :
  0≤M.fold (x % 2 ^ (8 - k)) (r.take (k - 1))∧M.fold (x % 2 ^ (8 - k)) (r.take (k - 1))<562949953421312:=by
 have hp:(0:Int)<2 ^ (8 - k):=Int.pow_pos (by decide)
 have h:=M.fold_bound (2 ^ (8 - k)) (r.take (k - 1)) (fun y hy=>hr y (List.mem_of_mem_take hy)) (x % 2 ^ (8 - k)) (Int.emod_nonneg _ (Int.ne_of_gt hp)) (Int.emod_lt_of_pos _ hp)
 have h2:(256:Int) ^ (r.take (k - 1)).length≤256 ^ (k - 1):=M.pow256_le (List.length_take_le _ _)
 have h3:(2:Int) ^ (8 - k)*256 ^ (r.take (k - 1)).length≤2 ^ (8 - k)*256 ^ (k - 1):=Int.mul_le_mul_of_nonneg_left h2 (Int.le_of_lt hp)
 have hlt:(2:Int) ^ (8 - k)*256 ^ (k - 1)≤562949953421312:=by
  rcases M.seven ⟨hk1,hk7⟩ with e | e | e | e | e | e | e<;>rw [e]<;>decide
 exact ⟨h.1,by omega⟩
set_option maxHeartbeats 4000000 in
set_option maxRecDepth 100000 in
theorem qkj (b:Nat) (xs:List Int) (lost:Bool) (most:Int) (w:World) (h:Cur 109 w b xs lost) (hl:lost=true→xs=[]) :
  Calls Tryz.prog 64 #[.pointer (some ⟨b,0,none⟩),.int .i64 most] w fun e w' =>
   e=.returned (.int .i64 (M.numV most xs))∧Cur 109 w' b (M.numS most xs) (M.numL most xs lost)∧w.grownBy w' (some b):=by
 obtain ⟨a,c,hB,hc0,hc1,hf0,hf1⟩:=h.cells
 have HC:=hid h
 have HB:=hid hB
 have hlen:=hB.len
 unfold maxLen at hlen
 clear h hB
 cases xs with
 | nil =>
  obtain ⟨e1,e2,e3⟩:=qfn (most:=most) (xs:=[]) rfl
  rw [e1,e2,e3]
  clear e1 e2 e3
  cases lost
  all_goals
   go_enter Tryz.func64,Tryz.ntmps64
   go_wp2_with fail
   refine (qbu b _ _ _ HC.out).mono ?_
   rintro e w1 ⟨rfl,hc,hg⟩
   go_wp2
   go_ret
   exact ⟨rfl,hc,hg⟩
 | cons x r =>
  have hlost:lost=false:=by
   cases lost with
   | false=>rfl
   | true=>have:=hl rfl;cases this
  subst hlost
  clear hl
  have hx:=HB.out.range x (by simp)
  have hr:∀ y ∈ r,0≤y∧y<256:=fun y hy=>HB.out.range y (by simp [hy])
  have HR:=hid hr
  obtain ⟨bl,off,c',hv,hcc,_,hcell⟩:=HB.out.inv (by simp)
  simp only [Value.slice.injEq,true_and] at hv
  obtain ⟨rfl,rfl⟩:=hv
  have hx0:w.cell? ⟨bl,off,none⟩=some (.int .u8 x):=by simpa using hcell 0 (by simp)
  have HCELL:=hid hcell
  obtain ⟨n,hn⟩:∃ n,r.length=n:=⟨_,rfl⟩
  simp only [List.length_cons,hn] at hc0 hlen hcc
  have HN:=hid hn
  have hn0:((n:Int)+1==0)=false:=by simp;omega
  obtain ⟨hx1,hx2⟩:=hx
  clear hcell hr hn
  go_enter Tryz.func64,Tryz.ntmps64
  go_wp2
  go_loop [5,6,7] (fun kk f bb=>∃ k:Nat,1≤k∧k≤8∧kk=.int .i64 k∧f=.int .i64 (x - M.mask k)∧bb=.int .i64 (2 ^ (8 - k))∧M.mask k≤x) (fun kk _ _=>8 - (intOf kk).toNat)
  case atStart=>exact ⟨1,by omega,by omega,rfl,by simp [M.mask],by simp,by simpa [M.mask] using hx1⟩
  case round =>
   obtain ⟨k,hk1,hk8,rfl,rfl,rfl,hmk⟩:=hrel
   by_cases hgo:k≤7∧2 ^ (8 - k)≤x - M.mask k
   ·obtain ⟨hk7,hge⟩:=hgo
    have hmn:=qvc hk1 hk7
    have hms:=qhr hk1 hk7
    obtain ⟨B,hB⟩:∃ B:Int,2 ^ (8 - k)=B:=⟨_,rfl⟩
    obtain ⟨m,hm⟩:∃ m,M.mask k=m:=⟨_,rfl⟩
    rw [hB,hm] at hmn hge ⊢
    rw [hm] at hmk hms
    have HMN:=hid hmn
    have hB0:=hmn.2.2.1
    have hB1:=hmn.2.2.2
    obtain ⟨hm0,hm1⟩:=hms
    clear hmn hB hm
    go_wp2
    go_round
    case rel =>
     have hh:=HMN.out
     exact ⟨k+1,by omega,by omega,by go_num,by rw [←hh.1];go_num,by rw [hh.2.1],by rw [←hh.1];omega⟩
    case measure=>simp [intOf];omega
   ·have hst:=qzm (k:=k) hx1 hx2 hk1 hk8 hmk (by omega)
    by_cases hk8':k=8
    ·subst hk8'
     have hf:M.first (x::r)=none:=by
      rw [qkr rfl,if_pos (.inl (hst.1 rfl))]
     have HE:=hid (qfn (most:=most) hf)
     clear hf hst hgo
     go_wp2_with fail
     refine (qbu b _ _ _ HC.out).mono ?_
     rintro e w1 ⟨rfl,hc,hg⟩
     go_wp2
     go_ret
     rw [HE.out.1,HE.out.2.1,HE.out.2.2]
     exact ⟨rfl,hc,hg⟩
    ·have hk7:k≤7:=by omega
     obtain ⟨hcnt,hn0⟩:=hst.2 hk7
     have hfc:=qkr (r:=r) hcnt
     rw [HN.out] at hfc
     have hlow:¬ 2 ^ (8 - k)≤x - M.mask k:=by omega
     have hnb:=qqt x k hk1 hx1 hx2
     have hfr:=qnh (x:=x) hk1 hk7 HR.out
     rw [hn0] at hlow ⊢
     obtain ⟨n0,hn0'⟩:∃ n0,x % 2 ^ (8 - k)=n0:=⟨_,rfl⟩
     rw [hn0'] at hlow hnb hfc hfr ⊢
     obtain ⟨B,hB⟩:∃ B:Int,2 ^ (8 - k)=B:=⟨_,rfl⟩
     rw [hB] at hlow ⊢
     have HFC:=hid hfc
     have HFR:=hid hfr
     obtain ⟨hb0,hb1,hb2⟩:=hnb
     have HB2:=hid hb2
     clear hst hgo hcnt hn0 hn0' hB hfc hb2 hmk hfr
     by_cases hkn:n+1<k
     ·have hf:M.first (x::r)=none:=by rw [HFC.out,if_pos (.inr hkn)]
      have HE:=hid (qfn (most:=most) hf)
      clear hf
      go_wp2_with fail
      refine (qbu b _ _ _ HC.out).mono ?_
      rintro e w1 ⟨rfl,hc,hg⟩
      go_wp2
      go_ret
      rw [HE.out.1,HE.out.2.1,HE.out.2.2]
      exact ⟨rfl,hc,hg⟩
     ·go_wp2
      go_loop [8,9] (fun m i=>∃ j:Nat,j≤k - 1∧i=.int .i64 ((j:Int)+1)∧m=.int .i64 (M.fold n0 (r.take j))) (fun _ i=>k - (intOf i).toNat)
      case atStart=>exact ⟨0,by omega,rfl,by simp [M.fold]⟩
      case round =>
       obtain ⟨j,hj,rfl,rfl⟩:=hrel
       by_cases hlt:j<k - 1
       ·have hcj:=HCELL.out (j+1) (by have:=HN.out;simp;omega)
        simp only [List.getD_cons_succ] at hcj
        have hsn:M.fold n0 (r.take (j+1))=M.fold n0 (r.take j)*256+r.getD j 0:=by
         rw [List.take_succ_eq_append_getElem (by have:=HN.out;omega),M.fold_snoc]
         simp [List.getD,show j<r.length by have:=HN.out;omega]
        have hxr:0≤r.getD j 0∧r.getD j 0<256:=HR.out _ (by simp [List.getD,show j<r.length by have:=HN.out;omega])
        have hNb:=(qko n0 r j hb0 (by have:=HB2.out;omega) HR.out (by omega)).2 (by omega)
        obtain ⟨y,hy⟩:∃ y,r.getD j 0=y:=⟨_,rfl⟩
        rw [hy] at hcj hsn hxr
        obtain ⟨N,hN⟩:∃ N,M.fold n0 (r.take j)=N:=⟨_,rfl⟩
        rw [hN] at hsn hNb ⊢
        have HSN:=hid hsn
        obtain ⟨hN0,hN1⟩:=hNb
        obtain ⟨hy0,hy1⟩:=hxr
        have hjt:((j:Int)+1).toNat=j+1:=by omega
        clear hy hsn hN
        go_wp2
        go_round
        case rel=>exact ⟨j+1,by omega,by go_num,by rw [HSN.out]⟩
        case measure=>simp [intOf];omega
       ·obtain rfl:j=k - 1:=by omega
        have hfr:=HFR.out
        have hfc:=HFC.out
        obtain ⟨N,hN⟩:∃ N,M.fold n0 (r.take (k - 1))=N:=⟨_,rfl⟩
        rw [hN] at hfr hfc ⊢
        obtain ⟨hN0,hN1⟩:=hfr
        have hk1':((k - 1:Nat):Int)+1=(k:Int):=by omega
        rw [hk1']
        have HF:=hid hfc
        clear hN hfc HFC HFR hk1'
        go_wp2_with fail
        refine (qdh N _ hN0 hN1).mono ?_
        rintro e w1 ⟨g,rfl,_,b1⟩
        have HC1:=hid (HC.out.below b1)
        have hg1:w.grownBy w1 (some b):=World.grownBy.of_below b1
        obtain ⟨a1,c1,hB1,hc01,hc11,hf01,hf11⟩:=HC1.out.cells
        have HBB:=hid hB1
        obtain ⟨bl1,off1,c1',hv1,hcc1,_,_⟩:=hB1.inv (by simp)
        simp only [Value.slice.injEq,true_and] at hv1
        obtain ⟨rfl,rfl⟩:=hv1
        clear hB1 hc0 hc1 hf0 hf1 b1
        simp only [List.length_cons,HN.out] at hc01 hcc1
        by_cases hsz:M.sz N=k
        ·by_cases hmost:most<N
         ·have hf:M.first (x::r)=some (N,k):=by rw [HF.out,if_neg (by omega),if_pos hsz]
          have HE:=hid (qpe hf hmost)
          have hsz':((M.sz N:Int) != (k:Int))=false:=by simp;omega
          clear hf hsz
          go_wp2_with fail
          refine (qbu b _ _ _ HC1.out).mono ?_
          rintro e w2 ⟨rfl,hc,hg⟩
          go_wp2
          go_ret
          rw [HE.out.1,HE.out.2.1,HE.out.2.2]
          exact ⟨rfl,hc,hg1.trans hg⟩
         ·have hf:M.first (x::r)=some (N,k):=by rw [HF.out,if_neg (by omega),if_pos hsz]
          have HE:=hid (qsg hf (show N≤most by omega))
          have hsz':((M.sz N:Int) != (k:Int))=false:=by simp;omega
          have hD:=Bs.drop HBB.out k (by have:=HN.out;simp;omega)
          have hs:=HC1.out.set0 hD
          simp only [List.length_cons,HN.out] at hs
          have HS:=hid hs
          clear hf hsz hD hs
          by_cases hcf:c1=k
          ·subst hcf
           go_wp2
           go_ret
           rw [HE.out.1,HE.out.2.1,HE.out.2.2]
           have hs:=HS.out
           simp only [if_pos] at hs
           rw [show n+1 - c1=0 by omega,Nat.sub_self] at hs
           exact ⟨rfl,hs.1,hg1.trans hs.2⟩
          ·go_wp2
           go_ret
           rw [HE.out.1,HE.out.2.1,HE.out.2.2]
           have hs:=HS.out
           simp only [if_neg hcf,Option.map_some,Addr.add_lit] at hs
           exact ⟨rfl,hs.1,hg1.trans hs.2⟩
        ·have hf:M.first (x::r)=none:=by rw [HF.out,if_neg (by omega),if_neg hsz]
         have HE:=hid (qfn (most:=most) hf)
         have hsz':((M.sz N:Int) != (k:Int))=true:=by simp;omega
         clear hf hsz
         go_wp2_with fail
         refine (qbu b _ _ _ HC1.out).mono ?_
         rintro e w2 ⟨rfl,hc,hg⟩
         go_wp2
         go_ret
         rw [HE.out.1,HE.out.2.1,HE.out.2.2]
         exact ⟨rfl,hc,hg1.trans hg⟩
theorem Bs.empty (w:World) (x:Addr) (c:Nat) (hc:c≤maxLen:=by decide):Bs w (.slice (some x) 0 c) [] :=
 ⟨some x,c,rfl,Nat.zero_le _,hc,(fun e=>by cases e),fun i hi=>absurd hi (Nat.not_lt_zero _),fun y hy=>by cases hy⟩
theorem Bs.bound {w:World}{a:Option Addr}{n c:Nat}{xs:List Int}(h:Bs w (.slice a n c) xs):n=xs.length∧xs.length≤c:=by
 obtain ⟨a',c',h1,h2,_⟩:=h
 simp only [Value.slice.injEq] at h1
 omega
set_option maxHeartbeats 2000000 in
theorem qmw (b:Nat) (xs:List Int) (lost:Bool) (n:Int) (w:World) (h:Cur 109 w b xs lost) (hl:lost=true→xs=[]) (hn:xs.length≤140737488355328) :
  Calls Tryz.prog 123 #[.pointer (some ⟨b,0,none⟩),.int .i64 n] w fun e w' =>
   ∃ v,e=.returned v∧Bs w' v (M.takeV n xs)∧Cur 109 w' b (M.takeS n xs) (M.takeL n xs lost)∧w.grownBy w' (some b):=by
 obtain ⟨a,c,hB,hc0,hc1,hf0,hf1⟩:=h.cells
 have HB:=hid hB
 have HC:=hid h
 have hlen:=hB.len
 have hlc:=hB.bound.2
 unfold maxLen at hlen
 clear hB h
 cases lost with
 | true =>
  have:=hl rfl
  subst this
  have e1:M.takeV n []=[]:=by unfold M.takeV;split<;>simp
  have e2:M.takeS n []=[]:=by unfold M.takeS;split<;>simp
  have e3:M.takeL n [] true=true:=by unfold M.takeL;split<;>rfl
  rw [e1,e2,e3]
  clear e1 e2 e3
  go_enter Tryz.func123,Tryz.ntmps123
  go_wp2_with fail
  refine (qbu b _ _ _ HC.out).mono ?_
  rintro e w1 ⟨rfl,hc,hg⟩
  go_wp2
  go_ret
  exact ⟨_,rfl,Bs.nil _,hc,hg⟩
 | false =>
  clear hl
  by_cases hok:M.takeOk n xs=true
  ·have hn':0≤n∧n≤xs.length:=by unfold M.takeOk at hok;simpa using hok
   obtain ⟨h0,h1⟩:=hn'
   rw [show M.takeV n xs=xs.take n.toNat by simp [M.takeV,hok],show M.takeS n xs=xs.drop n.toNat by simp [M.takeS,hok],show M.takeL n xs false=false by simp [M.takeL,hok]]
   clear hok
   obtain ⟨k,rfl⟩:=Int.eq_ofNat_of_zero_le h0
   rw [Int.toNat_natCast]
   have hk:k≤xs.length:=by omega
   have hT:=Bs.take HB.out k hk
   have HT:=hid hT
   clear h0
   obtain ⟨i0,hi,hz0,hz1,hz2⟩:=info_parts qei
   have hown0:(w.alloc (.cells #[] 5)).ownsRow w.heap.size 5 1 (.slice (some ⟨w.heap.size,0,none⟩) 0 0) 0 []:=World.ownsRow_made w #[] 0 (Nat.le_refl _) (Nat.zero_le _) rfl
   have hbl:=HC.out.lt
   have hck:(k:Int)≤(c:Int):=by omega
   cases a with
   | none =>
    have hx:xs.length=0∧c=0:=by
     obtain ⟨a',c',h1,h2,_,h4,_⟩:=HB.out
     simp only [Value.slice.injEq] at h1
     have:=h4 h1.1.symm
     omega
    have e1:xs=[]:=List.eq_nil_of_length_eq_zero hx.1
    subst e1
    have e2:k=0:=by simpa using hk
    have e3:=hx.2
    subst e2 e3
    have hs:=HC.out.set0 (Bs.nil w)
    have HS:=hid hs
    clear hs hT HB HT hx hck hk hlen hlc hn h1
    go_enter Tryz.func123,Tryz.ntmps123
    go_wp2
    go_ret
    exact ⟨_,rfl,Bs.empty _ _ _,HS.out.1.below (ba _ _),HS.out.2.trans (World.grownBy.of_below (ba _ _))⟩
   | some A =>
    have hcell:=hid (cells_at hT)
    clear hT
    go_enter Tryz.func123,Tryz.ntmps123
    go_wp2_with (at_builtin;refine wpList_append_own _ rfl (.tmp 26) (.tmp 32) 36 rfl w.heap.size 5 i0 (.int .u8 0) 1 1 Tryz.underlying36 hi hz0 hz1 hz2 rfl (by decide) _ _ _ rfl hown0 A k c (cs (xs.take k)) rfl ?c0 ?c1 (ints_oneCell .u8 _) ?c3 ?c4 ?c5 ?_)
    case c0=>simp;omega
    case c1 =>
     intro j u hu
     have h1:=hcell.out j u hu
     have hb:=World.block_lt_of_cell? _ _ h1
     rw [((Below.refl w.heap.size w).alloc (Nat.le_refl _) _).cell hb]
     exact h1
    case c3=>unfold maxLen;omega
    case c4=>omega
    case c5=>simp
    intro v' w1 hown hgrow _
    have hb:Below w.heap.size w w1:=((Below.refl _ w).alloc (Nat.le_refl _) (.cells #[] 5)).grown hgrow (by simp) (by intro k hk;simp [Value.ownBlock] at hk;omega)
    have hown':w1.ownsRow w.heap.size 5 1 v' k (cs (xs.take k)):=by simpa using hown
    have hBv:Bs w1 v' (xs.take k):=Bs.of_own hown' (fun x hx=>HB.out.range x (List.mem_of_mem_take hx))
    have hd0:w1.cell? ⟨b,0,none⟩=some (.slice (some A) xs.length c):=by rw [hb.cell hbl];exact hc0
    have hd1:w1.frozen? ⟨b,0,none⟩=false:=by rw [hb.frozen hbl];exact hf0
    have HC1:=hid (HC.out.below hb)
    have hs:=HC1.out.set0 (Bs.drop (HB.out.below hb) k hk)
    have HS:=hid hs
    have HBV:=hid hBv
    have hg1:w.grownBy w1 (some b):=World.grownBy.of_below hb
    clear hown hown' hgrow hown0 hs hBv hc0 hc1 hf0 hf1
    by_cases hcf:c=k
    ·subst hcf
     go_wp2
     go_ret
     have hs:=HS.out
     simp only [if_pos] at hs
     rw [show xs.length - c=0 by omega,Nat.sub_self] at hs
     exact ⟨_,rfl,HBV.out.keeps (HC1.out.keeps hs.2),hs.1,hg1.trans hs.2⟩
    ·go_wp2
     go_ret
     have hs:=HS.out
     simp only [if_neg hcf,Option.map_some] at hs
     exact ⟨_,rfl,HBV.out.keeps (HC1.out.keeps hs.2),hs.1,hg1.trans hs.2⟩
  ·have hn':¬ (0≤n∧n≤xs.length):=by unfold M.takeOk at hok;simpa using hok
   rw [show M.takeV n xs=[] by simp [M.takeV,hok],show M.takeS n xs=[] by simp [M.takeS,hok],show M.takeL n xs false=true by simp [M.takeL,hok]]
   clear hok
   by_cases h0:n<0
   ·clear hn'
    go_enter Tryz.func123,Tryz.ntmps123
    go_wp2_with fail
    refine (qbu b _ _ _ HC.out).mono ?_
    rintro e w1 ⟨rfl,hc,hg⟩
    go_wp2
    go_ret
    exact ⟨_,rfl,Bs.nil _,hc,hg⟩
   ·have h1:(xs.length:Int)<n:=by omega
    clear hn'
    go_enter Tryz.func123,Tryz.ntmps123
    go_wp2_with fail
    refine (qbu b _ _ _ HC.out).mono ?_
    rintro e w1 ⟨rfl,hc,hg⟩
    go_wp2
    go_ret
    exact ⟨_,rfl,Bs.nil _,hc,hg⟩
theorem qpd {most:Int}{xs:List Int}(hx:∀ x ∈ xs,0≤x∧x<256):0≤M.numV most xs:=by
 unfold M.numV
 split
 ·unfold M.fn
  split
  ·rename_i p hp
   exact (M.enc_first_eq (n:=p.1) (k:=p.2) hx hp).1
  ·exact Int.le_refl _
 ·exact Int.le_refl _
theorem qyf {most:Int}{xs:List Int}{l:Bool}(h:l=true→xs=[]):M.numL most xs l=true→M.numS most xs=[]:=by
 unfold M.numL M.numS
 by_cases hok:M.numOk most xs=true
 ·simp only [hok,if_pos]
  intro e
  have:=h e
  subst this
  rfl
 ·simp [hok]
set_option maxHeartbeats 2000000 in
theorem qov (b:Nat) (xs:List Int) (lost:Bool) (most:Int) (w:World) (h:Cur 109 w b xs lost) (hl:lost=true→xs=[]) (hn:xs.length≤140737488355328) :
  Calls Tryz.prog 98 #[.pointer (some ⟨b,0,none⟩),.int .i64 most] w fun e w' =>
   e=.returned (.string (M.str (M.textV most xs)))∧Cur 109 w' b (M.textS most xs) (M.textL most xs lost)∧w.grownBy w' (some b):=by
 unfold M.textV M.textS M.textL
 have hr:∀ x ∈ xs,0≤x∧x<256:=by
  obtain ⟨v,_,hB⟩:=h
  exact hB.range
 have h0:=qpd (most:=most) hr
 have hl1:=qyf (most:=most) hl
 have hle:(M.numS most xs).length≤xs.length:=by unfold M.numS;split<;>simp
 have HL1:=hid hl1
 clear hr hl1
 go_enter Tryz.func98,Tryz.ntmps98
 go_wp2_with fail
 refine (qkj b xs lost most _ h hl).mono ?_
 rintro e w1 ⟨rfl,hc1,hg1⟩
 obtain ⟨nv,hnv⟩:∃ nv,M.numV most xs=nv:=⟨_,rfl⟩
 obtain ⟨ys,hys⟩:∃ ys,M.numS most xs=ys:=⟨_,rfl⟩
 obtain ⟨l1,hl1⟩:∃ l1,M.numL most xs lost=l1:=⟨_,rfl⟩
 have hHL:=HL1.out
 rw [hys,hl1] at hc1 hHL
 rw [hys] at hle
 rw [hnv] at h0 ⊢
 have HNV:=hid hnv
 have HYS:=hid hys
 have HLL:=hid hl1
 have HHL:=hid hHL
 clear hnv hys hl1 hHL HL1 h hl
 obtain ⟨a,c,hB,hc0,hc11,hf0,hf1⟩:=hc1.cells
 have hlen:=hB.len
 unfold maxLen at hlen
 have HC1:=hid hc1
 clear hB hc1
 cases l1 with
 | true =>
  have e0:=HHL.out rfl
  subst e0
  have e1:M.takeV nv []=[]:=by unfold M.takeV;split<;>simp
  have e2:M.takeS nv []=[]:=by unfold M.takeS;split<;>simp
  have e3:M.takeL nv [] true=true:=by unfold M.takeL;split<;>rfl
  have HE:=hid (And.intro e1 (And.intro e2 e3))
  clear e1 e2 e3
  go_wp2_with fail
  refine (qbu b _ _ _ HC1.out).mono ?_
  rintro e w2 ⟨rfl,hc,hg⟩
  go_wp2
  go_ret
  rw [HNV.out,HYS.out,HLL.out,HE.out.1,HE.out.2.1,HE.out.2.2]
  exact ⟨rfl,hc,hg1.trans hg⟩
 | false =>
  by_cases hgt:(ys.length:Int)<nv
  ·have hok:M.takeOk nv ys=false:=by simp [M.takeOk];omega
   have HE:=hid hok
   clear hok
   go_wp2_with fail
   refine (qbu b _ _ _ HC1.out).mono ?_
   rintro e w2 ⟨rfl,hc,hg⟩
   go_wp2
   go_ret
   rw [HNV.out,HYS.out,HLL.out]
   simp only [M.takeV,M.takeS,M.takeL,HE.out]
   exact ⟨rfl,hc,hg1.trans hg⟩
  ·go_wp2_with fail
   refine (qmw b _ _ _ _ HC1.out (fun e=>by cases e) (by omega)).mono ?_
   rintro e w2 ⟨v,rfl,hB2,hc2,hg2⟩
   have hcv:=qme hB2
   go_wp2
   go_ret
   rw [HNV.out,HYS.out,HLL.out]
   exact ⟨rfl,hc2,hg1.trans hg2⟩
abbrev opc (p:Opn × Value):List Value:=(opl p.1 p.2).toList
def Os (w:World) (v:Value) (l:List (Opn × Value)):Prop:=Sl 20 w v l.length (l.flatMap opc)∧∀ p ∈ l,Cs w p.2 p.1.cuts
theorem Os.inv {w:World}{v:Value}{l:List (Opn × Value)}(h:Os w v l) (hn:0<l.length) :
  ∃ b off c,v=.slice (some ⟨b,off,none⟩) l.length c∧l.length≤c∧c≤maxLen∧b<w.heap.size∧∀ i (hi:i<l.length) j,j<20→w.cell? ⟨b,off+i*20+j,none⟩=(opl (l[i]).1 (l[i]).2)[j]?:=by
 obtain ⟨b,off,c,h1,h2,h3,h4,h5⟩:=Sl.inv h.1 hn (by decide)
 refine ⟨b,off,c,h1,h2,h3,h4,fun i hi j hj=>?_⟩
 have k:=qly opc 20 (fun _=>rfl) l i j hi hj
 have hs:j<(opl (l[i]).1 (l[i]).2).size:=hj
 have e:(opl (l[i]).1 (l[i]).2)[j]?=some ((opl (l[i]).1 (l[i]).2)[j]):=Array.getElem?_eq_getElem hs
 rw [e,Nat.add_assoc]
 refine h5 _ _ ?_
 rw [k,←e]
 simp [opc]
def small (o:Opn):Bool:=decide (o.text.size≤200) && decide (o.key.size≤200) && decide (o.cuts.length≤40)
set_option maxHeartbeats 2000000 in
theorem qyk (v:Value) (l:List (Opn × Value)) (most:Nat) (w:World) (h:Os w v l) (hm:l.length≤most) (hm':most≤1000) :
  Calls Tryz.prog 38 #[v,.int .i64 most] w fun e w'=>e=.returned (.bool (!l.all (fun p=>small p.1)))∧w=w':=by
 by_cases hz:l.length=0
 ·obtain rfl:=List.eq_nil_of_length_eq_zero hz
  obtain ⟨a,c,rfl,_,_⟩:=Sl.form h.1
  clear h hz
  go_enter Tryz.func38,Tryz.ntmps38
  go_wp2
  refine wp_loop_rounds 1 ?_
  rw [rounds_succ]
  go_wp2
  go_ret
  exact ⟨rfl,rfl⟩
 ·obtain ⟨b,off,c,rfl,hlc,hcm,hbl,hc⟩:=h.inv (by omega)
  have hcs:=h.2
  obtain ⟨n,hn⟩:∃ n,l.length=n:=⟨_,rfl⟩
  have HN:=hid hn
  rw [hn] at hz hlc hm ⊢
  unfold maxLen at hcm
  have HC:=hid hc
  have HCS:=hid hcs
  obtain ⟨r,hr⟩:∃ r,l.all (fun p=>small p.1)=r:=⟨_,rfl⟩
  rw [hr]
  have HR:=hid hr
  have hd1:decide (most<n)=false:=by simp;omega
  have hd2:decide ((most:Int)<(n:Int))=false:=by simp;omega
  clear hn hc h hbl hcs hr
  go_enter Tryz.func38,Tryz.ntmps38
  go_wp2
  go_loopw [5] (fun i wr=>∃ k:Nat,k≤n∧i=.int .i64 k∧wr=w∧∀ j (hj:j<l.length),j<k→small (l[j]).1=true) (fun i _=>n - (intOf i).toNat)
  case atStart=>exact ⟨0,Nat.zero_le _,rfl,rfl,fun j _ h=>absurd h (Nat.not_lt_zero _)⟩
  case round =>
   obtain ⟨k,hk,rfl,rfl,ht⟩:=hrel
   have HT:=hid ht
   clear ht
   by_cases hlt:k<n
   ·have hkl:k<l.length:=by rw [HN.out];exact hlt
    obtain ⟨x,hx⟩:∃ x,l[k]=x:=⟨_,rfl⟩
    have g1:=HC.out k hkl 17 (by decide)
    have g2:=HC.out k hkl 8 (by decide)
    have g3:=HC.out k hkl 18 (by decide)
    rw [hx] at g1 g2 g3
    have hxc:=HCS.out _ (List.getElem_mem hkl)
    rw [hx] at hxc
    obtain ⟨xa,xc,hxv,_,_⟩:=hxc.form
    simp at g1 g2 g3
    rw [hxv] at g3
    have HX:=hid hx
    clear hx hxc hxv
    have b1':(k:Int)<(n:Int):=by omega
    have hs:small x.1=(decide (x.1.text.size≤200) && decide (x.1.key.size≤200) && decide (x.1.cuts.length≤40)):=rfl
    cases t1:decide (x.1.text.size≤200)
    all_goals cases t2:decide (x.1.key.size≤200)
    all_goals cases t3:decide (x.1.cuts.length≤40)
    all_goals
     rw [t1,t2,t3] at hs
     have HS:=hid hs
     simp at t1 t2 t3
     clear hs
     go_wp2
     try
      go_ret
      refine ⟨retb ?_,rfl⟩
      rw [←HR.out]
      have hf:l.all (fun p=>small p.1)=false:=by
       rw [List.all_eq_false]
       exact ⟨x,by have:=List.getElem_mem hkl;rw [HX.out] at this;exact this,by rw [HS.out];decide⟩
      rw [hf]
      decide
    go_roundw
    case rel =>
     refine ⟨k+1,by omega,by go_num,by first | rfl | trivial,fun j hj hjk=>?_⟩
     by_cases e:j=k
     ·subst e;rw [HX.out];exact HS.out
     ·exact HT.out j hj (by omega)
    case measure=>simp [intOf];omega
   ·have e1:k=n:=by omega
    clear HC
    go_wp2
    go_ret
    refine ⟨retb ?_,rfl⟩
    rw [←HR.out]
    have hf:l.all (fun p=>small p.1)=true:=by
     rw [List.all_eq_true]
     intro p hp
     obtain ⟨j,hj,e⟩:=List.getElem_of_mem hp
     have:=HT.out j hj (by have:=HN.out;omega)
     rw [e] at this
     exact this
    rw [hf]
    decide
end Go.Proofs.YtkcjkncpaopjbaaGreatDoor
