/-
  Parts of the proof, one behind the other; what each proves stands at its head.
-/
import Derived.Test.YtkcjkncpaopjbaaGreatDoorPart37
import Derived.Test.YtkcjkncpaopjbaaGreatDoorPart36
import Derived.Test.YtkcjkncpaopjbaaGreatDoorPart33
import Derived.Test.YtkcjkncpaopjbaaGreatDoorPart11

namespace Go.Proofs.YtkcjkncpaopjbaaGreatDoor
open Go.RowKit
set_option linter.unusedVariables false
set_option maxRecDepth 100000
structure Pt (w0 w:World) (l:List (Opn × Value)) (o:Value) (k fr sz:Nat) (wr:World) (us:List Value) (ps:List (List (Opn × Value))):Prop where
 row:Pl w.heap.size wr o us
 len:us.length=ps.length
 os:∀ i (h:i<ps.length) (hk:i<us.length),Os w0 (us[i]) (ps[i])
 fold:foldP (fsts (l.take k))=(ps.map fsts,fsts ((l.take k).drop fr),sz)
 fk:fr≤k
 k0:k=0∨fr<k
 s5:sz≤500*k
 bw:Below w.heap.size w wr
theorem Pt.below {w0 w:World}{l:List (Opn × Value)}{o:Value}{k fr sz:Nat}{wr w':World}{us:List Value}{ps:List (List (Opn × Value))}(h:Pt w0 w l o k fr sz wr us ps) (hb:Below wr.heap.size wr w'):Pt w0 w l o k fr sz w' us ps :=
 ⟨qaz h.row (Fr.of_below (S:=fun _=>False) hb) (fun _ _ e=>e),h.len,h.os,h.fold,h.fk,h.k0,h.s5,bt h.bw hb⟩
theorem fstsL (l:List (Opn × Value)):(fsts l).length=l.length:=by simp [fsts]
theorem qkm {l:List (Opn × Value)}{k:Nat}(hk:k<l.length):fsts (l.take (k+1))=fsts (l.take k)++[(l[k]).1]:=by
 unfold fsts
 rw [List.take_succ_eq_append_getElem hk,List.map_append]
 rfl
theorem Pt.join {w0 w:World}{l:List (Opn × Value)}{o:Value}{k fr sz:Nat}{wr:World}{us:List Value}{ps:List (List (Opn × Value))}(h:Pt w0 w l o k fr sz wr us ps) (hk:k<l.length) {T:Nat}(hT:(encT (l[k]).1).length=T) (hT5:T≤500)
  (hc:fr=k∨¬ 60000<M.sz ((k+1 - fr:Nat):Int)+sz+T):Pt w0 w l o (k+1) fr (sz+T) wr us ps:=by
 have hlen:(fsts ((l.take k).drop fr)).length=k - fr:=by rw [fstsL,List.length_drop,List.length_take];omega
 refine ⟨h.row,h.len,h.os,?_,by have:=h.fk;omega,.inr (by have:=h.fk;omega),by have:=h.s5;omega,h.bw⟩
 rw [qkm hk,qel,h.fold]
 unfold stepP
 rw [if_neg]
 ·rw [hT]
  congr 1
  congr 1
  unfold fsts
  rw [List.take_succ_eq_append_getElem hk,List.drop_append_of_le_length (by rw [List.length_take];have:=h.fk;omega),List.map_append]
  rfl
 ·rintro ⟨h1,h2⟩
  rw [hT] at h2
  simp only [hlen] at h2
  rcases hc with hc | hc
  ·exact h1 (List.length_eq_zero_iff.1 (by simp only;rw [hlen];omega))
  ·apply hc
   have e:k+1 - fr=k - fr+1:=by have:=h.fk;omega
   rw [e]
   exact h2
theorem Pt.flush {w0 w:World}{l:List (Opn × Value)}{o o':Value}{k fr sz:Nat}{wr w':World}{us:List Value}{ps:List (List (Opn × Value))}{u:Value}(h:Pt w0 w l o k fr sz wr us ps) (hk:k<l.length) {T:Nat}(hT:(encT (l[k]).1).length=T) (hT5:T≤500) (hfr:fr<k)
  (hc:60000<M.sz ((k+1 - fr:Nat):Int)+sz+T) (hu:Os w0 u ((l.take k).drop fr)) (hown:w'.ownsRow w.heap.size 38 1 o' (us.length+1) (us++[u])) (hb:Below w.heap.size w w'):Pt w0 w l o' (k+1) k (0+T) w' (us++[u]) (ps++[(l.take k).drop fr]):=by
 have hlen:(fsts ((l.take k).drop fr)).length=k - fr:=by rw [fstsL,List.length_drop,List.length_take];omega
 refine ⟨by show w'.ownsRow _ _ _ _ _ _;rw [List.length_append,List.length_singleton];exact hown,by rw [List.length_append,List.length_append,h.len];rfl,fun i hi hki=>?_,?_,Nat.le_succ k,.inr (Nat.lt_succ_self k),by omega,hb⟩
 ·rw [List.getElem_append,List.getElem_append]
  by_cases e:i<ps.length
  ·rw [dif_pos (by rw [h.len];exact e),dif_pos e]
   exact h.os i e (by rw [h.len];exact e)
  ·rw [dif_neg (by rw [h.len];exact e),dif_neg e]
   simp only [List.getElem_singleton]
   exact hu
 ·rw [qkm hk,qel,h.fold]
  unfold stepP
  have e:k+1 - fr=k - fr+1:=by omega
  rw [e] at hc
  rw [if_pos]
  ·rw [hT,List.map_append,List.map_cons,List.map_nil,Nat.zero_add]
   congr 1
   congr 1
   unfold fsts
   rw [List.take_succ_eq_append_getElem hk,List.drop_append_of_le_length (by rw [List.length_take];omega),List.drop_of_length_le (by rw [List.length_take];omega)]
   rfl
  ·refine ⟨fun e=>?_,?_⟩
   ·have:=congrArg List.length e
    simp only [hlen,List.length_nil] at this
    omega
   ·rw [hT]
    simp only [hlen]
    exact hc
def PX (w0 w:World) (l:List (Opn × Value)) (v':Value) (w':World):Prop:=∃ (us:List Value) (ps:List (List (Opn × Value))),Pl w.heap.size w' v' us∧us.length=ps.length∧(∀ i (h:i<ps.length) (hk:i<us.length),Os w0 (us[i]) (ps[i]))∧ps.map fsts=partsP (fsts l)∧Below w.heap.size w w'
set_option maxHeartbeats 8000000 in
theorem qur (v:Value) (l:List (Opn × Value)) (w0 w:World) (hL:Lay w) (hO0:Os w0 v l) (hb0:Below w0.heap.size w0 w) (hr:∀ p ∈ l,rightO p.1=true) (hn:l.length≤1048576) :
  Calls Tryz.prog 56 #[v] w fun e w'=>∃ v',e=.returned v'∧PX w0 w l v' w':=by
 have hO:Os w v l:=hO0.later hb0
 obtain ⟨a,c,rfl,hlc,hcm⟩:=Sl.form hO.1
 have HO0:=hid hO0
 obtain ⟨n,hnn⟩:∃ n,l.length=n:=⟨_,rfl⟩
 have HN:=hid hnn
 have HO:=hid hO
 have HR:=hid hr
 have HL:=hid hL
 rw [hnn] at hn hlc HO HO0 ⊢
 clear hO hO0 hb0 hr hL hnn
 go_enter Tryz.func56,Tryz.ntmps56
 go_wp2
 go_loopw [3,4,5,11] (fun o f s i wr=>∃ (k fr sz:Nat) (us:List Value) (ps:List (List (Opn × Value))),f=.int .i64 fr∧s=.int .i64 sz∧i=.int .i64 k∧k≤n∧Pt w0 w l o k fr sz wr us ps) (fun _ _ _ i _=>n - (intOf i).toNat)
 case atStart=>exact ⟨0,0,0,[],[],rfl,rfl,rfl,Nat.zero_le _,⟨World.ownsRow_nil _ _ _ _,rfl,fun i h=>absurd h (Nat.not_lt_zero _),rfl,Nat.le_refl _,.inl rfl,Nat.le_refl _,Below.refl _ _⟩⟩
 case round =>
  obtain ⟨k,fr,sz,us,ps,rfl,rfl,rfl,hk,hpt⟩:=hrel
  have P0:=hid hpt
  obtain ⟨ao,co,rfl,_⟩:=qbe hpt.row
  have hfk:=hpt.fk
  have hs5:=hpt.s5
  have hk0:=hpt.k0
  clear hpt
  by_cases hlt:k<n
  ·have hlt':(k:Int)<(n:Int):=by omega
   have hx:k<l.length:=by rw [HN.out];exact hlt
   obtain ⟨b,off,c',e1,_,_,hbl,hc⟩:=HO.out.inv (by rw [HN.out];omega)
   rw [HN.out] at e1
   simp only [Value.slice.injEq] at e1
   obtain ⟨rfl,-,rfl⟩:=e1
   have hc:=hc k hx
   obtain ⟨⟨o,u⟩,hp⟩:∃ p,l[k]=p:=⟨_,rfl⟩
   have hcs:=HO.out.2 _ (List.getElem_mem hx)
   have hro:=HR.out _ (List.getElem_mem hx)
   rw [hp] at hc hcs hro
   dsimp only at hc hcs hro
   obtain ⟨T,hT⟩:∃ T,(encT o).length=T:=⟨_,rfl⟩
   have hT5:T≤500:=by rw [←hT];exact qen hro
   have HT:Hid ((encT (l[k]).1).length=T):=hid (by rw [hp];exact hT)
   have HC:Hid (∀ j,j<20→wr.cell? ⟨b,off+k*20+j,none⟩=(opl o u)[j]?):=hid (fun j hj=>(P0.out.bw.cell hbl).trans (hc j hj))
   have hvf:∃ va n vc,u=.slice va n vc:=by
    obtain ⟨va,vc,e,_⟩:=hcs.form
    exact ⟨va,_,vc,e⟩
   have HVF:=hid hvf
   have HA5:=hid (ba wr (opo o u))
   have HO5:=hid (Ob.new wr o u)
   have HCS5:=hid ((hcs.below P0.out.bw).below HA5.out)
   have P5:=hid (P0.out.below HA5.out)
   have HTS:=hid (qmr (opv o u) o u rfl _ (HL.out.below P5.out.bw) HCS5.out hro)
   rw [hT] at HTS
   clear hp hc hcs hro hvf hT
   go_wp2_with (first | (refine qak _ rfl (qba rfl rfl HC.out) ?_) | (refine qch rfl _ _ rfl 0 o u HVF.out rfl rfl ?_) | (refine qae rfl _ rfl wr.heap.size rfl o u HO5.out ?_) | fail)
   refine HTS.out.mono ?_
   rintro e w6 ⟨rfl,b6⟩
   have P6:=hid (P5.out.below b6)
   clear b6 HTS P5 P0 HO5 HCS5
   by_cases hfr:fr<k
   ·have hfr':(fr:Int)<(k:Int):=by omega
    have HCZ:=hid (qmd ((k:Int)+1 - (fr:Int)) w6 (by omega) (by omega))
    have hcast:((k:Int)+1 - (fr:Int))=((k+1 - fr:Nat):Int):=by omega
    obtain ⟨S,hS⟩:∃ S,M.sz ((k+1 - fr:Nat):Int)=S:=⟨_,rfl⟩
    have hS7:S≤7:=by rw [←hS];exact (M.sz_pos _).2
    have HS:=hid hS
    have hSi:M.sz ((k:Int)+1 - (fr:Int))=S:=by rw [hcast];exact hS
    rw [hSi] at HCZ
    clear hcast hS hSi
    by_cases hbig:60000<S+sz+T
    ·have hb1:decide ((60000:Int)<(S:Int)+(sz:Int)+(T:Int))=true:=by simp;omega
     go_wp2_with fail
     refine HCZ.out.mono ?_
     rintro e w7 ⟨rfl,b7⟩
     have P7:=hid (P6.out.below b7)
     clear b7 HCZ P6
     have U7:Hid (Os w0 (.slice (some ⟨b,off+fr*20,none⟩) (k - fr) (k - fr)) ((l.take k).drop fr)):=hid (HO0.out.part fr k hfr (by omega))
     have hus:us.length≤k:=by
      have h1:=qni (fsts (l.take k))
      rw [P7.out.fold] at h1
      simp only [List.length_map,List.length_take] at h1
      have h2:=P7.out.len
      omega
     obtain ⟨U,hU⟩:∃ U,Value.slice (some ⟨b,off+fr*20,none⟩) (k - fr) (k - fr)=U:=⟨_,rfl⟩
     have HU:=hid hU
     have hkc:k≤c:=by omega
     have HA8:=hid (ba w7 (.cells #[.slice (some ⟨b,off+fr*20,none⟩) (k - fr) (k - fr)] 38))
     have RO8:Hid ((w7.alloc (.cells #[.slice (some ⟨b,off+fr*20,none⟩) (k - fr) (k - fr)] 38)).ownsRow w.heap.size 38 1 (.slice ao us.length co) us.length us):=hid (qaz P7.out.row (Fr.of_below (S:=fun _=>False) HA8.out) (fun _ _ e=>e))
     have SL8:=hid (Sl.lit (sz:=1) w7 38 #[.slice (some ⟨b,off+fr*20,none⟩) (k - fr) (k - fr)] 1 (by decide) rfl)
     have ONE:Hid (∀ x ∈ [Value.slice (some ⟨b,off+fr*20,none⟩) (k - fr) (k - fr)],x.oneCell'=true):=hid (fun x hx=>by rw [List.mem_singleton.1 hx];rfl)
     have hb8:(us.length+1)*24≤140737488355328:=by omega
     have hm8:us.length+1≤maxLen:=by unfold maxLen;omega
     have S8:Hid (w.heap.size≤(w7.alloc (.cells #[.slice (some ⟨b,off+fr*20,none⟩) (k - fr) (k - fr)] 38)).heap.size):=hid (bt P7.out.bw HA8.out).size
     clear hU
     go_wp2_with (first
      | (refine qak _ rfl (qqh rfl rfl rfl rfl rfl hfr hkc) ?_)
      | (at_builtin;refine qbc 52 38 1 24 _ Tryz.underlying52 qlw rfl (Nat.succ_pos 0) rfl _ _ rfl w.heap.size _ _ _ rfl RO8.out _ 1 _ rfl SL8.out ONE.out hb8 hm8 S8.out ?_;intro v9 w9 hown9 hg9 hv9;obtain ⟨a9,c9,rfl⟩:=qcx hown9;have HO9:=hid hown9;have HG9:=hid hg9;have HV9:=hid hv9;clear hown9 hg9 hv9)
      | fail)
     have B9:Hid (Below w.heap.size w w9):=hid ((bt P7.out.bw HA8.out).trans ((Fr.of_grown (S:=fun k=>Value.ownBlock (.slice ao us.length co)=some k) HG9.out (fun k e=>e)).below (fun k hk e=>by have:=(RO8.out.lt k e).1;omega) S8.out))
     go_roundw
     case rel=>exact ⟨k+1,k,0+T,us++[.slice (some ⟨b,off+fr*20,none⟩) (k - fr) (k - fr)],_,rfl,by go_num,by go_num,hlt,P7.out.flush hx HT.out hT5 hfr (by rw [HS.out];exact hbig) U7.out HO9.out B9.out⟩
     case measure=>simp [intOf];omega
    ·have hb1:decide ((60000:Int)<(S:Int)+(sz:Int)+(T:Int))=false:=by simp;omega
     go_wp2_with fail
     refine HCZ.out.mono ?_
     rintro e w7 ⟨rfl,b7⟩
     have P7:=hid (P6.out.below b7)
     clear b7 HCZ P6
     go_wp2_with fail
     go_roundw
     case rel=>exact ⟨k+1,fr,sz+T,us,ps,rfl,by go_num,by go_num,hlt,P7.out.join hx HT.out hT5 (.inr (by rw [HS.out];exact hbig))⟩
     case measure=>simp [intOf];omega
   ·have hfr':¬ (fr:Int)<(k:Int):=by omega
    go_wp2_with fail
    go_roundw
    case rel=>exact ⟨k+1,fr,sz+T,us,ps,rfl,by go_num,by go_num,hlt,P6.out.join hx HT.out hT5 (.inl (by omega))⟩
    case measure=>simp [intOf];omega
  ·have hlt':¬ (k:Int)<(n:Int):=by omega
   have e1:k=n:=by omega
   subst e1
   have htk:l.take k=l:=List.take_of_length_le (by rw [HN.out];exact Nat.le_refl _)
   have hfo:=P0.out.fold
   rw [htk] at hfo
   have HFO:=hid hfo
   clear htk hfo
   by_cases hfr:fr<k
   ·have hfr':(fr:Int)<(k:Int):=by omega
    have hk0':0<k:=by omega
    obtain ⟨b,off,c',e1,hkc,_,hbl,_⟩:=HO.out.inv (by rw [HN.out];exact hk0')
    rw [HN.out] at e1 hkc
    simp only [Value.slice.injEq] at e1
    obtain ⟨rfl,-,rfl⟩:=e1
    have U7:Hid (Os w0 (.slice (some ⟨b,off+fr*20,none⟩) (k - fr) (k - fr)) ((l.take k).drop fr)):=hid (HO0.out.part fr k hfr (Nat.le_refl _))
    have hus:us.length≤k:=by
     have h1:=qni (fsts l)
     rw [HFO.out] at h1
     simp only [List.length_map,HN.out] at h1
     have h2:=P0.out.len
     omega
    have HA8:=hid (ba wr (.cells #[.slice (some ⟨b,off+fr*20,none⟩) (k - fr) (k - fr)] 38))
    have RO8:Hid ((wr.alloc (.cells #[.slice (some ⟨b,off+fr*20,none⟩) (k - fr) (k - fr)] 38)).ownsRow w.heap.size 38 1 (.slice ao us.length co) us.length us):=hid (qaz P0.out.row (Fr.of_below (S:=fun _=>False) HA8.out) (fun _ _ e=>e))
    have SL8:=hid (Sl.lit (sz:=1) wr 38 #[.slice (some ⟨b,off+fr*20,none⟩) (k - fr) (k - fr)] 1 (by decide) rfl)
    have ONE:Hid (∀ x ∈ [Value.slice (some ⟨b,off+fr*20,none⟩) (k - fr) (k - fr)],x.oneCell'=true):=hid (fun x hx=>by rw [List.mem_singleton.1 hx];rfl)
    have hb8:(us.length+1)*24≤140737488355328:=by omega
    have hm8:us.length+1≤maxLen:=by unfold maxLen;omega
    have S8:Hid (w.heap.size≤(wr.alloc (.cells #[.slice (some ⟨b,off+fr*20,none⟩) (k - fr) (k - fr)] 38)).heap.size):=hid (bt P0.out.bw HA8.out).size
    go_wp2_with (first
     | (refine qak _ rfl (qqh rfl rfl rfl rfl rfl hfr hkc) ?_)
     | (at_builtin;refine qbc 52 38 1 24 _ Tryz.underlying52 qlw rfl (Nat.succ_pos 0) rfl _ _ rfl w.heap.size _ _ _ rfl RO8.out _ 1 _ rfl SL8.out ONE.out hb8 hm8 S8.out ?_;intro v9 w9 hown9 hg9 hv9;obtain ⟨a9,c9,rfl⟩:=qcx hown9;have HO9:=hid hown9;have HG9:=hid hg9;have HV9:=hid hv9;clear hown9 hg9 hv9)
     | fail)
    have B9:Hid (Below w.heap.size w w9):=hid ((bt P0.out.bw HA8.out).trans ((Fr.of_grown (S:=fun k=>Value.ownBlock (.slice ao us.length co)=some k) HG9.out (fun k e=>e)).below (fun k hk e=>by have:=(RO8.out.lt k e).1;omega) S8.out))
    go_ret
    refine ⟨_,rfl,us++[.slice (some ⟨b,off+fr*20,none⟩) (k - fr) (k - fr)],ps++[(l.take k).drop fr],?_,by rw [List.length_append,List.length_append,P0.out.len];rfl,fun i hi hki=>?_,?_,B9.out⟩
    ·show w9.ownsRow _ _ _ _ _ _
     rw [List.length_append,List.length_singleton]
     exact HO9.out
    ·rw [List.getElem_append,List.getElem_append]
     by_cases e:i<ps.length
     ·rw [dif_pos (by rw [P0.out.len];exact e),dif_pos e]
      exact P0.out.os i e (by rw [P0.out.len];exact e)
     ·rw [dif_neg (by rw [P0.out.len];exact e),dif_neg e]
      simp only [List.getElem_singleton]
      exact U7.out
    ·unfold partsP
     have htk:l.take k=l:=List.take_of_length_le (by rw [HN.out];exact Nat.le_refl _)
     rw [HFO.out,if_neg,List.map_append,List.map_cons,List.map_nil,htk]
     intro e
     have:=congrArg List.length e
     simp only [fstsL,List.length_drop,List.length_nil,HN.out] at this
     omega
   ·have hfr':¬ (fr:Int)<(k:Int):=by omega
    go_wp2_with fail
    go_ret
    refine ⟨_,rfl,us,ps,P0.out.row,P0.out.len,P0.out.os,?_,P0.out.bw⟩
    unfold partsP
    rw [HFO.out,if_pos]
    have e2:l.drop fr=[]:=List.drop_of_length_le (by rw [HN.out];omega)
    simp only [e2]
    rfl
theorem qre (o:Opn):(encA [o]).length=1+(encT o).length:=by
 unfold encA
 rw [List.length_append,M.enc_length,List.flatMap_cons,List.flatMap_nil,List.append_nil]
 rfl
theorem qjr (f:List Opn) (o:Opn):(encA (f++[o])).length=M.sz ((f.length+1:Nat):Int)+(f.flatMap encT).length+(encT o).length:=by
 unfold encA
 rw [List.length_append,M.enc_length,List.flatMap_append,List.length_append,List.length_append,List.flatMap_cons,List.flatMap_nil,List.append_nil,List.length_singleton,Nat.add_assoc]
theorem qvr {l:List Opn}(hr:∀ o ∈ l,rightO o=true):(foldP l).2.2=((foldP l).2.1.flatMap encT).length∧(∀ f ∈ (foldP l).1,f≠[]∧(encA f).length≤60000)∧((foldP l).2.1=[]∨(encA (foldP l).2.1).length≤60000):=by
 refine qlg (P:=fun l=>(∀ o ∈ l,rightO o=true)→(foldP l).2.2=((foldP l).2.1.flatMap encT).length∧(∀ f ∈ (foldP l).1,f≠[]∧(encA f).length≤60000)∧((foldP l).2.1=[]∨(encA (foldP l).2.1).length≤60000)) ?_ ?_ l hr
 ·intro _
  exact ⟨rfl,(fun f hf=>by cases hf),.inl rfl⟩
 ·intro l o ih h
  obtain ⟨i1,i2,i3⟩:=ih (fun p hp=>h p (by simp [hp]))
  have ho:=qen (h o (by simp))
  rw [qel]
  unfold stepP
  split
  ·rename_i hc
   refine ⟨by simp,fun f hf=>?_,.inr ?_⟩
   ·rcases List.mem_append.1 hf with hf | hf
    ·exact i2 f hf
    ·rw [List.mem_singleton.1 hf]
     exact ⟨hc.1,i3.resolve_left hc.1⟩
   ·rw [qre];omega
  ·rename_i hc
   refine ⟨?_,i2,.inr ?_⟩
   ·simp only [List.flatMap_append,List.flatMap_cons,List.flatMap_nil,List.append_nil,List.length_append]
    rw [i1]
   ·simp only
    rw [qjr]
    by_cases h0:(foldP l).2.1=[]
    ·rw [h0]
     have e:M.sz ((([]:List Opn).length+1:Nat):Int)=1:=by decide
     rw [e]
     simp
     omega
    ·have h1:¬ 60000<M.sz (((foldP l).2.1.length+1:Nat):Int)+(foldP l).2.2+(encT o).length:=fun e=>hc ⟨h0,e⟩
     omega
theorem qsa {l:List Opn}{f:List Opn}(hf:f ∈ partsP l):∀ o ∈ f,o ∈ l:=fun o ho=>by
 rw [←qfm l]
 exact List.mem_flatten.2 ⟨f,hf,ho⟩
theorem qge {l:List Opn}(hr:∀ o ∈ l,rightO o=true):Good (partsP l):=fun f hf=>by
 obtain ⟨_,i2,i3⟩:=qvr hr
 have hrf:∀ o ∈ f,rightO o=true:=fun o ho=>hr o (qsa hf o ho)
 unfold partsP at hf
 split at hf
 ·have:=i2 f hf
  exact ⟨this.1,hrf,by omega⟩
 ·rename_i hc
  rcases List.mem_append.1 hf with hf | hf
  ·have:=i2 f hf
   exact ⟨this.1,hrf,by omega⟩
  ·have e:=List.mem_singleton.1 hf
   have:=i3.resolve_left hc
   rw [←e] at this
   exact ⟨by rw [e];exact hc,hrf,by omega⟩
theorem qxg {Fs:List (List Opn)}(hg:Good Fs):szF Fs≤15*Fs.length+500*Fs.flatten.length:=by
 induction Fs with
 | nil=>exact Nat.le_refl _
 | cons f Fs ih =>
  have h1:=hg f (by simp)
  have h2:=ih (fun x hx=>hg x (by simp [hx]))
  have h3:=qhx h1.2.1
  have h4:=(M.sz_pos (f.length:Int)).2
  rw [qcv,List.flatten_cons,List.length_append,List.length_cons]
  unfold encA
  rw [List.length_append,M.enc_length]
  omega
theorem qsb {l:List Opn}(hr:∀ o ∈ l,rightO o=true):(partsP l).length≤l.length:=by
 have h1:=qgc (partsP l)
 have h:∀ Fs:List (List Opn),(∀ f ∈ Fs,f≠[])→Fs.length≤Fs.flatten.length:=by
  intro Fs
  induction Fs with
  | nil=>intro _;exact Nat.le_refl _
  | cons f Fs ih =>
   intro hf
   have h2:=ih (fun x hx=>hf x (by simp [hx]))
   have h3:0<f.length:=List.length_pos_iff.2 (hf f (by simp))
   rw [List.flatten_cons,List.length_append,List.length_cons]
   omega
 have:=h (partsP l) (fun f hf=>(qge hr f hf).1)
 rwa [qfm] at this
theorem qkc {P:Program}{ops:Array Oper}{rest:List Oper}{o:Oper}{a:Act}{w w':World}{v:Value}{Q:Exit→Act→World→Prop}(hgd:o.guard=none) (hrun:(execOp a.eval o).run P w=.ok (.value v) w') (hk:wpList P ops Q rest (a.put o.dst v) w'):wpList P ops Q (o::rest) a w :=
 wpList_plain hgd fun K hK=>by unfold Oper.wp;rw [hrun];exact hK _ _ hk
theorem qdv {P:Program}{ops:Array Oper}{rest:List Oper}{o:Oper}{a:Act}{w w':World}{Q:Exit→Act→World→Prop}(hgd:o.guard=none) (hrun:(execOp a.eval o).run P w=.ok .skip w') (hk:wpList P ops Q rest (a.put o.dst undef) w'):wpList P ops Q (o::rest) a w :=
 wpList_plain hgd fun K hK=>by unfold Oper.wp;rw [hrun];exact hK _ _ hk
def gc0:Oper:={ dst:=some 12,op:=Op.move (Operand.tmp 0),type:=32,pos := "oplog.go:86",after:=#[],guard:=none }
def gc1:Oper:={ dst:=some 13,op:=Op.nilCheck (Operand.tmp 12),type:=0,pos := "oplog.go:86",after:=#[{ on:=0,ground:=Ground.data }],guard:=none }
def gc2:Oper:={ dst:=some 14,op:=Op.fieldAddr 81 (Operand.tmp 13) 2,type:=0,pos := "oplog.go:86",after:=#[{ on:=1,ground:=Ground.data }],guard:=none }
def gc3:Oper:={ dst:=some 15,op:=Op.load 38 (Operand.tmp 14),type:=38,pos := "oplog.go:86",after:=#[{ on:=2,ground:=Ground.data }],guard:=none }
def gc4:Oper:={ dst:=some 16,op:=Op.move (Operand.tmp 0),type:=32,pos := "oplog.go:86",after:=#[],guard:=none }
def gc5:Oper:={ dst:=some 17,op:=Op.call { callee:=Callee.value (Operand.func 31),args:=#[Operand.tmp 16],argTypes:=#[32] },type:=3,pos := "oplog.go:86",after:=#[{ on:=4,ground:=Ground.data }],guard:=none }
def gc6:Oper:={ dst:=some 18,op:=Op.slice 38 (Operand.tmp 15) none (some (Operand.tmp 17)) none,type:=38,pos := "oplog.go:86",after:=#[{ on:=3,ground:=Ground.data },{ on:=5,ground:=Ground.data }],guard:=none }
def gc7:Oper:={ dst:=some 3,op:=Op.assign (Operand.tmp 18),type:=38,pos := "oplog.go:86",after:=#[{ on:=6,ground:=Ground.data },{ on:=5,ground:=Ground.chain },{ on:=0,ground:=Ground.phase },{ on:=1,ground:=Ground.phase },{ on:=2,ground:=Ground.phase },{ on:=3,ground:=Ground.phase },{ on:=4,ground:=Ground.phase },{ on:=5,ground:=Ground.phase },{ on:=6,ground:=Ground.phase }],guard:=none }
def gcs:Array Oper:=#[gc0,gc1,gc2,gc3,gc4,gc5,gc6,gc7]
theorem qjh:Region.noSelect gcs=true:=by kernel_rfl
set_option maxHeartbeats 4000000 in
theorem jca {B:Nat}{w:World}{lb fb:Nat}{fv vo ve:Value}{xs:List Int}{n R:Nat}{r:Int}{l:List (Opn × Value)}{es:List (Nat × Nat)}{x1 x2 x3 x4 x5 x6 x7 x8 x9 x10 x11 x12 x13 x14 x15 x16 x17 x18 x19 x20 x21 x22 x23 x24 x25 x26 x27 x28 x29 x30 x31 x32 x33 x34 x35 x36 x37 x38 x39 x40 x41 x42 x43 x44 x45 x46 x47 x48 x49 x50 x51 x52 x53 x54 x55 x56 x57 x58 x59 x60 x61 x62 x63 x64 x65 x66 x67:Value}{Q:Exit→Act→World→Prop}(hl0:Lg B w lb fb fv vo ve xs n R r l es) (hs:es.Pairwise (fun p q=>p.1≤q.1)) (hop:opsAt es (inF es (xs.length:Nat))=l.length)  (hen:es.length≤10000000)
  (hP:∀ c t t' d W,Q (.panic c) { tmps:=t,defers:=d } W→Q (.panic c) { tmps:=t',defers:=d } W)
  (hQ:∀ W,Below w.heap.size (World.drew w) W→Q .normal { tmps:=#[.pointer (some ⟨lb,0,none⟩),x1,x2,vo,x4,x5,x6,x7,x8,x9,x10,x11,.pointer (some ⟨lb,0,none⟩),.pointer (some ⟨lb,0,none⟩),.pointer (some ⟨lb,2,none⟩),vo,.pointer (some ⟨lb,0,none⟩),.int .i64 (l.length:Nat),vo,x19,x20,x21,x22,x23,x24,x25,x26,x27,x28,x29,x30,x31,x32,x33,x34,x35,x36,x37,x38,x39,x40,x41,x42,x43,x44,x45,x46,x47,x48,x49,x50,x51,x52,x53,x54,x55,x56,x57,x58,x59,x60,x61,x62,x63,x64,x65,x66,x67],defers:=[] } W):(Code.region 1 gcs true).wp Tryz.prog Q { tmps:=#[.pointer (some ⟨lb,0,none⟩),x1,x2,x3,x4,x5,x6,x7,x8,x9,x10,x11,x12,x13,x14,x15,x16,x17,x18,x19,x20,x21,x22,x23,x24,x25,x26,x27,x28,x29,x30,x31,x32,x33,x34,x35,x36,x37,x38,x39,x40,x41,x42,x43,x44,x45,x46,x47,x48,x49,x50,x51,x52,x53,x54,x55,x56,x57,x58,x59,x60,x61,x62,x63,x64,x65,x66,x67],defers:=[] } w:=by
 obtain ⟨va,vc,hvo,hvc⟩:=qbe hl0.ro
 refine wp_region_held (S:=fun W=>Lg B W lb fb fv vo ve xs n R r l es) (by kernel_rfl) ?_
 change wpAnyH _ _ _ _ _ 8 _ _ (World.drew _)
 have hS:Lg B (World.drew w) lb fb fv vo ve xs n R r l es:=hl0.drewN 1
 clear hl0
 obtain ⟨W0,hW⟩:∃ W,World.drew w=W:=⟨_,rfl⟩
 rw [show w.heap.size=(World.drew w).heap.size from rfl,hW] at hQ
 rw [hW] at hS ⊢
 clear hW
 refine wpAnyH_take (i:=0) (oi:=gc0) (v:=.pointer (some ⟨lb,0,none⟩)) (by kernel_rfl) qjh (by kernel_rfl) (by kernel_rfl) (fun c a W h=>hP c _ _ _ W h) (Or.inl ⟨by kernel_rfl,fun W hW=>by kernel_rfl⟩) hS ?_
 rw [show Act.put _ gc0.dst _={ tmps:=#[.pointer (some ⟨lb,0,none⟩),x1,x2,x3,x4,x5,x6,x7,x8,x9,x10,x11,.pointer (some ⟨lb,0,none⟩),x13,x14,x15,x16,x17,x18,x19,x20,x21,x22,x23,x24,x25,x26,x27,x28,x29,x30,x31,x32,x33,x34,x35,x36,x37,x38,x39,x40,x41,x42,x43,x44,x45,x46,x47,x48,x49,x50,x51,x52,x53,x54,x55,x56,x57,x58,x59,x60,x61,x62,x63,x64,x65,x66,x67],defers:=[] } from by kernel_rfl]
 refine wpAnyH_take (i:=1) (oi:=gc1) (v:=.pointer (some ⟨lb,0,none⟩)) (by kernel_rfl) qjh (by kernel_rfl) (by kernel_rfl) (fun c a W h=>hP c _ _ _ W h) (Or.inl ⟨by kernel_rfl,fun W hW=>by kernel_rfl⟩) hS ?_
 rw [show Act.put _ gc1.dst _={ tmps:=#[.pointer (some ⟨lb,0,none⟩),x1,x2,x3,x4,x5,x6,x7,x8,x9,x10,x11,.pointer (some ⟨lb,0,none⟩),.pointer (some ⟨lb,0,none⟩),x14,x15,x16,x17,x18,x19,x20,x21,x22,x23,x24,x25,x26,x27,x28,x29,x30,x31,x32,x33,x34,x35,x36,x37,x38,x39,x40,x41,x42,x43,x44,x45,x46,x47,x48,x49,x50,x51,x52,x53,x54,x55,x56,x57,x58,x59,x60,x61,x62,x63,x64,x65,x66,x67],defers:=[] } from by kernel_rfl]
 refine wpAnyH_take (i:=2) (oi:=gc2) (v:=.pointer (some ⟨lb,2,none⟩)) (by kernel_rfl) qjh (by kernel_rfl) (by kernel_rfl) (fun c a W h=>hP c _ _ _ W h) (Or.inl ⟨by kernel_rfl,fun W hW=>by kernel_rfl⟩) hS ?_
 rw [show Act.put _ gc2.dst _={ tmps:=#[.pointer (some ⟨lb,0,none⟩),x1,x2,x3,x4,x5,x6,x7,x8,x9,x10,x11,.pointer (some ⟨lb,0,none⟩),.pointer (some ⟨lb,0,none⟩),.pointer (some ⟨lb,2,none⟩),x15,x16,x17,x18,x19,x20,x21,x22,x23,x24,x25,x26,x27,x28,x29,x30,x31,x32,x33,x34,x35,x36,x37,x38,x39,x40,x41,x42,x43,x44,x45,x46,x47,x48,x49,x50,x51,x52,x53,x54,x55,x56,x57,x58,x59,x60,x61,x62,x63,x64,x65,x66,x67],defers:=[] } from by kernel_rfl]
 refine wpAnyH_take (i:=3) (oi:=gc3) (v:=vo) (by kernel_rfl) qjh (by kernel_rfl) (by kernel_rfl) (fun c a W h=>hP c _ _ _ W h) (Or.inl ⟨by kernel_rfl,fun W hW=>qhn rfl rfl hW.c2⟩) hS ?_
 rw [show Act.put _ gc3.dst _={ tmps:=#[.pointer (some ⟨lb,0,none⟩),x1,x2,x3,x4,x5,x6,x7,x8,x9,x10,x11,.pointer (some ⟨lb,0,none⟩),.pointer (some ⟨lb,0,none⟩),.pointer (some ⟨lb,2,none⟩),vo,x16,x17,x18,x19,x20,x21,x22,x23,x24,x25,x26,x27,x28,x29,x30,x31,x32,x33,x34,x35,x36,x37,x38,x39,x40,x41,x42,x43,x44,x45,x46,x47,x48,x49,x50,x51,x52,x53,x54,x55,x56,x57,x58,x59,x60,x61,x62,x63,x64,x65,x66,x67],defers:=[] } from by kernel_rfl]
 refine wpAnyH_take (i:=4) (oi:=gc4) (v:=.pointer (some ⟨lb,0,none⟩)) (by kernel_rfl) qjh (by kernel_rfl) (by kernel_rfl) (fun c a W h=>hP c _ _ _ W h) (Or.inl ⟨by kernel_rfl,fun W hW=>by kernel_rfl⟩) hS ?_
 rw [show Act.put _ gc4.dst _={ tmps:=#[.pointer (some ⟨lb,0,none⟩),x1,x2,x3,x4,x5,x6,x7,x8,x9,x10,x11,.pointer (some ⟨lb,0,none⟩),.pointer (some ⟨lb,0,none⟩),.pointer (some ⟨lb,2,none⟩),vo,.pointer (some ⟨lb,0,none⟩),x17,x18,x19,x20,x21,x22,x23,x24,x25,x26,x27,x28,x29,x30,x31,x32,x33,x34,x35,x36,x37,x38,x39,x40,x41,x42,x43,x44,x45,x46,x47,x48,x49,x50,x51,x52,x53,x54,x55,x56,x57,x58,x59,x60,x61,x62,x63,x64,x65,x66,x67],defers:=[] } from by kernel_rfl]
 refine wpAnyH_all (rs:=[5]) (by kernel_rfl) (by simp) (fun i hi=>?_)
 obtain rfl:=List.mem_singleton.1 hi
 refine qaq (o:=gc5) (f:=31) (args:=#[.pointer (some ⟨lb,0,none⟩)]) (D:=fun v V=>v=.int .i64 (l.length:Nat)∧Below W0.heap.size W0 V) (by kernel_rfl) (by kernel_rfl) (by kernel_rfl) ?hc ?_
 case hc=>exact (qju hS hs hen).mono fun e V ⟨h1,h2⟩=>⟨_,h1,by rw [hop],h2⟩
 rintro v W1 ⟨rfl,b1⟩
 rw [show Act.put _ gc5.dst _={ tmps:=#[.pointer (some ⟨lb,0,none⟩),x1,x2,x3,x4,x5,x6,x7,x8,x9,x10,x11,.pointer (some ⟨lb,0,none⟩),.pointer (some ⟨lb,0,none⟩),.pointer (some ⟨lb,2,none⟩),vo,.pointer (some ⟨lb,0,none⟩),.int .i64 (l.length:Nat),x18,x19,x20,x21,x22,x23,x24,x25,x26,x27,x28,x29,x30,x31,x32,x33,x34,x35,x36,x37,x38,x39,x40,x41,x42,x43,x44,x45,x46,x47,x48,x49,x50,x51,x52,x53,x54,x55,x56,x57,x58,x59,x60,x61,x62,x63,x64,x65,x66,x67],defers:=[] } from by kernel_rfl]
 have hS1:=hS.below b1
 refine ⟨hS1,?_⟩
 refine wpAnyH_take (i:=6) (oi:=gc6) (v:=vo) (by kernel_rfl) qjh (by kernel_rfl) (by kernel_rfl) (fun c a W h=>hP c _ _ _ W h) (Or.inl ⟨by kernel_rfl,fun W hW=>qlh rfl rfl rfl hvo hvc⟩) hS1 ?_
 rw [show Act.put _ gc6.dst _={ tmps:=#[.pointer (some ⟨lb,0,none⟩),x1,x2,x3,x4,x5,x6,x7,x8,x9,x10,x11,.pointer (some ⟨lb,0,none⟩),.pointer (some ⟨lb,0,none⟩),.pointer (some ⟨lb,2,none⟩),vo,.pointer (some ⟨lb,0,none⟩),.int .i64 (l.length:Nat),vo,x19,x20,x21,x22,x23,x24,x25,x26,x27,x28,x29,x30,x31,x32,x33,x34,x35,x36,x37,x38,x39,x40,x41,x42,x43,x44,x45,x46,x47,x48,x49,x50,x51,x52,x53,x54,x55,x56,x57,x58,x59,x60,x61,x62,x63,x64,x65,x66,x67],defers:=[] } from by kernel_rfl]
 refine wpAnyH_take (i:=7) (oi:=gc7) (v:=vo) (by kernel_rfl) qjh (by kernel_rfl) (by kernel_rfl) (fun c a W h=>hP c _ _ _ W h) (Or.inl ⟨by kernel_rfl,fun W hW=>by kernel_rfl⟩) hS1 ?_
 rw [show Act.put _ gc7.dst _={ tmps:=#[.pointer (some ⟨lb,0,none⟩),x1,x2,vo,x4,x5,x6,x7,x8,x9,x10,x11,.pointer (some ⟨lb,0,none⟩),.pointer (some ⟨lb,0,none⟩),.pointer (some ⟨lb,2,none⟩),vo,.pointer (some ⟨lb,0,none⟩),.int .i64 (l.length:Nat),vo,x19,x20,x21,x22,x23,x24,x25,x26,x27,x28,x29,x30,x31,x32,x33,x34,x35,x36,x37,x38,x39,x40,x41,x42,x43,x44,x45,x46,x47,x48,x49,x50,x51,x52,x53,x54,x55,x56,x57,x58,x59,x60,x61,x62,x63,x64,x65,x66,x67],defers:=[] } from by kernel_rfl]
 exact wpAnyH_done (by kernel_rfl) (hQ W1 b1) _
theorem Lg.ends2 {B:Nat}{w:World}{lb fb:Nat}{fv vo ve ve':Value}{xs:List Int}{n R:Nat}{r:Int}{l:List (Opn × Value)}{es es':List (Nat × Nat)}(h:Lg B w lb fb fv vo ve xs n R r l es) (hown:w.ownsRow B 94 2 ve' es'.length (es'.flatMap endc))
  (hc:∀ p ∈ l,p.1.cuts=[]∨∀ k,ve'.ownBlock=some k→p.2.ownBlock≠some k):Lg B (w.setCell ⟨lb,3,none⟩ ve') lb fb fv vo ve' xs n R r l es':=by
 have hne':ve'.ownBlock≠some lb:=qbh hown h.blk (by decide)
 have hx:=Fr.of_set w lb 3 ve'
 refine ⟨by rw [heap_setCell_same w lb 3 _ _ ve' h.blk];simp,h.base,?_,?_,ownsRow_setCell_other hown hne' _,?_⟩
 ·refine h.fi.of_block (fun k hk=>hx.block k ?_ (fun e=>?_))
  ·rcases hk with rfl | hk
   ·exact h.fi.lt
   ·exact (h.fi.own.lt k hk).2
  ·subst e
   rcases hk with hk | hk
   ·exact h.nf hk
   ·exact h.nv hk
 ·exact qaz h.ro hx (fun k hk e=>by subst e;exact h.no hk)
 ·intro p hp
  obtain ⟨h1,h2⟩:=h.cu p hp
  by_cases h0:p.1.cuts=[]
  ·rw [h0] at h1 ⊢
   exact ⟨h1.none,.inl rfl⟩
  ·have h2':=h2.resolve_left h0
   refine ⟨Sl.kept h1 (fun k hk hlt=>hx.block k hlt (fun e=>h2' k hk (.inl e))),.inr (fun k hk e=>?_)⟩
   rcases e with e | e | e | e | e
   ·exact h2' k hk (.inl e)
   ·exact h2' k hk (.inr (.inl e))
   ·exact h2' k hk (.inr (.inr (.inl e)))
   ·exact h2' k hk (.inr (.inr (.inr (.inl e))))
   ·exact (hc p hp).resolve_left h0 k e hk
abbrev Tk (w:World) (b:Nat) (r:Int) (vf ve:Value):Prop:=w.heap[b]?=some (.cells #[.int .i64 r,vf,ve] 55 (0,0))
abbrev tdv (r:Int) (vf ve:Value):Value:=.agg #[.int .i64 r,vf,ve]
abbrev tdo:Obj:=.cells #[.int .i64 0,.slice none 0 0,.slice none 0 0] 55 (0,0)
theorem Tk.lt {w:World}{b:Nat}{r:Int}{vf ve:Value}(h:Tk w b r vf ve):b<w.heap.size:=(Array.getElem?_eq_some_iff.1 h).1
theorem Tk.below {w w':World}{b:Nat}{r:Int}{vf ve:Value}(h:Tk w b r vf ve) (hb:Below w.heap.size w w'):Tk w' b r vf ve:=(hb.block b h.lt).trans h
theorem Tk.low {B:Nat}{w w':World}{b:Nat}{r:Int}{vf ve:Value}(h:Tk w b r vf ve) (hb:Below B w w') (hB:b<B):Tk w' b r vf ve:=(hb.block b hB).trans h
theorem Tk.cells {w:World}{b:Nat}{r:Int}{vf ve:Value}(h:Tk w b r vf ve):w.cell? ⟨b,0,none⟩=some (.int .i64 r)∧w.cell? ⟨b,1,none⟩=some vf∧w.cell? ⟨b,2,none⟩=some ve:=by
 refine ⟨?_,?_,?_⟩
 ·rw [cell_of_row w b 0 _ _ _ h];rfl
 ·rw [cell_of_row w b 1 _ _ _ h];rfl
 ·rw [cell_of_row w b 2 _ _ _ h];rfl
theorem jbr:(Tryz.prog.info? 3).map (fun i=>(i.zero,i.size,i.bytes))=some (some (.int .i64 0),1,8):=by kernel_rfl
section
variable {ops:Array Oper} {rest:List Oper} {p:Oper} {a:Act} {W w w':World} {Q:Exit→Act→World→Prop}
theorem qtx (ho:p.op=.alloc 55):(execOp a.eval p).run Tryz.prog W=.ok (.value (.pointer (some ⟨W.heap.size,0,none⟩))) (W.alloc tdo):=by
 unfold execOp
 simp only [ho]
 kernel_rfl
theorem qbx (hw:Region.wanted p (yielded ops a.tmps)=true) (ho:p.op=.alloc 55)
  (hk:∀ W',Tk W' W.heap.size 0 (.slice none 0 0) (.slice none 0 0)→Below W.heap.size W W'→W.heap.size<W'.heap.size→wpList Tryz.prog ops Q rest (a.put p.dst (.pointer (some ⟨W.heap.size,0,none⟩))) W'):wpList Tryz.prog ops Q (p::rest) a W :=
 BigFrame.wpList_want hw fun K hK=>by unfold Oper.wp;rw [qtx ho];exact hK _ _ (hk _ (heap_alloc_new W _) (ba W _) (by simp))
theorem qas {x y:Operand}{b:Nat}{r r':Int}{vf ve vf' ve':Value}(hgd:p.guard=none) (ho:p.op=.store 55 x y)
  (hx:a.eval x=.pointer (some ⟨b,0,none⟩)) (hy:a.eval y=tdv r vf ve) (hv:(∃ va n vc,vf=.slice va n vc)∧∃ va n vc,ve=.slice va n vc) (h:Tk W b r' vf' ve')
  (hk:∀ W',Tk W' b r vf ve→Fr (fun k=>k=b) W W'→wpList Tryz.prog ops Q rest (a.put p.dst undef) W'):wpList Tryz.prog ops Q (p::rest) a W :=
 wpList_store_row hgd 55 x y ho b #[.int .i64 r,vf,ve] hx hy 55 #[.int .i64 r',vf',ve'] h (by kernel_rfl) rfl (by obtain ⟨⟨va,n,vc,rfl⟩,⟨va2,n2,vc2,rfl⟩⟩:=hv;simp [Value.oneCell']) (hk _ (setRow_heap _ _ _ _ _ _ h) (Fr.of_row W b _))
theorem Tk.load {b:Nat}{r:Int}{vf ve:Value}(h:Tk w b r vf ve):(loadVar 55 ⟨b,0,none⟩).run Tryz.prog w=.ok (tdv r vf ve) w :=
 run_loadVar_row w b 55 55 #[.int .i64 r,vf,ve] (0,0) _ h Tryz.underlying55 rfl (by kernel_rfl)
theorem qfb {x:Operand}{b:Nat}{r:Int}{vf ve:Value}(hgd:p.guard=none) (ho:p.op=.load 55 x) (hx:a.eval x=.pointer (some ⟨b,0,none⟩)) (h:Tk w b r vf ve)
  (hk:wpList Tryz.prog ops Q rest (a.put p.dst (tdv r vf ve)) w):wpList Tryz.prog ops Q (p::rest) a w :=
 wpList_load_row hgd 55 x ho b hx 55 #[.int .i64 r,vf,ve] (0,0) _ h Tryz.underlying55 rfl (by kernel_rfl) hk
theorem qbz {fn:Func}{p u:Tmp}(h:fn.results=#[.cell p 55,.tmp u]) (tmps:Array Value) (w:World) {b:Nat}{r:Int}{vf ve:Value}(hp:tmps.getD p undef=.pointer (some ⟨b,0,none⟩)) (hs:Tk w b r vf ve) :
  (results fn tmps).run Tryz.prog w=.ok (.tuple #[tdv r vf ve,tmps.getD u undef]) w:=by
 have hl:=hs.load
 have hp':tmps[p]?.getD undef=.pointer (some ⟨b,0,none⟩):=by simpa using hp
 simp [results,h,hp',asAddr,hl]
variable {B b:Nat} {r:Int} {vf ve:Value} {us:List Value} {lls:List (List (Opn × Value))} {zs:List Nat} {x y:Operand}
theorem qoe {vf':Value}{us':List Value}{lls':List (List (Opn × Value))}(hgd:p.guard=none) (ho:p.op=.store 52 x y) (hx:a.eval x=.pointer (some ⟨b,1,none⟩)) (hy:a.eval y=vf') (hvs:∃ va n c,vf'=.slice va n c)
  (h:Td B w b r vf ve us lls zs) (hown:Pl B w' vf' us') (hfr:Fr (fun k=>vf.ownBlock=some k) w w') (hv:∀ k,vf'.ownBlock=some k→vf.ownBlock=some k∨w.heap.size≤k) (hq:Uq B (Tb b vf ve) w us' lls')
  (hk:∀ W',Td B W' b r vf' ve us' lls' zs→Lx (Tb b vf ve) (Tb b vf' ve) w W'→wpList Tryz.prog ops Q rest (a.put p.dst undef) W'):wpList Tryz.prog ops Q (p::rest) a w':=by
 have hb':Tk w' b r vf ve:=by show w'.heap[b]?=_;rw [hfr.block b h.lt h.nf];exact h.blk
 obtain ⟨k1,k2⟩:=h.frames hown hfr hv hq
 refine qdv hgd ?_ (hk _ k1 k2)
 obtain ⟨va,n,c,rfl⟩:=hvs
 have c1:=cell_of_row w' b 1 _ _ _ hb'
 have f1:=frozen_of_row w' b 1 _ _ hb'
 simp only [List.getElem?_toArray,List.getElem?_cons_zero,List.getElem?_cons_succ] at c1
 unfold execOp
 simp only [ho,hx,hy]
 simp [go_sem,c1,f1]
theorem qof {ve':Value}{zs':List Nat}(hgd:p.guard=none) (ho:p.op=.store 53 x y) (hx:a.eval x=.pointer (some ⟨b,2,none⟩)) (hy:a.eval y=ve') (hvs:∃ va n c,ve'=.slice va n c)
  (h:Td B w b r vf ve us lls zs) (hown:Zl B w' ve' zs') (hfr:Fr (fun k=>ve.ownBlock=some k) w w') (hv:∀ k,ve'.ownBlock=some k→ve.ownBlock=some k∨w.heap.size≤k)
  (hk:∀ W',Td B W' b r vf ve' us lls zs'→Lx (Tb b vf ve) (Tb b vf ve') w W'→wpList Tryz.prog ops Q rest (a.put p.dst undef) W'):wpList Tryz.prog ops Q (p::rest) a w':=by
 have hb':Tk w' b r vf ve:=by show w'.heap[b]?=_;rw [hfr.block b h.lt h.ne];exact h.blk
 obtain ⟨k1,k2⟩:=h.ends hown hfr hv
 refine qdv hgd ?_ (hk _ k1 k2)
 obtain ⟨va,n,c,rfl⟩:=hvs
 have c2:=cell_of_row w' b 2 _ _ _ hb'
 have f2:=frozen_of_row w' b 2 _ _ hb'
 simp only [List.getElem?_toArray,List.getElem?_cons_zero,List.getElem?_cons_succ] at c2
 unfold execOp
 simp only [ho,hx,hy]
 simp [go_sem,c2,f2]
theorem qod {q:Int}(hgd:p.guard=none) (ho:p.op=.store 3 x y) (hx:a.eval x=.pointer (some ⟨b,0,none⟩)) (hy:a.eval y=.int .i64 q)
  (h:Tk w b r vf ve) (hk:∀ W',Tk W' b q vf ve→Fr (fun k=>k=b) w W'→wpList Tryz.prog ops Q rest (a.put p.dst undef) W'):wpList Tryz.prog ops Q (p::rest) a w:=by
 refine qdv hgd ?_ (hk (w.setCell ⟨b,0,none⟩ (.int .i64 q)) (by show (w.setCell _ _).heap[b]?=_;rw [heap_setCell_same w b 0 _ _ _ h];simp) (Fr.of_set w b 0 _))
 have c0:=cell_of_row w b 0 _ _ _ h
 have f0:=frozen_of_row w b 0 _ _ h
 simp only [List.getElem?_toArray,List.getElem?_cons_zero] at c0
 unfold execOp
 simp only [ho,hx,hy]
 simp [go_sem,c0,f0]
theorem Tk.no_byte (h:Tk w b r (.slice none 0 0) (.slice none 0 0)):∀ k,k=b→∀ j x,w.cell? ⟨k,j,none⟩≠some (.int .u8 x):=by
 rintro k rfl j x e
 rw [cell_of_row w k j _ _ _ h] at e
 match j with
 | 0=>simp at e
 | 1=>simp at e
 | 2=>simp at e
 | j+3=>simp at e
theorem qmh {vf' u:Value}{l:List (Opn × Value)}(hgd:p.guard=none) (ho:p.op=.store 52 x y) (hx:a.eval x=.pointer (some ⟨b,1,none⟩)) (hy:a.eval y=vf') (hvs:∃ va n c,vf'=.slice va n c)
  (h:Td B w b r vf ve us lls zs) (hown:w'.ownsRow B 38 1 vf' (us.length+1) (us++[u])) (hg:w.grownBy w' vf.ownBlock) (hv:vf'.ownBlock=vf.ownBlock∨vf'.ownBlock=some w.heap.size) (hu:Oq (Tb b vf ve) w u l) (hn:Nn B u l)
  (hk:∀ W',Td B W' b r vf' ve (us++[u]) (lls++[l]) zs→Lx (Tb b vf ve) (Tb b vf' ve) w W'→wpList Tryz.prog ops Q rest (a.put p.dst undef) W'):wpList Tryz.prog ops Q (p::rest) a w' :=
 qoe hgd ho hx hy hvs h (by show World.ownsRow _ _ _ _ _ _ _;rw [List.length_append];exact hown) (Fr.of_grown hg (fun k e=>e)) (fun k hk=>hv.elim (fun e=>.inl (e▸hk)) (fun e=>by rw [e] at hk;exact .inr (Nat.le_of_eq (Option.some.inj hk)))) (h.uq.snoc hu hn) hk
theorem qmi {ve':Value}{z:Nat}(hgd:p.guard=none) (ho:p.op=.store 53 x y) (hx:a.eval x=.pointer (some ⟨b,2,none⟩)) (hy:a.eval y=ve') (hvs:∃ va n c,ve'=.slice va n c)
  (h:Td B w b r vf ve us lls zs) (hown:w'.ownsRow B 3 1 ve' (zs.length+1) ((zs.map fun (z:Nat)=>Value.int .i64 (z:Int))++[.int .i64 z])) (hg:w.grownBy w' ve.ownBlock) (hv:ve'.ownBlock=ve.ownBlock∨ve'.ownBlock=some w.heap.size)
  (hk:∀ W',Td B W' b r vf ve' us lls (zs++[z])→Lx (Tb b vf ve) (Tb b vf ve') w W'→wpList Tryz.prog ops Q rest (a.put p.dst undef) W'):wpList Tryz.prog ops Q (p::rest) a w' :=
 qof hgd ho hx hy hvs h (by show World.ownsRow _ _ _ _ _ _ _;rw [List.length_append,List.map_append];exact hown) (Fr.of_grown hg (fun k e=>e)) (fun k hk=>hv.elim (fun e=>.inl (e▸hk)) (fun e=>by rw [e] at hk;exact .inr (Nat.le_of_eq (Option.some.inj hk)))) hk
theorem qiv {i:Nat}{T:TypeId}{v:Value}(hT:T=52∨T=53) (hgd:p.guard=none) (ho:p.op=.load T x) (hx:a.eval x=.pointer (some ⟨b,i,none⟩)) (h:w.cell? ⟨b,i,none⟩=some v)
  (hk:wpList Tryz.prog ops Q rest (a.put p.dst v) w):wpList Tryz.prog ops Q (p::rest) a w:=by
 refine qkc hgd ?_ hk
 unfold execOp
 simp only [ho,hx]
 rcases hT with rfl | rfl
 ·simp [go_sem,h]
 ·simp [go_sem,h]
end
def RD (xs:List Int) (w:World) (e:Ending) (w':World):Prop :=
 (Tl xs none∧e=.returned (.tuple #[tdv 0 (.slice none 0 0) (.slice none 0 0),.bool false])∧Below w.heap.size w w') ∨
 ∃ r Fs vf ve lls,Tl xs (some (r,Fs))∧Good Fs∧0≤r∧r≤15∧10+szF Fs≤xs.length∧e=.returned (.tuple #[tdv r vf ve,.bool true])∧To w.heap.size w' vf ve Fs lls∧Below w.heap.size w w'
theorem RD.no {xs:List Int}{w w':World}(h:Tl xs none) (hb:Below w.heap.size w w'):RD xs w (.returned (.tuple #[tdv 0 (.slice none 0 0) (.slice none 0 0),.bool false])) w':=.inl ⟨h,rfl,hb⟩
theorem Td.newer {B:Nat}{w w':World}{b:Nat}{r:Int}{vf ve u:Value}{us:List Value}{lls:List (List (Opn × Value))}{zs:List Nat}{l:List (Opn × Value)}(h:Td B w b r vf ve us lls zs) (ho:Os w' u l) (hn:Nn w.heap.size u l):Oq (Tb b vf ve) w' u l :=
 ⟨ho,.inr (fun k hk e=>by have h1:=hn.1 k hk;have h2:=(h.inside e).2;omega),fun p hp=>⟨ho.2 p hp,.inr (fun k hk e=>by have h1:=hn.2 p hp k hk;have h2:=(h.inside e).2;omega)⟩⟩
set_option maxHeartbeats 4000000 in
theorem qin (vb:Value) (xs:List Int) (w:World) (h:Bs w vb xs) (hn:xs.length≤1099511627776) :
  Calls Tryz.prog 26 #[vb] w fun e w'=>RD xs w e w':=by
 have HB:=hid h
 have HLN:=hid hn
 have HBY:=hid h.range
 clear h hn
 go_enter Tryz.func26,Tryz.ntmps26
 go_upto_region 1 with (first
  | (refine qbx rfl rfl ?_;intro w1 hr1 hb1 hlt1;have HR:=hid hr1;have BB:=hid hb1;have HLT:=hid hlt1;clear hr1 hb1 hlt1))
 obtain ⟨rb,hrb⟩:∃ r,w.heap.size=r:=⟨_,rfl⟩
 have hrB:w.heap.size≤rb:=Nat.le_of_eq hrb
 rw [hrb] at HR HLT ⊢
 clear hrb
 have HB1:=hid (HB.out.below BB.out)
 go_wp2_with fail
 refine (qic vb xs w1 HB1.out HLN.out).mono ?_
 rintro e w2 ⟨v2,fs,p,t,rfl,hsp,hls,b2⟩
 replace HR:=hid (HR.out.below b2)
 replace BB:=hid (bt BB.out b2)
 have HSP:=hid hsp
 have HLS:=hid hls
 have hrs:rb<w2.heap.size:=Nat.lt_of_lt_of_le HLT.out b2.size
 have HRS:=hid hrs
 clear b2 hsp hls HB1 HLT hrs
 by_cases ht:t=2
 ·subst ht
  have HT:=hid (show Tl xs none by
   cases fs with
   | nil=>exact qti HSP.out
   | cons f fs=>exact qgn HSP.out (.inl rfl))
  obtain ⟨a2,c2,rfl⟩:=HLS.out.form
  rw [show ((2:Nat):Int)=2 from rfl]
  clear HLS HSP
  go_wp2_with (first
   | (refine qas rfl rfl rfl rfl ⟨⟨_,_,_,rfl⟩,⟨_,_,_,rfl⟩⟩ HR.out ?_;intro w9 hr9 hf9;have HR9:=hid hr9;have B9:=hid (qaa BB.out hf9 hrB);clear hr9 hf9)
   | fail)
  refine bodyPost_ret (qbz rfl _ _ rfl HR9.out) rfl ?_
  exact RD.no HT.out B9.out
 ·have ht':((t:Int)==2)=false:=by simp;omega
  cases fs with
  | nil =>
   have HT:=hid (qti HSP.out)
   obtain ⟨a2,c2,rfl,_,_⟩:=HLS.out.inv_nil
   clear HLS HSP
   go_wp2_with (first
    | (refine qas rfl rfl rfl rfl ⟨⟨_,_,_,rfl⟩,⟨_,_,_,rfl⟩⟩ HR.out ?_;intro w9 hr9 hf9;have HR9:=hid hr9;have B9:=hid (qaa BB.out hf9 hrB);clear hr9 hf9)
    | fail)
   refine bodyPost_ret (qbz rfl _ _ rfl HR9.out) rfl ?_
   exact RD.no HT.out B9.out
  | cons f fs =>
   obtain ⟨b,off,c,rfl,hnc,hcm,hat⟩:=HLS.out.inv (by simp)
   have HAT:=hid hat
   have HTN:=hid ht
   obtain ⟨n,hnn⟩:∃ n,(f::fs).length=n:=⟨_,rfl⟩
   have HN:=hid hnn
   have hn0:0<n:=by rw [←hnn];simp
   have hz:((n:Int)==0)=false:=by simp;omega
   have hsl:=qzt HSP.out
   rw [hnn] at hnc hsl ⊢
   have hnb:n≤1099511627776:=by have:=HLN.out;omega
   have HPX:Hid (8*n≤p∧p≤xs.length):=hid hsl
   obtain ⟨u0,hu0,hb0⟩:=hat 0 (by rw [hnn];exact hn0)
   have hb0':Bs w2 u0 f:=hb0
   have hfl:=(qke HSP.out HBY.out f (by simp))
   obtain ⟨F,hF⟩:∃ F,f.length=F:=⟨_,rfl⟩
   have HF:=hid hF
   have hF65:F≤65536:=by rw [←hF];exact hfl.2
   have hu0':w2.cell? ⟨b,off,none⟩=some u0:=hu0
   have HC0:=hid hu0'
   have HB0:=hid hb0'
   obtain ⟨ua,uc,rfl⟩:=hb0'.form
   rw [hF] at HB0 HC0
   clear hat hsl hu0 hb0 hu0' hb0' hF hnn hfl
   go_upto_region 5 with (first
    | (refine qbx rfl rfl ?_;intro w3 hr3 hb3 hlt3;have HK:=hid hr3;have HB3:=hid hb3;have HS3:=hid hlt3;clear hr3 hb3 hlt3)
    | (refine qas rfl rfl rfl rfl ⟨⟨_,_,_,rfl⟩,⟨_,_,_,rfl⟩⟩ HK.out ?_;intro w4 hr4 hf4;replace HK:=hid hr4;have HB4:=hid (qaa HB3.out hf4 (Nat.le_refl _));have HS4:=hid (Nat.lt_of_lt_of_le HS3.out hf4.size);clear hr4 hf4)
    | fail)
   obtain ⟨tb,htb⟩:∃ r,w2.heap.size=r:=⟨_,rfl⟩
   have HTB:=hid htb
   have HLW:Hid (∀ a,a<tb→True):=hid (fun _ _=>trivial)
   rw [htb] at HK HS4 HRS ⊢
   have hk0:w4.cell? ⟨b,off,none⟩=some (.slice ua F uc):=(HB4.out.cell (p:=⟨b,off,none⟩) (World.block_lt_of_cell? _ _ HC0.out)).trans HC0.out
   have HU4:=hid (HB0.out.below HB4.out)
   clear HB3 HS3 htb
   go_wp2_with fail
   refine (qet _ f w4 HU4.out (by rw [HF.out];omega)).mono ?_
   rintro e w5 ⟨g,cap,rfl,hown,b5⟩
   have hbs:=Bs.of_own hown HB0.out.range
   have HA6:=ba w5 (.cells #[.slice (some ⟨g,0,none⟩) f.length cap,.bool false] 109)
   have HX:Hid (Cx (w5.alloc (.cells #[.slice (some ⟨g,0,none⟩) f.length cap,.bool false] 109)) w5.heap.size (f,false)):=hid ⟨⟨_,heap_alloc_new w5 _,hbs.below HA6⟩,⟨HB0.out.range,fun e=>by cases e⟩,by show f.length≤_;rw [HF.out];omega⟩
   have B6:=hid (bt HB4.out (bt b5 HA6))
   have K6:=hid (HK.out.below (bt b5 HA6))
   have htc:¬ tb=w5.heap.size:=by have:=HS4.out;have:=b5.size;omega
   have hcb:w2.heap.size≤w5.heap.size:=(bt HB4.out b5).size
   obtain ⟨s1,hs1⟩:∃ s1,rn 0 (f,false)=(0,s1):=⟨_,Prod.ext (by
    have v0:=qfe (m:=0) (s:=(f,false)) HB0.out.range
    have h1:=v0.1
    have h2:=v0.2.2 (by decide)
    show (rn 0 (f,false)).1=0
    omega) rfl⟩
   obtain ⟨V,⟨qs,qb⟩,hs2⟩:∃ V q,rn 15 s1=(V,q):=⟨_,_,rfl⟩
   have hrf:rfS f=(V,(qs,qb)):=by unfold rfS;rw [hs1];exact hs2
   have HRF:=hid hrf
   have HS1:=hid hs1
   have HS2:=hid hs2
   clear hown b5 HA6 hbs hs1 hs2 hrf hk0
   go_wp2_with fail
   refine (qfs w5.heap.size (f,false) 0 _ HX.out).mono ?_
   rintro e w7 ⟨rfl,hx,hg⟩
   obtain ⟨cb,hcc⟩:∃ c,w5.heap.size=c:=⟨_,rfl⟩
   rw [hcc] at hx hg htc hcb ⊢
   rw [HS1.out] at hx ⊢
   have B7:=hid (qaa B6.out (Fr.grown hg) hcb)
   have K7:Hid (Tk w7 tb 0 (.slice none 0 0) (.slice none 0 0)):=hid (((Fr.grown hg).block tb K6.out.lt htc).trans K6.out)
   have X7:=hid hx
   clear hx hg hcc HX B6 K6
   go_upto_region 8 with (first
    | (go_at_call 64;refine (qfs cb s1 15 _ X7.out).mono ?_;rintro e w8 ⟨rfl,hx,hg⟩;rw [HS2.out] at hx ⊢;have B8:=hid (qaa B7.out (Fr.grown hg) hcb);have K8:Hid (Tk w8 tb 0 (.slice none 0 0) (.slice none 0 0)):=hid (((Fr.grown hg).block tb K7.out.lt htc).trans K7.out);have X8:=hid hx;clear hx hg)
    | (refine qod rfl rfl rfl rfl K8.out ?_;intro w9 hr9 hf9;have K9:=hid hr9;have B9:=hid (qaa B8.out hf9 (Nat.le_of_eq HTB.out));have X9:=hid (X8.out.fr hf9 (fun e=>htc e.symm) K8.out.no_byte);clear hr9 hf9)
    | fail)
   have X:=X9.out
   obtain ⟨⟨cv,hcv,hcb2⟩,hvl,hql⟩:=X
   have hql':qs.length≤1099511627776:=hql
   have HVL:=hid hvl
   obtain ⟨ca,cc,rfl⟩:=hcb2.form
   have k0:=cell_of_row w9 cb 0 _ _ _ hcv
   have k1:=cell_of_row w9 cb 1 _ _ _ hcv
   simp only [List.getElem?_toArray,List.getElem?_cons_zero,List.getElem?_cons_succ] at k0 k1
   have HR9:=hid (HR.out.low B9.out (by have:=HRS.out;have:=HTB.out;omega))
   have BW9:=hid (BB.out.trans (B9.out.mono BB.out.size))
   clear hcv hcb2 hvl hql X9 X8 X7 K8 K7 B8 B7
   cases qb with
   | true =>
    have HT:=hid (qgn HSP.out (.inr (show rfO f=false by unfold rfO;rw [HRF.out];rfl)))
    clear HSP HLS HAT HC0 HB0 HU4
    go_wp2_with (first
     | (refine qas rfl rfl rfl rfl ⟨⟨_,_,_,rfl⟩,⟨_,_,_,rfl⟩⟩ HR9.out ?_;intro w10 hr10 hf10;have HR10:=hid hr10;have B10:=hid (qaa BW9.out hf10 hrB);clear hr10 hf10)
     | fail)
    refine bodyPost_ret (qbz rfl _ _ rfl HR10.out) rfl ?_
    exact RD.no HT.out B10.out
   | false =>
    by_cases hq:0<qs.length
    ·have HT:=hid (qgn HSP.out (.inr (show rfO f=false by
      unfold rfO;rw [HRF.out]
      cases qs with
      | nil=>simp at hq
      | cons x r=>rfl)))
     have hq':(0:Int)<(qs.length:Int):=by omega
     obtain ⟨Z,hZ⟩:∃ Z,qs.length=Z:=⟨_,rfl⟩
     rw [hZ] at hq hq' k0
     clear hZ HSP HLS HAT HC0 HB0 HU4
     go_wp2_with (first
      | (refine qas rfl rfl rfl rfl ⟨⟨_,_,_,rfl⟩,⟨_,_,_,rfl⟩⟩ HR9.out ?_;intro w10 hr10 hf10;have HR10:=hid hr10;have B10:=hid (qaa BW9.out hf10 hrB);clear hr10 hf10)
      | fail)
     refine bodyPost_ret (qbz rfl _ _ rfl HR10.out) rfl ?_
     exact RD.no HT.out B10.out
    ·obtain rfl:qs=[]:=List.eq_nil_of_length_eq_zero (by omega)
     obtain ⟨r0,r1,hf2,hyes,hno⟩:=qqa HSP.out HBY.out HTN.out (show rfO f=true by unfold rfO;rw [HRF.out];rfl)
     have hV:rfV f=V:=by unfold rfV;rw [HRF.out]
     rw [hV] at r0 r1 hyes
     have HR0:=hid r0
     have HR1:=hid r1
     have HYES:=hid hyes
     have HNO:=hid hno
     obtain rfl:F=2:=by rw [←HF.out];exact hf2
     have kk0:w9.cell? ⟨b,off,none⟩=some (.slice ua 2 uc):=by rw [(B9.out.cell (p:=⟨b,off,none⟩) (World.block_lt_of_cell? _ _ HC0.out))];exact HC0.out
     have T9:=hid (Td.of_blk (B:=w2.heap.size) K9.out (Nat.le_of_eq HTB.out))
     simp only [List.length_nil] at k0
     clear hq hV r0 r1 hyes hno hf2 HU4
     go_wp2_with fail
     go_loopw [10,11] (fun at' i wr=>∃ (j A:Nat) (gs:List (List Int)) (Gs:List (List Opn)) (vf ve:Value) (us:List Value) (lls:List (List (Opn × Value))),i=.int .i64 j∧1≤j∧j≤n∧at'=.int .i64 A∧A=10+szF Gs∧(f::fs).take j=f::gs∧dAll gs=some Gs∧lls.map fsts=Gs∧Td w2.heap.size wr tb V vf ve us lls ((endsF Gs).map Prod.fst)∧Below w2.heap.size w2 wr) (fun _ i _=>n - (intOf i).toNat)
     case atStart=>exact ⟨1,10,[],[],_,_,_,_,rfl,Nat.le_refl _,hn0,rfl,rfl,rfl,rfl,rfl,T9.out,B9.out⟩
     case round =>
      obtain ⟨j,A,gs,Gs,vf,ve,us,lls,rfl,hj1,hjn,rfl,hA,htk,hda,hlm,htd,hbw⟩:=hrel
      have HA:=hid hA
      have HTK:=hid htk
      have HDA:=hid hda
      have HLM:=hid hlm
      have TD:=hid htd
      have BW:=hid hbw
      have HRW:=hid (HR.out.low BW.out (by have:=HRS.out;have:=HTB.out;omega))
      have BA:=hid (BB.out.trans (BW.out.mono BB.out.size))
      clear hA htk hda hlm htd hbw k0 k1 kk0 T9 K9 B9 HR9 BW9
      by_cases hlt:j<n
      ·have hlt':(j:Int)<(n:Int):=by omega
       obtain ⟨u,hu,hbu⟩:=HAT.out j (by rw [HN.out];exact hlt)
       have hjl:j<(f::fs).length:=by rw [HN.out];exact hlt
       have hgd:(f::fs).getD j []=(f::fs)[j]:=by simp only [List.getD,List.getElem?_eq_getElem hjl,Option.getD_some]
       obtain ⟨x,hx⟩:∃ x,(f::fs)[j]=x:=⟨_,rfl⟩
       rw [hgd,hx] at hbu
       have htk':(f::fs).take (j+1)=f::(gs++[x]):=by rw [List.take_succ_eq_append_getElem hjl,HTK.out,hx];rfl
       have hfs:fs=(gs++[x])++(f::fs).drop (j+1):=by
        have h1:=(List.take_append_drop (j+1) (f::fs)).symm
        rw [htk',List.cons_append] at h1
        exact (List.cons.inj h1).2
       have hxm:x ∈ fs:=by rw [hfs];simp
       have hxb:=qke HSP.out HBY.out x (by simp [hxm])
       obtain ⟨X,hX⟩:∃ X,x.length=X:=⟨_,rfl⟩
       have hX65:X≤65536:=by rw [←hX];exact hxb.2
       have HXL:=hid hX
       have HXB:=hid hxb
       have HFS:=hid hfs
       have HXM:=hid hxm
       have HTK':=hid htk'
       have hcu:wr.cell? ⟨b,off+j,none⟩=some u:=(BW.out.cell (p:=⟨b,off+j,none⟩) (World.block_lt_of_cell? _ _ hu)).trans hu
       have HCU:=hid hcu
       have HBU:=hid (hbu.below BW.out)
       obtain ⟨ux,uxc,rfl⟩:=hbu.form
       rw [hX] at HBU hcu HCU
       have hDA:=qjt hxb.1 (by omega)
       obtain ⟨⟨D1,D2⟩,hD⟩:∃ z,decA mOwn x=z:=⟨_,rfl⟩
       rw [hD] at hDA
       have HD:=hid hD
       have HDR:=hid hDA.symm
       clear hu hbu hgd hx htk' hfs hxm hxb hX hD hDA hjl
       go_wp2_with fail
       refine (qoc _ x wr HBU.out (by have:=HXB.out.2;omega)).mono ?_
       rintro e w5 ⟨v5,l5,rfl,ho5,hf5,b5,hn5⟩
       rw [HDR.out] at hf5 ⊢
       dsimp only at hf5 ⊢
       have HO5:=hid ho5
       have HF5:=hid hf5
       have HN5:=hid hn5
       have TD5:=hid (TD.out.below b5)
       have BW5:=hid (BW.out.trans (b5.mono BW.out.size))
       have HR5:=hid (HRW.out.below b5)
       have BA5:=hid (bt BA.out b5)
       have OQ5:=hid (TD.out.newer ho5 hn5)
       have hcu5:w5.cell? ⟨b,off+j,none⟩=some (.slice ux X uxc):=(b5.cell (p:=⟨b,off+j,none⟩) (World.block_lt_of_cell? _ _ HCU.out)).trans HCU.out
       have WS5:Hid (w2.heap.size≤wr.heap.size):=hid BW.out.size
       obtain ⟨q,hq⟩:∃ q,l5.length=q:=⟨_,rfl⟩
       have HQ:=hid hq
       obtain ⟨va,vc,rfl,_,_⟩:=ho5.1.form
       rw [hq] at OQ5 HN5 ⊢
       clear ho5 hf5 b5 hn5 hcu HBU HCU HRW BA TD HDR hq
       cases D2 with
       | false =>
        have HT:=hid (HNO.out (qmb (.inl (by rw [HD.out])) HXM.out))
        clear hcu5 HYES HNO
        go_wp2_with (first
         | (refine qas rfl rfl rfl rfl ⟨⟨_,_,_,rfl⟩,⟨_,_,_,rfl⟩⟩ HR5.out ?_;intro w10 hr10 hf10;have HR10:=hid hr10;have B10:=hid (qaa BA5.out hf10 hrB);clear hr10 hf10)
         | fail)
        refine bodyPost_ret (qbz rfl _ _ rfl HR10.out) rfl ?_
        exact RD.no HT.out B10.out
       | true =>
        by_cases hq0:q=0
        ·have HT:=hid (HNO.out (qmb (.inr (by
          rw [HD.out]
          have h1:=HF5.out
          have h2:=HQ.out
          rw [hq0] at h2
          rw [List.eq_nil_of_length_eq_zero h2] at h1
          exact h1.symm)) HXM.out))
         have hqz:((q:Int)==0)=true:=by simp [hq0]
         clear hcu5 HYES HNO hq0
         go_wp2_with (first
          | (refine qas rfl rfl rfl rfl ⟨⟨_,_,_,rfl⟩,⟨_,_,_,rfl⟩⟩ HR5.out ?_;intro w10 hr10 hf10;have HR10:=hid hr10;have B10:=hid (qaa BA5.out hf10 hrB);clear hr10 hf10)
          | fail)
         refine bodyPost_ret (qbz rfl _ _ rfl HR10.out) rfl ?_
         exact RD.no HT.out B10.out
        ·have hqz:((q:Int)==0)=false:=by simp;omega
         have hDne:D1≠[]:=fun e=>by
          have h1:=HF5.out
          rw [e] at h1
          have h2:=congrArg List.length h1
          have h3:=HQ.out
          simp only [fsts,List.length_map,List.length_nil] at h2
          omega
         have hda':dAll (gs++[x])=some (Gs++[D1]):=by
          have:=qno (f:=x) (by rw [HD.out]) (by rw [HD.out];exact hDne) HDA.out
          rw [HD.out] at this
          exact this
         have hszp:szF (Gs++[D1])≤p:=by
          obtain ⟨_,_,m,hm,hs⟩:=HSP.out
          have h1:=qqe (gs:=(f::fs).drop (j+1)) (by rw [←HFS.out];exact hs) (fun y hy=>HBY.out y (List.mem_of_mem_drop hy)) hda'
          omega
         have hen:=(qhw HXB.out.1 HXB.out.2 (by rw [HD.out])).1
         rw [HD.out] at hen
         have hszs:szF (Gs++[D1])=szF Gs+(8+X):=by rw [qbw,qdd];dsimp only at hen;rw [hen,HXL.out]
         have hszl:=qgc Gs
         have husl:us.length=Gs.length:=by rw [TD5.out.uq.1,←HLM.out];simp
         have hzsl:((endsF Gs).map Prod.fst).length=Gs.length:=by rw [List.length_map,qcg]
         have hpx:=HPX.out
         have hln:=HLN.out
         have hAe:=HA.out
         have hAb:A≤1099511627776+10:=by omega
         obtain ⟨A2,hA2⟩:∃ A2,A+(8+X)=A2:=⟨_,rfl⟩
         have HA2:Hid (A2=10+szF (Gs++[D1])):=hid (by omega)
         have hA2c:((A:Int)+(8+(X:Int)))=(A2:Int):=by omega
         have hul:us.length≤1099511627776:=by omega
         obtain ⟨N,hNN⟩:∃ N,us.length=N:=⟨_,rfl⟩
         have HNN:=hid hNN
         have HZL:Hid (((endsF Gs).map Prod.fst).length=N):=hid (by omega)
         have HDA':=hid hda'
         rw [hNN] at hul
         clear hq0 hDne hda' hszp hen hszs hszl husl hzsl hpx hln hAe hA2 hNN HYES HNO
         go_upto_region 18 with fail
         obtain ⟨af,cf,rfl,_⟩:=qbe TD5.out.rf
         have T1:=hid TD5.out.cells.2.1
         have HA6:=hid (ba w5 (.cells #[.slice va q vc] 38))
         have TD6:=hid (TD5.out.below HA6.out)
         have OQ6:=hid (OQ5.out.below HA6.out)
         have SL6:=hid (Sl.lit (sz:=1) w5 38 #[.slice va q vc] 1 (by decide) rfl)
         have ONE6:Hid (∀ x ∈ [Value.slice va q vc],x.oneCell'=true):=hid (fun x hx=>by rw [List.mem_singleton.1 hx];rfl)
         have S6:Hid (w2.heap.size≤(w5.alloc (.cells #[.slice va q vc] 38)).heap.size):=hid (Nat.le_trans BW5.out.size HA6.out.size)
         have HN5':=hid (HN5.out.mono WS5.out)
         have hb6:(us.length+1)*24≤140737488355328:=by rw [HNN.out];omega
         have hm6:us.length+1≤maxLen:=by rw [HNN.out];unfold maxLen;omega
         go_upto_region 19 with (first
          | (refine qiv (.inl rfl) rfl rfl rfl T1.out ?_)
          | (at_builtin;refine qbc 52 38 1 24 _ Tryz.underlying52 qlw rfl (Nat.succ_pos 0) rfl _ _ rfl w2.heap.size (.slice af us.length cf) _ _ rfl TD6.out.rf _ 1 _ rfl SL6.out ONE6.out hb6 hm6 S6.out ?_;intro v9 w9 hown9 hg9 hv9;obtain ⟨a9,c9,rfl⟩:=qcx hown9;have HO9:=hid hown9;have HG9:=hid hg9;have HV9:=hid hv9;clear hown9 hg9 hv9)
          | (refine qmh rfl rfl rfl rfl ⟨_,_,_,rfl⟩ TD6.out HO9.out HG9.out HV9.out OQ6.out HN5'.out ?_;intro w10 htd10 hx10;have TD10:=hid htd10;have X10:=hid hx10;clear htd10 hx10)
          | fail)
         have ze:((endsF Gs).map Prod.fst).length=N:=HZL.out
         obtain ⟨zs,hzs⟩:∃ zs,(endsF Gs).map Prod.fst=zs:=⟨_,rfl⟩
         have HZS:=hid hzs
         rw [hzs] at ze
         replace TD10:Hid (Td w2.heap.size w10 tb V (.slice a9 (us.length+1) c9) ve (us++[.slice va q vc]) (lls++[l5]) zs):=hid (by rw [←hzs];exact TD10.out)
         clear hzs
         obtain ⟨ae,ce,rfl,_⟩:=qbe TD10.out.re
         have T2:=hid TD10.out.cells.2.2.1
         have X10':Hid (Below w2.heap.size (w5.alloc (.cells #[.slice va q vc] 38)) w10):=hid (X10.out.below (fun k hk=>(TD6.out.inside hk).1) S6.out)
         have HA11:=hid (ba w10 (.cells #[.int .i64 (A2:Int)] 3))
         have TD11:=hid (TD10.out.below HA11.out)
         have SL11:=hid (Sl.lit (sz:=1) w10 3 #[.int .i64 (A2:Int)] 1 (by decide) rfl)
         have ONE11:Hid (∀ x ∈ [Value.int .i64 (A2:Int)],x.oneCell'=true):=hid (fun x hx=>by rw [List.mem_singleton.1 hx];rfl)
         have S11:Hid (w2.heap.size≤(w10.alloc (.cells #[.int .i64 (A2:Int)] 3)).heap.size):=hid (Nat.le_trans S6.out (Nat.le_trans X10'.out.size HA11.out.size))
         have hb11:(zs.length+1)*8≤140737488355328:=by rw [ze];omega
         have hm11:zs.length+1≤maxLen:=by rw [ze];unfold maxLen;omega
         clear ze
         go_wp2_with (first
          | (refine qiv (.inr rfl) rfl rfl rfl T2.out ?_)
          | (at_builtin;refine qbc 53 3 1 8 _ Tryz.underlying53 jbr rfl (Nat.succ_pos 0) rfl _ _ rfl w2.heap.size (.slice ae zs.length ce) _ _ rfl TD11.out.re _ 1 _ rfl SL11.out ONE11.out hb11 hm11 S11.out ?_;intro v12 w12 hown12 hg12 hv12;obtain ⟨a12,c12,rfl⟩:=qcx hown12;have HO12:=hid hown12;have HG12:=hid hg12;have HV12:=hid hv12;clear hown12 hg12 hv12)
          | (refine qmi rfl rfl rfl rfl ⟨_,_,_,rfl⟩ TD11.out HO12.out HG12.out HV12.out ?_;intro w13 htd13 hx13;have TD13:=hid htd13;have X13:=hid hx13;clear htd13 hx13)
          | fail)
         have BW13:Below w2.heap.size w2 w13:=(BW5.out.trans (HA6.out.mono BW5.out.size)).trans (X10'.out.trans ((HA11.out.mono (Nat.le_trans S6.out X10'.out.size)).trans (X13.out.below (fun k hk=>(TD11.out.inside hk).1) S11.out)))
         have hT:Td w2.heap.size w13 tb V (.slice a9 (us.length+1) c9) (.slice a12 (zs.length+1) c12) (us++[.slice va q vc]) (lls++[l5]) ((endsF (Gs++[D1])).map Prod.fst):=by
          rw [qem,List.map_append,HZS.out]
          have h1:=TD13.out
          rw [HA2.out] at h1
          exact h1
         go_roundw
         case rel=>exact ⟨j+1,A2,gs++[x],Gs++[D1],_,_,_,lls++[l5],by go_num,by omega,by omega,rfl,HA2.out,HTK'.out,HDA'.out,by rw [List.map_append,HLM.out];simp only [List.map_cons,List.map_nil];rw [HF5.out],hT,BW13⟩
         case measure=>simp [intOf];omega
      ·obtain rfl:j=n:=by omega
       have b1':decide ((j:Int)<(j:Int))=false:=by simp
       have hgs:gs=fs:=by
        have h1:=HTK.out
        rw [List.take_of_length_le (by rw [HN.out];exact Nat.le_refl _)] at h1
        exact (List.cons.inj h1).2.symm
       have hda:=HDA.out
       rw [hgs] at hda
       obtain ⟨h1,h2,h3⟩:=HYES.out Gs hda
       have HTL:=hid h1
       have HGD:=hid h3
       have hap:((A:Int)==(p:Int))=true:=by have:=HA.out;simp;omega
       have HPA:=hid h2
       have TO:=hid (To.of TD.out HLM.out)
       obtain ⟨af,cf,rfl,_⟩:=qbe TD.out.rf
       obtain ⟨ae,ce,rfl,_⟩:=qbe TD.out.re
       have HTKB:Hid (Tk wr tb V (.slice af us.length cf) (.slice ae ((endsF Gs).map Prod.fst).length ce)):=hid TD.out.blk
       obtain ⟨ve,hve⟩:∃ ve,Value.slice ae ((endsF Gs).map Prod.fst).length ce=ve:=⟨_,rfl⟩
       obtain ⟨vf,hvf⟩:∃ vf,Value.slice af us.length cf=vf:=⟨_,rfl⟩
       have HSF:Hid ((∃ va n vc,vf=.slice va n vc)∧∃ va n vc,ve=.slice va n vc):=hid ⟨⟨_,_,_,hvf.symm⟩,⟨_,_,_,hve.symm⟩⟩
       rw [hve,hvf] at HTKB TO
       clear hgs hda h1 h2 h3 hve hvf TD HYES HNO
       go_wp2_with (first
        | (refine qfb rfl rfl rfl HTKB.out ?_)
        | (refine qas rfl rfl rfl rfl HSF.out HRW.out ?_;intro w10 hr10 hf10;have HR10:=hid hr10;have B10:=hid (qaa BA.out hf10 hrB);have HF10:=hid hf10;clear hr10 hf10)
        | fail)
       refine bodyPost_ret (qbz rfl _ _ rfl HR10.out) rfl ?_
       refine .inr ⟨V,Gs,vf,ve,lls,HTL.out,HGD.out,HR0.out,HR1.out,by have h1:=HPA.out;have h2:=HPX.out;omega,rfl,(TO.out.kept HF10.out (fun k e=>by have h1:=HRS.out;have h2:=HTB.out;omega)).base BB.out.size,B10.out⟩
end Go.Proofs.YtkcjkncpaopjbaaGreatDoor
