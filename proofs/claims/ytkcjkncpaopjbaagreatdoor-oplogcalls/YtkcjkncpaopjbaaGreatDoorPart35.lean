/-
  Parts of the proof, one behind the other; what each proves stands at its head.
-/
import Derived.Test.YtkcjkncpaopjbaaGreatDoorPart30
import Derived.Test.YtkcjkncpaopjbaaGreatDoorPart34
import Derived.Test.YtkcjkncpaopjbaaGreatDoorPart11
import Derived.Test.YtkcjkncpaopjbaaGreatDoorPart33
import Derived.Deep.QuietTactic
import Derived.BigQuiet

namespace Go.Proofs.YtkcjkncpaopjbaaGreatDoor
open Go.RowKit
set_option linter.unusedVariables false
set_option maxRecDepth 100000
def lby (r:Int) (Fs:List (List Opn)):List Int:=C.cat (fb0 r::Fs.map encA)
def endsFrom (b o:Nat):List (List Opn)→List (Nat × Nat)
 | []=>[]
 | f::fs=>(b+(8+(encA f).length),o+f.length)::endsFrom (b+(8+(encA f).length)) (o+f.length) fs
def endsF (Fs:List (List Opn)):List (Nat × Nat):=endsFrom 10 0 Fs
def szF (Fs:List (List Opn)):Nat:=(C.cat (Fs.map encA)).length
theorem qol:szF []=0:=rfl
theorem qcv (f:List Opn) (Fs:List (List Opn)):szF (f::Fs)=8+(encA f).length+szF Fs:=by
 unfold szF
 rw [List.map_cons,C.cat_cons,List.length_append,C.frame_length]
theorem qbw (Fs Gs:List (List Opn)):szF (Fs++Gs)=szF Fs+szF Gs:=by
 unfold szF
 rw [List.map_append,C.cat_append,List.length_append]
theorem qdd (f:List Opn):szF [f]=8+(encA f).length:=by rw [qcv,qol];rfl
theorem qcy {r:Int}(Fs:List (List Opn)):lby r Fs=C.frame (fb0 r)++C.cat (Fs.map encA):=by unfold lby;rw [C.cat_cons]
theorem qfo (r:Int) (Fs:List (List Opn)) (f:List Opn):lby r (Fs++[f])=lby r Fs++C.frame (encA f):=by
 rw [qcy,qcy,List.map_append,List.map_cons,List.map_nil,C.cat_snoc,List.append_assoc]
theorem qbo {r:Int}(h0:0≤r) (h1:r≤15) (Fs:List (List Opn)):(lby r Fs).length=10+szF Fs:=by
 rw [qcy,List.length_append,C.frame_length,qcz h0 h1]
 rfl
theorem qdy (Fs Gs:List (List Opn)):∀ b o,endsFrom b o (Fs++Gs)=endsFrom b o Fs++endsFrom (b+szF Fs) (o+Fs.flatten.length) Gs:=by
 induction Fs with
 | nil=>intro b o;rfl
 | cons f Fs ih =>
  intro b o
  rw [List.cons_append,endsFrom,endsFrom,ih,qcv,List.cons_append]
  simp only [List.flatten_cons,List.length_append]
  rw [show b+(8+(encA f).length)+szF Fs=b+(8+(encA f).length+szF Fs) by omega,show o+f.length+Fs.flatten.length=o+(f.length+Fs.flatten.length) by omega]
theorem qem (Fs:List (List Opn)) (f:List Opn):endsF (Fs++[f])=endsF Fs++[(10+szF (Fs++[f]),(Fs++[f]).flatten.length)]:=by
 unfold endsF
 rw [qdy,qbw,qdd,List.flatten_append]
 simp only [endsFrom,List.flatten_cons,List.flatten_nil,List.append_nil,List.length_append,Nat.zero_add]
 rw [show 10+szF Fs+(8+(encA f).length)=10+(szF Fs+(8+(encA f).length)) by omega]
theorem qnk (Fs:List (List Opn)):∀ b o,(endsFrom b o Fs).length=Fs.length:=by
 induction Fs with
 | nil=>intro b o;rfl
 | cons f Fs ih=>intro b o;rw [endsFrom,List.length_cons,ih,List.length_cons]
theorem qcg (Fs:List (List Opn)):(endsF Fs).length=Fs.length:=qnk Fs 10 0
theorem qeb (Fs:List (List Opn)):∀ b o p,p ∈ endsFrom b o Fs→b<p.1∧p.1≤b+szF Fs:=by
 induction Fs with
 | nil=>intro b o p hp;cases hp
 | cons f Fs ih =>
  intro b o p hp
  rw [qcv]
  rcases List.mem_cons.1 hp with rfl | hp
  ·exact ⟨by show b<b+(8+(encA f).length);omega,by show b+(8+(encA f).length)≤_;omega⟩
  ·have:=ih _ _ p hp
   omega
theorem qgy {Fs:List (List Opn)}{p:Nat × Nat}(h:p ∈ endsF Fs):p.1≤10+szF Fs:=(qeb Fs 10 0 p h).2
theorem qjp (Fs:List (List Opn)):∀ b o,(endsFrom b o Fs).Pairwise (fun p q=>p.1≤q.1):=by
 induction Fs with
 | nil=>intro b o;exact List.Pairwise.nil
 | cons f Fs ih =>
  intro b o
  rw [endsFrom]
  exact List.Pairwise.cons (fun q hq=>Nat.le_of_lt (qeb Fs _ _ q hq).1) (ih _ _)
theorem qcp (Fs:List (List Opn)):(endsF Fs).Pairwise (fun p q=>p.1≤q.1):=qjp Fs 10 0
theorem qse (Fs:List (List Opn)):∀ b o k,k<Fs.length→((endsFrom b o Fs).getD k (0,0)).2=o+(Fs.take (k+1)).flatten.length:=by
 induction Fs with
 | nil=>intro b o k hk;cases hk
 | cons f Fs ih =>
  intro b o k hk
  rw [endsFrom]
  cases k with
  | zero=>simp
  | succ k =>
   have:=ih (b+(8+(encA f).length)) (o+f.length) k (by simpa using hk)
   rw [List.getD_cons_succ,this]
   simp [Nat.add_assoc]
theorem qhp (Fs:List (List Opn)) (k:Nat) (hk:k≤Fs.length):opsAt (endsF Fs) k=(Fs.take k).flatten.length:=by
 cases k with
 | zero=>rfl
 | succ k =>
  have:=qse Fs 10 0 k hk
  show ((endsFrom 10 0 Fs).getD k (0,0)).2=_
  omega
theorem qjg (Fs:List (List Opn)):opsAt (endsF Fs) (endsF Fs).length=Fs.flatten.length:=by rw [qcg,qhp Fs _ (Nat.le_refl _),List.take_length]
theorem qsj (es es':List (Nat × Nat)) (s:Int):inF (es++es') s=inF es s+inF es' s:=List.countP_append
theorem qyx (Fs:List (List Opn)) (k s:Nat) (hk:k≤Fs.length) (h1:10+szF (Fs.take k)≤s) (h2:k<Fs.length→s<10+szF (Fs.take (k+1))):inF (endsF Fs) (s:Nat)=k:=by
 have e:endsF Fs=endsF (Fs.take k)++endsFrom (10+szF (Fs.take k)) (0+(Fs.take k).flatten.length) (Fs.drop k):=by
  unfold endsF
  rw [←qdy,List.take_append_drop]
 rw [e,qsj,qpl (fun p hp=>Nat.le_trans (qgy hp) h1),qcg,List.length_take]
 have e2:inF (endsFrom (10+szF (Fs.take k)) (0+(Fs.take k).flatten.length) (Fs.drop k)) (s:Nat)=0:=by
  unfold inF
  rw [List.countP_eq_zero]
  intro p hp
  by_cases hlt:k<Fs.length
  ·rw [List.drop_eq_getElem_cons hlt,endsFrom] at hp
   have h3:=h2 hlt
   rw [List.take_succ_eq_append_getElem hlt,qbw,qdd] at h3
   have:10+szF (Fs.take k)+(8+(encA Fs[k]).length)≤p.1:=by
    rcases List.mem_cons.1 hp with rfl | hp
    ·exact Nat.le_refl _
    ·exact Nat.le_of_lt (qeb _ _ _ p hp).1
   simp
   omega
  ·rw [List.drop_of_length_le (by omega)] at hp
   cases hp
 rw [e2]
 omega
theorem cut_at (Fs:List (List Opn)):∀ s,∃ k,k≤Fs.length∧szF (Fs.take k)≤s∧(k<Fs.length→s<szF (Fs.take (k+1))):=by
 induction Fs with
 | nil=>intro s;exact ⟨0,Nat.le_refl _,Nat.zero_le _,fun h=>by cases h⟩
 | cons f Fs ih =>
  intro s
  by_cases hs:s<8+(encA f).length
  ·refine ⟨0,Nat.zero_le _,Nat.zero_le _,fun _=>?_⟩
   rw [show (f::Fs).take (0+1)=[f] from rfl,qdd]
   exact hs
  ·obtain ⟨k,h1,h2,h3⟩:=ih (s - (8+(encA f).length))
   refine ⟨k+1,by simpa using h1,?_,fun hk=>?_⟩
   ·rw [List.take_succ_cons,qcv];omega
   ·have:=h3 (by simpa using hk)
    rw [List.take_succ_cons,qcv]
    omega
theorem qiw (Fs:List (List Opn)) (j:Nat):szF (Fs.take j)≤szF Fs:=by
 have:=qbw (Fs.take j) (Fs.drop j)
 rw [List.take_append_drop] at this
 omega
def Good (Fs:List (List Opn)):Prop:=∀ f ∈ Fs,f≠[]∧(∀ o ∈ f,rightO o=true)∧(encA f).length≤65536
theorem Good.nil:Good []:=fun f hf=>by cases hf
theorem Good.append {Fs Gs:List (List Opn)}(h:Good Fs) (k:Good Gs):Good (Fs++Gs):=fun f hf=>(List.mem_append.1 hf).elim (h f) (k f)
theorem Good.take {Fs:List (List Opn)}(h:Good Fs) (k:Nat):Good (Fs.take k):=fun f hf=>h f (List.mem_of_mem_take hf)
theorem Good.one {f:List Opn}(h:frE f=0):Good [f]:=by
 intro g hg
 rw [List.mem_singleton.1 hg]
 unfold frE at h
 by_cases h1:f.all rightO=false∨f=[]
 ·rw [if_pos h1] at h;cases h
 ·rw [if_neg h1] at h
  by_cases h2:65536<(encA f).length
  ·rw [if_pos h2] at h;cases h
  ·refine ⟨fun e=>h1 (.inr e),?_,by omega⟩
   have:f.all rightO=true:=by
    cases hx:f.all rightO with
    | true=>rfl
    | false=>exact absurd (.inl hx) h1
   exact List.all_eq_true.1 this
theorem qyz {f:List Opn}(h:f≠[]∧(∀ o ∈ f,rightO o=true)∧(encA f).length≤65536):frE f=0:=by
 unfold frE
 rw [if_neg,if_neg (by omega)]
 intro e
 rcases e with e | e
 ·rw [List.all_eq_true.2 h.2.1] at e;cases e
 ·exact h.1 e
theorem qzc (o:Opn):1≤(encT o).length:=by
 unfold encT
 rw [qbf]
 have:=(M.sz_pos ((M.str (encO o)).size:Int)).1
 omega
theorem qwa (f:List Opn):f.length≤(f.flatMap encT).length:=by
 induction f with
 | nil=>exact Nat.le_refl _
 | cons o f ih =>
  rw [List.flatMap_cons,List.length_append,List.length_cons]
  have:=qzc o
  omega
theorem qfq (f:List Opn):f.length+1≤(encA f).length:=by
 unfold encA
 rw [List.length_append,M.enc_length]
 have:=(M.sz_pos (f.length:Int)).1
 have:=qwa f
 omega
theorem qgc (Fs:List (List Opn)):Fs.flatten.length+9*Fs.length≤szF Fs:=by
 induction Fs with
 | nil=>exact Nat.le_refl _
 | cons f Fs ih =>
  rw [qcv,List.flatten_cons,List.length_append,List.length_cons]
  have:=qfq f
  omega
theorem qma {f:List Opn}(h:∀ o ∈ f,rightO o=true) (hl:f.length≤1048576):Byt (encA f):=by
 unfold encA
 refine Byt.append (M.enc_byte _ (by omega) (by omega)) (fun x hx=>?_)
 obtain ⟨o,ho,hx⟩:=List.mem_flatMap.1 hx
 refine qcq _ ?_ x hx
 have:=congrArg List.length (qgl (qdq (h o ho)))
 rw [qaw] at this
 have:=qha (h o ho)
 omega
theorem Good.bodies {Fs:List (List Opn)}(h:Good Fs) {r:Int}(h0:0≤r) (h1:r≤15):∀ b ∈ fb0 r::Fs.map encA,C.Bytes b∧b.length≤65536:=by
 intro b hb
 rcases List.mem_cons.1 hb with rfl | hb
 ·exact ⟨qhu h0 h1,by rw [qcz h0 h1];decide⟩
 ·obtain ⟨f,hf,rfl⟩:=List.mem_map.1 hb
  have hg:=h f hf
  have:=qfq f
  exact ⟨qma hg.2.1 (by omega),hg.2.2⟩
theorem jcb {ls:List (List Int)}(h:∀ l ∈ ls,C.Bytes l):Byt (C.cat ls):=by
 intro x hx
 obtain ⟨l,hl,hx⟩:=List.mem_flatMap.1 hx
 exact C.frame_bytes (h l hl) x hx
theorem qvh {Fs:List (List Opn)}(h:Good Fs) {r:Int}(h0:0≤r) (h1:r≤15):Byt (lby r Fs):=jcb (fun l hl=>(h.bodies h0 h1 l hl).1)
theorem qou {o:Opn}(h:rightO o=true):o.key.size≤32∧o.text.size≤64∧o.cuts.length≤16:=by
 refine ⟨?_,?_,?_⟩
 ·by_cases hf:2 ∈ told o.k
  ·have hr:K.right (tx o.key)=true:=qce h 2 hf
   by_cases hs:o.key.size<1∨32<o.key.size
   ·rw [qne _ hs] at hr;cases hr
   ·omega
  ·have hr:decide (o.key.size=0)=true:=qgu h (f:=2) (by decide) hf
   have:=of_decide_eq_true hr
   omega
 ·by_cases hf:6 ∈ told o.k
  ·have hr:=qce h 6 hf
   simp [rightF] at hr
   omega
  ·have hr:decide (o.text.size=0)=true:=qgu h (f:=6) (by decide) hf
   have:=of_decide_eq_true hr
   omega
 ·by_cases hf:7 ∈ told o.k
  ·have hr:=qce h 7 hf
   simp [rightF] at hr
   omega
  ·have hr:=qgu h (f:=7) (by decide) hf
   simp [noughtF] at hr
   rw [hr]
   decide
theorem qde {o:Opn}(h:rightO o=true):o.fine∧o.cuts.length≤100000:=by
 have:=qou h
 exact ⟨⟨by omega,by omega⟩,by omega⟩
def Og:List Int→List (List Opn)→Bool→Prop
 | ys,[],t=>(t=true∧C.wh ys=1)∨(t=false∧C.wh ys≠1∧(C.wh ys≠0∨(decA mOwn (C.bd ys)).2=false∨(decA mOwn (C.bd ys)).1=[]))
 | ys,f::fs,t=>C.wh ys=0∧decA mOwn (C.bd ys)=(f,true)∧f≠[]∧Og (ys.drop (8+C.wd ys)) fs t
theorem Og.cut {ys:List Int}(h:C.wh ys=1):Og ys [] true:=.inl ⟨rfl,h⟩
theorem Og.bad {ys:List Int}(h:C.wh ys=2):Og ys [] false:=.inr ⟨rfl,by omega,.inl (by omega)⟩
theorem Og.wrong {ys:List Int}(h:C.wh ys=0) (k:(decA mOwn (C.bd ys)).2=false∨(decA mOwn (C.bd ys)).1=[]):Og ys [] false:=.inr ⟨rfl,by omega,.inr k⟩
theorem Og.more {ys:List Int}{f:List Opn}{fs:List (List Opn)}{t:Bool}(h1:C.wh ys=0) (h2:decA mOwn (C.bd ys)=(f,true)) (h3:f≠[]) (h4:Og (ys.drop (8+C.wd ys)) fs t):Og ys (f::fs) t:=⟨h1,h2,h3,h4⟩
theorem Og.not {ys:List Int}{f:List Opn}{fs:List (List Opn)}{t u:Bool}(h:Og ys [] t) (k:Og ys (f::fs) u):False:=by
 obtain ⟨k1,k2,k3,_⟩:=k
 rcases h with ⟨_,h⟩ | ⟨_,h1,h | h | h⟩
 ·omega
 ·exact h k1
 ·rw [k2] at h;cases h
 ·rw [k2] at h;exact k3 h
theorem Og.det:∀ {fs gs:List (List Opn)}{ys:List Int}{t u:Bool},Og ys fs t→Og ys gs u→fs=gs∧t=u
 | [],[],ys,t,u,h,k=>by
  refine ⟨rfl,?_⟩
  rcases h with ⟨h1,h2⟩ | ⟨h1,h2,_⟩<;>rcases k with ⟨k1,k2⟩ | ⟨k1,k2,_⟩
  ·rw [h1,k1]
  ·exact absurd h2 k2
  ·exact absurd k2 h2
  ·rw [h1,k1]
 | [],g::gs,ys,t,u,h,k=>(Og.not h k).elim
 | f::fs,[],ys,t,u,h,k=>(Og.not k h).elim
 | f::fs,g::gs,ys,t,u,h,k=>by
  obtain ⟨_,h2,_,h4⟩:=h
  obtain ⟨_,k2,_,k4⟩:=k
  rw [h2] at k2
  obtain ⟨e1,e2⟩:=Og.det h4 k4
  simp only [Prod.mk.injEq,and_true] at k2
  exact ⟨by rw [k2,e1],e2⟩
theorem qrf {b:List Int}(hb:Byt b) (hn:b.length≤65536) {f:List Opn}(h:decA mOwn b=(f,true)):encA f=b∧(∀ o ∈ f,rightO o=true)∧f.length≤1048576:=by
 have e:=qjt hb (by omega)
 rw [e] at h
 have:=qsr hb (by omega) (by rw [h])
 rwa [h] at this
theorem qzi {f:List Opn}(h:f≠[]∧(∀ o ∈ f,rightO o=true)∧(encA f).length≤65536):decA mOwn (encA f)=(f,true):=by
 have hl:=qfq f
 rw [qjt (qma h.2.1 (by omega)) (by omega),qwf f h.2.1 (by omega)]
theorem qra {ys:List Int}(hb:Byt ys) (h:C.wh ys=0):ys=C.frame (C.bd ys)++ys.drop (8+C.wd ys):=by
 obtain ⟨h8,hw,h65,hs,hl⟩:=qpy h
 have hsum:=hs
 obtain ⟨a,ys,rfl⟩:∃ a r,ys=a::r:=List.exists_cons_of_length_pos (by omega)
 obtain ⟨b,ys,rfl⟩:∃ a r,ys=a::r:=List.exists_cons_of_length_pos (by simp at h8;omega)
 obtain ⟨c,ys,rfl⟩:∃ a r,ys=a::r:=List.exists_cons_of_length_pos (by simp at h8;omega)
 obtain ⟨d,ys,rfl⟩:∃ a r,ys=a::r:=List.exists_cons_of_length_pos (by simp at h8;omega)
 obtain ⟨e,ys,rfl⟩:∃ a r,ys=a::r:=List.exists_cons_of_length_pos (by simp at h8;omega)
 obtain ⟨f,ys,rfl⟩:∃ a r,ys=a::r:=List.exists_cons_of_length_pos (by simp at h8;omega)
 obtain ⟨g,ys,rfl⟩:∃ a r,ys=a::r:=List.exists_cons_of_length_pos (by simp at h8;omega)
 obtain ⟨i,ys,rfl⟩:∃ a r,ys=a::r:=List.exists_cons_of_length_pos (by simp at h8;omega)
 have ha:=hb a (by simp)
 have hb':=hb b (by simp)
 have hc:=hb c (by simp)
 have hd:=hb d (by simp)
 have he:=hb e (by simp)
 have hf:=hb f (by simp)
 have hg:=hb g (by simp)
 have hi:=hb i (by simp)
 have hbd:C.bd (a::b::c::d::e::f::g::i::ys)=ys.take (C.wd (a::b::c::d::e::f::g::i::ys)):=rfl
 have h1:=C.wd_cast hb
 have h2:=C.wd_cast (l:=e::f::g::i::ys) (fun x hx=>hb x (by simp at hx ⊢;rcases hx with h | h | h | h | h<;>simp [h]))
 have h1':C.wi (a::b::c::d::e::f::g::i::ys)=a+256*b+65536*c+16777216*d:=rfl
 have h2':C.wi (e::f::g::i::ys)=e+256*f+65536*g+16777216*i:=rfl
 have h3:(a::b::c::d::e::f::g::i::ys).drop 4=e::f::g::i::ys:=rfl
 rw [h3] at hsum
 unfold C.frame
 rw [hl,hsum]
 obtain ⟨W,hW⟩:∃ W,C.wd (a::b::c::d::e::f::g::i::ys)=W:=⟨_,rfl⟩
 obtain ⟨V,hV⟩:∃ V,C.wd (e::f::g::i::ys)=V:=⟨_,rfl⟩
 rw [hW] at h1 hbd ⊢
 rw [hV] at h2 ⊢
 rw [hbd]
 have e1:C.le W=[a,b,c,d]:=by
  unfold C.le
  rw [h1,h1']
  simp only [List.cons.injEq,and_true]
  exact ⟨by omega,by omega,by omega,by omega⟩
 have e2:C.le V=[e,f,g,i]:=by
  unfold C.le
  rw [h2,h2']
  simp only [List.cons.injEq,and_true]
  exact ⟨by omega,by omega,by omega,by omega⟩
 rw [e1,e2,Nat.add_comm 8 W]
 simp only [List.cons_append,List.nil_append]
 rw [show (a::b::c::d::e::f::g::i::ys).drop (W+8)=ys.drop W from by simp [List.drop_succ_cons],List.take_append_drop]
theorem qmu {b:List Int}(hb:Byt b) (h:rfO b=true):0≤rfV b∧rfV b≤15∧b=fb0 (rfV b):=by
 unfold rfO at h
 have hv:Vl (b,false):=⟨hb,fun h=>by cases h⟩
 have h0:=qbd 0 hv
 have h1:=qbd 15 h0.1
 have e:rfS b=rn 15 (rn 0 (b,false)).2:=rfl
 have hl:(rfS b).2.2=false:=by
  cases hx:(rfS b).2.2 with
  | false=>rfl
  | true=>rw [hx] at h;simp at h
 have hn:(rfS b).2.1=[]:=by
  rw [hl] at h
  simpa using h
 rw [e] at hl hn
 obtain ⟨h2,h3⟩:=h1.2 hl
 obtain ⟨_,h4⟩:=h0.2 h2
 rw [hn,List.append_nil] at h3
 have v0:=qfe (m:=0) (s:=(b,false)) hb
 have v1:=qfe (m:=15) (s:=(rn 0 (b,false)).2) h0.1.1
 have z:(rn 0 (b,false)).1=0:=by have:=v0.2.2 (by decide);omega
 refine ⟨v1.1,v1.2.2 (by decide),?_⟩
 show b=encA []++M.enc (rn 15 (rn 0 (b,false)).2).1
 have h4':b=M.enc 0++(rn 0 (b,false)).2.1:=by rw [z] at h4;exact h4
 exact h4'.trans (congrArg (M.enc 0++·) h3)
theorem qxs {r:Int}(h0:0≤r) (h1:r≤15):rfV (fb0 r)=r∧rfO (fb0 r)=true:=by
 have e:rfS (fb0 r)=(r,([],false)):=by
  unfold rfS fb0 encA
  rw [List.flatMap_nil,List.append_nil]
  rw [qbg (m:=0) (n:=(([]:List Opn).length:Int)) (by decide) (by decide) (by decide)]
  have:=qbg (m:=15) (n:=r) h0 h1 (by omega) []
  rw [List.append_nil] at this
  exact this
 unfold rfV rfO
 rw [e]
 exact ⟨rfl,rfl⟩
theorem jay:rfO []=false:=by decide
theorem quy {r:Int}{Fs:List (List Opn)}{ys:List Int}{f:List Opn}(hb:Byt ys) (hg:Good Fs) (h0:C.wh ys=0) (hd:decA mOwn (C.bd ys)=(f,true)) (hne:f≠[]) :
  Good (Fs++[f])∧lby r Fs++ys=lby r (Fs++[f])++ys.drop (8+C.wd ys)∧(encA f).length=C.wd ys:=by
 obtain ⟨h8,hw,h65,hs,hl⟩:=qpy h0
 have hbb:Byt (C.bd ys):=fun x hx=>hb x (List.mem_of_mem_drop (List.mem_of_mem_take hx))
 obtain ⟨e1,e2,_⟩:=qrf hbb (by omega) hd
 refine ⟨hg.append (fun g hg=>?_),?_,by rw [e1,hl]⟩
 ·rw [List.mem_singleton.1 hg]
  exact ⟨hne,e2,by rw [e1];omega⟩
 ·rw [qfo,e1,List.append_assoc,←qra hb h0]
theorem jbi (Fs:List (List Opn)) (hg:Good Fs) {ys:List Int}{Gs:List (List Opn)}{t:Bool}(h:Og ys Gs t):Og (C.cat (Fs.map encA)++ys) (Fs++Gs) t:=by
 induction Fs with
 | nil=>simpa [C.cat] using h
 | cons f Fs ih =>
  have hf:=hg f (by simp)
  have ih:=ih (fun x hx=>hg x (by simp [hx]))
  have hl:=qfq f
  have hbf:=qma hf.2.1 (by omega)
  rw [List.map_cons,C.cat_cons,List.append_assoc]
  have e1:=C.wh_frame (encA f) (C.cat (Fs.map encA)++ys) hbf hf.2.2
  have e2:=C.bd_frame (encA f) (C.cat (Fs.map encA)++ys) hf.2.2
  have e3:=C.wd_frame (encA f) (C.cat (Fs.map encA)++ys) hf.2.2
  refine Og.more e1 (by rw [e2];exact qzi hf) hf.1 ?_
  rw [e3,C.drop_frame]
  exact ih
def Tl (xs:List Int):Option (Int × List (List Opn))→Prop
 | none=>C.wh xs≠0∨rfO (C.bd xs)=false∨∃ Fs,Og (xs.drop (8+C.wd xs)) Fs false
 | some (r,Fs)=>C.wh xs=0∧rfO (C.bd xs)=true∧r=rfV (C.bd xs)∧Og (xs.drop (8+C.wd xs)) Fs true
theorem Tl.det {xs:List Int}:∀ {o p:Option (Int × List (List Opn))},Tl xs o→Tl xs p→o=p
 | none,none,h,k=>rfl
 | none,some (r,Fs),h,k=>by
  obtain ⟨k1,k2,k3,k4⟩:=k
  rcases h with h | h | ⟨Gs,h⟩
  ·exact absurd k1 h
  ·rw [k2] at h;cases h
  ·have:=(Og.det h k4).2;cases this
 | some (r,Fs),none,k,h=>by
  obtain ⟨k1,k2,k3,k4⟩:=k
  rcases h with h | h | ⟨Gs,h⟩
  ·exact absurd k1 h
  ·rw [k2] at h;cases h
  ·have:=(Og.det h k4).2;cases this
 | some (r,Fs),some (q,Gs),h,k=>by
  obtain ⟨k1,k2,k3,k4⟩:=k
  obtain ⟨h1,h2,h3,h4⟩:=h
  rw [h3,k3,(Og.det h4 k4).1]
theorem qrc {xs:List Int}(hb:Byt xs) (h:C.wh xs=0) (k:rfO (C.bd xs)=true):0≤rfV (C.bd xs)∧rfV (C.bd xs)≤15∧8+C.wd xs=10∧xs=lby (rfV (C.bd xs)) []++xs.drop 10:=by
 have hbb:Byt (C.bd xs):=fun x hx=>hb x (List.mem_of_mem_drop (List.mem_of_mem_take hx))
 obtain ⟨h0,h1,h2⟩:=qmu hbb k
 have h10:8+C.wd xs=10:=by
  have:=(qpy h).2.2.2.2
  have h3:=qcz h0 h1
  rw [←h2] at h3
  omega
 refine ⟨h0,h1,h10,?_⟩
 have e:=qra hb h
 rw [h10] at e
 have e2:C.frame (C.bd xs)=lby (rfV (C.bd xs)) []:=by
  rw [qcy,←h2]
  simp [C.cat]
 rw [←e2]
 exact e
theorem Tl.of {r:Int}{Fs:List (List Opn)}(hg:Good Fs) (h0:0≤r) (h1:r≤15) {ys:List Int}{Gs:List (List Opn)}{t:Bool}(h:Og ys Gs t):Tl (lby r Fs++ys) (if t then some (r,Fs++Gs) else none):=by
 have hl:=qcz h0 h1
 have e1:=C.wh_frame (fb0 r) (C.cat (Fs.map encA)++ys) (qhu h0 h1) (by omega)
 have e2:=C.bd_frame (fb0 r) (C.cat (Fs.map encA)++ys) (by omega)
 have e3:=C.wd_frame (fb0 r) (C.cat (Fs.map encA)++ys) (by omega)
 have e4:=qxs h0 h1
 have h:=jbi Fs hg h
 rw [qcy,List.append_assoc]
 cases t with
 | true =>
  refine ⟨e1,by rw [e2];exact e4.2,by rw [e2];exact e4.1.symm,?_⟩
  rw [e3,C.drop_frame]
  exact h
 | false =>
  refine .inr (.inr ⟨Fs++Gs,?_⟩)
  rw [e3,C.drop_frame]
  exact h
theorem qte:C.wh []=1:=rfl
theorem Tl.cut {r:Int}{Fs:List (List Opn)}(hg:Good Fs) (h0:0≤r) (h1:r≤15) (c:Nat) (hc:10≤c) (hc2:c≤(lby r Fs).length):∃ k ys,k≤Fs.length∧10+szF (Fs.take k)≤c∧(k<Fs.length→c<10+szF (Fs.take (k+1)))∧(lby r Fs).take c=lby r (Fs.take k)++ys∧C.wh ys=1∧Tl ((lby r Fs).take c) (some (r,Fs.take k)):=by
 obtain ⟨k,hk,k1,k2⟩:=cut_at Fs (c - 10)
 have hsz:=qbo h0 h1 (Fs.take k)
 have hall:=qbo h0 h1 Fs
 have e:lby r Fs=lby r (Fs.take k)++C.cat ((Fs.drop k).map encA):=by
  rw [qcy,qcy,List.append_assoc,←C.cat_append,←List.map_append,List.take_append_drop]
 obtain ⟨ys,hys⟩:∃ ys,(C.cat ((Fs.drop k).map encA)).take (c - (10+szF (Fs.take k)))=ys:=⟨_,rfl⟩
 have e2:(lby r Fs).take c=lby r (Fs.take k)++ys:=by
  rw [e,List.take_append,hsz,hys,List.take_of_length_le (by omega)]
 have hw:C.wh ys=1:=by
  by_cases hlt:k<Fs.length
  ·have h3:=k2 hlt
   have hd:=List.drop_eq_getElem_cons hlt
   rw [List.take_succ_eq_append_getElem hlt,qbw,qdd] at h3
   have hf:=hg _ (List.getElem_mem hlt)
   rw [←hys,hd,List.map_cons,C.cat_cons]
   exact C.wh_cut _ _ _ hf.2.2 (by omega)
  ·rw [←hys,List.drop_of_length_le (by omega)]
   simp [C.cat,qte]
 refine ⟨k,ys,hk,by omega,fun hlt=>by have:=k2 hlt;omega,e2,hw,?_⟩
 rw [e2]
 have:=Tl.of (hg.take k) h0 h1 (Og.cut hw)
 simpa using this
theorem qpj {r:Int}(h0:0≤r) (h1:r≤15):(lby r []).length=10:=by rw [qbo h0 h1];rfl
theorem qvl (es:List (Nat × Nat)) (s:Int):inF es s≤es.length:=List.countP_le_length
section
variable {B:Nat} {w:World} {lb fb:Nat} {fv vo ve:Value} {xs:List Int} {n R:Nat} {r:Int} {l:List (Opn × Value)} {es:List (Nat × Nat)}
theorem Lg.c0 (h:Lg B w lb fb fv vo ve xs n R r l es):w.cell? ⟨lb,0,none⟩=some (.pointer (some ⟨fb,0,none⟩)):=by rw [cell_of_row w lb 0 _ _ _ h.blk];rfl
theorem Lg.c1 (h:Lg B w lb fb fv vo ve xs n R r l es):w.cell? ⟨lb,1,none⟩=some (.int .i64 r):=by rw [cell_of_row w lb 1 _ _ _ h.blk];rfl
set_option maxHeartbeats 2000000 in
theorem qju (h:Lg B w lb fb fv vo ve xs n R r l es) (hs:es.Pairwise (fun p q=>p.1≤q.1)) (hl:es.length≤10000000) :
  Calls Tryz.prog 31 #[.pointer (some ⟨lb,0,none⟩)] w fun e w'=>e=.returned (.int .i64 (opsAt es (inF es (xs.length:Nat)):Nat))∧Below w.heap.size w w':=by
 have HL:=hid h
 have HS:=hid hs
 have c0:=h.c0
 have HI:=hid (qvl es (xs.length:Nat))
 have HF:=hid (qhs h (xs.length:Nat) hs hl)
 clear h hs
 generalize inF es (xs.length:Nat)=k at HI HF ⊢
 go_enter Tryz.func31,Tryz.ntmps31
 go_wp2_with fail
 refine (qjj HL.out.fi).mono ?_
 rintro e w1 ⟨rfl,rfl⟩
 go_wp2_with fail
 refine HF.out.mono ?_
 rintro e w2 ⟨rfl,b2⟩
 have HL2:=hid (HL.out.below b2)
 have B2:=hid b2
 clear b2
 go_wp2_with fail
 refine (qgx HL2.out k HI.out hl).mono ?_
 rintro e w3 ⟨rfl,rfl⟩
 go_wp2
 go_ret
 exact ⟨rfl,B2.out⟩
set_option maxHeartbeats 2000000 in
theorem qph (h:Lg B w lb fb fv vo ve xs n R r l es) (hs:es.Pairwise (fun p q=>p.1≤q.1)) (hl:es.length≤10000000) :
  Calls Tryz.prog 33 #[.pointer (some ⟨lb,0,none⟩)] w fun e w'=>e=.returned (.int .i64 (opsAt es (inF es (n:Nat)):Nat))∧Below w.heap.size w w':=by
 have HL:=hid h
 have HS:=hid hs
 have c0:=h.c0
 have HI:=hid (qvl es (n:Nat))
 have HF:=hid (qhs h (n:Nat) hs hl)
 clear h hs
 generalize inF es (n:Nat)=k at HI HF ⊢
 go_enter Tryz.func33,Tryz.ntmps33
 go_wp2_with fail
 refine (qkd HL.out.fi).mono ?_
 rintro e w1 ⟨rfl,rfl⟩
 go_wp2_with fail
 refine HF.out.mono ?_
 rintro e w2 ⟨rfl,b2⟩
 have HL2:=hid (HL.out.below b2)
 have B2:=hid b2
 clear b2
 go_wp2_with fail
 refine (qgx HL2.out k HI.out hl).mono ?_
 rintro e w3 ⟨rfl,rfl⟩
 go_wp2
 go_ret
 exact ⟨rfl,B2.out⟩
set_option maxHeartbeats 2000000 in
theorem qje (h:Lg B w lb fb fv vo ve xs n R r l es) :
  Calls Tryz.prog 32 #[.pointer (some ⟨lb,0,none⟩)] w fun e w'=>e=.returned (.int .i64 r)∧w=w':=by
 have c1:=h.c1
 clear h
 go_enter Tryz.func32,Tryz.ntmps32
 go_wp2
 go_ret
 exact ⟨rfl,rfl⟩
set_option maxHeartbeats 2000000 in
theorem qvd (h:Lg B w lb fb fv vo ve xs n R r l es) :
  Calls Tryz.prog 17 #[.pointer (some ⟨lb,0,none⟩)] w fun e w'=>e=.returned (.tuple #[])∧Lg B w' lb fb fv vo ve xs xs.length R r l es∧Lx (Ft lb fb fv vo ve) (Ft lb fb fv vo ve) w w':=by
 have HL:=hid h
 have c0:=h.c0
 clear h
 go_enter Tryz.func17,Tryz.ntmps17
 go_wp2_with fail
 refine (qgo HL.out.fi).mono ?_
 rintro e w1 ⟨rfl,hf,hx⟩
 have H:=hid (HL.out.file hf hx)
 clear hf hx
 go_wp2_with fail
 go_end0
 exact ⟨rfl,H.out⟩
end
theorem Nw.mono {B C:Nat}{l:List (Opn × Value)}(h:Nw B l) (hc:C≤B):Nw C l:=fun p hp k hk=>Nat.le_trans hc (h p hp k hk)
theorem Nn.mono {B C:Nat}{v:Value}{l:List (Opn × Value)}(h:Nn B v l) (hc:C≤B):Nn C v l:=⟨fun k hk=>Nat.le_trans hc (h.1 k hk),h.2.mono hc⟩
def ao0:Oper:={ dst:=some 3,op:=Op.move (Operand.tmp 0),type:=32,pos := "oplog.go:114",after:=#[],guard:=none }
def ao1:Oper:={ dst:=some 4,op:=Op.nilCheck (Operand.tmp 3),type:=0,pos := "oplog.go:114",after:=#[{ on:=0,ground:=Ground.data }],guard:=none }
def ao2:Oper:={ dst:=some 5,op:=Op.fieldAddr 81 (Operand.tmp 4) 2,type:=0,pos := "oplog.go:114",after:=#[{ on:=1,ground:=Ground.data }],guard:=none }
def ao3:Oper:={ dst:=some 6,op:=Op.load 38 (Operand.tmp 5),type:=38,pos := "oplog.go:114",after:=#[{ on:=2,ground:=Ground.data }],guard:=none }
def ao4:Oper:={ dst:=some 7,op:=Op.move (Operand.tmp 0),type:=32,pos := "oplog.go:114",after:=#[],guard:=none }
def ao5:Oper:={ dst:=some 8,op:=Op.call { callee:=Callee.value (Operand.func 31),args:=#[Operand.tmp 7],argTypes:=#[32] },type:=3,pos := "oplog.go:114",after:=#[{ on:=4,ground:=Ground.data }],guard:=none }
def ao6:Oper:={ dst:=some 9,op:=Op.slice 38 (Operand.tmp 6) none (some (Operand.tmp 8)) none,type:=38,pos := "oplog.go:114",after:=#[{ on:=3,ground:=Ground.data },{ on:=5,ground:=Ground.data }],guard:=none }
def ao7:Oper:={ dst:=some 10,op:=Op.call { callee:=Callee.value (Operand.func 51),args:=#[Operand.tmp 9],argTypes:=#[38] },type:=38,pos := "oplog.go:114",after:=#[{ on:=6,ground:=Ground.data },{ on:=5,ground:=Ground.chain }],guard:=none }
def ao8:Oper:={ dst:=some 2,op:=Op.assign (Operand.tmp 10),type:=38,pos := "oplog.go:114",after:=#[{ on:=7,ground:=Ground.data },{ on:=7,ground:=Ground.chain },{ on:=0,ground:=Ground.phase },{ on:=1,ground:=Ground.phase },{ on:=2,ground:=Ground.phase },{ on:=3,ground:=Ground.phase },{ on:=4,ground:=Ground.phase },{ on:=5,ground:=Ground.phase },{ on:=6,ground:=Ground.phase },{ on:=7,ground:=Ground.phase }],guard:=none }
def aos:Array Oper:=#[ao0,ao1,ao2,ao3,ao4,ao5,ao6,ao7,ao8]
theorem qjx:Region.noSelect aos=true:=by kernel_rfl
set_option maxHeartbeats 4000000 in
theorem ops_r1 {B:Nat}{w:World}{lb fb:Nat}{fv vo ve:Value}{xs:List Int}{n R:Nat}{r:Int}{l:List (Opn × Value)}{es:List (Nat × Nat)}{x1 x2 x3 x4 x5 x6 x7 x8 x9 x10:Value}{Q:Exit→Act→World→Prop}(hl0:Lg B w lb fb fv vo ve xs n R r l es) (hs:es.Pairwise (fun p q=>p.1≤q.1)) (hop:opsAt es (inF es (xs.length:Nat))=l.length) (hf:∀ p ∈ l,p.1.fine∧p.1.cuts.length≤100000) (hln:l.length≤10000000) (hen:es.length≤10000000)
  (hP:∀ c t t' d W,Q (.panic c) { tmps:=t,defers:=d } W→Q (.panic c) { tmps:=t',defers:=d } W)
  (hQ:∀ v l' W,Os W v l'→fsts l'=fsts l→Nn w.heap.size v l'→Below w.heap.size (World.drew w) W→Q .normal { tmps:=#[.pointer (some ⟨lb,0,none⟩),x1,v,.pointer (some ⟨lb,0,none⟩),.pointer (some ⟨lb,0,none⟩),.pointer (some ⟨lb,2,none⟩),vo,.pointer (some ⟨lb,0,none⟩),.int .i64 (l.length:Nat),vo,v],defers:=[] } W):(Code.region 1 aos true).wp Tryz.prog Q { tmps:=#[.pointer (some ⟨lb,0,none⟩),x1,x2,x3,x4,x5,x6,x7,x8,x9,x10],defers:=[] } w:=by
 obtain ⟨va,vc,hvo,hvc⟩:=qbe hl0.ro
 refine wp_region_held (S:=fun W=>Lg B W lb fb fv vo ve xs n R r l es) (by kernel_rfl) ?_
 change wpAnyH _ _ _ _ _ 9 _ _ (World.drew _)
 have hS:Lg B (World.drew w) lb fb fv vo ve xs n R r l es:=hl0.drewN 1
 clear hl0
 obtain ⟨W0,hW⟩:∃ W,World.drew w=W:=⟨_,rfl⟩
 rw [show w.heap.size=(World.drew w).heap.size from rfl,hW] at hQ
 rw [hW] at hS ⊢
 clear hW
 refine wpAnyH_take (i:=0) (oi:=ao0) (v:=.pointer (some ⟨lb,0,none⟩)) (by kernel_rfl) qjx (by kernel_rfl) (by kernel_rfl) (fun c a W h=>hP c _ _ _ W h) (Or.inl ⟨by kernel_rfl,fun W hW=>by kernel_rfl⟩) hS ?_
 rw [show Act.put _ ao0.dst _={ tmps:=#[.pointer (some ⟨lb,0,none⟩),x1,x2,.pointer (some ⟨lb,0,none⟩),x4,x5,x6,x7,x8,x9,x10],defers:=[] } from by kernel_rfl]
 refine wpAnyH_take (i:=1) (oi:=ao1) (v:=.pointer (some ⟨lb,0,none⟩)) (by kernel_rfl) qjx (by kernel_rfl) (by kernel_rfl) (fun c a W h=>hP c _ _ _ W h) (Or.inl ⟨by kernel_rfl,fun W hW=>by kernel_rfl⟩) hS ?_
 rw [show Act.put _ ao1.dst _={ tmps:=#[.pointer (some ⟨lb,0,none⟩),x1,x2,.pointer (some ⟨lb,0,none⟩),.pointer (some ⟨lb,0,none⟩),x5,x6,x7,x8,x9,x10],defers:=[] } from by kernel_rfl]
 refine wpAnyH_take (i:=2) (oi:=ao2) (v:=.pointer (some ⟨lb,2,none⟩)) (by kernel_rfl) qjx (by kernel_rfl) (by kernel_rfl) (fun c a W h=>hP c _ _ _ W h) (Or.inl ⟨by kernel_rfl,fun W hW=>by kernel_rfl⟩) hS ?_
 rw [show Act.put _ ao2.dst _={ tmps:=#[.pointer (some ⟨lb,0,none⟩),x1,x2,.pointer (some ⟨lb,0,none⟩),.pointer (some ⟨lb,0,none⟩),.pointer (some ⟨lb,2,none⟩),x6,x7,x8,x9,x10],defers:=[] } from by kernel_rfl]
 refine wpAnyH_take (i:=3) (oi:=ao3) (v:=vo) (by kernel_rfl) qjx (by kernel_rfl) (by kernel_rfl) (fun c a W h=>hP c _ _ _ W h) (Or.inl ⟨by kernel_rfl,fun W hW=>qhn rfl rfl hW.c2⟩) hS ?_
 rw [show Act.put _ ao3.dst _={ tmps:=#[.pointer (some ⟨lb,0,none⟩),x1,x2,.pointer (some ⟨lb,0,none⟩),.pointer (some ⟨lb,0,none⟩),.pointer (some ⟨lb,2,none⟩),vo,x7,x8,x9,x10],defers:=[] } from by kernel_rfl]
 refine wpAnyH_take (i:=4) (oi:=ao4) (v:=.pointer (some ⟨lb,0,none⟩)) (by kernel_rfl) qjx (by kernel_rfl) (by kernel_rfl) (fun c a W h=>hP c _ _ _ W h) (Or.inl ⟨by kernel_rfl,fun W hW=>by kernel_rfl⟩) hS ?_
 rw [show Act.put _ ao4.dst _={ tmps:=#[.pointer (some ⟨lb,0,none⟩),x1,x2,.pointer (some ⟨lb,0,none⟩),.pointer (some ⟨lb,0,none⟩),.pointer (some ⟨lb,2,none⟩),vo,.pointer (some ⟨lb,0,none⟩),x8,x9,x10],defers:=[] } from by kernel_rfl]
 refine wpAnyH_all (rs:=[5]) (by kernel_rfl) (by simp) (fun i hi=>?_)
 obtain rfl:=List.mem_singleton.1 hi
 refine qaq (o:=ao5) (f:=31) (args:=#[.pointer (some ⟨lb,0,none⟩)]) (D:=fun v V=>v=.int .i64 (l.length:Nat)∧Below W0.heap.size W0 V) (by kernel_rfl) (by kernel_rfl) (by kernel_rfl) ?hc ?_
 case hc=>exact (qju hS hs hen).mono fun e V ⟨h1,h2⟩=>⟨_,h1,by rw [hop],h2⟩
 rintro v W1 ⟨rfl,b1⟩
 rw [show Act.put _ ao5.dst _={ tmps:=#[.pointer (some ⟨lb,0,none⟩),x1,x2,.pointer (some ⟨lb,0,none⟩),.pointer (some ⟨lb,0,none⟩),.pointer (some ⟨lb,2,none⟩),vo,.pointer (some ⟨lb,0,none⟩),.int .i64 (l.length:Nat),x9,x10],defers:=[] } from by kernel_rfl]
 have hS1:=hS.below b1
 refine ⟨hS1,?_⟩
 refine wpAnyH_take (i:=6) (oi:=ao6) (v:=vo) (by kernel_rfl) qjx (by kernel_rfl) (by kernel_rfl) (fun c a W h=>hP c _ _ _ W h) (Or.inl ⟨by kernel_rfl,fun W hW=>qlh rfl rfl rfl hvo hvc⟩) hS1 ?_
 rw [show Act.put _ ao6.dst _={ tmps:=#[.pointer (some ⟨lb,0,none⟩),x1,x2,.pointer (some ⟨lb,0,none⟩),.pointer (some ⟨lb,0,none⟩),.pointer (some ⟨lb,2,none⟩),vo,.pointer (some ⟨lb,0,none⟩),.int .i64 (l.length:Nat),vo,x10],defers:=[] } from by kernel_rfl]
 refine wpAnyH_all (rs:=[7]) (by kernel_rfl) (by simp) (fun i hi=>?_)
 obtain rfl:=List.mem_singleton.1 hi
 refine qaq (o:=ao7) (f:=51) (args:=#[vo]) (D:=fun v V=>∃ l',Os V v l'∧fsts l'=fsts l∧Nn W1.heap.size v l'∧Below W1.heap.size W1 V) (by kernel_rfl) (by kernel_rfl) (by kernel_rfl) ?hd ?_
 case hd=>exact (qku vo l W1 hS1.os hf hln).mono fun e V ⟨v,h1,h2⟩=>⟨v,h1,h2⟩
 rintro v W2 ⟨l',ho,hfs,hnw,b2⟩
 rw [show Act.put _ ao7.dst _={ tmps:=#[.pointer (some ⟨lb,0,none⟩),x1,x2,.pointer (some ⟨lb,0,none⟩),.pointer (some ⟨lb,0,none⟩),.pointer (some ⟨lb,2,none⟩),vo,.pointer (some ⟨lb,0,none⟩),.int .i64 (l.length:Nat),vo,v],defers:=[] } from by kernel_rfl]
 have hS2:=hS1.below b2
 refine ⟨hS2,?_⟩
 refine wpAnyH_take (i:=8) (oi:=ao8) (v:=v) (by kernel_rfl) qjx (by kernel_rfl) (by kernel_rfl) (fun c a W h=>hP c _ _ _ W h) (Or.inl ⟨by kernel_rfl,fun W hW=>by kernel_rfl⟩) hS2 ?_
 rw [show Act.put _ ao8.dst _={ tmps:=#[.pointer (some ⟨lb,0,none⟩),x1,v,.pointer (some ⟨lb,0,none⟩),.pointer (some ⟨lb,0,none⟩),.pointer (some ⟨lb,2,none⟩),vo,.pointer (some ⟨lb,0,none⟩),.int .i64 (l.length:Nat),vo,v],defers:=[] } from by kernel_rfl]
 exact wpAnyH_done (by kernel_rfl) (hQ v l' W2 ho hfs (Nn.mono hnw b1.size) (bt b1 b2)) _
set_option maxHeartbeats 2000000 in
theorem jbg {B:Nat}{w:World}{lb fb:Nat}{fv vo ve:Value}{xs:List Int}{n R:Nat}{r:Int}{l:List (Opn × Value)}{es:List (Nat × Nat)}(h:Lg B w lb fb fv vo ve xs n R r l es) (hs:es.Pairwise (fun p q=>p.1≤q.1)) (hop:opsAt es (inF es (xs.length:Nat))=l.length) (hf:∀ p ∈ l,p.1.fine∧p.1.cuts.length≤100000) (hln:l.length≤10000000) (hen:es.length≤10000000) :
  Calls Tryz.prog 35 #[.pointer (some ⟨lb,0,none⟩)] w fun e w'=>∃ v',e=.returned v'∧∃ l',Os w' v' l'∧fsts l'=fsts l∧Nn w.heap.size v' l'∧Below w.heap.size w w':=by
 have HL:=hid h
 have HS:=hid hs
 have HOP:=hid hop
 have HF:=hid hf
 clear h hs hop hf
 go_enter Tryz.func35,Tryz.ntmps35
 go_wp2_with fail
 refine ops_r1 HL.out HS.out HOP.out HF.out hln hen (fun _ _ _ _ _ h=>h) (fun v l' W ho hfs hnw hb=>?_)
 have HO:=hid ho
 have HFS:=hid hfs
 have HN:=hid hnw
 have HB:Hid (Below w.heap.size w W):=hid (bt (bd w 1) hb)
 clear ho hfs hnw hb
 go_wp2_with fail
 go_ret
 exact ⟨_,rfl,l',HO.out,HFS.out,HN.out,HB.out⟩
structure Lo (B:Nat) (w:World) (lb fb:Nat) (fv vo ve:Value) (r:Int) (Fs:List (List Opn)) (n R:Nat) (l:List (Opn × Value)):Prop where
 lg:Lg B w lb fb fv vo ve (lby r Fs) n R r l (endsF Fs)
 fl:fsts l=Fs.flatten
 good:Good Fs
 r0:0≤r
 r1:r≤15
 ns:n≤(lby r Fs).length
def Cn (B:Nat) (l l':List (Opn × Value)):Prop:=∀ p ∈ l',p ∈ l∨∀ k,p.2.ownBlock=some k→B≤k
def LoX (B lb fb:Nat) (fv vo ve:Value) (r:Int) (Fs:List (List Opn)) (n R:Nat) (l:List (Opn × Value)) (w w':World):Prop:=∃ fv' vo' ve' l',Lo B w' lb fb fv' vo' ve' r Fs n R l'∧Lx (Ft lb fb fv vo ve) (Ft lb fb fv' vo' ve') w w'∧Cn w.heap.size l l'
theorem Lay.low {B:Nat}{w w':World}(h:Lay w) (hb:Below B w w') (hB:2≤B):Lay w' :=
 ⟨(hb.cell (by show 0<B;omega)).trans h.r0,(hb.cell (by show 0<B;omega)).trans h.r1,(hb.cell (by show 1<B;omega)).trans h.t0,(hb.cell (by show 1<B;omega)).trans h.t1⟩
theorem Lay.two {w:World}(h:Lay w):2≤w.heap.size:=by
 have h1:0<w.heap.size:=World.block_lt_of_cell? _ _ h.r0
 have h2:1<w.heap.size:=World.block_lt_of_cell? _ _ h.t0
 omega
section
variable {B:Nat} {w w':World} {lb fb:Nat} {fv vo ve:Value} {n R:Nat} {r:Int} {l:List (Opn × Value)} {Fs:List (List Opn)}
theorem Lo.below (h:Lo B w lb fb fv vo ve r Fs n R l) (hb:Below w.heap.size w w'):Lo B w' lb fb fv vo ve r Fs n R l:=⟨h.lg.below hb,h.fl,h.good,h.r0,h.r1,h.ns⟩
theorem Lo.len (h:Lo B w lb fb fv vo ve r Fs n R l):l.length=Fs.flatten.length:=by rw [←h.fl];simp [fsts]
theorem Lo.room (h:Lo B w lb fb fv vo ve r Fs n R l):10+szF Fs≤R∧R≤1048576:=by
 have h1:=h.lg.fi.nums
 rw [qbo h.r0 h.r1] at h1
 exact ⟨h1.2.1,h1.2.2⟩
theorem Lo.bounds (h:Lo B w lb fb fv vo ve r Fs n R l):l.length≤1048576∧(endsF Fs).length≤1048576:=by
 have h1:=h.room
 have h2:=qgc Fs
 rw [h.len,qcg]
 omega
theorem Lo.all (h:Lo B w lb fb fv vo ve r Fs n R l):opsAt (endsF Fs) (inF (endsF Fs) ((lby r Fs).length:Nat))=l.length:=by
 rw [qbo h.r0 h.r1,qpl (fun p hp=>qgy hp),qjg,h.len]
theorem Lo.right (h:Lo B w lb fb fv vo ve r Fs n R l):∀ p ∈ l,rightO p.1=true:=by
 intro p hp
 have h1:p.1 ∈ Fs.flatten:=by rw [←h.fl];exact List.mem_map.2 ⟨p,hp,rfl⟩
 obtain ⟨f,hf,ho⟩:=List.mem_flatten.1 h1
 exact (h.good f hf).2.1 _ ho
theorem Lo.fine (h:Lo B w lb fb fv vo ve r Fs n R l):∀ p ∈ l,p.1.fine∧p.1.cuts.length≤100000:=fun p hp=>qde (h.right p hp)
theorem qqw (h:Lo B w lb fb fv vo ve r Fs n R l):Calls Tryz.prog 31 #[.pointer (some ⟨lb,0,none⟩)] w fun e w'=>e=.returned (.int .i64 (Fs.flatten.length:Nat))∧Below w.heap.size w w' :=
 (qju h.lg (qcp Fs) (by have:=h.bounds;omega)).mono fun e w' ⟨h1,h2⟩=>⟨by rw [h1,h.all,h.len],h2⟩
def syF (Fs:List (List Opn)) (n:Nat):Nat:=opsAt (endsF Fs) (inF (endsF Fs) (n:Nat))
theorem qnd (h:Lo B w lb fb fv vo ve r Fs n R l):Calls Tryz.prog 33 #[.pointer (some ⟨lb,0,none⟩)] w fun e w'=>e=.returned (.int .i64 (syF Fs n:Nat))∧Below w.heap.size w w' :=
 qph h.lg (qcp Fs) (by have:=h.bounds;omega)
theorem jae (h:Lo B w lb fb fv vo ve r Fs n R l):Calls Tryz.prog 35 #[.pointer (some ⟨lb,0,none⟩)] w fun e w'=>∃ v',e=.returned v'∧∃ l',Os w' v' l'∧fsts l'=Fs.flatten∧Nn w.heap.size v' l'∧Below w.heap.size w w' :=
 (jbg h.lg (qcp Fs) h.all h.fine (by have:=h.bounds;omega) (by have:=h.bounds;omega)).mono fun e w' ⟨v,h1,l',h2,h3,h4,h5⟩=>⟨v,h1,l',h2,h3.trans h.fl,h4,h5⟩
theorem qve (h:Lo B w lb fb fv vo ve r Fs n R l):Calls Tryz.prog 17 #[.pointer (some ⟨lb,0,none⟩)] w fun e w'=>e=.returned (.tuple #[])∧LoX B lb fb fv vo ve r Fs (lby r Fs).length R l w w' :=
 (qvd h.lg).mono fun e w' ⟨h1,h2,h3⟩=>⟨h1,fv,vo,ve,l,⟨h2,h.fl,h.good,h.r0,h.r1,Nat.le_refl _⟩,h3,fun p hp=>.inl hp⟩
structure Oq (S:Nat→Prop) (w:World) (u:Value) (q:List (Opn × Value)):Prop where
 os:Os w u q
 far:q=[]∨∀ k,u.ownBlock=some k→¬ S k
 cu:Cq S w q
theorem Os.none_ {w w':World}{u:Value}(h:Os w u []):Os w' u []:=by
 obtain ⟨⟨h0,a,c,h1,h2,h3,h4,h5⟩,_⟩:=h
 exact ⟨⟨h0,a,c,h1,h2,h3,h4,fun j u hu=>by simp at hu⟩,fun p hp=>by cases hp⟩
theorem Oq.step {S S':Nat→Prop}{u:Value}{q:List (Opn × Value)}(h:Oq S w u q) (x:Lx S S' w w'):Oq S' w' u q:=by
 have hc:=h.cu.step x
 rcases h.far with hf | hf
 ·subst hf
  exact ⟨h.os.none_,.inl rfl,hc⟩
 ·by_cases h0:q=[]
  ·subst h0
   exact ⟨h.os.none_,.inl rfl,hc⟩
  ·refine ⟨⟨Sl.kept h.os.1 (fun k hk hlt=>x.fr.block k hlt (hf k hk)),fun p hp=>(hc p hp).1⟩,.inr (fun k hk e=>?_),hc⟩
   obtain ⟨b,off,c,rfl,_,_,hb,_⟩:=h.os.inv (List.length_pos_iff.2 h0)
   simp [Value.ownBlock] at hk
   subst hk
   rcases x.new _ e with e | e
   ·exact hf _ rfl e
   ·omega
theorem Oq.below {S:Nat→Prop}{u:Value}{q:List (Opn × Value)}(h:Oq S w u q) (hb:Below w.heap.size w w'):Oq S w' u q:=h.step (Lx.of_below hb)
def apE (R:Nat) (Fs:List (List Opn)) (q:List Opn):Int:=if frE q≠0 then frE q else if 10+szF Fs+(8+(encA q).length)≤R then 0 else 14
def apF (R:Nat) (Fs:List (List Opn)) (q:List Opn):List (List Opn):=if apE R Fs q=0 then Fs++[q] else Fs
set_option maxHeartbeats 4000000 in
theorem qgf {u:Value}{q:List (Opn × Value)}(h:Lo B w lb fb fv vo ve r Fs n R l) (hL:Lay w) (hB:B≤w.heap.size) (hq:Oq (Ft lb fb fv vo ve) w u q) (hf:∀ p ∈ q,p.1.fine∧p.1.cuts.length≤100000) (hn:q.length≤1000000) :
  Calls Tryz.prog 13 #[.pointer (some ⟨lb,0,none⟩),u] w fun e w'=>e=.returned (.int .i64 (apE R Fs (fsts q)))∧LoX B lb fb fv vo ve r (apF R Fs (fsts q)) n R l w w':=by
 have HF:=hid (qjl u q w hL hq.os (fun p hp=>(hf p hp).1) hn)
 have HQ:=hid hq
 have HL:=hid h
 have HFF:=hid hf
 clear h hq hf hL
 obtain ⟨G,hG⟩:∃ G,fsts q=G:=⟨_,rfl⟩
 have HG:=hid hG
 rw [hG] at HF ⊢
 clear hG
 by_cases hz:frE G=0
 ·have hfb:frB G=C.frame (encA G):=by unfold frB;rw [hz];rfl
  rw [hz,hfb] at HF
  have hgood:=Good.one hz
  have HGD:=hid hgood
  have hfl:(C.frame (encA G)).length=8+(encA G).length:=C.frame_length _
  have hxl:=qbo HL.out.r0 HL.out.r1 Fs
  obtain ⟨XS,hXS⟩:∃ XS,lby r Fs=XS:=⟨_,rfl⟩
  obtain ⟨YS,hYS⟩:∃ YS,C.frame (encA G)=YS:=⟨_,rfl⟩
  have HLG:Hid (Lg B w lb fb fv vo ve XS n R r l (endsF Fs)):=hid (hXS▸HL.out.lg)
  rw [hYS] at HF hfl
  rw [hXS] at hxl
  obtain ⟨N,hN⟩:∃ N,XS.length=N:=⟨_,rfl⟩
  obtain ⟨M',hM⟩:∃ M',YS.length=M':=⟨_,rfl⟩
  by_cases hr:N+M'≤R
  ·have he:apE R Fs G=0:=by unfold apE;rw [if_neg (by simp [hz]),if_pos (by omega)]
   have hF:apF R Fs G=Fs++[G]:=by unfold apF;rw [if_pos he]
   have happ:appS R YS XS n=(0,XS++YS,n):=by unfold appS;rw [if_pos (by omega)]
   rw [he,hF]
   have HAPP:=hid happ
   have HXS:=hid hXS
   have HYS:=hid hYS
   have HN:=hid hN
   have HM:=hid hM
   have HXL:=hid hxl
   have HFL:=hid hfl
   clear he hF happ hXS hYS hN hM hxl hfl hfb hz hgood
   have c0:=HLG.out.c0
   go_enter Tryz.func13,Tryz.ntmps13
   go_wp2_with fail
   refine HF.out.mono ?_
   rintro e w1 ⟨v1,rfl,hv1,b1⟩
   obtain ⟨a1,c1,e1⟩:=hv1.form
   rw [HM.out] at e1
   subst e1
   have V1:=hid hv1
   have B1:=hid b1
   have HL1:=hid (HLG.out.below b1)
   have HQ1:=hid (HQ.out.below b1)
   have HB1:=hid (Nat.le_trans hB b1.size)
   clear hv1 b1 c0
   have c0:=HL1.out.c0
   go_wp2_with fail
   refine (qjj HL1.out.fi).mono ?_
   rintro e w2 ⟨rfl,rfl⟩
   rw [HN.out]
   go_wp2_with fail
   refine (qjo HB1.out HL1.out.fi _ YS V1.out).mono ?_
   rintro e w3 ⟨he,ho⟩
   have he':=he.out HAPP.out
   obtain ⟨fv',hfi,hfx⟩:=ho.out HAPP.out
   subst he'
   obtain ⟨hl3,hx3⟩:=HL1.out.file hfi hfx
   have HL3:=hid hl3
   have X3:Hid (Lx (Ft lb fb fv vo ve) (Ft lb fb fv' vo ve) w w3):=hid ((Lx.of_below B1.out).trans hx3)
   have HQ3:=hid (HQ1.out.step hx3)
   have HB3:=hid (Nat.le_trans HB1.out hx3.size)
   clear he ho hfi hfx hl3 hx3 c0
   go_wp2_with fail
   refine (qku u q w3 HQ3.out.os HFF.out (by omega)).mono ?_
   rintro e w4 ⟨v4,rfl,q',ho4,hfs4,hnw4,b4⟩
   have HL4:=hid (HL3.out.below b4)
   have HB4:=hid (Nat.le_trans HB3.out b4.size)
   have HO4:=hid ho4
   have hql:q'.length=q.length:=by have:=congrArg List.length hfs4;simpa [fsts] using this
   have HFS4:=hid hfs4
   have HNN4:=hid hnw4
   have HCQ:Hid (Cq (Ft lb fb fv' vo ve) w4 q'):=hid (fun p hp=>⟨ho4.2 p hp,.inr (fun k hk e=>by
    have h1:=hnw4.2 p hp k hk
    have h2:=(HL3.out.inside e).2
    omega)⟩)
   have X4:Hid (Lx (Ft lb fb fv vo ve) (Ft lb fb fv' vo ve) w w4):=hid (X3.out.trans (Lx.of_below b4))
   have hbd:=HL.out.bounds
   have hz1:l.length+q'.length≤10000000:=by omega
   have hz2:(endsF Fs).length≤10000000:=by omega
   have HIN:Hid (∀ p ∈ endsF Fs,p.1≤N):=hid (fun p hp=>by have h1:=qgy hp;have h2:=HXL.out;have h3:=HN.out;omega)
   have HOP:Hid (opsAt (endsF Fs) (endsF Fs).length=l.length):=hid (by rw [qjg,HL.out.len])
   clear ho4 hfs4 hnw4 b4 hbd
   go_wp2_with fail
   have hNR:R≤1048576:=HL.out.room.2
   rw [show wrap64 ((N:Int)+(M':Int))=((N+M':Nat):Int) by unfold wrap64;omega]
   refine (qwq HL4.out HB4.out HO4.out HCQ.out N (N+M') (qcp Fs) HIN.out HOP.out hz1 hz2).mono ?_
   rintro e w5 ⟨rfl,vo5,ve5,hl5,hx5⟩
   have HL5:=hid hl5
   have X5:=hid (X4.out.trans hx5)
   clear hl5 hx5
   go_wp2_with fail
   go_ret
   refine ⟨rfl,fv',vo5,ve5,l++q',⟨?_,?_,HL.out.good.append HGD.out,HL.out.r0,HL.out.r1,?_⟩,X5.out,fun p hp=>(List.mem_append.1 hp).imp id (fun h k hk=>Nat.le_trans (Lx.size X3.out) (HNN4.out.2 p h k hk))⟩
   ·have h5:=HL5.out
    have hfl:fsts (l++q')=(Fs++[G]).flatten:=by
     have e1:=HL.out.fl
     have e2:=HFS4.out
     rw [HG.out] at e2
     unfold fsts at e1 e2 ⊢
     rw [List.map_append,e1,e2,List.flatten_append]
     simp
    have hlen:(l++q').length=(Fs++[G]).flatten.length:=by rw [←hfl];simp [fsts]
    have hsz:N+M'=10+szF (Fs++[G]):=by
     rw [qbw,qdd]
     have h2:=HXL.out
     have h3:=HN.out
     have h4:=HM.out
     have h6:=HFL.out
     omega
    rw [qfo,HXS.out,HYS.out,qem,←hlen,←hsz]
    exact h5
   ·have e1:=HL.out.fl
    have e2:=HFS4.out
    rw [HG.out] at e2
    unfold fsts at e1 e2 ⊢
    rw [List.map_append,e1,e2,List.flatten_append]
    simp
   ·have h1:=HL.out.ns
    rw [qfo,List.length_append]
    omega
  ·have he:apE R Fs G=14:=by unfold apE;rw [if_neg (by simp [hz]),if_neg (by omega)]
   have hF:apF R Fs G=Fs:=by unfold apF;rw [if_neg (by rw [he];decide)]
   have happ:appS R YS XS n=(14,XS,n):=by unfold appS;rw [if_neg (by omega)]
   rw [he,hF]
   have HAPP:=hid happ
   have HXS:=hid hXS
   have HM:=hid hM
   clear he hF happ hYS hN hM hxl hfl hfb hz hgood
   have c0:=HLG.out.c0
   go_enter Tryz.func13,Tryz.ntmps13
   go_wp2_with fail
   refine HF.out.mono ?_
   rintro e w1 ⟨v1,rfl,hv1,b1⟩
   obtain ⟨a1,c1,e1⟩:=hv1.form
   rw [HM.out] at e1
   subst e1
   have V1:=hid hv1
   have B1:=hid b1
   have HL1:=hid (HLG.out.below b1)
   have HB1:=hid (Nat.le_trans hB b1.size)
   clear hv1 b1 c0
   have c0:=HL1.out.c0
   go_wp2_with fail
   refine (qjj HL1.out.fi).mono ?_
   rintro e w2 ⟨rfl,rfl⟩
   go_wp2_with fail
   refine (qjo HB1.out HL1.out.fi _ YS V1.out).mono ?_
   rintro e w3 ⟨he,ho⟩
   have he':=he.out HAPP.out
   obtain ⟨fv',hfi,hfx⟩:=ho.out HAPP.out
   subst he'
   obtain ⟨hl3,hx3⟩:=HL1.out.file hfi hfx
   have HL3:=hid hl3
   have X3:Hid (Lx (Ft lb fb fv vo ve) (Ft lb fb fv' vo ve) w w3):=hid ((Lx.of_below B1.out).trans hx3)
   clear he ho hfi hfx hl3 hx3 c0
   go_wp2_with fail
   go_ret
   refine ⟨rfl,fv',vo,ve,l,⟨?_,HL.out.fl,HL.out.good,HL.out.r0,HL.out.r1,HL.out.ns⟩,X3.out,fun p hp=>.inl hp⟩
   rw [HXS.out]
   exact HL3.out
 ·have he:apE R Fs G=frE G:=by unfold apE;rw [if_pos hz]
  have hF:apF R Fs G=Fs:=by unfold apF;rw [if_neg (by rw [he];exact hz)]
  rw [he,hF]
  clear he hF
  have hz':(frE G==0)=false:=by simpa using hz
  obtain ⟨E,hE⟩:∃ E,frE G=E:=⟨_,rfl⟩
  rw [hE] at HF hz' ⊢
  clear hE hz
  go_enter Tryz.func13,Tryz.ntmps13
  go_wp2_with fail
  refine HF.out.mono ?_
  rintro e w1 ⟨v1,rfl,hv1,b1⟩
  have B1:=hid b1
  have HL1:=hid (HL.out.below b1)
  clear hv1 b1
  go_wp2_with fail
  go_ret
  exact ⟨rfl,fv,vo,ve,l,HL1.out,Lx.of_below B1.out,fun p hp=>.inl hp⟩
end
end Go.Proofs.YtkcjkncpaopjbaaGreatDoor
