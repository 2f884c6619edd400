/-
  Parts of the proof, one behind the other; what each proves stands at its head.
-/
import Derived.Test.YtkcjkncpaopjbaaGreatDoorPart17
import Derived.Test.YtkcjkncpaopjbaaGreatDoorPart15
import Derived.BigFrame
import Derived.Deep.WholeRow

namespace Go.Proofs.YtkcjkncpaopjbaaGreatDoor
open Go.RowKit
set_option linter.unusedVariables false
set_option maxRecDepth 100000
theorem qze {o:Opn}{f:Nat}(hf:f≤8) (h:rightF o f=true):(encF o f).length≤500:=by
 have s1:=fun n=>(M.sz_pos n).2
 rcases nine hf with rfl | rfl | rfl | rfl | rfl | rfl | rfl | rfl | rfl
 ·have:=s1 o.br;have:=s1 o.bm;simp [encF,en2,M.enc_length];omega
 ·have:=s1 o.pr;have:=s1 o.pm;simp [encF,en2,M.enc_length];omega
 ·have:=s1 o.key.size
  simp [rightF,K.right,qaw] at h
  simp only [encF,qbf];omega
 ·have:=s1 o.sr;have:=s1 o.sm;simp [encF,en2,M.enc_length];omega
 ·have:=s1 o.lr;have:=s1 o.lm;have:=s1 o.li;simp [encF,en3,M.enc_length];omega
 ·have:=s1 o.gr;have:=s1 o.gm;have:=s1 o.gi;simp [encF,en3,M.enc_length];omega
 ·have:=s1 o.text.size
  simp [rightF] at h
  simp only [encF,qbf];omega
 ·have:=s1 o.cuts.length
  have:=qmc o.cuts
  simp [rightF] at h
  simp only [encF,List.length_append,M.enc_length];omega
 ·have:=s1 (if o.flag then 1 else 0)
  simp only [encF,M.enc_length];omega
theorem qnm (o:Opn):∀ (L:List Nat),(∀ f ∈ L,f≤8)→(∀ f ∈ L,rightF o f=true)→(L.flatMap (encF o)).length≤500*L.length:=by
 intro L
 induction L with
 | nil=>intro _ _;simp
 | cons f L ih =>
  intro h1 h2
  rw [List.flatMap_cons,List.length_append,List.length_cons]
  have:=qze (h1 f (by simp)) (h2 f (by simp))
  have:=ih (fun g hg=>h1 g (by simp [hg])) (fun g hg=>h2 g (by simp [hg]))
  omega
theorem qwc (o:Opn) (l:List Nat) (k:Nat) (hk:k<l.length):(l.take (k+1)).flatMap (encF o)=(l.take k).flatMap (encF o)++encF o l[k]:=by
 rw [List.take_succ_eq_append_getElem hk,List.flatMap_append]
 simp
theorem qgw {w:World}{B B' e sz:Nat}{v:Value}{n:Nat}{xs:List Value}(h:w.ownsRow B e sz v n xs) (hB:B'≤B):w.ownsRow B' e sz v n xs:=by
 refine ⟨h.1,?_⟩
 rcases h.2 with h0 | ⟨g,cap,cur,hv,hg,r⟩
 ·exact .inl h0
 ·exact .inr ⟨g,cap,cur,hv,by omega,r⟩
theorem qvz (o:Opn) (v:Value) (w:World) (hL:Lay w) (hC:Cs w v o.cuts) (hfin:o.fine) (hr:rightO o=false) :
  Calls Tryz.prog 102 #[opv o v] w fun e w'=>e=.returned (.tuple #[.slice none 0 0,.bool false])∧Below w.heap.size w w':=by
 have HB:=hid (ba w (opo o v))
 have HR:=hid (qjd o v _ (hL.below HB.out) (hC.below HB.out) hfin)
 rw [hr] at HR
 have HO:=hid (Ob.new w o v)
 clear hL hC hfin hr
 go_enter Tryz.func102,Tryz.ntmps102
 go_wp2_with (refine qae rfl _ rfl _ rfl _ _ HO.out ?_)
 refine HR.out.mono ?_
 rintro e w1 ⟨rfl,hb⟩
 have HB1:=hid hb
 clear hb
 go_wp2
 go_ret2
 exact ⟨rfl,bt HB.out HB1.out⟩
set_option maxHeartbeats 4000000 in
theorem qks (o:Opn) (v:Value) (w:World) (hL:Lay w) (hC:Cs w v o.cuts) (hfin:o.fine) (hr:rightO o=true) :
  Calls Tryz.prog 102 #[opv o v] w fun e w'=>∃ u,e=.returned (.tuple #[u,.bool true])∧w'.ownsRow w.heap.size 5 1 u (encO o).length (cs (encO o))∧Below w.heap.size w w':=by
 have HB:=hid (ba w (opo o v))
 have HRi:=hid (qjd o v _ (hL.below HB.out) (hC.below HB.out) hfin)
 rw [hr] at HRi
 have HO:=hid (Ob.new w o v)
 have HC:=hid (hC.below HB.out)
 have HCb:=hid (hC.block)
 have HR:=hid hr
 clear hL hC hfin hr
 go_enter Tryz.func102,Tryz.ntmps102
 go_wp2_with (refine qae rfl _ rfl _ rfl _ _ HO.out ?_)
 refine HRi.out.mono ?_
 rintro e w1 ⟨rfl,hb⟩
 have HB1:=hid hb
 have HO1:=hid (HO.out.below hb)
 have HC1:=hid (HC.out.below hb)
 clear hb HO HC HRi
 have HA:=hid (ba w1 (.cells #[.slice none 0 0] 133))
 have hW1:Wr w1.heap.size (w1.alloc (.cells #[.slice none 0 0] 133)) w1.heap.size (.slice none 0 0) []:=⟨heap_alloc_new w1 _,World.ownsRow_nil _ _ _ _,fun x hx=>by cases hx⟩
 have HO2:=hid (HO1.out.below HA.out)
 have c0:=HO2.out.cells.c0
 have c1:=HO2.out.cells.c1
 have c2:=HO2.out.cells.c2
 have c3:=HO2.out.cells.c3
 have hnum:∀ x ∈ [o.k,o.ir,o.im,o.t],Num49 x:=by
  have hp:=(qbn HR.out).1
  have h1:=qbm hp.1
  have h2:0≤o.ir∧o.ir<16∧1≤o.t∧o.t≤1099511627776:=by simpa [rs] using hp.2.1
  have h3:=six hp.2.2
  intro x hx
  unfold Num49
  simp at hx
  rcases hx with rfl | rfl | rfl | rfl<;>omega
 have HI:=hid (qcd w1.heap.size w1.heap.size (.slice none 0 0) [] [o.k,o.ir,o.im,o.t] _ hW1 HA.out.size hnum (by simp) (by simp) (by simp))
 rw [show (w1.alloc (.cells #[.slice none 0 0] 133)).heap.size=w1.heap.size+1 by simp] at HI
 have hsz1:=HB1.out.size
 rw [show (w.alloc (opo o v)).heap.size=w.heap.size+1 by simp] at hsz1
 clear hnum hW1
 go_wp2_with fail
 refine HI.out.mono ?_
 rintro e w2 ⟨rfl,v2,hW2,hx2⟩
 have HW2:=hid hW2
 have HX2:=hid hx2
 clear hW2 hx2 HI c0 c1 c2 c3
 have hb2:Below w1.heap.size (w1.alloc (.cells #[.slice none 0 0] 133)) w2:=HX2.out.1.below (fun k hk hs=>by
  rcases hs with hs | hs
  ·omega
  ·cases hs) HA.out.size
 have HB2:=hid ((HA.out.trans hb2:Below w1.heap.size w1 w2))
 have HO3:=hid (HO1.out.below HB2.out)
 have HC3:=hid (HC1.out.below HB2.out)
 have c0:=HO3.out.cells.c0
 clear hb2
 go_wp2_with fail
 refine (qle o.k _).mono ?_
 rintro e w3 ⟨vt,rfl,hFs,hbt,hfr⟩
 have hpos:0<(told o.k).length:=by
  have:=(qbn HR.out).1.2.2
  exact List.length_pos_iff.2 this
 obtain ⟨tb,toff,tc,rfl,htc,htm,htl,_⟩:=hFs.inv hpos
 have htb:w2.heap.size≤tb:=hfr tb rfl
 obtain ⟨n,hn⟩:∃ n,(told o.k).length=n:=⟨_,rfl⟩
 have HN:=hid hn
 have HFs:=hid hFs
 have HBT:=hid hbt
 have HW3:=hid (HW2.out.below hbt)
 have hs3:=hbt.size
 have hs2:=HB2.out.size
 have HTV:Hid (v2.ownBlock≠some tb):=by
  intro e
  have:=(HW2.out.2.1.lt tb e).2
  omega
 have hlw:=HW2.out.lt
 unfold maxLen at htm
 rw [hn] at HFs hpos htc ⊢
 clear hFs hbt hfr c0 hn
 go_wp2
 go_loopw [27] (fun i wr=>∃ (k:Nat) (v':Value),k≤n∧i=.int .i64 k∧Wr w1.heap.size wr w1.heap.size v' (([o.k,o.ir,o.im,o.t].flatMap M.enc)++((told o.k).take k).flatMap (encF o))∧Wx w1.heap.size v2 v' w3 wr) (fun i _=>n - (intOf i).toNat)
 case atStart=>exact ⟨0,v2,Nat.zero_le _,rfl,by simpa using HW3.out,Wx.refl _ _ _⟩
 case round =>
  obtain ⟨k,v4,hk,rfl,hw4,hx4⟩:=hrel
  obtain ⟨ys,hys⟩:∃ ys,([o.k,o.ir,o.im,o.t].flatMap M.enc)++((told o.k).take k).flatMap (encF o)=ys:=⟨_,rfl⟩
  rw [hys] at hw4
  have HY:=hid hys
  have HX4:=hid hx4
  have HW4:=hid hw4
  clear hx4 hw4 hys
  have hb4:Below w1.heap.size w3 wr:=HX4.out.old HW3.out (Nat.le_refl _) (by omega)
  have HB4:=hid (HB2.out.trans ((HBT.out.mono hs2).trans hb4))
  clear hb4
  by_cases hlt:k<n
  ·have hkl:k<(told o.k).length:=by rw [HN.out];exact hlt
   have hF:Fs wr (.slice (some ⟨tb,toff,none⟩) n tc) (told o.k):=Sl.kept HFs.out (fun j hj hjl=>by
    simp [Value.ownBlock] at hj
    subst hj
    exact HX4.out.block hjl (by omega) HTV.out)
   obtain ⟨tb',toff',tc',hv',_,_,_,hcell⟩:=hF.inv (by omega)
   simp only [Value.slice.injEq,Option.some.injEq,Addr.mk.injEq,and_true] at hv'
   obtain ⟨⟨rfl,rfl⟩,-,rfl⟩:=hv'
   have g1:=hcell k hkl
   obtain ⟨f,hf⟩:∃ f,(told o.k)[k]=f:=⟨_,rfl⟩
   rw [hf] at g1
   have hf8:f≤8:=by rw [←hf];exact qdc _ _ (List.getElem_mem hkl)
   have hfr:rightF o f=true:=by rw [←hf];exact qce HR.out _ (List.getElem_mem hkl)
   have HF:=hid hf
   have hya:ys.length≤549755813888:=by
    rw [←HY.out]
    have h1:=qlz [o.k,o.ir,o.im,o.t]
    have h2:=qnm o ((told o.k).take k) (fun g hg=>qdc _ _ (List.mem_of_mem_take hg)) (fun g hg=>qce HR.out _ (List.mem_of_mem_take hg))
    have h3:=qgm o.k
    rw [List.length_append]
    rw [List.length_take] at h2
    simp only [List.length_cons,List.length_nil] at h1
    omega
   have HI:=hid (jbu f hf8 w1.heap.size w1.heap.size v4 v ys o _ HW4.out (by have:=HX4.out.size;omega) (Nat.le_refl _) (HC1.out.below HB4.out) (fun h j hj=>by have:=HCb.out h j hj;omega) hfr hya)
   have HOr:=hid (HO1.out.below HB4.out)
   have b1':(k:Int)<(n:Int):=by omega
   clear hcell hF hfr hya hf
   go_wp2_with (refine qae rfl _ rfl _ rfl _ _ HOr.out ?_)
   refine HI.out.mono ?_
   rintro e w5 ⟨rfl,v5,hW5,hx5⟩
   have HW5:=hid hW5
   have HX5:=hid (HX4.out.trans hx5)
   clear hW5 hx5 HI g1
   go_wp2
   go_roundw
   case rel =>
    refine ⟨k+1,v5,by omega,by go_num,?_,HX5.out⟩
    have:=HW5.out
    rw [←HY.out] at this
    rw [qwc o _ k hkl,HF.out,←List.append_assoc]
    exact this
   case measure=>simp [intOf];omega
  ·have e1:k=n:=by omega
   obtain ⟨hcw,_,a6,c6,rfl,_⟩:=HW4.out.cell
   go_wp2
   go_ret2
   refine ⟨_,rfl,?_,?_⟩
   ·have:=HW4.out.2.1
    have e2:ys=encO o:=by
     rw [←HY.out,List.take_of_length_le (l:=told o.k) (i:=k) (by have:=HN.out;omega)]
     simp [encO]
    rw [←e2]
    exact qgw (B':=w.heap.size) this (by omega)
   ·exact HB.out.trans ((HB1.out.mono (B':=w.heap.size) (by simp)).trans (HB4.out.mono (B':=w.heap.size) (by omega)))
abbrev zopc (k:Int):Array Value:=#[.int .i64 k,.int .i64 0,.int .i64 0,.int .i64 0,.int .i64 0,.int .i64 0,.int .i64 0,.int .i64 0,.string ⟨#[]⟩,.int .i64 0,.int .i64 0,.int .i64 0,.int .i64 0,.int .i64 0,.int .i64 0,.int .i64 0,.int .i64 0,.string ⟨#[]⟩,.slice none 0 0,.bool false]
abbrev zop (k:Int):Obj:=.cells (zopc k) 74
theorem qir {ops:Array Oper}{rest:List Oper}{p:Oper}{a:Act}{w:World}{Q:Exit→Act→World→Prop}(hgd:Region.wanted p (yielded ops a.tmps)=true) (x:Operand) (ho:p.op=.load 74 x)
  (b:Nat) (hx:a.eval x=.pointer (some ⟨b,0,none⟩)) (o:Opn) (v:Value) (h:Ob w b o v)
  (hk:wpList Tryz.prog ops Q rest (a.put p.dst (opv o v)) w):wpList Tryz.prog ops Q (p::rest) a w :=
 BigFrame.wpList_want hgd fun _ hK=>wp_load_row 74 x ho b hx 74 (opl o v) (0,0) _ h Tryz.underlying74 rfl (by kernel_rfl) (hK _ _ hk)
theorem qcc {ops:Array Oper}{rest:List Oper}{p:Oper}{a:Act}{w:World}{Q:Exit→Act→World→Prop}(hgd:p.guard=none) (x y:Operand) (ho:p.op=.store 74 x y)
  (b:Nat) (hx:a.eval x=.pointer (some ⟨b,0,none⟩)) (o:Opn) (v:Value) (hv:∃ va n vc,v=.slice va n vc) (hy:a.eval y=opv o v) (o':Opn) (v':Value) (h:Ob w b o' v')
  (hk:wpList Tryz.prog ops Q rest (a.put p.dst undef) (w.setRow b (opl o v))):wpList Tryz.prog ops Q (p::rest) a w :=
 wpList_store_row hgd 74 x y ho b (opl o v) hx hy 74 (opl o' v') h (by kernel_rfl) rfl (by obtain ⟨va,n,vc,rfl⟩:=hv;simp [Value.oneCell']) hk
theorem qkx (n:Int):Tryz.prog.built 74 [(0,.int .i64 n)]=some #[.int .i64 n,.int .i64 0,.int .i64 0,.int .i64 0,.int .i64 0,.int .i64 0,.int .i64 0,.int .i64 0,.string ⟨#[]⟩,.int .i64 0,.int .i64 0,.int .i64 0,.int .i64 0,.int .i64 0,.int .i64 0,.int .i64 0,.int .i64 0,.string ⟨#[]⟩,.slice none 0 0,.bool false]:=by kernel_rfl
theorem qej {ops:Array Oper}{rest:List Oper}{p:Oper}{a:Act}{w:World}{Q:Exit→Act→World→Prop}(hgd:p.guard=none) (x:Operand) (ho:p.op=.build 74 #[(0,x)]) (n:Int) (hx:a.eval x=.int .i64 n)
  (hk:wpList Tryz.prog ops Q rest (a.put p.dst (.agg #[.int .i64 n,.int .i64 0,.int .i64 0,.int .i64 0,.int .i64 0,.int .i64 0,.int .i64 0,.int .i64 0,.string ⟨#[]⟩,.int .i64 0,.int .i64 0,.int .i64 0,.int .i64 0,.int .i64 0,.int .i64 0,.int .i64 0,.int .i64 0,.string ⟨#[]⟩,.slice none 0 0,.bool false])) w):wpList Tryz.prog ops Q (p::rest) a w:=by
 have e:(Array.map (fun (i,x)=>(i,a.eval x)) #[(0,x)]).toList=[(0,Value.int .i64 n)]:=by simp [hx]
 refine wpList_build hgd 74 #[(0,x)] ho ?_ ?_
 ·rw [e,qkx];rfl
 ·rw [e,qkx];exact hk
theorem qkw:Tryz.prog.built 74 []=some (zopc 0):=by kernel_rfl
theorem qav {ops:Array Oper}{rest:List Oper}{p:Oper}{a:Act}{w:World}{Q:Exit→Act→World→Prop}(hgd:p.guard=none) (ho:p.op=.build 74 #[])
  (hk:wpList Tryz.prog ops Q rest (a.put p.dst (.agg (zopc 0))) w):wpList Tryz.prog ops Q (p::rest) a w:=by
 have e:(Array.map (fun ((i,x):Nat × Operand)=>(i,a.eval x)) #[]).toList=[]:=by simp
 refine wpList_build hgd 74 #[] ho ?_ ?_
 ·rw [e,qkw];rfl
 ·rw [e,qkw];exact hk
theorem Fr.up {S:Nat→Prop}{N:Nat}{a w w':World}(h:Fr (fun k=>N≤k) a w) (k:Fr S w w') (hs:∀ j,S j→N≤j):Fr (fun k=>N≤k) a w':=h.trans k (fun _ _ hj=>hs _ hj)
theorem qdl {ops:Array Oper}{rest:List Oper}{p:Oper}{a:Act}{W:World}{Q:Exit→Act→World→Prop}(hgd:p.guard=none) (x y:Operand) (ho:p.op=.store 74 x y)
  (z cells:Array Value) (hx:a.eval x=.pointer (some ⟨W.heap.size,0,none⟩)) (hy:a.eval y=.agg cells) (hz:z.size=cells.size) (hi:cells.size=20) (h1:cells.all (·.oneCell')=true)
  (hk:wpList Tryz.prog ops Q rest (a.put p.dst undef) (W.alloc (.cells cells 74))):wpList Tryz.prog ops Q (p::rest) a (W.alloc (.cells z 74)):=by
 have hi':(Tryz.prog.info? 74).map (·.size)=some cells.size:=by rw [hi];kernel_rfl
 refine wpList_store_row hgd 74 x y ho W.heap.size cells hx hy 74 z (heap_alloc_new W _) hi' hz h1 ?_
 rw [World.setRow_alloc_new]
 exact hk
theorem qig {ops:Array Oper}{rest:List Oper}{p:Oper}{a:Act}{W:World}{Q:Exit→Act→World→Prop}(hgd:p.guard=none) (x y:Operand) (ho:p.op=.store 74 x y) (k0 n:Int)
  (hx:a.eval x=.pointer (some ⟨W.heap.size,0,none⟩)) (hy:a.eval y=.agg (zopc n))
  (hk:wpList Tryz.prog ops Q rest (a.put p.dst undef) (W.alloc (.cells (zopc n) 74))):wpList Tryz.prog ops Q (p::rest) a (W.alloc (.cells (zopc k0) 74)) :=
 qdl hgd x y ho (zopc k0) (zopc n) hx hy rfl rfl (by simp [Value.oneCell']) hk
theorem qqg (w:World) (a:Addr) (v:Value):(w.setCell a v).heap.size=w.heap.size:=by simp [World.setCell]
theorem Fr.of_row (w:World) (b:Nat) (cs:Array Value):Fr (fun k=>k=b) w (w.setRow b cs) :=
 ⟨rfl,rfl,rfl,by simp [World.setRow],fun k _ hn=>setRow_other w b k cs hn⟩
theorem qbp (m:Int) (s:St):(rn m s).2.1.length≤s.1.length:=by
 unfold rn M.numS
 dsimp only
 split
 ·rw [List.length_drop];omega
 ·simp
theorem qfj (m:Int) (s:St) (h:K.Byt s.1):(rt m s).1.size≤s.1.length∧(rt m s).2.1.length≤s.1.length:=by
 have h1:=qbp m s
 have hb:K.Byt (rn m s).2.1:=by
  unfold rn M.numS
  dsimp only
  split
  ·exact fun x hx=>h x (List.mem_of_mem_drop hx)
  ·exact fun x hx=>by cases hx
 rw [qjc.1,qjc.2,qqf (qtl hb)]
 constructor
 ·unfold M.takeV
  split
  ·rw [List.length_take];omega
  ·simp
 ·unfold M.takeS
  split
  ·rw [List.length_drop];omega
  ·simp
theorem qoy (B:Bnd) (j:Nat) (s:St):(rcuts B j s).2.1.length≤s.1.length:=by
 induction j with
 | zero=>exact Nat.le_refl _
 | succ j ih =>
  unfold rcuts rcut
  dsimp only
  exact Nat.le_trans (qbp _ _) (Nat.le_trans (qbp _ _) (Nat.le_trans (qbp _ _) (Nat.le_trans (qbp _ _) ih)))
def Shrt (N:Nat) (p:Opn × St):Prop:=p.1.key.size≤N∧p.1.text.size≤N∧p.2.1.length≤N
theorem quj (B:Bnd) (f:Nat) (hf:f≤8) (p:Opn × St) (N:Nat) (hv:Vl p.2) (h:Shrt N p):Shrt N (rdF B f p):=by
 obtain ⟨o,s⟩:=p
 obtain ⟨h1,h2,h3⟩:=h
 have k1:=qbp B.n (rn B.r s).2
 have k2:=qbp B.r s
 have k3:=qbp B.i (rn B.n (rn B.r s).2).2
 dsimp only at h1 h2 h3 hv
 rcases nine hf with rfl | rfl | rfl | rfl | rfl | rfl | rfl | rfl | rfl
 ·exact ⟨h1,h2,Nat.le_trans k1 (Nat.le_trans k2 h3)⟩
 ·exact ⟨h1,h2,Nat.le_trans k1 (Nat.le_trans k2 h3)⟩
 ·have:=qfj B.key s hv.1
  exact ⟨Nat.le_trans this.1 h3,h2,Nat.le_trans this.2 h3⟩
 ·exact ⟨h1,h2,Nat.le_trans k1 (Nat.le_trans k2 h3)⟩
 ·exact ⟨h1,h2,Nat.le_trans k3 (Nat.le_trans k1 (Nat.le_trans k2 h3))⟩
 ·exact ⟨h1,h2,Nat.le_trans k3 (Nat.le_trans k1 (Nat.le_trans k2 h3))⟩
 ·have:=qfj B.text s hv.1
  exact ⟨h1,Nat.le_trans this.1 h3,Nat.le_trans this.2 h3⟩
 ·exact ⟨h1,h2,Nat.le_trans (qoy B _ _) (Nat.le_trans (qbp 16 s) h3)⟩
 ·exact ⟨h1,h2,Nat.le_trans (qbp 1 s) h3⟩
theorem quh (B:Bnd) (b:List Int):Shrt b.length (rdH B b) :=
 ⟨Nat.zero_le _,Nat.zero_le _,Nat.le_trans (qbp _ _) (Nat.le_trans (qbp _ _) (Nat.le_trans (qbp _ _) (qbp _ _)))⟩
theorem rdH_vl (B:Bnd) {b:List Int}(hb:K.Byt b):Vl (rdH B b).2:=qln (qln (qln (qln (s:=(b,false)) ⟨hb,fun h=>by cases h⟩)))
def rdK (B:Bnd) (b:List Int) (k:Nat):Opn × St:=((told (rdH B b).1.k).take k).foldl (fun p f=>rdF B f p) (rdH B b)
theorem qqk (B:Bnd) (b:List Int):rdK B b 0=rdH B b:=rfl
theorem qql (B:Bnd) (b:List Int) (k:Nat) (hk:k<(told (rdH B b).1.k).length):rdK B b (k+1)=rdF B ((told (rdH B b).1.k)[k]) (rdK B b k):=by
 unfold rdK
 rw [List.take_succ_eq_append_getElem hk,List.foldl_append]
 rfl
theorem qlt (B:Bnd) (b:List Int) (k:Nat) (hk:(told (rdH B b).1.k).length≤k):rdK B b k=rdO B b:=by
 unfold rdK rdO
 rw [List.take_of_length_le hk]
theorem qug (B:Bnd) {b:List Int}(hb:K.Byt b) (k:Nat):Vl (rdK B b k).2∧Shrt b.length (rdK B b k):=by
 induction k with
 | zero=>exact ⟨rdH_vl B hb,quh B b⟩
 | succ k ih =>
  by_cases hk:k<(told (rdH B b).1.k).length
  ·rw [qql B b k hk]
   have h8:=qdc _ _ (List.getElem_mem hk)
   exact ⟨qzz B _ h8 _ ih.1,quj B _ h8 _ _ ih.1 ih.2⟩
  ·rw [qlt B b (k+1) (by omega),←qlt B b k (by omega)]
   exact ih
theorem qat {fn:Func}{p u:Tmp}(h:fn.results=#[.cell p 74,.tmp u]) (tmps:Array Value) (w:World) {b:Nat}{o:Opn}{v:Value}(hp:tmps.getD p undef=.pointer (some ⟨b,0,none⟩)) (hs:Ob w b o v) :
  (results fn tmps).run Tryz.prog w=.ok (.tuple #[opv o v,tmps.getD u undef]) w:=by
 have hl:=hs.load
 have hp':tmps[p]?.getD undef=.pointer (some ⟨b,0,none⟩):=by simpa using hp
 simp [results,h,hp',asAddr,hl]
theorem Ob.zop (w:World) (k:Int):Ob (w.alloc (zop k)) w.heap.size { Opn.zero with k:=k } (.slice none 0 0):=heap_alloc_new w _
set_option maxHeartbeats 8000000 in
theorem qkt (vb:Value) (xs:List Int) (w:World) (hL:Lay w) (h:Bs w vb xs) (hn:xs.length≤1099511627776) :
  Calls Tryz.prog 92 #[vb] w fun e w'=>∃ v,e=.returned (.tuple #[opv (decO Bnd.own xs).1 v,.bool (decO Bnd.own xs).2])∧Cs w' v (decO Bnd.own xs).1.cuts∧Below w.heap.size w w'∧∀ k,v.ownBlock=some k→w.heap.size≤k:=by
 have hby:=h.range
 have HBY:=hid hby
 have HA:=hid (ba w (opo Opn.zero (.slice none 0 0)))
 have HB:=hid (h.below HA.out)
 have HL:=hid hL
 have R0:=hid (Ob.new w Opn.zero (.slice none 0 0))
 obtain ⟨dec,hdec⟩:∃ d,decO Bnd.own xs=d:=⟨_,rfl⟩
 rw [hdec]
 have HD:=hid hdec
 have N0:=hid (fun W c=>qjz c (xs,false) 6 W)
 have hH:rdH Bnd.own xs=({ Opn.zero with k:=(rn 6 (xs,false)).1,ir:=(rn 15 (rn 6 (xs,false)).2).1,im:=(rn 1048576 (rn 15 (rn 6 (xs,false)).2).2).1,t:=(rn 1099511627776 (rn 1048576 (rn 15 (rn 6 (xs,false)).2).2).2).1 },(rn 1099511627776 (rn 1048576 (rn 15 (rn 6 (xs,false)).2).2).2).2):=rfl
 obtain ⟨p0,hp0⟩:∃ p,rn 6 (xs,false)=p:=⟨_,rfl⟩
 rw [hp0] at N0 hH
 have N1:=hid (fun W c=>qkl c p0.2 W)
 obtain ⟨p1,hp1⟩:∃ p,rn 15 p0.2=p:=⟨_,rfl⟩
 rw [hp1] at N1 hH
 obtain ⟨p2,hp2⟩:∃ p,rn 1048576 p1.2=p:=⟨_,rfl⟩
 rw [hp2] at N1 hH
 have N2:=hid (fun W c=>qjz c p2.2 1099511627776 W)
 obtain ⟨p3,hp3⟩:∃ p,rn 1099511627776 p2.2=p:=⟨_,rfl⟩
 rw [hp3] at N2 hH
 have HH:=hid hH
 obtain ⟨a,cc,rfl⟩:=h.form
 clear h hL hby hdec hp0 hp1 hp2 hp3 hH
 go_enter Tryz.func92,Tryz.ntmps92
 go_wp2_with fail
 refine (qwo _ xs _ HB.out (by omega)).mono ?_
 rintro e w1 ⟨c,rfl,hcn,hc1,hb1⟩
 have hsz0:(w.alloc (opo Opn.zero (.slice none 0 0))).heap.size=w.heap.size+1:=by simp
 rw [hsz0] at hcn
 have hcl:=hc1.lt
 have HA2:=hid (ba w1 (rdo c))
 have HC2:=hid (hc1.below HA2.out)
 have HB2:=hid (bt hb1 HA2.out)
 have R2:=hid (R0.out.below HB2.out)
 have K2:=hid (heap_alloc_new w1 (rdo c))
 have HBb:=hid ((HA.out.trans (hb1.mono HA.out.size)).trans (HA2.out.mono (by omega)):Below w.heap.size w _)
 have d1:=cell_of_row _ _ 0 _ _ _ K2.out
 simp at d1
 clear hc1 hb1
 go_wp2_with fail
 refine (N0.out _ c HC2.out).mono ?_
 rintro e w3 ⟨rfl,hc3,hg3⟩
 have HG3:=hid hg3
 have HC3:=hid hc3
 have R3:=hid (qax hg3 R2.out (by omega))
 have K3:=hid (qax hg3 K2.out (by omega))
 have hs3:=hg3.size
 rw [show (w1.alloc (rdo c)).heap.size=w1.heap.size+1 by simp] at hs3
 clear hc3 hg3 d1
 have HA4:=hid (ba w3 (zop p0.1))
 have HC4:=hid (HC3.out.below HA4.out)
 have R4:=hid ((Fr.of_below HA4.out:Fr (fun k=>k=c) _ _).rows R3.out (by omega))
 have K4:=hid ((Fr.of_below HA4.out:Fr (fun k=>k=c) _ _).rows K3.out (by omega))
 have O4:=hid (Ob.zop w3 p0.1)
 have d2:=cell_of_row _ _ 0 _ _ _ K4.out
 simp at d2
 go_wp2_with (first | (refine qej rfl _ rfl _ rfl ?_) | (refine qig rfl _ _ rfl 0 p0.1 rfl rfl ?_))
 refine (N1.out _ c HC4.out).mono ?_
 rintro e w5 ⟨rfl,hc5,hf5⟩
 have HF5:=hid hf5
 have HC5:=hid hc5
 have R5:=hid (hf5.rows R4.out (by omega))
 have K5:=hid (hf5.rows K4.out (by omega))
 have O5:=hid (hf5.rows O4.out (by omega))
 have hs5:=hf5.size
 rw [show (w3.alloc (zop p0.1)).heap.size=w3.heap.size+1 by simp] at hs5
 have e1:w5.cell? ⟨w3.heap.size,1,none⟩=some (.int .i64 0):=Ob.cell (w:=w5) O5.out 1
 have e2:w5.cell? ⟨w3.heap.size,2,none⟩=some (.int .i64 0):=Ob.cell (w:=w5) O5.out 2
 have f1:=Ob.frozen (w:=w5) O5.out 1
 have f2:=Ob.frozen (w:=w5) O5.out 2
 have d3:=cell_of_row _ w1.heap.size 0 _ _ _ K5.out
 simp at d3
 clear hc5 hf5 d2
 have K6a:=hid (set_row (i:=1) O5.out (.int .i64 p1.1))
 have O6:=hid (set_row (i:=2) K6a.out (.int .i64 p2.1))
 have HC6:=hid (Cur.set_row (i:=2) (Cur.set_row (i:=1) HC5.out O5.out (by omega) ⟨_,rfl,fun x=>by simp⟩ (.int .i64 p1.1)) K6a.out (by omega) ⟨_,rfl,fun x=>by simp⟩ (.int .i64 p2.1))
 have F6:=hid ((Fr.of_set w5 w3.heap.size 1 (.int .i64 p1.1)).set 2 (.int .i64 p2.1) (.inr rfl))
 have R6:=hid (F6.out.rows R5.out (by omega))
 have K6:=hid (F6.out.rows K5.out (by omega))
 go_wp2_with fail
 refine (N2.out _ c HC6.out).mono ?_
 rintro e w7 ⟨rfl,hc7,hg7⟩
 have HC7:=hid hc7
 have O7:=hid (qax hg7 O6.out (by omega))
 have R7:=hid (qax hg7 R6.out (by omega))
 have K7:=hid (qax hg7 K6.out (by omega))
 have HG7:=hid hg7
 have e3:w7.cell? ⟨w3.heap.size,3,none⟩=some (.int .i64 0):=cell_of_row w7 _ 3 _ _ _ O7.out
 have f3:=frozen_of_row w7 w3.heap.size 3 _ _ O7.out
 have e0:w7.cell? ⟨w3.heap.size,0,none⟩=some (.int .i64 p0.1):=cell_of_row w7 _ 0 _ _ _ O7.out
 have hs7:=hg7.size
 simp only [qqg] at hs7
 clear hc7 hg7 d3 e1 e2 f1 f2
 have O8:Hid (Ob (w7.setCell ⟨w3.heap.size,3,none⟩ (.int .i64 p3.1)) w3.heap.size (rdH Bnd.own xs).1 (.slice none 0 0)):=hid (by rw [HH.out];exact set_row (i:=3) O7.out (.int .i64 p3.1))
 have HC8:Hid (Cu (w7.setCell ⟨w3.heap.size,3,none⟩ (.int .i64 p3.1)) c (rdH Bnd.own xs).2):=hid (by rw [HH.out];exact Cur.set_row HC7.out O7.out (by omega) ⟨_,rfl,fun x=>by simp⟩ (.int .i64 p3.1))
 have F8:=hid (Fr.of_set w7 w3.heap.size 3 (.int .i64 p3.1))
 have R8:=hid (F8.out.rows R7.out (by omega))
 have K8:=hid (F8.out.rows K7.out (by omega))
 have hkk:(rdH Bnd.own xs).1.k=p0.1:=by rw [HH.out]
 have G8:Fr (fun k=>w.heap.size≤k) w (w7.setCell ⟨w3.heap.size,3,none⟩ (.int .i64 p3.1)):=by
  have g1:Fr (fun k=>w.heap.size≤k) w (w1.alloc (rdo c)):=Fr.of_below HBb.out
  have g2:=(g1.up (Fr.grown HG3.out) (by omega)).up (Fr.of_below HA4.out:Fr (fun k=>k=c) _ _) (by omega)
  have g3:=(g2.up HF5.out (by omega)).up F6.out (by omega)
  exact (g3.up (Fr.grown HG7.out) (by omega)).up F8.out (by omega)
 have HG8:=hid G8
 clear G8
 go_wp2_with fail
 refine (qle p0.1 _).mono ?_
 rintro e w9 ⟨vt,rfl,hFs,hbt,hfr⟩
 have hs9:=hbt.size
 simp only [qqg] at hs9 hfr
 have O9:=hid (O8.out.below hbt)
 have HC9:=hid (HC8.out.below hbt)
 have R9:=hid ((Fr.of_below hbt:Fr (fun k=>k=c) _ _).rows R8.out (by omega))
 have K9:=hid ((Fr.of_below hbt:Fr (fun k=>k=c) _ _).rows K8.out (by omega))
 have HG9:=hid (HG8.out.up (Fr.of_below hbt:Fr (fun k=>k=c) _ _) (by omega))
 obtain ⟨ta,tc,hvt,htc,htm⟩:=Sl.form hFs
 obtain ⟨n,hn⟩:∃ n,(told p0.1).length=n:=⟨_,rfl⟩
 have HN:=hid hn
 rw [hn] at hvt htc
 subst hvt
 have HFs:=hid hFs
 have HFR:=hid hfr
 unfold maxLen at htm
 clear hFs hbt hfr hn O8 HC8 R8 K8 O7 R7 K7 HC7 O6 R6 K6 K6a HC6 O5 R5 K5 HC5 O4 R4 K4 HC4 R3 K3 HC3 R2 K2 HC2 e0 e3 f3 N0 N1 N2 HG8 F8 HG7 F6 HF5 HG3 HB R0
 go_wp2
 go_loopw [26] (fun i wr=>∃ k:Nat,k≤n∧i=.int .i64 k∧Oi w.heap.size c wr w3.heap.size (rdK Bnd.own xs k).1∧Cu wr c (rdK Bnd.own xs k).2∧Fr (fun j=>j=w3.heap.size∨j=c) w9 wr) (fun i _=>n - (intOf i).toNat)
 case atStart=>exact ⟨0,Nat.zero_le _,rfl,⟨.slice none 0 0,by rw [qqk];exact O9.out,Cs.nil _,fun h=>absurd h (Nat.not_lt_zero _),fun k hk=>by cases hk⟩,by rw [qqk];exact HC9.out,Fr.refl _ _⟩
 case round =>
  obtain ⟨k,hk,rfl,hok,hck,hfk⟩:=hrel
  have HOK:=hid hok
  have HCK:=hid hck
  have HFK:=hid hfk
  have K10:=hid (hfk.rows K9.out (by omega))
  have R10:=hid (hfk.rows R9.out (by omega))
  have HG10:=hid (HG9.out.up hfk (by omega))
  have d4:=cell_of_row wr w1.heap.size 0 _ _ _ K10.out
  simp at d4
  clear hok hck hfk
  by_cases hlt:k<n
  ·have hkl:k<(told p0.1).length:=by rw [HN.out];exact hlt
   have hkl':k<(told (rdH Bnd.own xs).1.k).length:=by rw [hkk];exact hkl
   have hF:Fs wr (.slice ta n tc) (told p0.1):=Sl.kept HFs.out (fun j hj hjl=>HFK.out.block j hjl (by have:=HFR.out j hj;omega))
   obtain ⟨tb,toff,tc',hv',_,_,_,hcell⟩:=hF.inv (by omega)
   simp only [Value.slice.injEq] at hv'
   obtain ⟨rfl,-,rfl⟩:=hv'
   have g1:=hcell k hkl
   obtain ⟨f,hf⟩:∃ f,(told p0.1)[k]=f:=⟨_,rfl⟩
   rw [hf] at g1
   have hf8:f≤8:=by rw [←hf];exact qdc _ _ (List.getElem_mem hkl)
   have hst:rdK Bnd.own xs (k+1)=rdF Bnd.own f (rdK Bnd.own xs k):=by
    rw [qql Bnd.own xs k hkl']
    simp only [hkk,hf]
   have HST:=hid hst
   have HI:=hid (jbv f hf8 w.heap.size c w3.heap.size (rdK Bnd.own xs k).1 (rdK Bnd.own xs k).2 wr (by have:=HFK.out.size;omega) HOK.out HCK.out (by omega) (qug Bnd.own HBY.out k).1.1)
   have b1':(k:Int)<(n:Int):=by omega
   clear hcell hF hf hst
   go_wp2_with fail
   refine HI.out.mono ?_
   rintro e w11 ⟨rfl,ho11,hc11,hf11⟩
   have HO11:=hid ho11
   have HC11:=hid hc11
   have HF11:=hid (HFK.out.trans hf11 (fun _ _ h=>h))
   clear ho11 hc11 hf11 HI g1 d4
   go_wp2
   go_roundw
   case rel =>
    refine ⟨k+1,by omega,by go_num,?_,?_,HF11.out⟩
    ·rw [HST.out];exact HO11.out
    ·rw [HST.out];exact HC11.out
   case measure=>simp [intOf];omega
  ·have e1:k=n:=by omega
   have hall:rdK Bnd.own xs k=rdO Bnd.own xs:=qlt Bnd.own xs k (by rw [hkk,HN.out];omega)
   have hsh:=(qug Bnd.own HBY.out k).2
   obtain ⟨r,hr⟩:∃ r,rdK Bnd.own xs k=r:=⟨_,rfl⟩
   rw [hr] at HOK HCK hall hsh
   have HR:=hid hall
   have hfin:r.1.fine:=⟨by have:=hsh.1;omega,by have:=hsh.2.1;omega⟩
   have HFI:=hid hfin
   obtain ⟨v,hob,hcs,hvb,hvB⟩:=HOK.out
   have HVB:=hid hvB
   clear hvB
   have HOB:=hid hob
   have HCS:=hid hcs
   have hbel:Below w.heap.size w wr:=HG10.out.below (fun j hj hs=>by omega) (Nat.le_refl _)
   have HBE:=hid hbel
   have hvf:∃ va n vc,v=.slice va n vc:=by
    obtain ⟨va,vc,e,_⟩:=hcs.form
    exact ⟨va,_,vc,e⟩
   have HVF:=hid hvf
   clear hr hall hsh hfin hob hcs hvb hbel HOK hvf
   go_wp2_with fail
   refine (qpp c _ _ _ HCK.out).mono ?_
   rintro e w12 ⟨rfl,rfl⟩
   cases hE:(!r.2.2 && r.2.1.isEmpty)
   ·have HE:=hid hE
    clear hE
    go_wp2_with (first | (refine qav rfl rfl ?_) | (refine qcc rfl _ _ rfl _ rfl Opn.zero (.slice none 0 0) ⟨_,_,_,rfl⟩ rfl _ _ R10.out ?_))
    refine bodyPost_ret (qat rfl _ _ rfl (b:=w.heap.size) (o:=Opn.zero) (v:=.slice none 0 0) (setRow_heap _ _ _ _ _ _ R10.out)) rfl ?_
    have hd:dec=(Opn.zero,false):=by
     rw [←HD.out]
     unfold decO decB
     rw [←HR.out,HE.out]
     rfl
    rw [hd]
    exact ⟨_,rfl,Cs.nil _,HBE.out.trans ((Fr.of_row wr w.heap.size _).below (fun k hk e=>by omega) HBE.out.size),fun k hk=>by cases hk⟩
   ·have HE:=hid hE
    clear hE
    have HRI:=hid (qjd r.1 v wr (HL.out.below HBE.out) HCS.out HFI.out)
    go_wp2_with (refine qir ?_ _ rfl _ rfl _ _ HOB.out ?_;(· kernel_rfl))
    refine HRI.out.mono ?_
    rintro e w13 ⟨rfl,hb13⟩
    have HB13:=hid hb13
    have HOB13:=hid (HOB.out.below hb13)
    have R13:=hid ((Fr.of_below hb13:Fr (fun k=>k=c) _ _).rows R10.out (by omega))
    have HCS13:=hid (HCS.out.below hb13)
    clear hb13
    cases hri:rightO r.1
    ·have HRR:=hid hri
     clear hri
     go_wp2_with (first | (refine qav rfl rfl ?_) | (refine qcc rfl _ _ rfl _ rfl Opn.zero (.slice none 0 0) ⟨_,_,_,rfl⟩ rfl _ _ R13.out ?_))
     refine bodyPost_ret (qat rfl _ _ rfl (b:=w.heap.size) (o:=Opn.zero) (v:=.slice none 0 0) (setRow_heap _ _ _ _ _ _ R13.out)) rfl ?_
     have hd:dec=(Opn.zero,false):=by
      rw [←HD.out]
      unfold decO decB
      rw [←HR.out,HE.out,HRR.out]
      rfl
     rw [hd]
     have hbl:=bt HBE.out HB13.out
     exact ⟨_,rfl,Cs.nil _,hbl.trans ((Fr.of_row w13 w.heap.size _).below (fun k hk e=>by omega) hbl.size),fun k hk=>by cases hk⟩
    ·have HRR:=hid hri
     clear hri
     go_wp2_with (first | (refine qae rfl _ rfl _ rfl _ _ HOB13.out ?_) | (refine qcc rfl _ _ rfl _ rfl r.1 v HVF.out rfl _ _ R13.out ?_))
     refine bodyPost_ret (qat rfl _ _ rfl (b:=w.heap.size) (o:=r.1) (v:=v) (setRow_heap _ _ _ _ _ _ R13.out)) rfl ?_
     have hd:dec=(r.1,true):=by
      rw [←HD.out]
      unfold decO decB
      rw [←HR.out,HE.out,HRR.out]
      rfl
     rw [hd]
     have hbl:=bt HBE.out HB13.out
     refine ⟨_,rfl,?_,hbl.trans ((Fr.of_row w13 w.heap.size _).below (fun k hk e=>by omega) hbl.size),?_⟩
     ·exact HCS13.out.fr (Fr.of_row w13 w.heap.size _) (fun _ k hk e=>by have:=HVB.out k hk;omega)
     ·intro k hk
      exact Nat.le_of_lt (HVB.out k hk)
end Go.Proofs.YtkcjkncpaopjbaaGreatDoor
