/-
  Parts of the proof, one behind the other; what each proves stands at its head.
-/
import Derived.Test.YtkcjkncpaopjbaaGreatDoorRows
import Derived.Test.YtkcjkncpaopjbaaGreatDoorPart5
import Derived.Test.YtkcjkncpaopjbaaGreatDoorPart1
import Derived.Laws.BytesString
import Derived.WalkKit
import Derived.WalkSpells
import Derived.WalkLawsBesides
import Derived.Maps.AppendAt
import Derived.Laws.AppendOwnNone
import Derived.Lib.AppendStr
import Derived.Test.YtkcjkncpaopjbaaGreatDoorPart2

namespace Go.Proofs.YtkcjkncpaopjbaaGreatDoor
open Go.RowKit
set_option linter.unusedVariables false
set_option maxRecDepth 100000
abbrev idv (r n:Int):Value:=.agg #[.int .i64 r,.int .i64 n]
abbrev ido (T:Nat) (r n:Int):Obj:=.cells #[.int .i64 r,.int .i64 n] T
def rr (r:Int):Bool:=decide (0≤r∧r<16)
def ro (r n:Int):Bool:=decide (0≤r∧r<16∧1≤n∧n≤1048576)
def rs (t r:Int):Bool:=decide (0≤r∧r<16∧1≤t∧t≤1099511627776)
theorem retb {a b:Bool}(h:a=true ↔ b=true):Ending.returned (.bool a)=.returned (.bool b):=by rw [Bool.eq_iff_iff.2 h]
theorem qzw (r:Int) (w:World):Calls Tryz.prog 141 #[.int .i64 r] w fun e w'=>e=.returned (.bool (rr r))∧w=w':=by
 obtain ⟨b,hb⟩:∃ b,rr r=b:=⟨_,rfl⟩
 rw [hb]
 have HB:=hid hb
 clear hb
 cases h0:decide (0≤r)
 all_goals
  go_enter Tryz.func141,Tryz.ntmps141
  go_wp2
  go_ret
  refine ⟨retb ?_,rfl⟩
  rw [←HB.out]
  simp at h0
  simp [rr]
  try omega
theorem qgt (r n:Int) (w:World):Calls Tryz.prog 130 #[idv r n] w fun e w'=>e=.returned (.bool (ro r n))∧w'=w.alloc (ido 69 r n):=by
 obtain ⟨b,hb⟩:∃ b,ro r n=b:=⟨_,rfl⟩
 rw [hb]
 have HB:=hid hb
 clear hb
 cases hr:rr r
 all_goals cases h0:decide (1≤n)
 all_goals
  have HR:=hid hr
  go_enter Tryz.func130,Tryz.ntmps130
  go_wp2_with (go_at_call 141;refine (qzw r _).mono ?_;rintro e w' ⟨rfl,rfl⟩;rw [hr])
  go_ret
  refine ⟨retb ?_,rfl⟩
  rw [←HB.out]
  have:=HR.out
  simp [rr] at this h0
  simp [ro]
  try omega
theorem qzv (t r:Int) (w:World):Calls Tryz.prog 131 #[idv t r] w fun e w'=>e=.returned (.bool (rs t r))∧w'=w.alloc (ido 162 t r):=by
 obtain ⟨b,hb⟩:∃ b,rs t r=b:=⟨_,rfl⟩
 rw [hb]
 have HB:=hid hb
 clear hb
 cases hr:rr r
 all_goals cases h0:decide (1≤t)
 all_goals
  have HR:=hid hr
  go_enter Tryz.func131,Tryz.ntmps131
  go_wp2_with (go_at_call 141;refine (qzw r _).mono ?_;rintro e w' ⟨rfl,rfl⟩;rw [hr])
  go_ret
  refine ⟨retb ?_,rfl⟩
  rw [←HB.out]
  have:=HR.out
  simp [rr] at this h0
  simp [rs]
  try omega
theorem qcr (r n:Int) (w:World):Calls Tryz.prog 76 #[idv r n] w fun e w'=>e=.returned (.bool (ro r n))∧w'=w.alloc (ido 69 r n):=by
 obtain ⟨b,hb⟩:∃ b,ro r n=b:=⟨_,rfl⟩
 rw [hb]
 have HB:=hid hb
 clear hb
 cases h0:decide (0≤r)
 all_goals cases h1:decide (r≤15)
 all_goals cases h2:decide (1≤n)
 all_goals
  go_enter Tryz.func76,Tryz.ntmps76
  go_wp2
  go_ret
  refine ⟨retb ?_,rfl⟩
  rw [←HB.out]
  simp at h0 h1 h2
  simp [ro]
  try omega
theorem qei:(Tryz.prog.info? 5).map (fun i=>(i.zero,i.size,i.bytes))=some (some (.int .u8 0),1,1):=by kernel_rfl
theorem cells_at {w:World}{A:Addr}{n c:Nat}{xs:List Int}(h:Bs w (.slice (some A) n c) xs):∀ j u,(cs xs)[j]?=some u→w.cell? (A.add j)=some u:=by
 intro j u hu
 obtain ⟨a',c',h1,_,_,_,h5,_⟩:=h
 simp only [Value.slice.injEq] at h1
 obtain ⟨rfl,rfl,rfl⟩:=h1
 have hj:j<xs.length:=by have:=(List.getElem?_eq_some_iff.1 hu).1;simpa using this
 obtain ⟨b,off,e1,e2⟩:=h5 j hj
 simp only [Option.some.injEq] at e1
 subst e1
 have e3:(⟨b,off,none⟩:Addr).add j=⟨b,off+j,none⟩:=by
  unfold Addr.add;split<;>simp_all
 rw [e3,e2]
 simp [hj] at hu
 simp [hj,hu]
theorem Bs.none_nil {w:World}{n c:Nat}{xs:List Int}(h:Bs w (.slice none n c) xs):xs=[]∧n=0∧c=0:=by
 obtain ⟨a',c',h1,h2,_,h4,_⟩:=h
 simp only [Value.slice.injEq] at h1
 have:=h4 h1.1.symm
 have e:xs.length=0:=by omega
 exact ⟨List.eq_nil_of_length_eq_zero e,by omega,by omega⟩
theorem qau {w w':World}{base e:Nat}{v:Value}{n:Nat}{xs:List Value}(h:w.ownsRow base e 1 v n xs) (hb:Below w.heap.size w w'):w'.ownsRow base e 1 v n xs:=by
 refine ⟨h.1,?_⟩
 rcases h.2 with h0 | ⟨g,cap,cur,hv,hg,hh,r⟩
 ·exact .inl h0
 ·exact .inr ⟨g,cap,cur,hv,hg,by rw [hb.block g (Array.getElem?_eq_some_iff.1 hh).1];exact hh,r⟩
def Fresh (B:Nat) (v:Value):Prop:=∀ x n c,v=.slice (some x) n c→B≤x.block
theorem Fresh.of_own {w:World}{base e:Nat}{v:Value}{n:Nat}{xs:List Value}(h:w.ownsRow base e 1 v n xs):Fresh base v:=by
 intro x m c hv
 exact (h.lt x.block (by rw [hv];rfl)).1
set_option maxHeartbeats 1000000 in
theorem qgh (v:Value) (xs:List Int) (w:World) (h:Bs w v xs) (hn:xs.length≤140737488355328) :
  Calls Tryz.prog 88 #[v] w fun e w'=>∃ v',e=.returned v'∧Bs w' v' xs∧Below w.heap.size w w'∧Fresh w.heap.size v':=by
 have h':=h
 obtain ⟨a,c,rfl,_⟩:=h
 cases a with
 | none =>
  have hx:xs.length=0:=by
   obtain ⟨a',c',h1,h2,_,h4,_⟩:=h'
   simp only [Value.slice.injEq] at h1
   have:=h4 h1.1.symm
   omega
  have e1:xs=[]:=List.eq_nil_of_length_eq_zero hx
  subst e1
  clear h'
  have q:∀ (w:World) (n c:Nat),(binOp .eql 36 (.slice none n c) (.slice none 0 0)).run Tryz.prog w=.ok (.bool true) w:=fun _ _ _=>rfl
  go_enter Tryz.func88,Tryz.ntmps88
  go_wp2
  go_ret
  exact ⟨_,rfl,Bs.nil _,Below.refl _ _,fun x n c e=>by cases e⟩
 | some A =>
  obtain ⟨i0,hi,hz0,hz1,hz2⟩:=info_parts qei
  have q:∀ w:World,(binOp .eql 36 (.slice (some A) xs.length c) (.slice none 0 0)).run Tryz.prog w=.ok (.bool false) w:=fun _=>rfl
  have hcell:=cells_at h'
  have HC:=hid hcell
  have HB:=hid h'
  clear hcell h'
  have hown0:(w.alloc (.cells #[] 5)).ownsRow w.heap.size 5 1 (.slice (some ⟨w.heap.size,0,none⟩) 0 0) 0 []:=World.ownsRow_made w #[] 0 (Nat.le_refl _) (Nat.zero_le _) rfl
  go_enter Tryz.func88,Tryz.ntmps88
  go_wp2_with (at_builtin;refine wpList_append_own _ rfl (.tmp 5) (.tmp 6) 36 rfl w.heap.size 5 i0 (.int .u8 0) 1 1 Tryz.underlying36 hi hz0 hz1 hz2 rfl (by decide) _ _ _ rfl hown0 A xs.length c (cs xs) rfl ?c0 ?c1 (ints_oneCell .u8 xs) ?c3 ?c4 ?c5 ?_)
  case c0=>simp
  case c1 =>
   intro j u hu
   have h1:=HC.out j u hu
   have hb:=World.block_lt_of_cell? _ _ h1
   rw [((Below.refl w.heap.size w).alloc (Nat.le_refl _) _).cell hb]
   exact h1
  case c3=>unfold maxLen;omega
  case c4=>omega
  case c5=>simp
  intro v' w1 hown hgrow _
  have hb:Below w.heap.size w w1:=((Below.refl _ w).alloc (Nat.le_refl _) (.cells #[] 5)).grown hgrow (by simp) (by intro k hk;simp [Value.ownBlock] at hk;omega)
  have hB:Bs w1 v' xs:=Bs.of_own (by simpa using hown) (Bs.range HB.out)
  have hF:Fresh w.heap.size v':=Fresh.of_own hown
  clear hown hgrow hown0
  go_wp2
  go_ret
  exact ⟨_,rfl,hB,hb,hF⟩
set_option maxHeartbeats 400000 in
theorem qzq (v:Value) (xs:List Int) (w:World) (h:Bs w v xs) (hn:xs.length≤140737488355328) :
  Calls Tryz.prog 89 #[v] w fun e w'=>∃ b,e=.returned (.pointer (some ⟨b,0,none⟩))∧w.heap.size≤b∧Below w.heap.size w w' ∧
   ∃ v',w'.heap[b]?=some (.cells #[v',.bool false] 141 (0,0))∧Bs w' v' xs∧Fresh w.heap.size v':=by
 go_enter Tryz.func89,Tryz.ntmps89
 go_wp2_with fail
 refine (qgh v xs _ h hn).mono ?_
 rintro e w1 ⟨v',rfl,hB,hb,hF⟩
 have hB':=hB
 obtain ⟨a,c,rfl,_⟩:=hB
 go_wp2
 go_ret
 have ha:Below w1.heap.size w1 (w1.alloc (.cells #[.slice a xs.length c,.bool false] 141)):=(Below.refl _ _).alloc (Nat.le_refl _) _
 exact ⟨w1.heap.size,rfl,hb.size,hb.trans (ha.mono hb.size),_,heap_alloc_new w1 _,hB'.below ha,hF⟩
theorem qwo (v:Value) (xs:List Int) (w:World) (h:Bs w v xs) (hn:xs.length≤140737488355328) :
  Calls Tryz.prog 89 #[v] w fun e w'=>∃ b,e=.returned (.pointer (some ⟨b,0,none⟩))∧w.heap.size≤b∧Cur 141 w' b xs false∧Below w.heap.size w w' :=
 (qzq v xs w h hn).mono fun _ _ ⟨b,he,h1,h2,v',h3,h4,_⟩=>⟨b,he,h1,⟨v',h3,h4⟩,h2⟩
theorem qme {w:World}{v:Value}{xs:List Int}(h:Bs w v xs):(convert 36 9 v).run Tryz.prog w=.ok (.string (M.str xs)) w:=by
 have h':=h
 obtain ⟨a,c,rfl,_⟩:=h
 rw [run_convert_bytes_string w 36 9 5 a xs.length c Tryz.underlying36 Tryz.underlying5 Tryz.underlying9]
 cases a with
 | none =>
  have hx:xs.length=0:=by
   obtain ⟨a',c',h1,h2,_,h4,_⟩:=h'
   simp only [Value.slice.injEq] at h1
   have:=h4 h1.1.symm
   omega
  have e1:xs=[]:=List.eq_nil_of_length_eq_zero hx
  subst e1
  rfl
 | some A =>
  have hl:=run_loadCells_list (P:=Tryz.prog) w A (cs xs) (cells_at h')
  rw [List.length_map] at hl
  rw [run_bytesToString w A xs.length c xs hl]
  rfl
set_option maxHeartbeats 400000 in
theorem qhe (c:Int) (w:World) (h1:1≤c) (h7:c≤7) :
  Calls Tryz.prog 104 #[.int .i64 c] w fun e w'=>e=.returned (.int .i64 (M.bd c.toNat))∧w=w':=by
 have:c=1∨c=2∨c=3∨c=4∨c=5∨c=6∨c=7:=by omega
 rcases this with rfl | rfl | rfl | rfl | rfl | rfl | rfl
 all_goals
  go_enter Tryz.func104,Tryz.ntmps104
  go_wp2
  go_ret
  exact ⟨rfl,rfl⟩
set_option maxHeartbeats 1000000 in
theorem qgq (n:Int) (w:World) (h0:0≤n) :
  Calls Tryz.prog 105 #[.int .i64 n] w fun e w'=>e=.returned (.int .i64 (M.sz n))∧w=w':=by
 go_enter Tryz.func105,Tryz.ntmps105
 go_wp2
 go_loop [3] (fun c=>∃ k:Nat,1≤k∧k≤7∧c=.int .i64 k∧(k=1∨M.bd (k - 1)≤n)) (fun c=>7 - (intOf c).toNat)
 case atStart=>exact ⟨1,by omega,by omega,rfl,.inl rfl⟩
 case round =>
  obtain ⟨k,hk1,hk7,rfl,hb⟩:=hrel
  by_cases h7:k<7
  ·by_cases hn:M.bd k≤n
   ·have hB:M.bd (k:Int).toNat=M.bd k:=by simp
    go_wp2_with (go_at_call 104;refine (qhe _ _ (by omega) (by omega)).mono ?_;rintro e w' ⟨rfl,rfl⟩)
    go_round
    case rel=>exact ⟨k+1,by omega,by omega,by go_num,.inr (by simpa using hn)⟩
    case measure=>simp [intOf];omega
   ·have hB:M.bd (k:Int).toNat=M.bd k:=by simp
    have HB:Hid (k=1∨M.bd (k - 1)≤n):=hb
    clear hb
    go_wp2_with (go_at_call 104;refine (qhe _ _ (by omega) (by omega)).mono ?_;rintro e w' ⟨rfl,rfl⟩)
    go_ret
    refine ⟨?_,rfl⟩
    rw [M.sz_of hk1 (by omega) HB.out (.inr (by omega))];rfl
  ·obtain rfl:k=7:=by omega
   have HB:Hid (7=1∨M.bd (7 - 1)≤n):=hb
   clear hb
   go_wp2_with (go_at_call 104;refine (qhe _ _ (by omega) (by omega)).mono ?_;rintro e w' ⟨rfl,rfl⟩)
   go_ret
   refine ⟨?_,rfl⟩
   rw [M.sz_of (by omega) (by omega) HB.out (.inl rfl)];rfl
def Sl (sz:Nat) (w:World) (v:Value) (n:Nat) (cells:List Value):Prop :=
 cells.length=n*sz∧∃ a c,v=.slice a n c∧n≤c∧c≤maxLen∧(a=none→c=0)∧∀ j u,cells[j]?=some u→∃ b off,a=some ⟨b,off,none⟩∧w.cell? ⟨b,off+j,none⟩=some u
theorem Sl.nil (sz:Nat) (w:World):Sl sz w (.slice none 0 0) 0 []:=⟨by simp,none,0,rfl,Nat.le_refl _,Nat.zero_le _,fun _=>rfl,fun j u h=>by simp at h⟩
theorem Sl.form {sz:Nat}{w:World}{v:Value}{n:Nat}{cells:List Value}(h:Sl sz w v n cells):∃ a c,v=.slice a n c∧n≤c∧c≤maxLen:=by
 obtain ⟨_,a,c,e,h2,h3,_⟩:=h
 exact ⟨a,c,e,h2,h3⟩
theorem Sl.len {sz:Nat}{w:World}{v:Value}{n:Nat}{cells:List Value}(h:Sl sz w v n cells):n≤maxLen:=by
 obtain ⟨a,c,_,h2,h3⟩:=h.form
 omega
theorem Sl.kept {sz:Nat}{w w':World}{v:Value}{n:Nat}{cells:List Value}(h:Sl sz w v n cells) (hb:∀ k,v.ownBlock=some k→k<w.heap.size→w'.heap[k]?=w.heap[k]?):Sl sz w' v n cells:=by
 obtain ⟨h0,a,c,rfl,h2,h3,h4,h5⟩:=h
 refine ⟨h0,a,c,rfl,h2,h3,h4,fun j u hu=>?_⟩
 obtain ⟨b,off,rfl,e2⟩:=h5 j u hu
 refine ⟨b,off,rfl,?_⟩
 rw [World.cell?_of_block (w:=w) (hb b rfl (World.block_lt_of_cell? _ _ e2))]
 exact e2
theorem Sl.below {sz:Nat}{w w':World}{v:Value}{n:Nat}{cells:List Value}(h:Sl sz w v n cells) (hb:Below w.heap.size w w'):Sl sz w' v n cells:=h.kept fun k _ hk=>hb.block k hk
theorem Sl.inv {sz:Nat}{w:World}{v:Value}{n:Nat}{cells:List Value}(h:Sl sz w v n cells) (hn:0<n) (hs:0<sz) :
  ∃ b off c,v=.slice (some ⟨b,off,none⟩) n c∧n≤c∧c≤maxLen∧b<w.heap.size∧∀ j u,cells[j]?=some u→w.cell? ⟨b,off+j,none⟩=some u:=by
 obtain ⟨h0,a,c,rfl,h2,h3,h4,h5⟩:=h
 have hl:0<cells.length:=by rw [h0];exact Nat.mul_pos hn hs
 obtain ⟨b,off,rfl,e⟩:=h5 0 cells[0] (by simp [hl])
 refine ⟨b,off,c,rfl,h2,h3,World.block_lt_of_cell? _ _ e,fun j u hu=>?_⟩
 obtain ⟨b',off',e1,e2⟩:=h5 j u hu
 simp only [Option.some.injEq,Addr.mk.injEq,and_true] at e1
 obtain ⟨rfl,rfl⟩:=e1
 exact e2
theorem Sl.of_own {sz:Nat}{w:World}{base e:Nat}{v:Value}{n:Nat}{cells:List Value}(h:w.ownsRow base e sz v n cells):Sl sz w v n cells:=by
 refine ⟨h.1,?_⟩
 have h':=h
 rcases h.2 with ⟨rfl,rfl⟩ | ⟨g,cap,cur,rfl,hb,hg,hnc,hcm,hcs,htake⟩
 ·have:cells=[]:=List.eq_nil_of_length_eq_zero (by simpa using h.1)
  subst this
  exact (Sl.nil sz w).2
 ·refine ⟨some ⟨g,0,none⟩,cap,rfl,hnc,hcm,(fun e=>by cases e),fun j u hu=>⟨g,0,rfl,?_⟩⟩
  have hj:j<n*sz:=by rw [←h.1];exact (List.getElem?_eq_some_iff.1 hu).1
  rw [Nat.zero_add,h'.cellAt j hj,hu]
theorem Sl.none_nil {sz:Nat}{w:World}{n c:Nat}{cells:List Value}(h:Sl sz w (.slice none n c) n cells):cells=[]∧n=0∧c=0:=by
 obtain ⟨h0,a',c',h1,h2,_,h4,_⟩:=h
 simp only [Value.slice.injEq] at h1
 have:=h4 h1.1.symm
 have hn:n=0:=by omega
 subst hn
 exact ⟨List.eq_nil_of_length_eq_zero (by simpa using h0),rfl,by omega⟩
theorem Sl.cells_at {sz:Nat}{w:World}{A:Addr}{n c:Nat}{cells:List Value}(h:Sl sz w (.slice (some A) n c) n cells):∀ j u,cells[j]?=some u→w.cell? (A.add j)=some u:=by
 intro j u hu
 obtain ⟨_,a',c',h1,_,_,_,h5⟩:=h
 simp only [Value.slice.injEq] at h1
 obtain ⟨rfl,_,rfl⟩:=h1
 obtain ⟨b,off,e1,e2⟩:=h5 j u hu
 simp only [Option.some.injEq] at e1
 subst e1
 have e3:(⟨b,off,none⟩:Addr).add j=⟨b,off+j,none⟩:=by
  unfold Addr.add;split<;>simp_all
 rw [e3,e2]
theorem Sl.lit {sz:Nat}(w:World) (e:Nat) (cells:Array Value) (n:Nat) (hm:n≤maxLen) (hs:cells.size=n*sz):Sl sz (w.alloc (.cells cells e)) (.slice (some ⟨w.heap.size,0,none⟩) n n) n cells.toList :=
 Sl.of_own (World.ownsRow_lit (base:=w.heap.size) (e:=e) (size:=sz) w cells n (Nat.le_refl _) hm hs)
theorem qly {α:Type}(f:α→List Value) (sz:Nat) (hf:∀ x,(f x).length=sz):∀ (l:List α) (i j:Nat) (hi:i<l.length),j<sz→(l.flatMap f)[i*sz+j]?=(f (l[i]))[j]?:=by
 intro l
 induction l with
 | nil=>intro i j hi;exact absurd hi (Nat.not_lt_zero _)
 | cons x l ih =>
  intro i j hi hj
  rw [List.flatMap_cons]
  cases i with
  | zero =>
   rw [Nat.zero_mul,Nat.zero_add,List.getElem?_append_left (by rw [hf];exact hj)]
   rfl
  | succ i =>
   have e:(i+1)*sz+j - sz=i*sz+j:=by rw [Nat.add_mul,Nat.one_mul];omega
   rw [List.getElem?_append_right (by rw [hf,Nat.add_mul,Nat.one_mul];omega),hf,e,ih i j (by simpa using hi) hj]
   rfl
theorem qbj {α:Type}(f:α→List Value) (sz:Nat) (hf:∀ x,(f x).length=sz) (l:List α):(l.flatMap f).length=l.length*sz:=by
 induction l with
 | nil=>simp
 | cons x l ih=>rw [List.flatMap_cons,List.length_append,hf,ih,List.length_cons,Nat.add_mul,Nat.one_mul,Nat.add_comm]
theorem qbc {w:World}{ops:Array Oper}{rest:List Oper}{o:Oper}{a:Act}{Q:Exit→Act→World→Prop}(t e:TypeId) (sz bytes:Nat) (z:Value) (ht:Tryz.prog.underlying t=some (.slice e))
  (hinfo:(Tryz.prog.info? e).map (fun i=>(i.zero,i.size,i.bytes))=some (some z,sz,bytes)) (hzs:z.cells.size=sz) (hsz:0<sz) (hgd:o.guard=none) (s x:Operand)
  (ho:o.op=.call { callee:=.builtin .append,args:=#[s,x],argTypes:=#[t,t] })
  (base:Nat) (v:Value) (n:Nat) (cells:List Value) (hs:a.eval s=v) (hown:w.ownsRow base e sz v n cells) (u:Value) (m:Nat) (news:List Value) (hx:a.eval x=u) (hu:Sl sz w u m news) (h1c:∀ u ∈ news,u.oneCell'=true)
  (hb:(n+m)*bytes≤140737488355328) (hl:n+m≤maxLen) (hbase:base≤w.heap.size)
  (h:∀ v' w',w'.ownsRow base e sz v' (n+m) (cells++news)→w.grownBy w' v.ownBlock→(v'.ownBlock=v.ownBlock∨v'.ownBlock=some w.heap.size)→wpList Tryz.prog ops Q rest (a.put o.dst v') w') :
  wpList Tryz.prog ops Q (o::rest) a w:=by
 obtain ⟨i0,hi,hz0,hz1,hz2⟩:=info_parts hinfo
 obtain ⟨A,c,rfl,_,_⟩:=hu.form
 cases A with
 | none =>
  obtain ⟨rfl,rfl,rfl⟩:=hu.none_nil
  refine wpList_append_own_none hgd s x t ho base e i0 sz ht hi v n cells hs hown hx ?_
  exact h v w (by simpa using hown) ⟨rfl,rfl,rfl,Nat.le_refl _,fun _ _ _=>rfl⟩ (Or.inl rfl)
 | some A =>
  refine wpList_append_own_at _ hgd s x t ho base e i0 z sz bytes ht hi hz0 hz1 hz2 hzs hsz v n cells hs hown A m c news hx hu.1 hu.cells_at h1c hl hb hbase ?_
  intro v' w' h1 h2 _ h4
  exact h v' w' h1 h2 h4
structure Ct where
 (r n f t:Int)
def Ct.zero:Ct:=⟨0,0,0,0⟩
abbrev cutc (c:Ct):List Value:=[.int .i64 c.r,.int .i64 c.n,.int .i64 c.f,.int .i64 c.t]
def Cs (w:World) (v:Value) (l:List Ct):Prop:=Sl 4 w v l.length (l.flatMap cutc)
theorem Cs.below {w w':World}{v:Value}{l:List Ct}(h:Cs w v l) (hb:Below w.heap.size w w'):Cs w' v l:=Sl.below h hb
theorem Cs.nil (w:World):Cs w (.slice none 0 0) []:=Sl.nil 4 w
theorem Cs.form {w:World}{v:Value}{l:List Ct}(h:Cs w v l):∃ a c,v=.slice a l.length c∧l.length≤c∧c≤maxLen:=Sl.form h
theorem Cs.inv {w:World}{v:Value}{l:List Ct}(h:Cs w v l) (hn:0<l.length) :
  ∃ b off c,v=.slice (some ⟨b,off,none⟩) l.length c∧l.length≤c∧c≤maxLen∧b<w.heap.size∧∀ i (hi:i<l.length),w.cell? ⟨b,off+i*4,none⟩=some (.int .i64 (l[i]).r)∧w.cell? ⟨b,off+i*4+1,none⟩=some (.int .i64 (l[i]).n) ∧
   w.cell? ⟨b,off+i*4+2,none⟩=some (.int .i64 (l[i]).f)∧w.cell? ⟨b,off+i*4+3,none⟩=some (.int .i64 (l[i]).t):=by
 obtain ⟨b,off,c,h1,h2,h3,h4,h5⟩:=Sl.inv h hn (by decide)
 refine ⟨b,off,c,h1,h2,h3,h4,fun i hi=>?_⟩
 have k:=fun j (hj:j<4)=>qly cutc 4 (fun _=>rfl) l i j hi hj
 refine ⟨h5 _ _ (k 0 (by decide)),?_,?_,?_⟩
 ·rw [Nat.add_assoc];exact h5 _ _ (k 1 (by decide))
 ·rw [Nat.add_assoc];exact h5 _ _ (k 2 (by decide))
 ·rw [Nat.add_assoc];exact h5 _ _ (k 3 (by decide))
theorem Tryz.info5:(Tryz.prog.info? 5).map (fun i=>(i.zero,i.size,i.bytes))=some (some (.int .u8 0),1,1):=by kernel_rfl
theorem qzx (m j:Nat) (n:Int):(cs (List.replicate (m+1) 0++M.be j n))[m]?=some (.int .u8 0):=by
 simp [List.getElem?_append,cs]
theorem quc (m j:Nat) (n x:Int):(cs (List.replicate (m+1) 0++M.be j n)).set m (.int .u8 x)=cs (List.replicate m 0++x::M.be j n):=by
 have e:List.replicate (m+1) (0:Int)++M.be j n=List.replicate m 0++0::M.be j n:=by
  rw [List.replicate_succ',List.append_assoc];rfl
 rw [e]
 simp [cs]
theorem qpb:∀ j:Nat,j<8→1≤j→∀ x:Nat,x<128→x<2 ^ (8 - j) →
  bits BinOp.or IntKind.u8 (x:Int) (bits BinOp.xor IntKind.u8 IntKind.u8.max (255 / 2 ^ (j - 1)))=x+M.mask j:=by
 decide +kernel
theorem jbe {x c:Int}{j:Nat}(h0:0≤x) (h1:x<2 ^ (8 - j)) (hc:c=255 / 2 ^ (j - 1)) (hj:1≤j∧j≤7) :
  bits BinOp.or IntKind.u8 x (bits BinOp.xor IntKind.u8 IntKind.u8.max c)=x+M.mask j:=by
 subst hc
 obtain ⟨y,rfl⟩:=Int.eq_ofNat_of_zero_le h0
 have h2:y<2 ^ (8 - j):=by exact_mod_cast h1
 have h3:2 ^ (8 - j)≤2 ^ 7:=Nat.pow_le_pow_right (by decide) (by omega)
 exact qpb j (by omega) hj.1 y (by omega) h2
set_option maxHeartbeats 1000000 in
theorem qmx (n:Int) (w:World) (h0:0≤n) (h1:n<562949953421312) :
  Calls Tryz.prog 70 #[.int .i64 n] w fun e w'=>∃ g,e=.returned (.tuple #[.slice (some ⟨g,0,none⟩) (M.sz n) (M.sz n),.bool true]) ∧
   w'.ownsRow w.heap.size 5 1 (.slice (some ⟨g,0,none⟩) (M.sz n) (M.sz n)) (M.sz n) (cs (M.enc n))∧Below w.heap.size w w':=by
 have hb:M.bd 7=562949953421312:=by rfl
 obtain ⟨k,hk⟩:∃ k,M.sz n=k:=⟨_,rfl⟩
 have hk1:=M.sz_pos n
 rw [hk] at hk1
 obtain ⟨i0,hi,hz0,hz1,hz2⟩:=info_parts Tryz.info5
 have hkb:i0.bytes*k≤281474976710656:=by rw [hz2];omega
 have hkm:k≤maxLen:=by unfold maxLen;omega
 go_enter Tryz.func70,Tryz.ntmps70
 go_wp2_with (first
  | (go_at_call 104;refine (qhe _ _ (by omega) (by omega)).mono ?_;rintro e w' ⟨rfl,rfl⟩)
  | (go_at_call 105;refine (qgq _ _ (by omega)).mono ?_;rintro e w' ⟨rfl,rfl⟩)
  | (at_make;refine wpList_make_full _ rfl (.tmp 16) (.tmp 16) 36 rfl _ 5 i0 (.int .u8 0) 1 Tryz.underlying36 hi hz0 hz1 .i64 .i64 _ _ k rfl rfl (by simp) (by simp) hkb hkm (Nat.le_refl _) ?_;intro w1 hown hgrow))
 have hrow:w1.ownsRow w.heap.size 5 1 (.slice (some ⟨w.heap.size,0,none⟩) k k) k (cs (List.replicate (k - 0) 0++M.be 0 n)):=by
  have e:(madeCells #[Value.int .u8 0] (k*1)).toList=cs (List.replicate (k - 0) 0++M.be 0 n):=by simp [toList_madeCells_one,M.be]
  rw [←e];exact hown
 have hbel:Below w.heap.size w w1:=(Below.refl _ w).grown hgrow (Nat.le_refl _) (by intro k hk;cases hk)
 clear hown hgrow
 go_loopw [0,6] (fun nn i wr=>∃ m j:Nat,m+j=k∧i=.int .i64 ((m:Int) - 1)∧nn=.int .i64 (n / 256 ^ j) ∧
   wr.ownsRow w.heap.size 5 1 (.slice (some ⟨w.heap.size,0,none⟩) k k) k (cs (List.replicate m 0++M.be j n))∧Below w.heap.size w wr) (fun _ i _=>(intOf i+1).toNat)
 case atStart=>exact ⟨k,0,by omega,rfl,by simp,by simpa using hrow,hbel⟩
 case round =>
  clear hrow hbel
  obtain ⟨m,j,hmj,rfl,rfl,hrow,hbel⟩:=hrel
  by_cases hm:m=0
  ·subst hm
   go_wp2
   obtain rfl:j=k:=by omega
   obtain ⟨x,r,hx⟩:∃ x r,M.be j n=x::r:=by
    cases j with
    | zero=>omega
    | succ j=>exact ⟨_,_,rfl⟩
   have hrow2:=hrow
   rw [List.replicate_zero,List.nil_append,hx] at hrow2
   have hcell:wr.cell? ⟨w.heap.size,0,none⟩=some (.int .u8 x):=by rw [hrow2.cellAt 0 (by omega)];rfl
   have hfz:=hrow2.frozenAt 0
   have HX:=hid hx
   have HR:=hid hrow2
   have HK:=hid hk
   clear hx hrow hrow2 hk hkb hkm
   have hp:(0:Int)<(j:Int):=by omega
   have:j=1∨j=2∨j=3∨j=4∨j=5∨j=6∨j=7:=by omega
   rcases this with rfl | rfl | rfl | rfl | rfl | rfl | rfl
   all_goals
    have hxr:=M.be_head h0 h1 HK.out HX.out
    go_region
    go_wp2
    go_ret2
    have hs:=(World.ownsRow.stored HR.out 0 (.int .u8 (x+M.mask (M.sz n)))).1
    refine ⟨w.heap.size,by rw [HK.out];rfl,?_,(hbel.setCell (Nat.le_refl _) _).drew⟩
    rw [jbe (by omega) (by rw [HK.out];exact hxr.2) (by rw [HK.out];rfl) (M.sz_pos n)]
    rw [M.enc,M.encK,HK.out,HX.out]
    rw [HK.out] at hs
    exact hs
  ·obtain ⟨m',rfl⟩:∃ m',m=m'+1:=⟨m - 1,by omega⟩
   rw [show (((m'+1:Nat):Int) - 1)=(m':Int) from by omega]
   have hcell:=hrow.cellAt m' (by omega)
   have hfz:=hrow.frozenAt m'
   have hst:=hrow.stored m'
   have HS:=hid hst
   clear hst
   have hc2:wr.cell? ⟨w.heap.size,m',none⟩=some (.int .u8 0):=by rw [hcell];exact qzx _ _ _
   clear hcell
   go_wp2
   go_roundw
   case rel =>
    have hs:=HS.out (.int .u8 (n / 256 ^ j % 256))
    refine ⟨m',j+1,by omega,rfl,?_,?_,hbel.setCell (Nat.le_refl _) _⟩
    ·rw [Int.pow_succ,Int.ediv_ediv_of_nonneg (by exact Int.le_of_lt (Int.pow_pos (by decide)))]
    ·have e:=hs.1
     rw [quc] at e
     exact e
   case measure=>simp [intOf]
theorem qup (n:Int) (w:World) (h0:0≤n) (h1:n<562949953421312) :
  Calls Tryz.prog 70 #[.int .i64 n] w fun e w'=>∃ v,e=.returned (.tuple #[v,.bool true])∧Bs w' v (M.enc n)∧Below w.heap.size w w' :=
 (qmx n w h0 h1).mono fun _ _ ⟨_,he,ho,hb⟩=>⟨_,he,Bs.of_own ho (M.enc_byte n h0 h1),hb⟩
theorem qzk (s:ByteArray):cs (M.ofStr s)=Lib.strCells s:=by
 simp [cs,M.ofStr,Lib.strCells]
theorem qcq (s:ByteArray) (hs:s.size≤70368744177664):∀ x ∈ M.encText s,0≤x∧x<256:=by
 intro x hx
 unfold M.encText at hx
 rcases List.mem_append.1 hx with h | h
 ·exact M.enc_byte _ (by omega) (by omega) x h
 ·exact M.ofStr_byte s x h
theorem qbf (s:ByteArray):(M.encText s).length=M.sz s.size+s.size:=by
 unfold M.encText;rw [List.length_append,M.enc_length,M.ofStr_length]
set_option maxHeartbeats 1000000 in
theorem qpa (s:ByteArray) (w:World) (hs:s.size≤70368744177664) :
  Calls Tryz.prog 109 #[.string s] w fun e w'=>∃ v,e=.returned v∧w'.ownsRow w.heap.size 5 1 v (M.sz s.size+s.size) (cs (M.encText s))∧Below w.heap.size w w':=by
 obtain ⟨i0,hi,hz0,hz1,hz2⟩:=info_parts qei
 have hsz:=M.sz_pos s.size
 go_enter Tryz.func109,Tryz.ntmps109
 go_wp2_with fail
 refine (qmx s.size _ (by omega) (by omega)).mono ?_
 rintro e w1 ⟨g,rfl,hown,b1⟩
 go_wp2_with (at_builtin;refine Lib.wpList_append_own_string _ rfl (.tmp 11) (.tmp 12) 36 9 rfl w.heap.size 5 i0 Tryz.underlying36 Tryz.underlying9 hi hz0 hz1 hz2 _ _ _ rfl hown s rfl ?c1 ?c2 ?c3 ?_)
 case c1=>unfold maxLen;omega
 case c2=>omega
 case c3=>exact b1.size
 intro v' w2 hown2 hgrow _
 have b2:Below w.heap.size w w2:=b1.grown hgrow b1.size (fun k hk=>(hown.lt k hk).1)
 have H2:=hid hown2
 clear hown2 hown hgrow b1
 go_wp2
 go_ret
 refine ⟨_,rfl,?_,b2⟩
 have:=H2.out
 rw [←qzk,←List.map_append] at this
 exact this
theorem qkk (s:ByteArray) (w:World) (hs:s.size≤70368744177664) :
  Calls Tryz.prog 109 #[.string s] w fun e w'=>∃ v,e=.returned v∧Bs w' v (M.encText s)∧Below w.heap.size w w' :=
 (qpa s w hs).mono fun _ _ ⟨_,he,ho,hb⟩=>⟨_,he,Bs.of_own ho (qcq s hs),hb⟩
theorem World.grownBy.rfl' (w:World) (row:Option Nat):w.grownBy w row:=⟨rfl,rfl,rfl,Nat.le_refl _,fun _ _ _=>rfl⟩
theorem qbb {w:World}{B e n:Nat}{v:Value}{xs:List Value}(h:w.ownsRow B e 1 v n xs):∃ a c,v=.slice a n c∧n≤c:=by
 rcases h.2 with ⟨rfl,h0⟩ | ⟨g,cap,cur,rfl,_,_,h3,_⟩
 ·exact ⟨none,0,by rw [h0],by omega⟩
 ·exact ⟨_,_,rfl,h3⟩
theorem qag {w:World}{ops:Array Oper}{rest:List Oper}{o:Oper}{a:Act}{Q:Exit→Act→World→Prop}(hgd:o.guard=none) (s x:Operand)
  (ho:o.op=.call { callee:=.builtin .append,args:=#[s,x],argTypes:=#[36,36] })
  (base:Nat) (v:Value) (n:Nat) (xs:List Int) (hs:a.eval s=v) (hown:w.ownsRow base 5 1 v n (cs xs)) (u:Value) (ys:List Int) (hx:a.eval x=u) (hu:Bs w u ys)
  (hb:n+ys.length≤140737488355328) (hbase:base≤w.heap.size)
  (h:∀ v' w',w'.ownsRow base 5 1 v' (n+ys.length) (cs (xs++ys))→w.grownBy w' v.ownBlock→(v'.ownBlock=v.ownBlock∨v'.ownBlock=some w.heap.size)→wpList Tryz.prog ops Q rest (a.put o.dst v') w') :
  wpList Tryz.prog ops Q (o::rest) a w:=by
 obtain ⟨i0,hi,hz0,hz1,hz2⟩:=info_parts qei
 have hf:∃ A c,u=.slice A ys.length c:=by
  obtain ⟨A,c,e,_⟩:=hu
  exact ⟨A,c,e⟩
 obtain ⟨A,c,rfl⟩:=hf
 cases A with
 | none =>
  obtain ⟨rfl,_,rfl⟩:=hu.none_nil
  refine wpList_append_own_none hgd s x 36 ho base 5 i0 1 Tryz.underlying36 hi v n (cs xs) hs hown hx ?_
  exact h v w (by simpa using hown) (World.grownBy.rfl' _ _) (Or.inl rfl)
 | some A =>
  refine wpList_append_own_at _ hgd s x 36 ho base 5 i0 (.int .u8 0) 1 1 Tryz.underlying36 hi hz0 hz1 hz2 rfl (by decide) v n (cs xs) hs hown A ys.length c (cs ys) hx (by simp) (cells_at hu) (ints_oneCell .u8 ys) (by unfold maxLen;omega) (by omega) hbase ?_
  intro v' w' h1 h2 _ h4
  exact h v' w' (by simpa using h1) h2 h4
theorem jcd (k:Nat):M.bd k*128=M.bd (k+1):=by unfold M.bd;rw [Int.pow_succ]
theorem qzp {k:Nat}(h:k≤6):0≤M.bd k∧M.bd k≤4398046511104:=by
 have:=M.ipow_le 128 (b:=k) (c:=6) (by decide) h
 have h0:(0:Int)≤128 ^ k:=Int.le_of_lt (Int.pow_pos (by decide))
 unfold M.bd
 exact ⟨h0,this⟩
theorem qva {j:Nat}(h:j≤5):M.mask (j+1)+128 / 2 ^ j=M.mask (j+2):=by
 have:j=0∨j=1∨j=2∨j=3∨j=4∨j=5:=by omega
 rcases this with rfl | rfl | rfl | rfl | rfl | rfl<;>decide
theorem qhr {k:Nat}(h1:1≤k) (h7:k≤7):0≤M.mask k∧M.mask k≤252:=by
 rcases M.seven ⟨h1,h7⟩ with rfl | rfl | rfl | rfl | rfl | rfl | rfl<;>decide
theorem qvb {k:Nat}{x:Int}(h1:1≤k) (h7:k≤7) (hx:x<2 ^ (8 - k)):x+M.mask k<256:=by
 rcases M.seven ⟨h1,h7⟩ with rfl | rfl | rfl | rfl | rfl | rfl | rfl<;>simp [M.mask] at hx ⊢<;>omega
set_option maxHeartbeats 400000 in
theorem qzy (n:Int) (w:World) (h:n<0∨562949953421312≤n) :
  Calls Tryz.prog 43 #[.int .i64 n] w fun e w'=>e=.returned (.tuple #[.slice none 0 0,.bool false])∧w=w':=by
 by_cases h0:n<0
 ·clear h
  go_enter Tryz.func43,Tryz.ntmps43
  go_wp2
  go_ret2
  exact ⟨rfl,rfl⟩
 ·have h1:562949953421311<n:=by omega
  clear h
  go_enter Tryz.func43,Tryz.ntmps43
  go_wp2
  go_ret2
  exact ⟨rfl,rfl⟩
set_option maxHeartbeats 2000000 in
theorem qdh (n:Int) (w:World) (h0:0≤n) (h1:n<562949953421312) :
  Calls Tryz.prog 43 #[.int .i64 n] w fun e w'=>∃ g,e=.returned (.tuple #[.slice (some ⟨g,0,none⟩) (M.sz n) (M.sz n),.bool true]) ∧
   w'.ownsRow w.heap.size 5 1 (.slice (some ⟨g,0,none⟩) (M.sz n) (M.sz n)) (M.sz n) (cs (M.enc n))∧Below w.heap.size w w':=by
 have hk1:=M.sz_pos n
 have hsz:=fun (k:Nat) (h1:1≤k) (h7:k≤7) hl hu=>M.sz_of (n:=n) (k:=k) h1 h7 hl hu
 obtain ⟨i0,hi,hz0,hz1,hz2⟩:=info_parts qei
 have h2:¬ 562949953421311<n:=by omega
 have HSZ:=hid hsz
 clear hsz
 go_enter Tryz.func43,Tryz.ntmps43
 go_wp2
 go_loop [4,5] (fun c l=>∃ k:Nat,1≤k∧k≤7∧c=.int .i64 k∧l=.int .i64 (M.bd k)∧(k=1∨M.bd (k - 1)≤n)) (fun c _=>7 - (intOf c).toNat)
 case atStart=>exact ⟨1,by omega,by omega,rfl,rfl,.inl rfl⟩
 case round =>
  obtain ⟨k,hk,hk7,rfl,rfl,hb⟩:=hrel
  have HB:=hid hb
  clear hb
  by_cases hn:M.bd k≤n
  ·have hk6:k≤6:=by
    by_cases e:k=7
    ·subst e;have:M.bd 7=562949953421312:=rfl;omega
    ·omega
   have hbs:=qzp hk6
   have hs:=hid (jcd k)
   go_wp2
   go_round
   case rel=>exact ⟨k+1,by omega,by omega,by go_num,by rw [←hs.out],.inr (by simpa using hn)⟩
   case measure=>simp [intOf];omega
  ·have hk':M.sz n=k:=HSZ.out k hk hk7 HB.out (by
    by_cases e:k=7
    ·exact .inl e
    ·exact .inr (by omega))
   have HK:=hid hk'
   clear hk' HSZ HB
   have hkb:i0.bytes*k≤281474976710656:=by rw [hz2];omega
   have hkm:k≤maxLen:=by unfold maxLen;omega
   go_wp2_with (at_make;refine wpList_make_full _ rfl (.tmp 23) (.tmp 23) 36 rfl _ 5 i0 (.int .u8 0) 1 Tryz.underlying36 hi hz0 hz1 .i64 .i64 _ _ k rfl rfl (by simp) (by simp) hkb hkm (Nat.le_refl _) ?_;intro w1 hown hgrow)
   have hrow:w1.ownsRow w.heap.size 5 1 (.slice (some ⟨w.heap.size,0,none⟩) k k) k (cs (List.replicate (k - 0) 0++M.be 0 n)):=by
    have e:(madeCells #[Value.int .u8 0] (k*1)).toList=cs (List.replicate (k - 0) 0++M.be 0 n):=by simp [toList_madeCells_one,M.be]
    rw [←e];exact hown
   have hbel:Below w.heap.size w w1:=(Below.refl _ w).grown hgrow (Nat.le_refl _) (by intro k hk;cases hk)
   clear hown hgrow
   go_loopw [0,7] (fun nn i wr=>∃ m j:Nat,m+j=k∧i=.int .i64 ((m:Int) - 1)∧nn=.int .i64 (n / 256 ^ j) ∧
     wr.ownsRow w.heap.size 5 1 (.slice (some ⟨w.heap.size,0,none⟩) k k) k (cs (List.replicate m 0++M.be j n))∧Below w.heap.size w wr) (fun _ i _=>(intOf i+1).toNat)
   case atStart=>exact ⟨k,0,by omega,rfl,by simp,by simpa using hrow,hbel⟩
   case round =>
    clear hrow hbel
    obtain ⟨m,j,hmj,rfl,rfl,hrow,hbel⟩:=hrel
    by_cases hm:m=0
    ·subst hm
     go_wp2
     go_loop [8,9] (fun o i=>∃ j:Nat,j≤k - 1∧i=.int .i64 j∧o=.int .i64 (M.mask (j+1))) (fun _ i=>k - (intOf i).toNat)
     case atStart=>exact ⟨0,by omega,rfl,rfl⟩
     case round =>
      obtain ⟨t,ht,rfl,rfl⟩:=hrel
      have hms:=qhr (k:=t+1) (by omega) (by omega)
      by_cases htk:t<k - 1
      ·have hst:=hid (qva (j:=t) (by omega))
       go_wp2
       go_round
       case rel =>
        refine ⟨t+1,by omega,by go_num,?_⟩
        have hm2:=qhr (k:=t+2) (by omega) (by omega)
        rw [hst.out,show wrap64 (M.mask (t+2))=M.mask (t+2) by unfold wrap64;omega]
       case measure=>simp [intOf];omega
      ·obtain rfl:t=k - 1:=by omega
       obtain rfl:j=k:=by omega
       have ek:j - 1+1=j:=by omega
       rw [ek] at hms ⊢
       obtain ⟨x,r,hx⟩:∃ x r,M.be j n=x::r:=by
        cases j with
        | zero=>omega
        | succ j=>exact ⟨_,_,rfl⟩
       have hrow2:=hrow
       rw [List.replicate_zero,List.nil_append,hx] at hrow2
       have hcell:wr.cell? ⟨w.heap.size,0,none⟩=some (.int .u8 x):=by rw [hrow2.cellAt 0 (by omega)];rfl
       have hfz:=hrow2.frozenAt 0
       have hxr:=M.be_head h0 h1 HK.out hx
       have hx0:=hxr.1
       have hx1:=qvb hk hk7 hxr.2
       have HX:=hid hx
       have HR:=hid hrow2
       clear hx hrow hrow2 hxr hkb hkm ek
       have hp:(0:Int)<(j:Int):=by omega
       go_wp2
       go_ret2
       have hs:=(World.ownsRow.stored HR.out 0 (.int .u8 (x+M.mask (M.sz n)))).1
       refine ⟨w.heap.size,by rw [HK.out];rfl,?_,hbel.setCell (Nat.le_refl _) _⟩
       rw [M.enc,M.encK,HK.out,HX.out]
       rw [HK.out] at hs
       exact hs
    ·obtain ⟨m',rfl⟩:∃ m',m=m'+1:=⟨m - 1,by omega⟩
     rw [show (((m'+1:Nat):Int) - 1)=(m':Int) from by omega]
     have hcell:=hrow.cellAt m' (by omega)
     have hfz:=hrow.frozenAt m'
     have hst:=hrow.stored m'
     have HS:=hid hst
     clear hst
     have hc2:wr.cell? ⟨w.heap.size,m',none⟩=some (.int .u8 0):=by rw [hcell];exact qzx _ _ _
     have hq0:0≤n / 256 ^ j:=Int.ediv_nonneg h0 (Int.le_of_lt (Int.pow_pos (by decide)))
     have hq1:n / 256 ^ j≤n:=Int.ediv_le_self _ h0
     clear hcell
     go_wp2
     go_roundw
     case rel =>
      have hs:=HS.out (.int .u8 (n / 256 ^ j % 256))
      refine ⟨m',j+1,by omega,rfl,?_,?_,hbel.setCell (Nat.le_refl _) _⟩
      ·rw [Int.pow_succ,Int.ediv_ediv_of_nonneg (by exact Int.le_of_lt (Int.pow_pos (by decide)))]
      ·have e:=hs.1
       rw [quc] at e
       exact e
     case measure=>simp [intOf]
theorem qsf (s:ByteArray) (k:Nat) (h:k<s.size):(M.ofStr s).take (k+1)=(M.ofStr s).take k++[((s[k]).toNat:Int)]:=by
 rw [List.take_succ_eq_append_getElem (by rw [M.ofStr_length];exact h)]
 congr 1
 simp [M.ofStr]
 rfl
set_option maxHeartbeats 1000000 in
theorem qlr (s:ByteArray) (w:World) (hs:s.size≤70368744177664) :
  Calls Tryz.prog 86 #[.string s] w fun e w'=>∃ v,e=.returned v∧Bs w' v (M.encText s)∧Below w.heap.size w w':=by
 obtain ⟨i0,hi,hz0,hz1,hz2⟩:=info_parts qei
 have hsz:=M.sz_pos s.size
 go_enter Tryz.func86,Tryz.ntmps86
 go_wp2_with fail
 refine (qdh s.size _ (by omega) (by omega)).mono ?_
 rintro e w1 ⟨g,rfl,hown,b1⟩
 obtain ⟨m,hm⟩:∃ m,M.sz s.size=m:=⟨_,rfl⟩
 rw [hm] at hsz hown ⊢
 clear hm
 go_wp2
 go_loopw [3,5] (fun v i wr=>∃ k:Nat,k≤s.size∧i=.int .i64 k∧wr.ownsRow w.heap.size 5 1 v (m+k) (cs (M.enc s.size++(M.ofStr s).take k))∧Below w.heap.size w wr) (fun _ i _=>s.size - (intOf i).toNat)
 case atStart=>exact ⟨0,Nat.zero_le _,rfl,by simpa using hown,b1⟩
 case round =>
  clear hown b1
  obtain ⟨k,hk,rfl,hown,bel⟩:=hrel
  by_cases hlt:k<s.size
  ·have hst:=hid (qsf s k hlt)
   have hown1:=hown.alloc (.cells #[.int .u8 ((s[k]).toNat:Int)] 5)
   go_wp2_with (at_builtin;refine wpList_append_own _ rfl (.tmp 18) (.tmp 22) 36 rfl w.heap.size 5 i0 (.int .u8 0) 1 1 Tryz.underlying36 hi hz0 hz1 hz2 rfl (by decide) _ _ _ rfl hown1 ⟨wr.heap.size,0,none⟩ 1 1 (cs [((s[k]).toNat:Int)]) rfl rfl ?c1 ?c2 ?c3 ?c4 ?c5 ?_)
   case c1 =>
    intro j u hj
    match j,hj with
    | 0,hj=>simp at hj;subst hj;simp [Addr.add]
   case c2=>intro u hu;simp at hu;subst hu;rfl
   case c3=>unfold maxLen;omega
   case c4=>omega
   case c5=>have:=bel.size;simp;omega
   intro v' w2 hown2 hgrow _
   have b2:Below w.heap.size w w2:=(bel.alloc bel.size _).grown hgrow (by have:=bel.size;simp;omega) (fun k hk=>(hown.lt k hk).1)
   have H2:=hid hown2
   clear hown2 hown hown1 hgrow bel
   go_wp2
   go_roundw
   case rel =>
    have e2:w2.ownsRow w.heap.size 5 1 v' (m+(k+1)) (cs (M.enc s.size++(M.ofStr s).take (k+1))):=by
     have e:cs (M.enc s.size++(M.ofStr s).take (k+1))=(M.enc s.size).map (Value.int .u8)++(((M.ofStr s).map (Value.int .u8)).take k++[Value.int .u8 ((s[k]).toNat:Int)]):=by
      rw [hst.out];simp [cs]
     rw [e,←Nat.add_assoc]
     exact H2.out
    have R:∃ k':Nat,k'≤s.size∧Value.int .i64 ((k:Int)+1)=.int .i64 k'∧w2.ownsRow w.heap.size 5 1 v' (m+k') (cs (M.enc s.size++(M.ofStr s).take k'))∧Below w.heap.size w w2 :=
     ⟨k+1,by omega,by go_num,e2,b2⟩
    first | exact R | ((repeat apply Exists.intro);exact ⟨R,rfl⟩)
   case measure=>simp [intOf];omega
  ·have e:k=s.size:=by omega
   go_wp2
   go_ret
   refine ⟨_,rfl,?_,bel⟩
   refine Bs.of_own (n:=m+k) (base:=w.heap.size) (e:=5) ?_ (qcq s hs)
   rw [List.take_of_length_le (by rw [M.ofStr_length];omega)] at hown
   exact hown
set_option maxHeartbeats 2000000 in
theorem qet (v:Value) (xs:List Int) (w:World) (h:Bs w v xs) (hn:xs.length≤140737488355328) :
  Calls Tryz.prog 42 #[v] w fun e w'=>∃ g cap,e=.returned (.slice (some ⟨g,0,none⟩) xs.length cap)∧w'.ownsRow w.heap.size 5 1 (.slice (some ⟨g,0,none⟩) xs.length cap) xs.length (cs xs)∧Below w.heap.size w w':=by
 have h':=h
 obtain ⟨a,c,rfl,_⟩:=h
 obtain ⟨i0,hi,hz0,hz1,hz2⟩:=info_parts qei
 have hown0:(w.alloc (.cells #[] 5)).ownsRow w.heap.size 5 1 (.slice (some ⟨w.heap.size,0,none⟩) 0 0) 0 []:=World.ownsRow_made w #[] 0 (Nat.le_refl _) (Nat.zero_le _) rfl
 cases a with
 | none =>
  have hx:xs.length=0:=by
   obtain ⟨a',c',h1,h2,_,h4,_⟩:=h'
   simp only [Value.slice.injEq] at h1
   have:=h4 h1.1.symm
   omega
  have e1:xs=[]:=List.eq_nil_of_length_eq_zero hx
  subst e1
  go_enter Tryz.func42,Tryz.ntmps42
  go_wp2
  go_ret
  exact ⟨_,_,rfl,hown0,ba _ _⟩
 | some A =>
  have hcell:=cells_at h'
  have HC:=hid hcell
  clear hcell h'
  go_enter Tryz.func42,Tryz.ntmps42
  go_wp2_with (at_builtin;refine wpList_append_own _ rfl (.tmp 5) (.tmp 6) 36 rfl w.heap.size 5 i0 (.int .u8 0) 1 1 Tryz.underlying36 hi hz0 hz1 hz2 rfl (by decide) _ _ _ rfl hown0 A xs.length c (cs xs) rfl ?c0 ?c1 (ints_oneCell .u8 xs) ?c3 ?c4 ?c5 ?_)
  case c0=>simp
  case c1 =>
   intro j u hu
   have h1:=HC.out j u hu
   have hb:=World.block_lt_of_cell? _ _ h1
   rw [((Below.refl w.heap.size w).alloc (Nat.le_refl _) _).cell hb]
   exact h1
  case c3=>unfold maxLen;omega
  case c4=>omega
  case c5=>simp
  intro v' w1 hown hgrow hnil
  have hb:Below w.heap.size w w1:=((Below.refl _ w).alloc (Nat.le_refl _) (.cells #[] 5)).grown hgrow (by simp) (by intro k hk;simp [Value.ownBlock] at hk;omega)
  have hv:∃ g cap,v'=.slice (some ⟨g,0,none⟩) xs.length cap:=by
   rcases hown.2 with ⟨e,_⟩ | ⟨g,cap,cur,e,_⟩
   ·exact absurd e hnil
   ·exact ⟨g,cap,by simpa using e⟩
  have hown':w1.ownsRow w.heap.size 5 1 v' xs.length (cs xs):=by simpa using hown
  obtain ⟨g,cap,rfl⟩:=hv
  clear hown hgrow hown0 hnil
  go_wp2
  go_ret
  exact ⟨_,_,rfl,hown',hb⟩
def Byt (xs:List Int):Prop:=∀ x ∈ xs,0≤x∧x<256
theorem Byt.append {xs ys:List Int}(h:Byt xs) (k:Byt ys):Byt (xs++ys):=fun x hx=>(List.mem_append.1 hx).elim (h x) (k x)
theorem Byt.take {xs:List Int}(h:Byt xs) (n:Nat):Byt (xs.take n):=fun x hx=>h x (List.mem_of_mem_take hx)
theorem Byt.nil:Byt []:=fun x hx=>by cases hx
abbrev Ow (B:Nat) (w:World) (v:Value) (xs:List Int):Prop:=w.ownsRow B 5 1 v xs.length (cs xs)
theorem Ow.mono {B C:Nat}{w:World}{v:Value}{xs:List Int}(h:Ow B w v xs) (hc:C≤B):Ow C w v xs:=by
 refine ⟨h.1,?_⟩
 rcases h.2 with h0 | ⟨g,cap,cur,hv,hg,r⟩
 ·exact .inl h0
 ·exact .inr ⟨g,cap,cur,hv,Nat.le_trans hc hg,r⟩
theorem Ow.nil (B:Nat) (w:World):Ow B w (.slice none 0 0) []:=World.ownsRow_nil _ _ _ _
theorem Ow.form {B:Nat}{w:World}{v:Value}{xs:List Int}(h:Ow B w v xs):∃ a c,v=.slice a xs.length c∧xs.length≤c:=qbb h
theorem Ow.take {B:Nat}{w:World}{a:Option Addr}{n c:Nat}{xs:List Int}(h:Ow B w (.slice a n c) xs) (l:Nat) (hl:l≤xs.length):Ow B w (.slice a l c) (xs.take l):=by
 have hlen:(xs.take l).length=l:=by rw [List.length_take];omega
 unfold Ow
 rw [hlen]
 refine ⟨by simp [hl],?_⟩
 rcases h.2 with ⟨h0,h1⟩ | ⟨g,cap,cur,hv,hg,hh,h3,h4,h5,h6⟩
 ·simp only [Value.slice.injEq] at h0
  obtain ⟨rfl,_,rfl⟩:=h0
  have:l=0:=by omega
  subst this
  exact .inl ⟨rfl,rfl⟩
 ·simp only [Value.slice.injEq] at hv
  obtain ⟨rfl,_,rfl⟩:=hv
  refine .inr ⟨g,c,cur,rfl,hg,hh,by omega,h4,h5,?_⟩
  have:cs (xs.take l)=(cs xs).take l:=by simp [cs,List.map_take]
  rw [this,←h6,List.take_take]
  congr 1
  omega
theorem Ow.of_block {B:Nat}{w w':World}{v:Value}{xs:List Int}(h:Ow B w v xs) (hb:∀ k,v.ownBlock=some k→w'.heap[k]?=w.heap[k]?):Ow B w' v xs:=by
 refine ⟨h.1,?_⟩
 rcases h.2 with h0 | ⟨g,cap,cur,hv,hg,hh,r⟩
 ·exact .inl h0
 ·exact .inr ⟨g,cap,cur,hv,hg,by rw [hb g (by rw [hv];rfl)];exact hh,r⟩
theorem Ow.far {B:Nat}{w:World}{v:Value}{xs:List Int}(h:Ow B w v xs) {k:Nat}{c:Array Value}{T:TypeId}{fr:Nat × Nat}(hk:w.heap[k]?=some (.cells c T fr)) (hT:T≠5):v.ownBlock≠some k:=by
 intro e
 rcases h.2 with ⟨rfl,_⟩ | ⟨g,cap,cur,rfl,_,hg,_⟩
 ·cases e
 ·simp [Value.ownBlock] at e
  subst e
  rw [hg] at hk
  simp at hk
  exact hT hk.2.1.symm
theorem Ow.bs {B:Nat}{w:World}{v:Value}{xs:List Int}(h:Ow B w v xs) (hr:Byt xs):Bs w v xs:=Bs.of_own h hr
def Fi (B:Nat) (w:World) (b:Nat) (v:Value) (xs:List Int) (n R:Nat):Prop :=
 w.heap[b]?=some (.cells #[v,.int .i64 n,.int .i64 R] 96 (0,0))∧B≤b∧Ow B w v xs∧Byt xs∧n≤R∧xs.length≤R∧R≤1048576
def Fx (b:Nat) (v v':Value) (w w':World):Prop :=
 Fr (fun k=>k=b∨v.ownBlock=some k) w w'∧∀ k,v'.ownBlock=some k→v.ownBlock=some k∨w.heap.size≤k
theorem Fx.refl (b:Nat) (v:Value) (w:World):Fx b v v w w:=⟨Fr.refl _ _,fun _ h=>.inl h⟩
theorem Fx.of_below {b:Nat}{v:Value}{w w':World}(h:Below w.heap.size w w'):Fx b v v w w':=⟨Fr.of_below h,fun _ h=>.inl h⟩
theorem Fx.drewN {b:Nat}{v v':Value}{w w':World}(h:Fx b v v' w w') (m:Nat):Fx b v v' w (w'.drewN m):=⟨h.1.drewN m,h.2⟩
theorem Fx.size {b:Nat}{v v':Value}{w w':World}(h:Fx b v v' w w'):w.heap.size≤w'.heap.size:=h.1.size
theorem Fx.trans {b:Nat}{u v x:Value}{w w1 w2:World}(h:Fx b u v w w1) (k:Fx b v x w1 w2):Fx b u x w w2:=by
 refine ⟨h.1.trans k.1 ?_,?_⟩
 ·intro i hi hs
  rcases hs with hs | hs
  ·exact .inl hs
  ·rcases h.2 i hs with e | e
   ·exact .inr e
   ·omega
 ·intro i hi
  have:=h.1.size
  rcases k.2 i hi with e | e
  ·exact h.2 i e
  ·exact .inr (by omega)
theorem Fx.block {b:Nat}{v v':Value}{w w':World}(h:Fx b v v' w w') {k:Nat}(hk:k<w.heap.size) (hb:k≠b) (hv:v.ownBlock≠some k):w'.heap[k]?=w.heap[k]?:=h.1.block k hk (fun h=>h.elim hb hv)
theorem Fi.lt {B:Nat}{w:World}{b:Nat}{v:Value}{xs:List Int}{n R:Nat}(h:Fi B w b v xs n R):b<w.heap.size:=(Array.getElem?_eq_some_iff.1 h.1).1
theorem Fi.own {B:Nat}{w:World}{b:Nat}{v:Value}{xs:List Int}{n R:Nat}(h:Fi B w b v xs n R):Ow B w v xs:=h.2.2.1
theorem Fi.byt {B:Nat}{w:World}{b:Nat}{v:Value}{xs:List Int}{n R:Nat}(h:Fi B w b v xs n R):Byt xs:=h.2.2.2.1
theorem Fi.ne {B:Nat}{w:World}{b:Nat}{v:Value}{xs:List Int}{n R:Nat}(h:Fi B w b v xs n R):v.ownBlock≠some b:=h.own.far h.1 (by decide)
theorem Fi.nums {B:Nat}{w:World}{b:Nat}{v:Value}{xs:List Int}{n R:Nat}(h:Fi B w b v xs n R):n≤R∧xs.length≤R∧R≤1048576:=h.2.2.2.2
theorem Fi.bs {B:Nat}{w:World}{b:Nat}{v:Value}{xs:List Int}{n R:Nat}(h:Fi B w b v xs n R):Bs w v xs:=h.own.bs h.byt
theorem Fi.of_block {B:Nat}{w w':World}{b:Nat}{v:Value}{xs:List Int}{n R:Nat}(h:Fi B w b v xs n R) (hb:∀ k,k=b∨v.ownBlock=some k→w'.heap[k]?=w.heap[k]?):Fi B w' b v xs n R :=
 ⟨by rw [hb b (.inl rfl)];exact h.1,h.2.1,h.own.of_block (fun k hk=>hb k (.inr hk)),h.2.2.2⟩
theorem Fi.below {B:Nat}{w w':World}{b:Nat}{v:Value}{xs:List Int}{n R:Nat}(h:Fi B w b v xs n R) (hb:Below w.heap.size w w'):Fi B w' b v xs n R :=
 h.of_block (fun k hk=>hb.block k (by
  rcases hk with rfl | hk
  ·exact h.lt
  ·exact (h.own.lt k hk).2))
theorem Fi.drewN {B:Nat}{w:World}{b:Nat}{v:Value}{xs:List Int}{n R:Nat}(h:Fi B w b v xs n R) (m:Nat):Fi B (w.drewN m) b v xs n R:=h
theorem Fi.cells {B:Nat}{w:World}{b:Nat}{v:Value}{xs:List Int}{n R:Nat}(h:Fi B w b v xs n R) :
  ∃ a c,v=.slice a xs.length c∧xs.length≤c∧w.cell? ⟨b,0,none⟩=some (.slice a xs.length c)∧w.cell? ⟨b,1,none⟩=some (.int .i64 n)∧w.cell? ⟨b,2,none⟩=some (.int .i64 R)∧w.frozen? ⟨b,0,none⟩=false∧w.frozen? ⟨b,1,none⟩=false:=by
 obtain ⟨a,c,e,hc⟩:=h.own.form
 refine ⟨a,c,e,hc,?_,?_,?_,frozen_of_row w b 0 _ _ h.1,frozen_of_row w b 1 _ _ h.1⟩
 ·rw [cell_of_row w b 0 _ _ _ h.1,←e];rfl
 ·rw [cell_of_row w b 1 _ _ _ h.1];rfl
 ·rw [cell_of_row w b 2 _ _ _ h.1];rfl
theorem Fx.below {b C:Nat}{v v':Value}{w w':World}(h:Fx b v v' w w') (hC:C≤w.heap.size) (hb:C≤b) (hv:∀ k,v.ownBlock=some k→C≤k):Below C w w' :=
 h.1.below (fun k hk hs=>by
  rcases hs with e | e
  ·omega
  ·have:=hv k e;omega) hC
theorem Fi.fr {B b:Nat}{v v':Value}{w0 w':World}{xs:List Int}{n R:Nat}(h:Fi B w0 b v xs n R) (k:Fx b v v' w0 w') (hB:B≤w0.heap.size):Below B w0 w':=k.below hB h.2.1 (fun i hi=>(h.own.lt i hi).1)
theorem Fi.put {B:Nat}{w w':World}{b:Nat}{v v':Value}{xs ys:List Int}{n R:Nat}(h:Fi B w b v xs n R) (hown:Ow B w' v' ys) (hfr:Fr (fun k=>v.ownBlock=some k) w w') (hy:Byt ys) (hl:ys.length≤R)
  (hv:∀ k,v'.ownBlock=some k→v.ownBlock=some k∨w.heap.size≤k):Fi B (w'.setCell ⟨b,0,none⟩ v') b v' ys n R∧Fx b v v' w (w'.setCell ⟨b,0,none⟩ v'):=by
 have hne:=h.ne
 have hb':w'.heap[b]?=some (.cells #[v,.int .i64 n,.int .i64 R] 96 (0,0)):=by rw [hfr.block b h.lt hne];exact h.1
 have hne':v'.ownBlock≠some b:=by
  intro e
  rcases hv b e with e | e
  ·exact hne e
  ·have:=h.lt;omega
 refine ⟨⟨by rw [heap_setCell_same w' b 0 _ _ v' hb'];simp,h.2.1,ownsRow_setCell_other hown hne' _,hy,h.nums.1,hl,h.nums.2.2⟩,?_,hv⟩
 exact (hfr.mono (fun k e=>.inr e)).trans ((Fr.of_set w' b 0 v').mono (fun k e=>.inl e)) (fun _ _ h=>h)
theorem Fi.mark {B:Nat}{w:World}{b:Nat}{v:Value}{xs:List Int}{n R:Nat}(h:Fi B w b v xs n R) (m:Nat) (hm:m≤R) :
  Fi B (w.setCell ⟨b,1,none⟩ (.int .i64 m)) b v xs m R∧Fx b v v w (w.setCell ⟨b,1,none⟩ (.int .i64 m)) :=
 ⟨⟨by rw [heap_setCell_same w b 1 _ _ _ h.1];simp,h.2.1,ownsRow_setCell_other h.own h.ne _,h.byt,hm,h.nums.2.1,h.nums.2.2⟩,(Fr.of_set w b 1 _).mono (fun k e=>.inl e),fun _ h=>.inl h⟩
def appS (R:Nat) (ys xs:List Int) (n:Nat):Int × List Int × Nat:=if xs.length+ys.length≤R then (0,xs++ys,n) else (14,xs,n)
def repS (R:Nat) (ys xs:List Int) (n:Nat):Int × List Int × Nat:=if ys.length≤R then (0,ys,ys.length) else (14,xs,n)
def trimS (k:Int) (xs:List Int) (n:Nat):Int × List Int × Nat:=if 0≤k∧k≤xs.length then (0,xs.take k.toNat,min n k.toNat) else (11,xs,n)
def left (k:Int) (xs:List Int) (n:Nat):Nat:=n+min k.toNat (xs.length - n)
def crashS (k:Int) (xs:List Int) (n:Nat):Int × List Int × Nat:=(0,xs.take (left k xs n),left k xs n)
def Fo (B b R:Nat) (v:Value) (w:World) (r:Int × List Int × Nat) (w':World):Prop:=∃ v',Fi B w' b v' r.2.1 r.2.2 R∧Fx b v v' w w'
theorem Fo.mk {B b R:Nat}{v v':Value}{w w':World}{r:Int × List Int × Nat}{xs:List Int}{n:Nat}{z:Int}(h:Fi B w' b v' xs n R) (k:Fx b v v' w w') (hr:r=(z,xs,n)):Fo B b R v w r w':=by subst hr;exact ⟨v',h,k⟩
def Fe (r:Int × List Int × Nat) (e:Ending):Prop:=e=.returned (.int .i64 r.1)
theorem Fe.mk {r:Int × List Int × Nat}{xs:List Int}{n:Nat}{z:Int}(hr:r=(z,xs,n)):Fe r (.returned (.int .i64 z)):=by subst hr;rfl
theorem Fe.out {r:Int × List Int × Nat}{xs:List Int}{n:Nat}{z:Int}{e:Ending}(h:Fe r e) (hr:r=(z,xs,n)):e=.returned (.int .i64 z):=by subst hr;exact h
theorem Fo.out {B b R:Nat}{v:Value}{w w':World}{r:Int × List Int × Nat}{xs:List Int}{n:Nat}{z:Int}(h:Fo B b R v w r w') (hr:r=(z,xs,n)):∃ v',Fi B w' b v' xs n R∧Fx b v v' w w':=by subst hr;exact h
set_option maxHeartbeats 1000000 in
theorem qkf (v:Value) (xs:List Int) (w:World) (h:Bs w v xs) (hn:xs.length≤140737488355328) :
  Calls Tryz.prog 66 #[v] w fun e w'=>∃ v',e=.returned v'∧Ow w.heap.size w' v' xs∧Below w.heap.size w w':=by
 have h':=h
 obtain ⟨a,c,rfl,_⟩:=h
 cases a with
 | none =>
  obtain ⟨rfl,-,rfl⟩:=h'.none_nil
  clear h'
  have q:∀ (w:World) (n c:Nat),(binOp .eql 36 (.slice none n c) (.slice none 0 0)).run Tryz.prog w=.ok (.bool true) w:=fun _ _ _=>rfl
  go_enter Tryz.func66,Tryz.ntmps66
  go_wp2
  go_ret
  exact ⟨_,rfl,Ow.nil _ _,Below.refl _ _⟩
 | some A =>
  have q:∀ w:World,(binOp .eql 36 (.slice (some A) xs.length c) (.slice none 0 0)).run Tryz.prog w=.ok (.bool false) w:=fun _=>rfl
  have HB:=hid h'
  clear h'
  have hown0:(w.alloc (.cells #[] 5)).ownsRow w.heap.size 5 1 (.slice (some ⟨w.heap.size,0,none⟩) 0 0) 0 (cs []):=World.ownsRow_made w #[] 0 (Nat.le_refl _) (Nat.zero_le _) rfl
  go_enter Tryz.func66,Tryz.ntmps66
  go_wp2_with (at_builtin;refine qag rfl (.tmp 5) (.tmp 6) rfl w.heap.size (.slice (some ⟨w.heap.size,0,none⟩) 0 0) 0 [] rfl hown0 _ xs rfl (HB.out.below (ba _ _)) (by omega) (by simp) ?_;intro v' w1 hown hgrow _)
  have hb:Below w.heap.size w w1:=(ba w _).grown hgrow (by simp) (by intro k hk;simp [Value.ownBlock] at hk;omega)
  have hO:Ow w.heap.size w1 v' xs:=by simpa [Ow] using hown
  clear hown hgrow hown0
  go_wp2
  go_ret
  exact ⟨_,rfl,hO,hb⟩
theorem jbo (n:Nat) (k:Nat) (h:k<4):(C.le n).take (k+1)=(C.le n).take k++[(n:Int) / 2 ^ (8*k) % 256]:=by
 have:k=0∨k=1∨k=2∨k=3:=by omega
 rcases this with rfl | rfl | rfl | rfl<;>simp [C.le]
set_option maxHeartbeats 1000000 in
theorem qjy (v:Value) (xs:List Int) (m n base:Nat) (w:World) (h:w.ownsRow base 5 1 v m (cs xs)) (hb:base≤w.heap.size) (hm:m≤281474976710656) (hn:n<4294967296) (hm2:m+4≤140737488355328) :
  Calls Tryz.prog 106 #[v,.int .i64 n] w fun e w'=>∃ v',e=.returned v'∧w'.ownsRow base 5 1 v' (m+4) (cs (xs++C.le n))∧Below base w w':=by
 obtain ⟨i0,hi,hz0,hz1,hz2⟩:=info_parts qei
 go_enter Tryz.func106,Tryz.ntmps106
 go_wp2
 go_loopw [0,6] (fun u i wr=>∃ k:Nat,k≤4∧i=.int .i64 k∧wr.ownsRow base 5 1 u (m+k) (cs (xs++(C.le n).take k))∧Below base w wr) (fun _ i _=>4 - (intOf i).toNat)
 case atStart=>exact ⟨0,Nat.zero_le _,rfl,by simpa using h,Below.refl _ _⟩
 case round =>
  clear h
  obtain ⟨k,hk,rfl,hown,bel⟩:=hrel
  by_cases hlt:k<4
  ·have hst:=hid (jbo n k hlt)
   have hlt':(k:Int)<4:=by omega
   have hbw:base≤wr.heap.size:=Nat.le_trans hb bel.size
   have hown1:=hown.alloc (.cells #[.int .u8 ((n:Int) / 2 ^ (8*k) % 256)] 5)
   go_wp2_with (at_builtin;refine wpList_append_own _ rfl (.tmp 9) (.tmp 15) 36 rfl base 5 i0 (.int .u8 0) 1 1 Tryz.underlying36 hi hz0 hz1 hz2 rfl (by decide) _ _ _ rfl hown1 ⟨wr.heap.size,0,none⟩ 1 1 (cs [(n:Int) / 2 ^ (8*k) % 256]) rfl rfl ?c1 ?c2 ?c3 ?c4 ?c5 ?_)
   case c1 =>
    intro j u hj
    match j,hj with
    | 0,hj=>simp at hj;subst hj;simp [Addr.add]
   case c2=>intro u hu;simp at hu;subst hu;rfl
   case c3=>unfold maxLen;omega
   case c4=>omega
   case c5=>simp;omega
   intro v' w2 hown2 hgrow _
   have b2:Below base w w2:=(bel.alloc hbw _).grown hgrow (by simp;omega) (fun k hk=>(hown.lt k hk).1)
   have H2:=hid hown2
   clear hown2 hown hown1 hgrow bel
   go_wp2
   go_roundw
   case rel =>
    have e2:w2.ownsRow base 5 1 v' (m+(k+1)) (cs (xs++(C.le n).take (k+1))):=by
     have e:cs (xs++(C.le n).take (k+1))=cs (xs++(C.le n).take k)++cs [(n:Int) / 2 ^ (8*k) % 256]:=by
      rw [hst.out];simp [cs]
     rw [e,←Nat.add_assoc]
     have:=H2.out
     simp only [cs,List.map_append,List.map_take,List.map_cons,List.map_nil,List.append_assoc] at this ⊢
     exact this
    have R:∃ k':Nat,k'≤4∧Value.int .i64 ((k:Int)+1)=.int .i64 k'∧w2.ownsRow base 5 1 v' (m+k') (cs (xs++(C.le n).take k'))∧Below base w w2 :=
     ⟨k+1,by omega,by go_num,e2,b2⟩
    first | exact R | ((repeat apply Exists.intro);exact ⟨R,rfl⟩)
   case measure=>simp [intOf];omega
  ·obtain rfl:k=4:=by omega
   go_wp2
   go_ret
   exact ⟨_,rfl,hown,bel⟩
theorem qzb (n:Nat) (w:World) (h:n<4294967296) :
  Calls Tryz.prog 139 #[.int .u32 n] w fun e w'=>e=.returned (.int .u32 (C.step n))∧w=w':=by
 have ha:=qzr n h
 have hx:=qkz (n / 2) 3988292384 (by omega) (by decide)
 have hs:C.step n=if n % 2=1 then (n / 2) ^^^ 3988292384 else n / 2:=rfl
 rw [hs]
 clear hs
 rw [show (((n / 2:Nat)):Int)=(n:Int) / 2 from by omega] at hx
 have hx':bits .xor .u32 ((n:Int) / 2) 3988292384=(((n / 2) ^^^ 3988292384:Nat):Int):=hx
 have HX:=hid hx'
 clear hx hx'
 by_cases h1:n % 2=1
 ·rw [if_pos h1]
  rw [h1] at ha
  go_enter Tryz.func139,Tryz.ntmps139
  go_wp2
  go_ret
  exact ⟨by rw [←HX.out];rfl,rfl⟩
 ·rw [if_neg h1]
  rw [show n % 2=0 by omega] at ha
  go_enter Tryz.func139,Tryz.ntmps139
  go_wp2
  go_ret
  exact ⟨by rfl,rfl⟩
def tabL (k:Nat):List Value:=(List.range 16).map fun i=>.int .u32 (if i<k then (C.steps 4 i:Int) else 0)
def tabA (k:Nat):Array Value:=(tabL k).toArray
theorem qih (k:Nat):(tabL k).length=16:=by simp [tabL]
theorem qqc (k i:Nat) (h:i<16):(tabL k)[i]?=some (.int .u32 (if i<k then (C.steps 4 i:Int) else 0)):=by
 simp [tabL,h]
theorem jaq (k:Nat):(tabL k).set k (.int .u32 (C.steps 4 k))=tabL (k+1):=by
 apply List.ext_getElem?
 intro i
 rw [List.getElem?_set]
 by_cases h:i<16
 ·by_cases e:k=i
  ·subst e
   rw [if_pos rfl,qqc _ _ h,qih,if_pos h,if_pos (by omega)]
  ·rw [if_neg e,qqc _ _ h,qqc _ _ h]
   by_cases h2:i<k
   ·rw [if_pos h2,if_pos (by omega)]
   ·rw [if_neg h2,if_neg (by omega)]
 ·have h1:(tabL (k+1))[i]?=none:=List.getElem?_eq_none (by rw [qih];omega)
  have h2:(tabL k)[i]?=none:=List.getElem?_eq_none (by rw [qih];omega)
  rw [h1,h2,qih]
  by_cases e:k=i
  ·rw [if_pos e,if_neg (by omega)]
  ·rw [if_neg e]
theorem qtn (k i:Nat) (h:i<16):(tabA k)[i]?=some (.int .u32 (if i<k then (C.steps 4 i:Int) else 0)):=by
 rw [tabA,List.getElem?_toArray];exact qqc k i h
theorem qxf (k:Nat):(tabA k).setIfInBounds k (.int .u32 (C.steps 4 k))=tabA (k+1):=by
 rw [tabA,List.setIfInBounds_toArray,jaq];rfl
theorem tabA_0:tabA 0=#[.int .u32 0,.int .u32 0,.int .u32 0,.int .u32 0,.int .u32 0,.int .u32 0,.int .u32 0,.int .u32 0,.int .u32 0,.int .u32 0,.int .u32 0,.int .u32 0,.int .u32 0,.int .u32 0,.int .u32 0,.int .u32 0]:=by rfl
theorem qok:tabA 16=#[.int .u32 0,.int .u32 498536548,.int .u32 997073096,.int .u32 651767980,.int .u32 1994146192,.int .u32 1802195444,.int .u32 1303535960,.int .u32 1342533948,.int .u32 3988292384,.int .u32 4027552580,.int .u32 3604390888,.int .u32 3412177804,.int .u32 2607071920,.int .u32 2262029012,.int .u32 2685067896,.int .u32 3183342108]:=by rfl
set_option maxHeartbeats 1000000 in
theorem qvp (w:World) :
  Calls Tryz.prog 125 #[] w fun e w'=>e=.returned (.agg (tabA 16))∧Below w.heap.size w w':=by
 go_enter Tryz.func125,Tryz.ntmps125
 go_wp2
 go_loopw [4] (fun i wr=>∃ k:Nat,k≤16∧i=.int .i64 k∧wr=(w.alloc (.cells #[.int .u32 0,.int .u32 0,.int .u32 0,.int .u32 0,.int .u32 0,.int .u32 0,.int .u32 0,.int .u32 0,.int .u32 0,.int .u32 0,.int .u32 0,.int .u32 0,.int .u32 0,.int .u32 0,.int .u32 0,.int .u32 0] 155)).alloc (.cells (tabA k) 155)) (fun i _=>16 - (intOf i).toNat)
 case atStart=>exact ⟨0,by omega,rfl,by rw [tabA_0]⟩
 case round =>
  obtain ⟨k,hk,rfl,rfl⟩:=hrel
  by_cases hlt:k<16
  ·have hc:=qtn k k hlt
   rw [if_neg (by omega)] at hc
   have hlt':(k:Int)<16:=by omega
   go_wp2
   go_loop [9,3] (fun j s=>∃ m:Nat,m≤4∧j=.int .i64 m∧s=.int .u32 (C.steps m k:Nat)) (fun j _=>4 - (intOf j).toNat)
   case atStart=>exact ⟨0,by omega,rfl,by simp [C.steps]⟩
   case round =>
    obtain ⟨m,hm,rfl,rfl⟩:=hrel
    have hs:=C.steps_lt m (n:=k) (by omega)
    have hsn:=C.steps_snoc m k
    obtain ⟨s,hs'⟩:∃ s,C.steps m k=s:=⟨_,rfl⟩
    rw [hs'] at hs hsn ⊢
    by_cases hm4:m<4
    ·have hm4':(m:Int)<4:=by omega
     have HS:=hid hsn
     clear hsn hs'
     go_wp2_with (go_at_call 139;refine (qzb _ _ hs).mono ?_;rintro e w' ⟨rfl,rfl⟩)
     go_round
     case rel=>exact ⟨m+1,by omega,by go_num,by rw [HS.out]⟩
     case measure=>simp [intOf];omega
    ·obtain rfl:m=4:=by omega
     have HS:=hid hs'
     clear hs' hsn
     go_wp2
     go_roundw
     case rel=>exact ⟨k+1,by omega,by go_num,by rw [←qxf,HS.out]⟩
     case measure=>simp [intOf];omega
  ·obtain rfl:k=16:=by omega
   rw [qok]
   go_wp2
   refine bodyPost_ret (v:=.agg #[.int .u32 0,.int .u32 498536548,.int .u32 997073096,.int .u32 651767980,.int .u32 1994146192,.int .u32 1802195444,.int .u32 1303535960,.int .u32 1342533948,.int .u32 3988292384,.int .u32 4027552580,.int .u32 3604390888,.int .u32 3412177804,.int .u32 2607071920,.int .u32 2262029012,.int .u32 2685067896,.int .u32 3183342108]) (by simp [results,Tryz.results125,go_sem]) rfl ⟨rfl,?_⟩
   exact ((Below.refl _ _).alloc (Nat.le_refl _) _).alloc (by simp) _
end Go.Proofs.YtkcjkncpaopjbaaGreatDoor
