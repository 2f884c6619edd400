/-
  Parts of the proof, one behind the other; what each proves stands at its head.
-/
import Derived.Test.YtkcjkncpaopjbaaGreatDoorPart18
import Derived.Test.YtkcjkncpaopjbaaGreatDoorPart19
import Derived.Test.YtkcjkncpaopjbaaGreatDoorPart17
import Derived.Test.YtkcjkncpaopjbaaGreatDoorPart13
import Derived.Lib.ConvBytes

namespace Go.Proofs.YtkcjkncpaopjbaaGreatDoor
open Go.RowKit
set_option linter.unusedVariables false
set_option maxRecDepth 100000
section
variable {ops:Array Oper} {rest:List Oper} {p:Oper} {a:Act} {W:World} {Q:Exit→Act→World→Prop} {x y:Operand} {b i:Nat} {T:TypeId} {cells:Array Value}
theorem qak (v:Value) (hw:Region.wanted p (yielded ops a.tmps)=true) (h:(execOp a.eval p).run Tryz.prog W=.ok (.value v) W) (hk:wpList Tryz.prog ops Q rest (a.put p.dst v) W):wpList Tryz.prog ops Q (p::rest) a W :=
 BigFrame.wpList_want hw fun K hK=>by unfold Oper.wp;rw [h];exact hK _ _ hk
theorem qbk (W':World) (hw:Region.wanted p (yielded ops a.tmps)=true) (h:(execOp a.eval p).run Tryz.prog W=.ok .skip W') (hk:wpList Tryz.prog ops Q rest (a.put p.dst undef) W'):wpList Tryz.prog ops Q (p::rest) a W :=
 BigFrame.wpList_want hw fun K hK=>by unfold Oper.wp;rw [h];exact hK _ _ hk
theorem qbl {r n:Int}(ho:p.op=.load 69 x) (hx:a.eval x=.pointer (some ⟨b,i,none⟩)) (h0:W.cell? ⟨b,i,none⟩=some (.int .i64 r)) (h1:W.cell? ⟨b,i+1,none⟩=some (.int .i64 n)):(execOp a.eval p).run Tryz.prog W=.ok (.value (idv r n)) W:=by
 unfold execOp
 simp only [ho,hx]
 simp [go_sem,h0,h1]
theorem qck {r n k:Int}(ho:p.op=.load 71 x) (hx:a.eval x=.pointer (some ⟨b,i,none⟩)) (h0:W.cell? ⟨b,i,none⟩=some (.int .i64 r)) (h1:W.cell? ⟨b,i+1,none⟩=some (.int .i64 n)) (h2:W.cell? ⟨b,i+2,none⟩=some (.int .i64 k)):(execOp a.eval p).run Tryz.prog W=.ok (.value (chv r n k)) W:=by
 unfold execOp
 simp only [ho,hx]
 simp [go_sem,h0,h1,h2]
theorem qal {r:Int}(ho:p.op=.load 3 x) (hx:a.eval x=.pointer (some ⟨b,i,none⟩)) (h0:W.cell? ⟨b,i,none⟩=some (.int .i64 r)):(execOp a.eval p).run Tryz.prog W=.ok (.value (.int .i64 r)) W:=by
 unfold execOp
 simp only [ho,hx]
 simp [go_sem,h0]
theorem qfh {s:ByteArray}(ho:p.op=.load 9 x) (hx:a.eval x=.pointer (some ⟨b,i,none⟩)) (h0:W.cell? ⟨b,i,none⟩=some (.string s)):(execOp a.eval p).run Tryz.prog W=.ok (.value (.string s)) W:=by
 unfold execOp
 simp only [ho,hx]
 simp [go_sem,h0]
theorem qdx {s:Bool}(ho:p.op=.load 4 x) (hx:a.eval x=.pointer (some ⟨b,i,none⟩)) (h0:W.cell? ⟨b,i,none⟩=some (.bool s)):(execOp a.eval p).run Tryz.prog W=.ok (.value (.bool s)) W:=by
 unfold execOp
 simp only [ho,hx]
 simp [go_sem,h0]
theorem qos {v:Value}(ho:p.op=.load 72 x) (hx:a.eval x=.pointer (some ⟨b,i,none⟩)) (h0:W.cell? ⟨b,i,none⟩=some v):(execOp a.eval p).run Tryz.prog W=.ok (.value v) W:=by
 unfold execOp
 simp only [ho,hx]
 simp [go_sem,h0]
theorem qeu {W:World}(h:W.heap[b]?=some (.cells cells T (0,0))) (hi:i<cells.size):∃ z,W.cell? ⟨b,i,none⟩=some z:=⟨cells[i],by rw [cell_of_row W b i _ _ _ h];exact Array.getElem?_eq_getElem hi⟩
theorem qkg {s:ByteArray}(ho:p.op=.store 9 x y) (hx:a.eval x=.pointer (some ⟨b,i,none⟩)) (hy:a.eval y=.string s) (h:W.heap[b]?=some (.cells cells T (0,0))) (hi:i<cells.size):(execOp a.eval p).run Tryz.prog W=.ok .skip (W.setCell ⟨b,i,none⟩ (.string s)):=by
 obtain ⟨z,hz⟩:=qeu (W:=W) h hi
 have hf:=frozen_of_row W b i _ _ h
 unfold execOp
 simp only [ho,hx,hy]
 simp [go_sem,hz,hf]
theorem qon {s:Bool}(ho:p.op=.store 4 x y) (hx:a.eval x=.pointer (some ⟨b,i,none⟩)) (hy:a.eval y=.bool s) (h:W.heap[b]?=some (.cells cells T (0,0))) (hi:i<cells.size):(execOp a.eval p).run Tryz.prog W=.ok .skip (W.setCell ⟨b,i,none⟩ (.bool s)):=by
 obtain ⟨z,hz⟩:=qeu (W:=W) h hi
 have hf:=frozen_of_row W b i _ _ h
 unfold execOp
 simp only [ho,hx,hy]
 simp [go_sem,hz,hf]
theorem qhm {s:Int}(ho:p.op=.store 3 x y) (hx:a.eval x=.pointer (some ⟨b,i,none⟩)) (hy:a.eval y=.int .i64 s) (h:W.heap[b]?=some (.cells cells T (0,0))) (hi:i<cells.size):(execOp a.eval p).run Tryz.prog W=.ok .skip (W.setCell ⟨b,i,none⟩ (.int .i64 s)):=by
 obtain ⟨z,hz⟩:=qeu (W:=W) h hi
 have hf:=frozen_of_row W b i _ _ h
 unfold execOp
 simp only [ho,hx,hy]
 simp [go_sem,hz,hf]
theorem qom {va:Option Addr}{n c:Nat}(ho:p.op=.store 72 x y) (hx:a.eval x=.pointer (some ⟨b,i,none⟩)) (hy:a.eval y=.slice va n c) (h:W.heap[b]?=some (.cells cells T (0,0))) (hi:i<cells.size):(execOp a.eval p).run Tryz.prog W=.ok .skip (W.setCell ⟨b,i,none⟩ (.slice va n c)):=by
 obtain ⟨z,hz⟩:=qeu (W:=W) h hi
 have hf:=frozen_of_row W b i _ _ h
 unfold execOp
 simp only [ho,hx,hy]
 simp [go_sem,hz,hf]
theorem qgs {r n:Int}(ho:p.op=.store 69 x y) (hx:a.eval x=.pointer (some ⟨b,i,none⟩)) (hy:a.eval y=idv r n) (h:W.heap[b]?=some (.cells cells T (0,0))) (hi:i+1<cells.size):(execOp a.eval p).run Tryz.prog W=.ok .skip ((W.setCell ⟨b,i,none⟩ (.int .i64 r)).setCell ⟨b,i+1,none⟩ (.int .i64 n)):=by
 obtain ⟨z,hz⟩:=qeu (W:=W) h (show i<cells.size by omega)
 have hf:=frozen_of_row W b i _ _ h
 have h':=set_row (i:=i) h (.int .i64 r)
 obtain ⟨z1,hz1⟩:=qeu (i:=i+1) (W:=W.setCell ⟨b,i,none⟩ (.int .i64 r)) h' (by simpa using hi)
 have hf1:=frozen_of_row (W.setCell ⟨b,i,none⟩ (.int .i64 r)) b (i+1) _ _ h'
 unfold execOp
 simp only [ho,hx,hy]
 simp [go_sem,hz,hf,hz1,hf1]
theorem qiy {r n k:Int}(ho:p.op=.store 71 x y) (hx:a.eval x=.pointer (some ⟨b,i,none⟩)) (hy:a.eval y=chv r n k) (h:W.heap[b]?=some (.cells cells T (0,0))) (hi:i+2<cells.size):(execOp a.eval p).run Tryz.prog W=.ok .skip (((W.setCell ⟨b,i,none⟩ (.int .i64 r)).setCell ⟨b,i+1,none⟩ (.int .i64 n)).setCell ⟨b,i+2,none⟩ (.int .i64 k)):=by
 obtain ⟨z,hz⟩:=qeu (W:=W) h (show i<cells.size by omega)
 have hf:=frozen_of_row W b i _ _ h
 have h':=set_row (i:=i) h (.int .i64 r)
 obtain ⟨z1,hz1⟩:=qeu (i:=i+1) (W:=W.setCell ⟨b,i,none⟩ (.int .i64 r)) h' (by simp;omega)
 have hf1:=frozen_of_row (W.setCell ⟨b,i,none⟩ (.int .i64 r)) b (i+1) _ _ h'
 have h'':=set_row (i:=i+1) h' (.int .i64 n)
 obtain ⟨z2,hz2⟩:=qeu (i:=i+2) (W:=(W.setCell ⟨b,i,none⟩ (.int .i64 r)).setCell ⟨b,i+1,none⟩ (.int .i64 n)) h'' (by simp;omega)
 have hf2:=frozen_of_row ((W.setCell ⟨b,i,none⟩ (.int .i64 r)).setCell ⟨b,i+1,none⟩ (.int .i64 n)) b (i+2) _ _ h''
 unfold execOp
 simp only [ho,hx,hy]
 simp [go_sem,hz,hf,hz1,hf1,hz2,hf2]
end
theorem qff {i:Nat}(o:Opn) (v:Value) (h:i<20):i<(opl o v).size:=h
section
variable {ops:Array Oper} {rest:List Oper} {p:Oper} {a:Act} {W:World} {Q:Exit→Act→World→Prop} {x y:Operand} {b:Nat} {o:Opn} {v:Value}
theorem qdt {r n:Int}(hw:Region.wanted p (yielded ops a.tmps)=true) (ho:p.op=.store 69 x y) (hx:a.eval x=.pointer (some ⟨b,4,none⟩)) (hy:a.eval y=idv r n) (h:Ob W b o v)
  (hk:∀ W',Ob W' b { o with br:=r,bm:=n } v→Fr (fun k=>k=b) W W'→wpList Tryz.prog ops Q rest (a.put p.dst undef) W'):wpList Tryz.prog ops Q (p::rest) a W :=
 qbk _ hw (qgs ho hx hy h (qff _ _ (by decide))) (hk _ (set_row (i:=5) (set_row (i:=4) h _) _) ((Fr.of_set W b 4 _).set 5 _ (.inr rfl)))
theorem qml {r n:Int}(hw:Region.wanted p (yielded ops a.tmps)=true) (ho:p.op=.store 69 x y) (hx:a.eval x=.pointer (some ⟨b,1,none⟩)) (hy:a.eval y=idv r n) (h:Ob W b o v)
  (hk:∀ W',Ob W' b { o with ir:=r,im:=n } v→Fr (fun k=>k=b) W W'→wpList Tryz.prog ops Q rest (a.put p.dst undef) W'):wpList Tryz.prog ops Q (p::rest) a W :=
 qbk _ hw (qgs ho hx hy h (qff _ _ (by decide))) (hk _ (set_row (i:=2) (set_row (i:=1) h _) _) ((Fr.of_set W b 1 _).set 2 _ (.inr rfl)))
theorem qog {r:Int}(hw:Region.wanted p (yielded ops a.tmps)=true) (ho:p.op=.store 3 x y) (hx:a.eval x=.pointer (some ⟨b,3,none⟩)) (hy:a.eval y=.int .i64 r) (h:Ob W b o v)
  (hk:∀ W',Ob W' b { o with t:=r } v→Fr (fun k=>k=b) W W'→wpList Tryz.prog ops Q rest (a.put p.dst undef) W'):wpList Tryz.prog ops Q (p::rest) a W :=
 qbk _ hw (qhm ho hx hy h (qff _ _ (by decide))) (hk _ (set_row (i:=3) h _) (Fr.of_set W b 3 _))
theorem qci {r n:Int}(hw:Region.wanted p (yielded ops a.tmps)=true) (ho:p.op=.store 69 x y) (hx:a.eval x=.pointer (some ⟨b,6,none⟩)) (hy:a.eval y=idv r n) (h:Ob W b o v)
  (hk:∀ W',Ob W' b { o with pr:=r,pm:=n } v→Fr (fun k=>k=b) W W'→wpList Tryz.prog ops Q rest (a.put p.dst undef) W'):wpList Tryz.prog ops Q (p::rest) a W :=
 qbk _ hw (qgs ho hx hy h (qff _ _ (by decide))) (hk _ (set_row (i:=7) (set_row (i:=6) h _) _) ((Fr.of_set W b 6 _).set 7 _ (.inr rfl)))
theorem qeo {r n:Int}(hw:Region.wanted p (yielded ops a.tmps)=true) (ho:p.op=.store 69 x y) (hx:a.eval x=.pointer (some ⟨b,9,none⟩)) (hy:a.eval y=idv r n) (h:Ob W b o v)
  (hk:∀ W',Ob W' b { o with sr:=r,sm:=n } v→Fr (fun k=>k=b) W W'→wpList Tryz.prog ops Q rest (a.put p.dst undef) W'):wpList Tryz.prog ops Q (p::rest) a W :=
 qbk _ hw (qgs ho hx hy h (qff _ _ (by decide))) (hk _ (set_row (i:=10) (set_row (i:=9) h _) _) ((Fr.of_set W b 9 _).set 10 _ (.inr rfl)))
theorem qec {r n j:Int}(hw:Region.wanted p (yielded ops a.tmps)=true) (ho:p.op=.store 71 x y) (hx:a.eval x=.pointer (some ⟨b,11,none⟩)) (hy:a.eval y=chv r n j) (h:Ob W b o v)
  (hk:∀ W',Ob W' b { o with lr:=r,lm:=n,li:=j } v→Fr (fun k=>k=b) W W'→wpList Tryz.prog ops Q rest (a.put p.dst undef) W'):wpList Tryz.prog ops Q (p::rest) a W :=
 qbk _ hw (qiy ho hx hy h (qff _ _ (by decide))) (hk _ (set_row (i:=13) (set_row (i:=12) (set_row (i:=11) h _) _) _) (((Fr.of_set W b 11 _).set 12 _ (.inr rfl)).set 13 _ (.inr rfl)))
theorem qds {r n j:Int}(hw:Region.wanted p (yielded ops a.tmps)=true) (ho:p.op=.store 71 x y) (hx:a.eval x=.pointer (some ⟨b,14,none⟩)) (hy:a.eval y=chv r n j) (h:Ob W b o v)
  (hk:∀ W',Ob W' b { o with gr:=r,gm:=n,gi:=j } v→Fr (fun k=>k=b) W W'→wpList Tryz.prog ops Q rest (a.put p.dst undef) W'):wpList Tryz.prog ops Q (p::rest) a W :=
 qbk _ hw (qiy ho hx hy h (qff _ _ (by decide))) (hk _ (set_row (i:=16) (set_row (i:=15) (set_row (i:=14) h _) _) _) (((Fr.of_set W b 14 _).set 15 _ (.inr rfl)).set 16 _ (.inr rfl)))
theorem qdn {s:ByteArray}(hw:Region.wanted p (yielded ops a.tmps)=true) (ho:p.op=.store 9 x y) (hx:a.eval x=.pointer (some ⟨b,8,none⟩)) (hy:a.eval y=.string s) (h:Ob W b o v)
  (hk:∀ W',Ob W' b { o with key:=s } v→Fr (fun k=>k=b) W W'→wpList Tryz.prog ops Q rest (a.put p.dst undef) W'):wpList Tryz.prog ops Q (p::rest) a W :=
 qbk _ hw (qkg ho hx hy h (qff _ _ (by decide))) (hk _ (set_row (i:=8) h _) (Fr.of_set W b 8 _))
theorem qfu {s:ByteArray}(hw:Region.wanted p (yielded ops a.tmps)=true) (ho:p.op=.store 9 x y) (hx:a.eval x=.pointer (some ⟨b,17,none⟩)) (hy:a.eval y=.string s) (h:Ob W b o v)
  (hk:∀ W',Ob W' b { o with text:=s } v→Fr (fun k=>k=b) W W'→wpList Tryz.prog ops Q rest (a.put p.dst undef) W'):wpList Tryz.prog ops Q (p::rest) a W :=
 qbk _ hw (qkg ho hx hy h (qff _ _ (by decide))) (hk _ (set_row (i:=17) h _) (Fr.of_set W b 17 _))
theorem qed {va:Option Addr}{n c:Nat}(l:List Ct) (hw:Region.wanted p (yielded ops a.tmps)=true) (ho:p.op=.store 72 x y) (hx:a.eval x=.pointer (some ⟨b,18,none⟩)) (hy:a.eval y=.slice va n c) (h:Ob W b o v)
  (hk:∀ W',Ob W' b { o with cuts:=l } (.slice va n c)→Fr (fun k=>k=b) W W'→wpList Tryz.prog ops Q rest (a.put p.dst undef) W'):wpList Tryz.prog ops Q (p::rest) a W :=
 qbk _ hw (qom ho hx hy h (qff _ _ (by decide))) (hk _ (set_row (i:=18) h _) (Fr.of_set W b 18 _))
theorem qfv {s:Bool}(hw:Region.wanted p (yielded ops a.tmps)=true) (ho:p.op=.store 4 x y) (hx:a.eval x=.pointer (some ⟨b,19,none⟩)) (hy:a.eval y=.bool s) (h:Ob W b o v)
  (hk:∀ W',Ob W' b { o with flag:=s } v→Fr (fun k=>k=b) W W'→wpList Tryz.prog ops Q rest (a.put p.dst undef) W'):wpList Tryz.prog ops Q (p::rest) a W :=
 qbk _ hw (qon ho hx hy h (qff _ _ (by decide))) (hk _ (set_row (i:=19) h _) (Fr.of_set W b 19 _))
theorem qao (hw:Region.wanted p (yielded ops a.tmps)=true) (ho:p.op=.load 69 x) (hx:a.eval x=.pointer (some ⟨b,4,none⟩)) (h:Ob W b o v) (hk:wpList Tryz.prog ops Q rest (a.put p.dst (idv o.br o.bm)) W):wpList Tryz.prog ops Q (p::rest) a W :=
 qak _ hw (qbl ho hx (h.cell 4) (h.cell 5)) hk
theorem qmm (hw:Region.wanted p (yielded ops a.tmps)=true) (ho:p.op=.load 69 x) (hx:a.eval x=.pointer (some ⟨b,1,none⟩)) (h:Ob W b o v) (hk:wpList Tryz.prog ops Q rest (a.put p.dst (idv o.ir o.im)) W):wpList Tryz.prog ops Q (p::rest) a W :=
 qak _ hw (qbl ho hx (h.cell 1) (h.cell 2)) hk
theorem qcj (hw:Region.wanted p (yielded ops a.tmps)=true) (ho:p.op=.load 69 x) (hx:a.eval x=.pointer (some ⟨b,6,none⟩)) (h:Ob W b o v) (hk:wpList Tryz.prog ops Q rest (a.put p.dst (idv o.pr o.pm)) W):wpList Tryz.prog ops Q (p::rest) a W :=
 qak _ hw (qbl ho hx (h.cell 6) (h.cell 7)) hk
theorem qep (hw:Region.wanted p (yielded ops a.tmps)=true) (ho:p.op=.load 69 x) (hx:a.eval x=.pointer (some ⟨b,9,none⟩)) (h:Ob W b o v) (hk:wpList Tryz.prog ops Q rest (a.put p.dst (idv o.sr o.sm)) W):wpList Tryz.prog ops Q (p::rest) a W :=
 qak _ hw (qbl ho hx (h.cell 9) (h.cell 10)) hk
theorem qee (hw:Region.wanted p (yielded ops a.tmps)=true) (ho:p.op=.load 71 x) (hx:a.eval x=.pointer (some ⟨b,11,none⟩)) (h:Ob W b o v) (hk:wpList Tryz.prog ops Q rest (a.put p.dst (chv o.lr o.lm o.li)) W):wpList Tryz.prog ops Q (p::rest) a W :=
 qak _ hw (qck ho hx (h.cell 11) (h.cell 12) (h.cell 13)) hk
theorem qdw (hw:Region.wanted p (yielded ops a.tmps)=true) (ho:p.op=.load 71 x) (hx:a.eval x=.pointer (some ⟨b,14,none⟩)) (h:Ob W b o v) (hk:wpList Tryz.prog ops Q rest (a.put p.dst (chv o.gr o.gm o.gi)) W):wpList Tryz.prog ops Q (p::rest) a W :=
 qak _ hw (qck ho hx (h.cell 14) (h.cell 15) (h.cell 16)) hk
theorem qai (hw:Region.wanted p (yielded ops a.tmps)=true) (ho:p.op=.load 3 x) (hx:a.eval x=.pointer (some ⟨b,0,none⟩)) (h:Ob W b o v) (hk:wpList Tryz.prog ops Q rest (a.put p.dst (.int .i64 o.k)) W):wpList Tryz.prog ops Q (p::rest) a W :=
 qak _ hw (qal ho hx (h.cell 0)) hk
theorem qit (hw:Region.wanted p (yielded ops a.tmps)=true) (ho:p.op=.load 3 x) (hx:a.eval x=.pointer (some ⟨b,3,none⟩)) (h:Ob W b o v) (hk:wpList Tryz.prog ops Q rest (a.put p.dst (.int .i64 o.t)) W):wpList Tryz.prog ops Q (p::rest) a W :=
 qak _ hw (qal ho hx (h.cell 3)) hk
theorem qdp (hw:Region.wanted p (yielded ops a.tmps)=true) (ho:p.op=.load 9 x) (hx:a.eval x=.pointer (some ⟨b,8,none⟩)) (h:Ob W b o v) (hk:wpList Tryz.prog ops Q rest (a.put p.dst (.string o.key)) W):wpList Tryz.prog ops Q (p::rest) a W :=
 qak _ hw (qfh ho hx (h.cell 8)) hk
theorem qar (hw:Region.wanted p (yielded ops a.tmps)=true) (ho:p.op=.load 9 x) (hx:a.eval x=.pointer (some ⟨b,17,none⟩)) (h:Ob W b o v) (hk:wpList Tryz.prog ops Q rest (a.put p.dst (.string o.text)) W):wpList Tryz.prog ops Q (p::rest) a W :=
 qak _ hw (qfh ho hx (h.cell 17)) hk
theorem qam (hw:Region.wanted p (yielded ops a.tmps)=true) (ho:p.op=.load 72 x) (hx:a.eval x=.pointer (some ⟨b,18,none⟩)) (h:Ob W b o v) (hk:wpList Tryz.prog ops Q rest (a.put p.dst v) W):wpList Tryz.prog ops Q (p::rest) a W :=
 qak _ hw (qos ho hx (h.cell 18)) hk
theorem qfz (hw:Region.wanted p (yielded ops a.tmps)=true) (ho:p.op=.load 4 x) (hx:a.eval x=.pointer (some ⟨b,19,none⟩)) (h:Ob W b o v) (hk:wpList Tryz.prog ops Q rest (a.put p.dst (.bool o.flag)) W):wpList Tryz.prog ops Q (p::rest) a W :=
 qak _ hw (qdx ho hx (h.cell 19)) hk
end
def headO (o:Opn):Opn:={ Opn.zero with k:=o.k,ir:=o.ir,im:=o.im,t:=o.t }
theorem qky (k r n t:Int):Tryz.prog.built 74 [(0,.int .i64 k),(1,idv r n),(2,.int .i64 t)]=some (opl { Opn.zero with k:=k,ir:=r,im:=n,t:=t } (.slice none 0 0)):=by kernel_rfl
theorem qhi {ops:Array Oper}{rest:List Oper}{p:Oper}{a:Act}{w:World}{Q:Exit→Act→World→Prop}(hgd:p.guard=none) (x y z:Operand) (ho:p.op=.build 74 #[(0,x),(1,y),(2,z)]) (o:Opn)
  (h0:a.eval x=.int .i64 o.k) (h1:a.eval y=idv o.ir o.im) (h2:a.eval z=.int .i64 o.t)
  (hk:wpList Tryz.prog ops Q rest (a.put p.dst (opv (headO o) (.slice none 0 0))) w):wpList Tryz.prog ops Q (p::rest) a w:=by
 have e:(Array.map (fun ((i,x):Nat × Operand)=>(i,a.eval x)) #[(0,x),(1,y),(2,z)]).toList=[(0,.int .i64 o.k),(1,idv o.ir o.im),(2,.int .i64 o.t)]:=by simp [h0,h1,h2]
 refine wpList_build hgd 74 #[(0,x),(1,y),(2,z)] ho ?_ ?_
 ·rw [e,qky];rfl
 ·rw [e,qky];exact hk
theorem qaa {w W W':World}{b:Nat}(h:Below w.heap.size w W) (hf:Fr (fun k=>k=b) W W') (hb:w.heap.size≤b):Below w.heap.size w W' :=
 h.trans (hf.below (fun k hk e=>by omega) h.size)
theorem Ob.fr {S:Nat→Prop}{W W':World}{b:Nat}{o:Opn}{v:Value}(h:Ob W b o v) (hf:Fr S W W') (hs:¬ S b):Ob W' b o v:=by
 unfold Ob;rw [hf.block b h.lt hs];exact h
theorem qek {p:Oper}{a:Act}{W:World}(ho:p.op=.alloc 74):(execOp a.eval p).run Tryz.prog W=.ok (.value (.pointer (some ⟨W.heap.size,0,none⟩))) (W.alloc (opo Opn.zero (.slice none 0 0))):=by
 unfold execOp
 simp only [ho]
 kernel_rfl
theorem qby {ops:Array Oper}{rest:List Oper}{p:Oper}{a:Act}{W:World}{Q:Exit→Act→World→Prop}(hw:Region.wanted p (yielded ops a.tmps)=true) (ho:p.op=.alloc 74)
  (hk:∀ W',Ob W' W.heap.size Opn.zero (.slice none 0 0)→Below W.heap.size W W'→W.heap.size<W'.heap.size→wpList Tryz.prog ops Q rest (a.put p.dst (.pointer (some ⟨W.heap.size,0,none⟩))) W'):wpList Tryz.prog ops Q (p::rest) a W :=
 BigFrame.wpList_want hw fun K hK=>by unfold Oper.wp;rw [qek ho];exact hK _ _ (hk _ (Ob.new W _ _) (ba W _) (by simp))
theorem qaj {ops:Array Oper}{rest:List Oper}{p:Oper}{a:Act}{W:World}{Q:Exit→Act→World→Prop}{x y:Operand}{b:Nat}{o o':Opn}{v v':Value}(hgd:p.guard=none) (ho:p.op=.store 74 x y)
  (hx:a.eval x=.pointer (some ⟨b,0,none⟩)) (hy:a.eval y=opv o v) (hv:∃ va n vc,v=.slice va n vc) (h:Ob W b o' v')
  (hk:∀ W',Ob W' b o v→Fr (fun k=>k=b) W W'→wpList Tryz.prog ops Q rest (a.put p.dst undef) W'):wpList Tryz.prog ops Q (p::rest) a W :=
 qcc hgd x y ho b hx o v hv hy o' v' h (hk _ (setRow_heap _ _ _ _ _ _ h) (Fr.of_row W b _))

def keptO (o : Opn) : Opn :=
  if o.k = 1 then { headO o with pr := o.pr, pm := o.pm, key := o.key }
  else if o.k = 2 then { headO o with br := o.br, bm := o.bm, pr := o.pr, pm := o.pm, key := o.key }
  else if o.k = 3 then { headO o with sr := o.sr, sm := o.sm, lr := o.lr, lm := o.lm, li := o.li, gr := o.gr, gm := o.gm, gi := o.gi, text := o.text }
  else if o.k = 4 then { headO o with cuts := o.cuts }
  else if o.k = 5 then { headO o with sr := o.sr, sm := o.sm, lr := o.lr, lm := o.lm, li := o.li, gr := o.gr, gm := o.gm, gi := o.gi, pr := o.pr, pm := o.pm, key := o.key }
  else if o.k = 6 then { headO o with br := o.br, bm := o.bm, flag := o.flag }
  else headO o

def KV (o : Opn) (v u : Value) : Prop := (o.k = 4 → u = v) ∧ (o.k ≠ 4 → u = .slice none 0 0)

set_option maxHeartbeats 8000000 in
theorem qys (A : Value) (o : Opn) (v : Value) (hA : A = opv o v) (w : World) (hC : Cs w v o.cuts) :
    Calls Tryz.prog 77 #[A] w fun e w' => ∃ u, e = .returned (opv (keptO o) u) ∧ Cs w' u (keptO o).cuts ∧ Below w.heap.size w w' ∧ KV o v u := by
  obtain ⟨va, vc, rfl, _, _⟩ := hC.form
  have HAA := hid hA
  have HC := hid hC
  clear hA hC
  have HCN := hid (Cs.nil w)
  obtain ⟨X, hX⟩ : ∃ X, keptO o = X := ⟨_, rfl⟩
  rw [hX]
  have HX := hid hX
  clear hX
  go_enter Tryz.func77, Tryz.ntmps77
  go_upto_region 1 with (first
    | (refine qac rfl (.tmp 0) rfl A rfl o _ HAA.out ?_; intro w1 hob hb1 hlt1; have HO := hid hob; have BB := hid hb1; have hlt1' := hlt1; clear hob hb1 hlt1)
    | (refine qby rfl rfl ?_; intro w2 hz hb2 hlt2; replace HO := hid (HO.out.below hb2); replace BB := hid (bt BB.out hb2); have HZ := hid hz; obtain ⟨r, hr⟩ : ∃ r, w1.heap.size = r := ⟨_, rfl⟩; rw [hr] at HZ hlt1' hlt2; rw [hr]; clear hz hb2 hr))
  go_upto_region 2 with (first
    | (refine qai rfl rfl rfl HO.out ?_) | (refine qmm rfl rfl rfl HO.out ?_) | (refine qit rfl rfl rfl HO.out ?_)
    | (refine qhi rfl _ _ _ rfl o rfl rfl rfl ?_)
    | (refine qby rfl rfl ?_; intro w3 hz hb3 hlt3; replace HO := hid (HO.out.below hb3); replace HZ := hid (HZ.out.below hb3); replace BB := hid (bt BB.out hb3); have HK := hid hz; obtain ⟨kb, hkb⟩ : ∃ r, w2.heap.size = r := ⟨_, rfl⟩; rw [hkb] at HK hlt2; rw [hkb]; clear hz hb3 hkb)
    | (refine qaj rfl rfl rfl rfl ⟨_,_,_,rfl⟩ HK.out ?_; have hbk : ¬ w.heap.size = kb := Nat.ne_of_lt (Nat.lt_trans hlt1' hlt2); have hrk : ¬ r = kb := Nat.ne_of_lt hlt2; have hkB : w.heap.size ≤ kb := Nat.le_of_lt (Nat.lt_trans hlt1' hlt2); have hrB : w.heap.size ≤ r := Nat.le_of_lt hlt1'; intro W' hk' hf'; replace HO := hid (HO.out.fr hf' hbk); replace HZ := hid (HZ.out.fr hf' hrk); replace HK := hid hk'; replace BB := hid (qaa BB.out hf' hkB); clear hk' hf')
    | fail)
  by_cases h1 : o.k = 1
  · go_wp2_with (first | (refine qai rfl rfl rfl HO.out ?_) | (refine qcj rfl rfl rfl HO.out ?_) | (refine qdp rfl rfl rfl HO.out ?_) | (refine qci rfl rfl rfl rfl HK.out ?_; intro W' hk' hf'; replace HO := hid (HO.out.fr hf' hbk); replace HZ := hid (HZ.out.fr hf' hrk); replace HK := hid hk'; replace BB := hid (qaa BB.out hf' hkB); clear hk' hf') | (refine qdn rfl rfl rfl rfl HK.out ?_; intro W' hk' hf'; replace HO := hid (HO.out.fr hf' hbk); replace HZ := hid (HZ.out.fr hf' hrk); replace HK := hid hk'; replace BB := hid (qaa BB.out hf' hkB); clear hk' hf') | (refine qae rfl (.tmp 3) rfl kb rfl _ _ HK.out ?_) | (refine qaj rfl rfl rfl rfl ⟨_,_,_,rfl⟩ HZ.out ?_; intro W' hk' hf'; replace HZ := hid hk'; replace BB := hid (qaa BB.out hf' hrB); clear hk' hf') | fail)
    refine bodyPost_ret (results_cell_row rfl _ _ r 74 _ (0, 0) _ rfl HZ.out Tryz.underlying74 rfl (by kernel_rfl)) rfl ?_
    have hx := HX.out
    unfold keptO at hx
    rw [if_pos h1] at hx
    subst hx
    exact ⟨_, rfl, HCN.out.below BB.out, BB.out, ⟨fun e => absurd (h1.symm.trans e) (by decide), fun _ => rfl⟩⟩
  by_cases h2 : o.k = 2
  · go_wp2_with (first | (refine qai rfl rfl rfl HO.out ?_) | (refine qao rfl rfl rfl HO.out ?_) | (refine qcj rfl rfl rfl HO.out ?_) | (refine qdp rfl rfl rfl HO.out ?_) | (refine qdt rfl rfl rfl rfl HK.out ?_; intro W' hk' hf'; replace HO := hid (HO.out.fr hf' hbk); replace HZ := hid (HZ.out.fr hf' hrk); replace HK := hid hk'; replace BB := hid (qaa BB.out hf' hkB); clear hk' hf') | (refine qci rfl rfl rfl rfl HK.out ?_; intro W' hk' hf'; replace HO := hid (HO.out.fr hf' hbk); replace HZ := hid (HZ.out.fr hf' hrk); replace HK := hid hk'; replace BB := hid (qaa BB.out hf' hkB); clear hk' hf') | (refine qdn rfl rfl rfl rfl HK.out ?_; intro W' hk' hf'; replace HO := hid (HO.out.fr hf' hbk); replace HZ := hid (HZ.out.fr hf' hrk); replace HK := hid hk'; replace BB := hid (qaa BB.out hf' hkB); clear hk' hf') | (refine qae rfl (.tmp 3) rfl kb rfl _ _ HK.out ?_) | (refine qaj rfl rfl rfl rfl ⟨_,_,_,rfl⟩ HZ.out ?_; intro W' hk' hf'; replace HZ := hid hk'; replace BB := hid (qaa BB.out hf' hrB); clear hk' hf') | fail)
    refine bodyPost_ret (results_cell_row rfl _ _ r 74 _ (0, 0) _ rfl HZ.out Tryz.underlying74 rfl (by kernel_rfl)) rfl ?_
    have hx := HX.out
    unfold keptO at hx
    rw [if_neg h1, if_pos h2] at hx
    subst hx
    exact ⟨_, rfl, HCN.out.below BB.out, BB.out, ⟨fun e => absurd (h2.symm.trans e) (by decide), fun _ => rfl⟩⟩
  by_cases h3 : o.k = 3
  · go_wp2_with (first | (refine qai rfl rfl rfl HO.out ?_) | (refine qep rfl rfl rfl HO.out ?_) | (refine qee rfl rfl rfl HO.out ?_) | (refine qdw rfl rfl rfl HO.out ?_) | (refine qar rfl rfl rfl HO.out ?_) | (refine qeo rfl rfl rfl rfl HK.out ?_; intro W' hk' hf'; replace HO := hid (HO.out.fr hf' hbk); replace HZ := hid (HZ.out.fr hf' hrk); replace HK := hid hk'; replace BB := hid (qaa BB.out hf' hkB); clear hk' hf') | (refine qec rfl rfl rfl rfl HK.out ?_; intro W' hk' hf'; replace HO := hid (HO.out.fr hf' hbk); replace HZ := hid (HZ.out.fr hf' hrk); replace HK := hid hk'; replace BB := hid (qaa BB.out hf' hkB); clear hk' hf') | (refine qds rfl rfl rfl rfl HK.out ?_; intro W' hk' hf'; replace HO := hid (HO.out.fr hf' hbk); replace HZ := hid (HZ.out.fr hf' hrk); replace HK := hid hk'; replace BB := hid (qaa BB.out hf' hkB); clear hk' hf') | (refine qfu rfl rfl rfl rfl HK.out ?_; intro W' hk' hf'; replace HO := hid (HO.out.fr hf' hbk); replace HZ := hid (HZ.out.fr hf' hrk); replace HK := hid hk'; replace BB := hid (qaa BB.out hf' hkB); clear hk' hf') | (refine qae rfl (.tmp 3) rfl kb rfl _ _ HK.out ?_) | (refine qaj rfl rfl rfl rfl ⟨_,_,_,rfl⟩ HZ.out ?_; intro W' hk' hf'; replace HZ := hid hk'; replace BB := hid (qaa BB.out hf' hrB); clear hk' hf') | fail)
    refine bodyPost_ret (results_cell_row rfl _ _ r 74 _ (0, 0) _ rfl HZ.out Tryz.underlying74 rfl (by kernel_rfl)) rfl ?_
    have hx := HX.out
    unfold keptO at hx
    rw [if_neg h1, if_neg h2, if_pos h3] at hx
    subst hx
    exact ⟨_, rfl, HCN.out.below BB.out, BB.out, ⟨fun e => absurd (h3.symm.trans e) (by decide), fun _ => rfl⟩⟩
  by_cases h4 : o.k = 4
  · go_wp2_with (first | (refine qai rfl rfl rfl HO.out ?_) | (refine qam rfl rfl rfl HO.out ?_) | (refine qed o.cuts rfl rfl rfl rfl HK.out ?_; intro W' hk' hf'; replace HO := hid (HO.out.fr hf' hbk); replace HZ := hid (HZ.out.fr hf' hrk); replace HK := hid hk'; replace BB := hid (qaa BB.out hf' hkB); clear hk' hf') | (refine qae rfl (.tmp 3) rfl kb rfl _ _ HK.out ?_) | (refine qaj rfl rfl rfl rfl ⟨_,_,_,rfl⟩ HZ.out ?_; intro W' hk' hf'; replace HZ := hid hk'; replace BB := hid (qaa BB.out hf' hrB); clear hk' hf') | fail)
    refine bodyPost_ret (results_cell_row rfl _ _ r 74 _ (0, 0) _ rfl HZ.out Tryz.underlying74 rfl (by kernel_rfl)) rfl ?_
    have hx := HX.out
    unfold keptO at hx
    rw [if_neg h1, if_neg h2, if_neg h3, if_pos h4] at hx
    subst hx
    exact ⟨_, rfl, HC.out.below BB.out, BB.out, ⟨fun _ => rfl, fun e => absurd h4 e⟩⟩
  by_cases h5 : o.k = 5
  · go_wp2_with (first | (refine qai rfl rfl rfl HO.out ?_) | (refine qep rfl rfl rfl HO.out ?_) | (refine qee rfl rfl rfl HO.out ?_) | (refine qdw rfl rfl rfl HO.out ?_) | (refine qcj rfl rfl rfl HO.out ?_) | (refine qdp rfl rfl rfl HO.out ?_) | (refine qeo rfl rfl rfl rfl HK.out ?_; intro W' hk' hf'; replace HO := hid (HO.out.fr hf' hbk); replace HZ := hid (HZ.out.fr hf' hrk); replace HK := hid hk'; replace BB := hid (qaa BB.out hf' hkB); clear hk' hf') | (refine qec rfl rfl rfl rfl HK.out ?_; intro W' hk' hf'; replace HO := hid (HO.out.fr hf' hbk); replace HZ := hid (HZ.out.fr hf' hrk); replace HK := hid hk'; replace BB := hid (qaa BB.out hf' hkB); clear hk' hf') | (refine qds rfl rfl rfl rfl HK.out ?_; intro W' hk' hf'; replace HO := hid (HO.out.fr hf' hbk); replace HZ := hid (HZ.out.fr hf' hrk); replace HK := hid hk'; replace BB := hid (qaa BB.out hf' hkB); clear hk' hf') | (refine qci rfl rfl rfl rfl HK.out ?_; intro W' hk' hf'; replace HO := hid (HO.out.fr hf' hbk); replace HZ := hid (HZ.out.fr hf' hrk); replace HK := hid hk'; replace BB := hid (qaa BB.out hf' hkB); clear hk' hf') | (refine qdn rfl rfl rfl rfl HK.out ?_; intro W' hk' hf'; replace HO := hid (HO.out.fr hf' hbk); replace HZ := hid (HZ.out.fr hf' hrk); replace HK := hid hk'; replace BB := hid (qaa BB.out hf' hkB); clear hk' hf') | (refine qae rfl (.tmp 3) rfl kb rfl _ _ HK.out ?_) | (refine qaj rfl rfl rfl rfl ⟨_,_,_,rfl⟩ HZ.out ?_; intro W' hk' hf'; replace HZ := hid hk'; replace BB := hid (qaa BB.out hf' hrB); clear hk' hf') | fail)
    refine bodyPost_ret (results_cell_row rfl _ _ r 74 _ (0, 0) _ rfl HZ.out Tryz.underlying74 rfl (by kernel_rfl)) rfl ?_
    have hx := HX.out
    unfold keptO at hx
    rw [if_neg h1, if_neg h2, if_neg h3, if_neg h4, if_pos h5] at hx
    subst hx
    exact ⟨_, rfl, HCN.out.below BB.out, BB.out, ⟨fun e => absurd (h5.symm.trans e) (by decide), fun _ => rfl⟩⟩
  by_cases h6 : o.k = 6
  · go_wp2_with (first | (refine qai rfl rfl rfl HO.out ?_) | (refine qao rfl rfl rfl HO.out ?_) | (refine qfz rfl rfl rfl HO.out ?_) | (refine qdt rfl rfl rfl rfl HK.out ?_; intro W' hk' hf'; replace HO := hid (HO.out.fr hf' hbk); replace HZ := hid (HZ.out.fr hf' hrk); replace HK := hid hk'; replace BB := hid (qaa BB.out hf' hkB); clear hk' hf') | (refine qfv rfl rfl rfl rfl HK.out ?_; intro W' hk' hf'; replace HO := hid (HO.out.fr hf' hbk); replace HZ := hid (HZ.out.fr hf' hrk); replace HK := hid hk'; replace BB := hid (qaa BB.out hf' hkB); clear hk' hf') | (refine qae rfl (.tmp 3) rfl kb rfl _ _ HK.out ?_) | (refine qaj rfl rfl rfl rfl ⟨_,_,_,rfl⟩ HZ.out ?_; intro W' hk' hf'; replace HZ := hid hk'; replace BB := hid (qaa BB.out hf' hrB); clear hk' hf') | fail)
    refine bodyPost_ret (results_cell_row rfl _ _ r 74 _ (0, 0) _ rfl HZ.out Tryz.underlying74 rfl (by kernel_rfl)) rfl ?_
    have hx := HX.out
    unfold keptO at hx
    rw [if_neg h1, if_neg h2, if_neg h3, if_neg h4, if_neg h5, if_pos h6] at hx
    subst hx
    exact ⟨_, rfl, HCN.out.below BB.out, BB.out, ⟨fun e => absurd (h6.symm.trans e) (by decide), fun _ => rfl⟩⟩
  go_wp2_with (first | (refine qai rfl rfl rfl HO.out ?_) | (refine qae rfl (.tmp 3) rfl kb rfl _ _ HK.out ?_) | (refine qaj rfl rfl rfl rfl ⟨_,_,_,rfl⟩ HZ.out ?_; intro W' hk' hf'; replace HZ := hid hk'; replace BB := hid (qaa BB.out hf' hrB); clear hk' hf') | fail)
  refine bodyPost_ret (results_cell_row rfl _ _ r 74 _ (0, 0) _ rfl HZ.out Tryz.underlying74 rfl (by kernel_rfl)) rfl ?_
  have hx := HX.out
  unfold keptO at hx
  rw [if_neg h1, if_neg h2, if_neg h3, if_neg h4, if_neg h5, if_neg h6] at hx
  subst hx
  exact ⟨_, rfl, HCN.out.below BB.out, BB.out, ⟨fun e => absurd e h4, fun _ => rfl⟩⟩
def keptV (o : Opn) (v : Value) : Value := if o.k = 4 then v else .slice none 0 0
theorem jbq {w : World} {o : Opn} {v : Value} (h : Cs w v o.cuts) : Cs w (keptV o v) (keptO o).cuts := by
  unfold keptV
  by_cases h4 : o.k = 4
  · rw [if_pos h4]
    have e : (keptO o).cuts = o.cuts := by unfold keptO; simp [h4]
    rw [e]; exact h
  · rw [if_neg h4]
    have e : (keptO o).cuts = [] := by unfold keptO headO; simp only [if_neg h4]; repeat' split
                                       all_goals rfl
    rw [e]; exact Cs.nil w
theorem qyt (o : Opn) (v : Value) (w : World) (hC : Cs w v o.cuts) : Calls Tryz.prog 77 #[opv o v] w fun e w' => e = .returned (opv (keptO o) (keptV o v)) ∧ Below w.heap.size w w' :=
  (qys _ o v rfl w hC).mono fun _ _ ⟨u, h1, _, h3, h4, h5⟩ => by
    refine ⟨?_, h3⟩
    rw [h1]
    unfold keptV
    by_cases h : o.k = 4
    · rw [if_pos h, h4 h]
    · rw [if_neg h, h5 h]
section
variable {ops:Array Oper} {rest:List Oper} {p:Oper} {a:Act} {W:World} {Q:Exit→Act→World→Prop} {x y:Operand} {b:Nat} {o:Opn} {v:Value}
theorem qlb {r n:Int}(ho:p.op=.store 69 x y) (hx:a.eval x=.pointer (some ⟨b,1,none⟩)) (hy:a.eval y=idv r n) (h:Ob W b o v) (hw:Region.wanted p (yielded ops a.tmps)=true)
  (hk:∀ W',Ob W' b { o with ir:=r,im:=n } v→Fr (fun k=>k=b) W W'→wpList Tryz.prog ops Q rest (a.put p.dst undef) W'):wpList Tryz.prog ops Q (p::rest) a W:=qml hw ho hx hy h hk
theorem qmj {r:Int}(ho:p.op=.store 3 x y) (hx:a.eval x=.pointer (some ⟨b,3,none⟩)) (hy:a.eval y=.int .i64 r) (h:Ob W b o v) (hw:Region.wanted p (yielded ops a.tmps)=true)
  (hk:∀ W',Ob W' b { o with t:=r } v→Fr (fun k=>k=b) W W'→wpList Tryz.prog ops Q rest (a.put p.dst undef) W'):wpList Tryz.prog ops Q (p::rest) a W:=qog hw ho hx hy h hk
theorem qiq {va:Option Addr}{n c:Nat}(l:List Ct) (ho:p.op=.store 72 x y) (hx:a.eval x=.pointer (some ⟨b,18,none⟩)) (hy:a.eval y=.slice va n c) (h:Ob W b o v) (hw:Region.wanted p (yielded ops a.tmps)=true)
  (hk:∀ W',Ob W' b { o with cuts:=l } (.slice va n c)→Fr (fun k=>k=b) W W'→wpList Tryz.prog ops Q rest (a.put p.dst undef) W'):wpList Tryz.prog ops Q (p::rest) a W:=qed l hw ho hx hy h hk
theorem qew (ho:p.op=.load 69 x) (hx:a.eval x=.pointer (some ⟨b,4,none⟩)) (h:Ob W b o v) (hw:Region.wanted p (yielded ops a.tmps)=true)
  (hk:wpList Tryz.prog ops Q rest (a.put p.dst (idv o.br o.bm)) W):wpList Tryz.prog ops Q (p::rest) a W:=qao hw ho hx h hk
theorem qdb (ho:p.op=.load 69 x) (hx:a.eval x=.pointer (some ⟨b,6,none⟩)) (h:Ob W b o v) (hw:Region.wanted p (yielded ops a.tmps)=true)
  (hk:wpList Tryz.prog ops Q rest (a.put p.dst (idv o.pr o.pm)) W):wpList Tryz.prog ops Q (p::rest) a W:=qcj hw ho hx h hk
theorem qfy (ho:p.op=.load 69 x) (hx:a.eval x=.pointer (some ⟨b,9,none⟩)) (h:Ob W b o v) (hw:Region.wanted p (yielded ops a.tmps)=true)
  (hk:wpList Tryz.prog ops Q rest (a.put p.dst (idv o.sr o.sm)) W):wpList Tryz.prog ops Q (p::rest) a W:=qep hw ho hx h hk
theorem qfc (ho:p.op=.load 71 x) (hx:a.eval x=.pointer (some ⟨b,11,none⟩)) (h:Ob W b o v) (hw:Region.wanted p (yielded ops a.tmps)=true)
  (hk:wpList Tryz.prog ops Q rest (a.put p.dst (chv o.lr o.lm o.li)) W):wpList Tryz.prog ops Q (p::rest) a W:=qee hw ho hx h hk
theorem qev (ho:p.op=.load 71 x) (hx:a.eval x=.pointer (some ⟨b,14,none⟩)) (h:Ob W b o v) (hw:Region.wanted p (yielded ops a.tmps)=true)
  (hk:wpList Tryz.prog ops Q rest (a.put p.dst (chv o.gr o.gm o.gi)) W):wpList Tryz.prog ops Q (p::rest) a W:=qdw hw ho hx h hk
theorem qad (ho:p.op=.load 3 x) (hx:a.eval x=.pointer (some ⟨b,0,none⟩)) (h:Ob W b o v) (hw:Region.wanted p (yielded ops a.tmps)=true)
  (hk:wpList Tryz.prog ops Q rest (a.put p.dst (.int .i64 o.k)) W):wpList Tryz.prog ops Q (p::rest) a W:=qai hw ho hx h hk
theorem qcm (ho:p.op=.load 3 x) (hx:a.eval x=.pointer (some ⟨b,3,none⟩)) (h:Ob W b o v) (hw:Region.wanted p (yielded ops a.tmps)=true)
  (hk:wpList Tryz.prog ops Q rest (a.put p.dst (.int .i64 o.t)) W):wpList Tryz.prog ops Q (p::rest) a W:=qit hw ho hx h hk
theorem qef (ho:p.op=.load 9 x) (hx:a.eval x=.pointer (some ⟨b,8,none⟩)) (h:Ob W b o v) (hw:Region.wanted p (yielded ops a.tmps)=true)
  (hk:wpList Tryz.prog ops Q rest (a.put p.dst (.string o.key)) W):wpList Tryz.prog ops Q (p::rest) a W:=qdp hw ho hx h hk
theorem qis (ho:p.op=.load 9 x) (hx:a.eval x=.pointer (some ⟨b,17,none⟩)) (h:Ob W b o v) (hw:Region.wanted p (yielded ops a.tmps)=true)
  (hk:wpList Tryz.prog ops Q rest (a.put p.dst (.string o.text)) W):wpList Tryz.prog ops Q (p::rest) a W:=qar hw ho hx h hk
theorem qbv (ho:p.op=.load 72 x) (hx:a.eval x=.pointer (some ⟨b,18,none⟩)) (h:Ob W b o v) (hw:Region.wanted p (yielded ops a.tmps)=true)
  (hk:wpList Tryz.prog ops Q rest (a.put p.dst v) W):wpList Tryz.prog ops Q (p::rest) a W:=qam hw ho hx h hk
theorem qiu (ho:p.op=.load 4 x) (hx:a.eval x=.pointer (some ⟨b,19,none⟩)) (h:Ob W b o v) (hw:Region.wanted p (yielded ops a.tmps)=true)
  (hk:wpList Tryz.prog ops Q rest (a.put p.dst (.bool o.flag)) W):wpList Tryz.prog ops Q (p::rest) a W:=qfz hw ho hx h hk
end
abbrev G48:Int:=281474976710656
def Cx (w:World) (c:Nat) (s:St):Prop:=Cur 109 w c s.1 s.2∧Vl s∧s.1.length≤1099511627776
theorem Cx.lt {w:World}{c:Nat}{s:St}(h:Cx w c s):c<w.heap.size:=Cur.lt h.1
theorem Cx.below {w w':World}{c:Nat}{s:St}(h:Cx w c s) (hb:Below w.heap.size w w'):Cx w' c s:=⟨Cur.below h.1 hb,h.2⟩
theorem rt_vl {m:Int}{s:St}(h:Vl s):Vl (rt m s).2:=(qfi m h).1
theorem qfs (c:Nat) (s:St) (most:Int) (w:World) (h:Cx w c s) :
  Calls Tryz.prog 64 #[.pointer (some ⟨c,0,none⟩),.int .i64 most] w fun e w' =>
   e=.returned (.int .i64 (rn most s).1)∧Cx w' c (rn most s).2∧w.grownBy w' (some c) :=
 (qkj c s.1 s.2 most w h.1 h.2.1.2).mono fun _ _ ⟨h1,h2,h3⟩=>⟨h1,⟨h2,qln h.2.1,Nat.le_trans (qbp most s) h.2.2⟩,h3⟩
theorem qsy (c:Nat) (s:St) (most:Int) (w:World) (h:Cx w c s) :
  Calls Tryz.prog 98 #[.pointer (some ⟨c,0,none⟩),.int .i64 most] w fun e w' =>
   e=.returned (.string (rt most s).1)∧Cx w' c (rt most s).2∧w.grownBy w' (some c) :=
 (qov c s.1 s.2 most w h.1 h.2.1.2 (by have:=h.2.2;omega)).mono fun _ _ ⟨h1,h2,h3⟩=>⟨h1,⟨h2,rt_vl h.2.1,Nat.le_trans (qfj most s h.2.1.1).2 h.2.2⟩,h3⟩
theorem Cx.fr {S:Nat→Prop}{w w':World}{c:Nat}{s:St}(h:Cx w c s) (hf:Fr S w w') (hc:¬ S c) (hb:∀ k,S k→∀ j x,w.cell? ⟨k,j,none⟩≠some (.int .u8 x)):Cx w' c s:=by
 obtain ⟨⟨v,h1,a,cp,rfl,h3,h4,h5,h6,h7⟩,h2⟩:=h
 refine ⟨⟨_,hf.rows h1 hc,a,cp,rfl,h3,h4,h5,fun i hi=>?_,h7⟩,h2⟩
 obtain ⟨b,off,e1,e2⟩:=h6 i hi
 refine ⟨b,off,e1,?_⟩
 rw [World.cell?_of_block (w:=w) (hf.block b (World.block_lt_of_cell? _ _ e2) (fun hs=>hb b hs _ _ e2))]
 exact e2
theorem Ob.no_byte {w:World}{b:Nat}{o:Opn}{v:Value}(h:Ob w b o v) (hv:∃ va n vc,v=.slice va n vc):∀ k,k=b→∀ j x,w.cell? ⟨k,j,none⟩≠some (.int .u8 x):=by
 obtain ⟨va,n,vc,rfl⟩:=hv
 intro k hk j x hc
 subst hk
 rw [h.cell j] at hc
 have hj:j<20:=(Array.getElem?_eq_some_iff.1 hc).1
 have hcases:j=0∨j=1∨j=2∨j=3∨j=4∨j=5∨j=6∨j=7∨j=8∨j=9∨j=10∨j=11∨j=12∨j=13∨j=14∨j=15∨j=16∨j=17∨j=18∨j=19:=by omega
 rcases hcases with rfl | rfl | rfl | rfl | rfl | rfl | rfl | rfl | rfl | rfl | rfl | rfl | rfl | rfl | rfl | rfl | rfl | rfl | rfl | rfl<;>simp at hc
theorem Cx.op {w w':World}{c b:Nat}{s:St}{o:Opn}{va:Option Addr}{n vc:Nat}(h:Cx w c s) (hf:Fr (fun k=>k=b) w w') (hc:¬ c=b) (ho:Ob w b o (.slice va n vc)):Cx w' c s:=h.fr hf hc (ho.no_byte ⟨_,_,_,rfl⟩)
theorem Cx.set {w:World}{c b i:Nat}{s:St}{cs:Array Value}{T:TypeId}(h:Cx w c s) (hr:w.heap[b]?=some (.cells cs T (0,0))) (hbc:b≠c) (hi:∃ z,cs[i]?=some z∧∀ x,z≠.int .u8 x) (v:Value):Cx (w.setCell ⟨b,i,none⟩ v) c s:=⟨Cur.set_row h.1 hr hbc hi v,h.2⟩
set_option maxHeartbeats 1000000 in
theorem qnz (c:Nat) (s:St) (w:World) (h:Cx w c s) :
  Calls Tryz.prog 121 #[.pointer (some ⟨c,0,none⟩)] w fun e w' =>
   e=.returned (idv (rn G48 s).1 (rn G48 (rn G48 s).2).1)∧Cx w' c (rn G48 (rn G48 s).2).2∧Fr (fun k=>k=c) w w':=by
 have hlt:=h.lt
 have HA:=hid (ba w (ido 69 0 0))
 have HC:=hid (h.below HA.out)
 have R2:=hid (heap_alloc_new w (ido 69 0 0))
 obtain ⟨p1,hp1⟩:∃ p1,rn G48 s=p1:=⟨_,rfl⟩
 have N1:=hid (fun W=>qfs c s G48 W)
 rw [hp1] at N1 ⊢
 obtain ⟨p2,hp2⟩:∃ p2,rn G48 p1.2=p2:=⟨_,rfl⟩
 have N2:=hid (fun W=>qfs c p1.2 G48 W)
 rw [hp2] at N2 ⊢
 clear h hp1 hp2
 go_enter Tryz.func121,Tryz.ntmps121
 go_wp2_with fail
 refine (N1.out _ HC.out).mono ?_
 rintro e w1 ⟨rfl,hc1,hg1⟩
 have H2:=hid (qax hg1 R2.out (by omega))
 have HC1:=hid hc1
 have HG1:=hid hg1
 clear hc1 hg1
 go_wp2_with fail
 refine (N2.out _ HC1.out).mono ?_
 rintro e w2 ⟨rfl,hc2,hg2⟩
 have H3:=hid (qax hg2 H2.out (by omega))
 have HC2:=hid hc2
 have HG2:=hid hg2
 have q2:w2.cell? ⟨w.heap.size,0,none⟩=some (.int .i64 0):=cell_of_row w2 w.heap.size 0 _ _ _ H3.out
 have q3:w2.cell? ⟨w.heap.size,1,none⟩=some (.int .i64 0):=cell_of_row w2 w.heap.size 1 _ _ _ H3.out
 have f2:=frozen_of_row w2 w.heap.size 0 _ _ H3.out
 have f3:=frozen_of_row w2 w.heap.size 1 _ _ H3.out
 clear hc2 hg2
 go_wp2
 have H4:=set_row (i:=0) H3.out (.int .i64 p1.1)
 have H5:=set_row (i:=1) H4 (.int .i64 p2.1)
 refine bodyPost_ret (results_cell_row rfl _ _ w.heap.size 69 #[.int .i64 p1.1,.int .i64 p2.1] (0,0) _ rfl H5 Tryz.underlying69 rfl (by kernel_rfl)) rfl ?_
 refine ⟨rfl,?_,?_⟩
 ·exact (HC2.out.set H3.out (by omega) ⟨_,rfl,fun x=>by simp⟩ _).set H4 (by omega) ⟨_,rfl,fun x=>by simp⟩ _
 ·have h0:Fr (fun k=>k=c) w w2:=((Fr.of_below HA.out).trans (Fr.grown HG1.out) (fun _ _ h=>h)).trans (Fr.grown HG2.out) (fun _ _ h=>h)
  exact (h0.set 0 _ (.inl (by omega))).set 1 _ (.inl (by omega))
set_option maxHeartbeats 2000000 in
theorem jak (c:Nat) (s:St) (w:World) (h:Cx w c s) :
  Calls Tryz.prog 122 #[.pointer (some ⟨c,0,none⟩)] w fun e w' =>
   e=.returned (chv (rn G48 s).1 (rn G48 (rn G48 s).2).1 (rn G48 (rn G48 (rn G48 s).2).2).1)∧Cx w' c (rn G48 (rn G48 (rn G48 s).2).2).2∧Fr (fun k=>k=c) w w':=by
 have hlt:=h.lt
 have HA:=hid (ba w (cho 0 0 0))
 have HC:=hid (h.below HA.out)
 have R2:=hid (heap_alloc_new w (cho 0 0 0))
 have N1:=hid (fun W=>qnz c s W)
 obtain ⟨p1,hp1⟩:∃ p1,rn G48 s=p1:=⟨_,rfl⟩
 rw [hp1] at N1 ⊢
 obtain ⟨p2,hp2⟩:∃ p2,rn G48 p1.2=p2:=⟨_,rfl⟩
 rw [hp2] at N1 ⊢
 have N2:=hid (fun W=>qfs c p2.2 G48 W)
 obtain ⟨p3,hp3⟩:∃ p3,rn G48 p2.2=p3:=⟨_,rfl⟩
 rw [hp3] at N2 ⊢
 clear h hp1 hp2 hp3
 go_enter Tryz.func122,Tryz.ntmps122
 go_wp2_with fail
 refine (N1.out _ HC.out).mono ?_
 rintro e w1 ⟨rfl,hc1,hf1⟩
 have H2:=hid (hf1.rows R2.out (by omega))
 have HF1:=hid ((Fr.of_below HA.out).trans hf1 (fun _ _ h=>h))
 have hs1:w.heap.size<w1.heap.size:=(Array.getElem?_eq_some_iff.1 H2.out).1
 have HA2:=hid (ba w1 (ido 69 p1.1 p2.1))
 have HC1:=hid (hc1.below HA2.out)
 have H4:=hid (((Fr.of_below HA2.out:Fr (fun k=>k=c) _ _)).rows H2.out (by omega))
 have H5:=hid (heap_alloc_new w1 (ido 69 p1.1 p2.1))
 clear hc1 hf1
 go_wp2_with fail
 go_region_law (go_simp;go_at_call 64;refine (N2.out (w1.alloc (ido 69 p1.1 p2.1)).drew HC1.out).mono ?_;rintro e w2 ⟨rfl,hc2,hg2⟩;have HG2:=hid hg2;have HC2:=hid hc2;have H6:=hid (qax hg2 H4.out (by omega));have H7:=hid (qax hg2 H5.out (by omega));have t0:=cell_of_row w2 _ 0 _ _ _ H6.out;have t1:=cell_of_row w2 _ 1 _ _ _ H6.out;have t2:=cell_of_row w2 _ 2 _ _ _ H6.out;have g0:=frozen_of_row w2 _ 0 _ _ H6.out;have g1:=frozen_of_row w2 _ 1 _ _ H6.out;have g2:=frozen_of_row w2 _ 2 _ _ H6.out;have u0:=cell_of_row w2 _ 0 _ _ _ H7.out;have u1:=cell_of_row w2 _ 1 _ _ _ H7.out;simp at t0 t1 t2 u0 u1)
 all_goals
  go_wp2
  have K1:=set_row (i:=0) H6.out (.int .i64 p1.1)
  have K2:=set_row (i:=1) K1 (.int .i64 p2.1)
  have K3:=set_row (i:=2) K2 (.int .i64 p3.1)
  refine bodyPost_ret (results_cell_row rfl _ _ w.heap.size 71 #[.int .i64 p1.1,.int .i64 p2.1,.int .i64 p3.1] (0,0) _ rfl K3 Tryz.underlying71 rfl (by kernel_rfl)) rfl ?_
  refine ⟨rfl,?_,?_⟩
  ·exact ((HC2.out.set H6.out (by omega) ⟨_,rfl,fun x=>by simp⟩ _).set K1 (by omega) ⟨_,rfl,fun x=>by simp⟩ _).set K2 (by omega) ⟨_,rfl,fun x=>by simp⟩ _
  ·have h0:Fr (fun k=>k=c) w w2:=(HF1.out.trans (Fr.of_below ((HA2.out).drew):Fr (fun k=>k=c) _ _) (fun _ _ h=>h)).trans (Fr.grown HG2.out) (fun _ _ h=>h)
   exact ((h0.set 0 _ (.inl (by omega))).set 1 _ (.inl (by omega))).set 2 _ (.inl (by omega))
theorem tobytes (s:ByteArray) (w:World) (hs:s.size≤1099511627776):∃ u w',(convert 9 36 (.string s)).run Tryz.prog w=.ok u w'∧Bs w' u (tx s)∧Below w.heap.size w w':=by
 have hl:(tx s).length=s.size:=qaw s
 refine ⟨_,_,Lib.run_convert_string_bytes w 9 36 5 s Tryz.underlying9 Tryz.underlying36 Tryz.underlying5,?_,?_⟩
 ·refine ⟨some ⟨w.heap.size,0,none⟩,grownCap w s.size 0 5,by rw [hl],by rw [hl];exact grownCap_ge _ _ _ _,grownCap_le_maxLen _ _ _ _ (by unfold maxLen;omega),fun h=>(by cases h),fun i hi=>⟨w.heap.size,0,rfl,?_⟩,fun x hx=>M.ofStr_byte s x hx⟩
  rw [hl] at hi
  rw [Nat.zero_add,Lib.bytesWorld_cell w 5 s i hi]
  have hi':i<s.data.size:=hi
  simp [tx,List.getD,Array.getElem?_eq_getElem hi']
 ·exact ⟨rfl,rfl,rfl,by rw [Lib.bytesWorld_size];omega,fun k hk=>Lib.bytesWorld_at_old w 5 s k hk⟩
end Go.Proofs.YtkcjkncpaopjbaaGreatDoor
