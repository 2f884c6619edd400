/-
  Parts of the proof, one behind the other; what each proves stands at its head.
-/
import Derived.Test.YtaojeanoojnknaaDoorPart14
import Derived.Test.YtaojeanoojnknaaDoorPart18
import Derived.Test.YtaojeanoojnknaaDoorPart13
import Derived.Test.YtaojeanoojnknaaDoorPart10
import Derived.Lib.ConvBytes

/-
  A field of an op in its block: loads and stores, as laws of the walk.
-/
namespace Go.Proofs.YtaojeanoojnknaaDoor
open Go.RowKit
set_option linter.unusedVariables false
set_option maxRecDepth 100000

section
variable {ops : Array Oper} {rest : List Oper} {p : Oper} {a : Act} {W : World} {Q : Exit → Act → World → Prop} {x y : Operand} {b i : Nat} {T : TypeId} {cells : Array Value}
theorem wpList_val (v : Value) (hw : Region.wanted p (yielded ops a.tmps) = true) (h : (execOp a.eval p).run Tryd.prog W = .ok (.value v) W) (hk : wpList Tryd.prog ops Q rest (a.put p.dst v) W) : wpList Tryd.prog ops Q (p :: rest) a W :=
  BigFrame.wpList_want hw fun K hK => by unfold Oper.wp; rw [h]; exact hK _ _ hk
theorem wpList_nil (W' : World) (hw : Region.wanted p (yielded ops a.tmps) = true) (h : (execOp a.eval p).run Tryd.prog W = .ok .skip W') (hk : wpList Tryd.prog ops Q rest (a.put p.dst undef) W') : wpList Tryd.prog ops Q (p :: rest) a W :=
  BigFrame.wpList_want hw fun K hK => by unfold Oper.wp; rw [h]; exact hK _ _ hk

theorem run_ld_id {r n : Int} (ho : p.op = .load 38 x) (hx : a.eval x = .pointer (some ⟨b, i, none⟩)) (h0 : W.cell? ⟨b, i, none⟩ = some (.int .i64 r)) (h1 : W.cell? ⟨b, i + 1, none⟩ = some (.int .i64 n)) : (execOp a.eval p).run Tryd.prog W = .ok (.value (idv r n)) W := by
  unfold execOp
  simp only [ho, hx]
  simp [go_sem, h0, h1]
theorem run_ld_char {r n k : Int} (ho : p.op = .load 40 x) (hx : a.eval x = .pointer (some ⟨b,i,none⟩)) (h0 : W.cell? ⟨b,i,none⟩ = some (.int .i64 r)) (h1 : W.cell? ⟨b,i + 1,none⟩ = some (.int .i64 n)) (h2 : W.cell? ⟨b,i + 2,none⟩ = some (.int .i64 k)) : (execOp a.eval p).run Tryd.prog W = .ok (.value (chv r n k)) W := by
  unfold execOp
  simp only [ho, hx]
  simp [go_sem, h0, h1, h2]
theorem run_ld_int {r : Int} (ho : p.op = .load 3 x) (hx : a.eval x = .pointer (some ⟨b, i, none⟩)) (h0 : W.cell? ⟨b, i, none⟩ = some (.int .i64 r)) : (execOp a.eval p).run Tryd.prog W = .ok (.value (.int .i64 r)) W := by
  unfold execOp
  simp only [ho, hx]
  simp [go_sem, h0]
theorem run_ld_str {s : ByteArray} (ho : p.op = .load 9 x) (hx : a.eval x = .pointer (some ⟨b, i, none⟩)) (h0 : W.cell? ⟨b, i, none⟩ = some (.string s)) : (execOp a.eval p).run Tryd.prog W = .ok (.value (.string s)) W := by
  unfold execOp
  simp only [ho, hx]
  simp [go_sem, h0]
theorem run_ld_bool {s : Bool} (ho : p.op = .load 4 x) (hx : a.eval x = .pointer (some ⟨b, i, none⟩)) (h0 : W.cell? ⟨b, i, none⟩ = some (.bool s)) : (execOp a.eval p).run Tryd.prog W = .ok (.value (.bool s)) W := by
  unfold execOp
  simp only [ho, hx]
  simp [go_sem, h0]
theorem run_ld_cuts {v : Value} (ho : p.op = .load 41 x) (hx : a.eval x = .pointer (some ⟨b, i, none⟩)) (h0 : W.cell? ⟨b, i, none⟩ = some v) : (execOp a.eval p).run Tryd.prog W = .ok (.value v) W := by
  unfold execOp
  simp only [ho, hx]
  simp [go_sem, h0]

theorem cell_in {W : World} (h : W.heap[b]? = some (.cells cells T (0, 0))) (hi : i < cells.size) : ∃ z, W.cell? ⟨b, i, none⟩ = some z := ⟨cells[i], by rw [cell_of_row W b i _ _ _ h]; exact Array.getElem?_eq_getElem hi⟩
theorem run_st_str {s : ByteArray} (ho : p.op = .store 9 x y) (hx : a.eval x = .pointer (some ⟨b, i, none⟩)) (hy : a.eval y = .string s) (h : W.heap[b]? = some (.cells cells T (0, 0))) (hi : i < cells.size) : (execOp a.eval p).run Tryd.prog W = .ok .skip (W.setCell ⟨b, i, none⟩ (.string s)) := by
  obtain ⟨z, hz⟩ := cell_in (W := W) h hi
  have hf := frozen_of_row W b i _ _ h
  unfold execOp
  simp only [ho, hx, hy]
  simp [go_sem, hz, hf]
theorem run_st_bool {s : Bool} (ho : p.op = .store 4 x y) (hx : a.eval x = .pointer (some ⟨b, i, none⟩)) (hy : a.eval y = .bool s) (h : W.heap[b]? = some (.cells cells T (0, 0))) (hi : i < cells.size) : (execOp a.eval p).run Tryd.prog W = .ok .skip (W.setCell ⟨b, i, none⟩ (.bool s)) := by
  obtain ⟨z, hz⟩ := cell_in (W := W) h hi
  have hf := frozen_of_row W b i _ _ h
  unfold execOp
  simp only [ho, hx, hy]
  simp [go_sem, hz, hf]
theorem run_st_cuts {va : Option Addr} {n c : Nat} (ho : p.op = .store 41 x y) (hx : a.eval x = .pointer (some ⟨b,i,none⟩)) (hy : a.eval y = .slice va n c) (h : W.heap[b]? = some (.cells cells T (0,0))) (hi : i < cells.size) : (execOp a.eval p).run Tryd.prog W = .ok .skip (W.setCell ⟨b,i,none⟩ (.slice va n c)) := by
  obtain ⟨z, hz⟩ := cell_in (W := W) h hi
  have hf := frozen_of_row W b i _ _ h
  unfold execOp
  simp only [ho, hx, hy]
  simp [go_sem, hz, hf]
theorem run_st_id {r n : Int} (ho : p.op = .store 38 x y) (hx : a.eval x = .pointer (some ⟨b,i,none⟩)) (hy : a.eval y = idv r n) (h : W.heap[b]? = some (.cells cells T (0,0))) (hi : i + 1 < cells.size) : (execOp a.eval p).run Tryd.prog W = .ok .skip ((W.setCell ⟨b,i,none⟩ (.int .i64 r)).setCell ⟨b,i + 1,none⟩ (.int .i64 n)) := by
  obtain ⟨z, hz⟩ := cell_in (W := W) h (show i < cells.size by omega)
  have hf := frozen_of_row W b i _ _ h
  have h' := set_row (i := i) h (.int .i64 r)
  obtain ⟨z1, hz1⟩ := cell_in (i := i + 1) (W := W.setCell ⟨b, i, none⟩ (.int .i64 r)) h' (by simpa using hi)
  have hf1 := frozen_of_row (W.setCell ⟨b, i, none⟩ (.int .i64 r)) b (i + 1) _ _ h'
  unfold execOp
  simp only [ho, hx, hy]
  simp [go_sem, hz, hf, hz1, hf1]
theorem run_st_char {r n k : Int} (ho : p.op = .store 40 x y) (hx : a.eval x = .pointer (some ⟨b,i,none⟩)) (hy : a.eval y = chv r n k) (h : W.heap[b]? = some (.cells cells T (0,0))) (hi : i + 2 < cells.size) : (execOp a.eval p).run Tryd.prog W = .ok .skip (((W.setCell ⟨b,i,none⟩ (.int .i64 r)).setCell ⟨b,i + 1,none⟩ (.int .i64 n)).setCell ⟨b,i + 2,none⟩ (.int .i64 k)) := by
  obtain ⟨z, hz⟩ := cell_in (W := W) h (show i < cells.size by omega)
  have hf := frozen_of_row W b i _ _ h
  have h' := set_row (i := i) h (.int .i64 r)
  obtain ⟨z1, hz1⟩ := cell_in (i := i + 1) (W := W.setCell ⟨b, i, none⟩ (.int .i64 r)) h' (by simp; omega)
  have hf1 := frozen_of_row (W.setCell ⟨b, i, none⟩ (.int .i64 r)) b (i + 1) _ _ h'
  have h'' := set_row (i := i + 1) h' (.int .i64 n)
  obtain ⟨z2, hz2⟩ := cell_in (i := i + 2) (W := (W.setCell ⟨b, i, none⟩ (.int .i64 r)).setCell ⟨b, i + 1, none⟩ (.int .i64 n)) h'' (by simp; omega)
  have hf2 := frozen_of_row ((W.setCell ⟨b, i, none⟩ (.int .i64 r)).setCell ⟨b, i + 1, none⟩ (.int .i64 n)) b (i + 2) _ _ h''
  unfold execOp
  simp only [ho, hx, hy]
  simp [go_sem, hz, hf, hz1, hf1, hz2, hf2]
end

theorem opl_lt {i : Nat} (o : Opn) (v : Value) (h : i < 20) : i < (opl o v).size := h

section
variable {ops : Array Oper} {rest : List Oper} {p : Oper} {a : Act} {W : World} {Q : Exit → Act → World → Prop} {x y : Operand} {b : Nat} {o : Opn} {v : Value}
theorem wpList_st_block {r n : Int} (hw : Region.wanted p (yielded ops a.tmps) = true) (ho : p.op = .store 38 x y) (hx : a.eval x = .pointer (some ⟨b, 4, none⟩)) (hy : a.eval y = idv r n) (h : Ob W b o v)
    (hk : ∀ W', Ob W' b { o with br := r, bm := n } v → Fr (fun k => k = b) W W' → wpList Tryd.prog ops Q rest (a.put p.dst undef) W') : wpList Tryd.prog ops Q (p :: rest) a W :=
  wpList_nil _ hw (run_st_id ho hx hy h (opl_lt _ _ (by decide))) (hk _ (set_row (i := 5) (set_row (i := 4) h _) _) ((Fr.of_set W b 4 _).set 5 _ (.inr rfl)))
theorem wpList_st_parent {r n : Int} (hw : Region.wanted p (yielded ops a.tmps) = true) (ho : p.op = .store 38 x y) (hx : a.eval x = .pointer (some ⟨b, 6, none⟩)) (hy : a.eval y = idv r n) (h : Ob W b o v)
    (hk : ∀ W', Ob W' b { o with pr := r, pm := n } v → Fr (fun k => k = b) W W' → wpList Tryd.prog ops Q rest (a.put p.dst undef) W') : wpList Tryd.prog ops Q (p :: rest) a W :=
  wpList_nil _ hw (run_st_id ho hx hy h (opl_lt _ _ (by decide))) (hk _ (set_row (i := 7) (set_row (i := 6) h _) _) ((Fr.of_set W b 6 _).set 7 _ (.inr rfl)))
theorem wpList_st_seg {r n : Int} (hw : Region.wanted p (yielded ops a.tmps) = true) (ho : p.op = .store 38 x y) (hx : a.eval x = .pointer (some ⟨b, 9, none⟩)) (hy : a.eval y = idv r n) (h : Ob W b o v)
    (hk : ∀ W', Ob W' b { o with sr := r, sm := n } v → Fr (fun k => k = b) W W' → wpList Tryd.prog ops Q rest (a.put p.dst undef) W') : wpList Tryd.prog ops Q (p :: rest) a W :=
  wpList_nil _ hw (run_st_id ho hx hy h (opl_lt _ _ (by decide))) (hk _ (set_row (i := 10) (set_row (i := 9) h _) _) ((Fr.of_set W b 9 _).set 10 _ (.inr rfl)))
theorem wpList_st_left {r n j : Int} (hw : Region.wanted p (yielded ops a.tmps) = true) (ho : p.op = .store 40 x y) (hx : a.eval x = .pointer (some ⟨b, 11, none⟩)) (hy : a.eval y = chv r n j) (h : Ob W b o v)
    (hk : ∀ W', Ob W' b { o with lr := r, lm := n, li := j } v → Fr (fun k => k = b) W W' → wpList Tryd.prog ops Q rest (a.put p.dst undef) W') : wpList Tryd.prog ops Q (p :: rest) a W :=
  wpList_nil _ hw (run_st_char ho hx hy h (opl_lt _ _ (by decide))) (hk _ (set_row (i := 13) (set_row (i := 12) (set_row (i := 11) h _) _) _) (((Fr.of_set W b 11 _).set 12 _ (.inr rfl)).set 13 _ (.inr rfl)))
theorem wpList_st_right {r n j : Int} (hw : Region.wanted p (yielded ops a.tmps) = true) (ho : p.op = .store 40 x y) (hx : a.eval x = .pointer (some ⟨b, 14, none⟩)) (hy : a.eval y = chv r n j) (h : Ob W b o v)
    (hk : ∀ W', Ob W' b { o with gr := r, gm := n, gi := j } v → Fr (fun k => k = b) W W' → wpList Tryd.prog ops Q rest (a.put p.dst undef) W') : wpList Tryd.prog ops Q (p :: rest) a W :=
  wpList_nil _ hw (run_st_char ho hx hy h (opl_lt _ _ (by decide))) (hk _ (set_row (i := 16) (set_row (i := 15) (set_row (i := 14) h _) _) _) (((Fr.of_set W b 14 _).set 15 _ (.inr rfl)).set 16 _ (.inr rfl)))
theorem wpList_st_key {s : ByteArray} (hw : Region.wanted p (yielded ops a.tmps) = true) (ho : p.op = .store 9 x y) (hx : a.eval x = .pointer (some ⟨b, 8, none⟩)) (hy : a.eval y = .string s) (h : Ob W b o v)
    (hk : ∀ W', Ob W' b { o with key := s } v → Fr (fun k => k = b) W W' → wpList Tryd.prog ops Q rest (a.put p.dst undef) W') : wpList Tryd.prog ops Q (p :: rest) a W :=
  wpList_nil _ hw (run_st_str ho hx hy h (opl_lt _ _ (by decide))) (hk _ (set_row (i := 8) h _) (Fr.of_set W b 8 _))
theorem wpList_st_text {s : ByteArray} (hw : Region.wanted p (yielded ops a.tmps) = true) (ho : p.op = .store 9 x y) (hx : a.eval x = .pointer (some ⟨b, 17, none⟩)) (hy : a.eval y = .string s) (h : Ob W b o v)
    (hk : ∀ W', Ob W' b { o with text := s } v → Fr (fun k => k = b) W W' → wpList Tryd.prog ops Q rest (a.put p.dst undef) W') : wpList Tryd.prog ops Q (p :: rest) a W :=
  wpList_nil _ hw (run_st_str ho hx hy h (opl_lt _ _ (by decide))) (hk _ (set_row (i := 17) h _) (Fr.of_set W b 17 _))
theorem wpList_st_cuts {va : Option Addr} {n c : Nat} (l : List Ct) (hw : Region.wanted p (yielded ops a.tmps) = true) (ho : p.op = .store 41 x y) (hx : a.eval x = .pointer (some ⟨b, 18, none⟩)) (hy : a.eval y = .slice va n c) (h : Ob W b o v)
    (hk : ∀ W', Ob W' b { o with cuts := l } (.slice va n c) → Fr (fun k => k = b) W W' → wpList Tryd.prog ops Q rest (a.put p.dst undef) W') : wpList Tryd.prog ops Q (p :: rest) a W :=
  wpList_nil _ hw (run_st_cuts ho hx hy h (opl_lt _ _ (by decide))) (hk _ (set_row (i := 18) h _) (Fr.of_set W b 18 _))
theorem wpList_st_flag {s : Bool} (hw : Region.wanted p (yielded ops a.tmps) = true) (ho : p.op = .store 4 x y) (hx : a.eval x = .pointer (some ⟨b, 19, none⟩)) (hy : a.eval y = .bool s) (h : Ob W b o v)
    (hk : ∀ W', Ob W' b { o with flag := s } v → Fr (fun k => k = b) W W' → wpList Tryd.prog ops Q rest (a.put p.dst undef) W') : wpList Tryd.prog ops Q (p :: rest) a W :=
  wpList_nil _ hw (run_st_bool ho hx hy h (opl_lt _ _ (by decide))) (hk _ (set_row (i := 19) h _) (Fr.of_set W b 19 _))

theorem wpList_ld_block (hw : Region.wanted p (yielded ops a.tmps) = true) (ho : p.op = .load 38 x) (hx : a.eval x = .pointer (some ⟨b, 4, none⟩)) (h : Ob W b o v) (hk : wpList Tryd.prog ops Q rest (a.put p.dst (idv o.br o.bm)) W) : wpList Tryd.prog ops Q (p :: rest) a W :=
  wpList_val _ hw (run_ld_id ho hx (h.cell 4) (h.cell 5)) hk
theorem wpList_ld_id (hw : Region.wanted p (yielded ops a.tmps) = true) (ho : p.op = .load 38 x) (hx : a.eval x = .pointer (some ⟨b, 1, none⟩)) (h : Ob W b o v) (hk : wpList Tryd.prog ops Q rest (a.put p.dst (idv o.ir o.im)) W) : wpList Tryd.prog ops Q (p :: rest) a W :=
  wpList_val _ hw (run_ld_id ho hx (h.cell 1) (h.cell 2)) hk
theorem wpList_ld_parent (hw : Region.wanted p (yielded ops a.tmps) = true) (ho : p.op = .load 38 x) (hx : a.eval x = .pointer (some ⟨b, 6, none⟩)) (h : Ob W b o v) (hk : wpList Tryd.prog ops Q rest (a.put p.dst (idv o.pr o.pm)) W) : wpList Tryd.prog ops Q (p :: rest) a W :=
  wpList_val _ hw (run_ld_id ho hx (h.cell 6) (h.cell 7)) hk
theorem wpList_ld_seg (hw : Region.wanted p (yielded ops a.tmps) = true) (ho : p.op = .load 38 x) (hx : a.eval x = .pointer (some ⟨b, 9, none⟩)) (h : Ob W b o v) (hk : wpList Tryd.prog ops Q rest (a.put p.dst (idv o.sr o.sm)) W) : wpList Tryd.prog ops Q (p :: rest) a W :=
  wpList_val _ hw (run_ld_id ho hx (h.cell 9) (h.cell 10)) hk
theorem wpList_ld_left (hw : Region.wanted p (yielded ops a.tmps) = true) (ho : p.op = .load 40 x) (hx : a.eval x = .pointer (some ⟨b, 11, none⟩)) (h : Ob W b o v) (hk : wpList Tryd.prog ops Q rest (a.put p.dst (chv o.lr o.lm o.li)) W) : wpList Tryd.prog ops Q (p :: rest) a W :=
  wpList_val _ hw (run_ld_char ho hx (h.cell 11) (h.cell 12) (h.cell 13)) hk
theorem wpList_ld_right (hw : Region.wanted p (yielded ops a.tmps) = true) (ho : p.op = .load 40 x) (hx : a.eval x = .pointer (some ⟨b, 14, none⟩)) (h : Ob W b o v) (hk : wpList Tryd.prog ops Q rest (a.put p.dst (chv o.gr o.gm o.gi)) W) : wpList Tryd.prog ops Q (p :: rest) a W :=
  wpList_val _ hw (run_ld_char ho hx (h.cell 14) (h.cell 15) (h.cell 16)) hk
theorem wpList_ld_kind (hw : Region.wanted p (yielded ops a.tmps) = true) (ho : p.op = .load 3 x) (hx : a.eval x = .pointer (some ⟨b, 0, none⟩)) (h : Ob W b o v) (hk : wpList Tryd.prog ops Q rest (a.put p.dst (.int .i64 o.k)) W) : wpList Tryd.prog ops Q (p :: rest) a W :=
  wpList_val _ hw (run_ld_int ho hx (h.cell 0)) hk
theorem wpList_ld_t (hw : Region.wanted p (yielded ops a.tmps) = true) (ho : p.op = .load 3 x) (hx : a.eval x = .pointer (some ⟨b, 3, none⟩)) (h : Ob W b o v) (hk : wpList Tryd.prog ops Q rest (a.put p.dst (.int .i64 o.t)) W) : wpList Tryd.prog ops Q (p :: rest) a W :=
  wpList_val _ hw (run_ld_int ho hx (h.cell 3)) hk
theorem wpList_ld_key (hw : Region.wanted p (yielded ops a.tmps) = true) (ho : p.op = .load 9 x) (hx : a.eval x = .pointer (some ⟨b, 8, none⟩)) (h : Ob W b o v) (hk : wpList Tryd.prog ops Q rest (a.put p.dst (.string o.key)) W) : wpList Tryd.prog ops Q (p :: rest) a W :=
  wpList_val _ hw (run_ld_str ho hx (h.cell 8)) hk
theorem wpList_ld_text (hw : Region.wanted p (yielded ops a.tmps) = true) (ho : p.op = .load 9 x) (hx : a.eval x = .pointer (some ⟨b, 17, none⟩)) (h : Ob W b o v) (hk : wpList Tryd.prog ops Q rest (a.put p.dst (.string o.text)) W) : wpList Tryd.prog ops Q (p :: rest) a W :=
  wpList_val _ hw (run_ld_str ho hx (h.cell 17)) hk
theorem wpList_ld_cuts (hw : Region.wanted p (yielded ops a.tmps) = true) (ho : p.op = .load 41 x) (hx : a.eval x = .pointer (some ⟨b, 18, none⟩)) (h : Ob W b o v) (hk : wpList Tryd.prog ops Q rest (a.put p.dst v) W) : wpList Tryd.prog ops Q (p :: rest) a W :=
  wpList_val _ hw (run_ld_cuts ho hx (h.cell 18)) hk
theorem wpList_ld_flag (hw : Region.wanted p (yielded ops a.tmps) = true) (ho : p.op = .load 4 x) (hx : a.eval x = .pointer (some ⟨b, 19, none⟩)) (h : Ob W b o v) (hk : wpList Tryd.prog ops Q rest (a.put p.dst (.bool o.flag)) W) : wpList Tryd.prog ops Q (p :: rest) a W :=
  wpList_val _ hw (run_ld_bool ho hx (h.cell 19)) hk
end

/-- An op of which the kind, the name and the time are told, built. -/
def headO (o : Opn) : Opn := { Opn.zero with k := o.k, ir := o.ir, im := o.im, t := o.t }
theorem built_head (k r n t : Int) : Tryd.prog.built 43 [(0, .int .i64 k), (1, idv r n), (2, .int .i64 t)] = some (opl { Opn.zero with k := k, ir := r, im := n, t := t } (.slice none 0 0)) := by kernel_rfl
theorem wpList_build_head {ops : Array Oper} {rest : List Oper} {p : Oper} {a : Act} {w : World} {Q : Exit → Act → World → Prop} (hgd : p.guard = none) (x y z : Operand) (ho : p.op = .build 43 #[(0, x), (1, y), (2, z)]) (o : Opn)
    (h0 : a.eval x = .int .i64 o.k) (h1 : a.eval y = idv o.ir o.im) (h2 : a.eval z = .int .i64 o.t)
    (hk : wpList Tryd.prog ops Q rest (a.put p.dst (opv (headO o) (.slice none 0 0))) w) : wpList Tryd.prog ops Q (p :: rest) a w := by
  have e : (Array.map (fun ((i, x) : Nat × Operand) => (i, a.eval x)) #[(0, x), (1, y), (2, z)]).toList = [(0, .int .i64 o.k), (1, idv o.ir o.im), (2, .int .i64 o.t)] := by simp [h0, h1, h2]
  refine wpList_build hgd 43 #[(0, x), (1, y), (2, z)] ho ?_ ?_
  · rw [e, built_head]; rfl
  · rw [e, built_head]; exact hk
theorem below_fr {w W W' : World} {b : Nat} (h : Below w.heap.size w W) (hf : Fr (fun k => k = b) W W') (hb : w.heap.size ≤ b) : Below w.heap.size w W' :=
  h.trans (hf.below (fun k hk e => by omega) h.size)
theorem Ob.fr {S : Nat → Prop} {W W' : World} {b : Nat} {o : Opn} {v : Value} (h : Ob W b o v) (hf : Fr S W W') (hs : ¬ S b) : Ob W' b o v := by
  unfold Ob; rw [hf.block b h.lt hs]; exact h

/-- A new op; a whole op, stored. -/
theorem run_al_op {p : Oper} {a : Act} {W : World} (ho : p.op = .alloc 43) : (execOp a.eval p).run Tryd.prog W = .ok (.value (.pointer (some ⟨W.heap.size, 0, none⟩))) (W.alloc (opo Opn.zero (.slice none 0 0))) := by
  unfold execOp
  simp only [ho]
  kernel_rfl
theorem wpList_al_op {ops : Array Oper} {rest : List Oper} {p : Oper} {a : Act} {W : World} {Q : Exit → Act → World → Prop} (hw : Region.wanted p (yielded ops a.tmps) = true) (ho : p.op = .alloc 43)
    (hk : ∀ W', Ob W' W.heap.size Opn.zero (.slice none 0 0) → Below W.heap.size W W' → W.heap.size < W'.heap.size → wpList Tryd.prog ops Q rest (a.put p.dst (.pointer (some ⟨W.heap.size, 0, none⟩))) W') : wpList Tryd.prog ops Q (p :: rest) a W :=
  BigFrame.wpList_want hw fun K hK => by unfold Oper.wp; rw [run_al_op ho]; exact hK _ _ (hk _ (Ob.new W _ _) (ba W _) (by simp))
theorem wpList_st_op {ops : Array Oper} {rest : List Oper} {p : Oper} {a : Act} {W : World} {Q : Exit → Act → World → Prop} {x y : Operand} {b : Nat} {o o' : Opn} {v v' : Value} (hgd : p.guard = none) (ho : p.op = .store 43 x y)
    (hx : a.eval x = .pointer (some ⟨b, 0, none⟩)) (hy : a.eval y = opv o v) (hv : ∃ va n vc, v = .slice va n vc) (h : Ob W b o' v')
    (hk : ∀ W', Ob W' b o v → Fr (fun k => k = b) W W' → wpList Tryd.prog ops Q rest (a.put p.dst undef) W') : wpList Tryd.prog ops Q (p :: rest) a W :=
  wpList_store_op hgd x y ho b hx o v hv hy o' v' h (hk _ (setRow_heap _ _ _ _ _ _ h) (Fr.of_row W b _))

end Go.Proofs.YtaojeanoojnknaaDoor

/-
  What the reference's takeName and takeChar read is proved here, for every cursor.
-/
namespace Go.Proofs.YtaojeanoojnknaaDoor
open Go.RowKit
set_option linter.unusedVariables false
set_option maxRecDepth 100000

end Go.Proofs.YtaojeanoojnknaaDoor

/-
  A text as new bytes, for every text: as a law of the walk.
-/
namespace Go.Proofs.YtaojeanoojnknaaDoor
open Go.RowKit
set_option linter.unusedVariables false
set_option maxRecDepth 100000

end Go.Proofs.YtaojeanoojnknaaDoor

/-
  What the reference's kept answers is proved here, for every op.
-/
namespace Go.Proofs.YtaojeanoojnknaaDoor
open Go.RowKit
set_option linter.unusedVariables false
set_option maxRecDepth 100000

/-- An op with the fields that its kind tells, alone. -/
def keptO (o : Opn) : Opn :=
  if o.k = 1 then { headO o with pr := o.pr, pm := o.pm, key := o.key }
  else if o.k = 2 then { headO o with br := o.br, bm := o.bm, pr := o.pr, pm := o.pm, key := o.key }
  else if o.k = 3 then { headO o with sr := o.sr, sm := o.sm, lr := o.lr, lm := o.lm, li := o.li, gr := o.gr, gm := o.gm, gi := o.gi, text := o.text }
  else if o.k = 4 then { headO o with cuts := o.cuts }
  else if o.k = 5 then { headO o with sr := o.sr, sm := o.sm, lr := o.lr, lm := o.lm, li := o.li, gr := o.gr, gm := o.gm, gi := o.gi, pr := o.pr, pm := o.pm, key := o.key }
  else if o.k = 6 then { headO o with br := o.br, bm := o.bm, flag := o.flag }
  else headO o

def KV (o : Opn) (v u : Value) : Prop := (o.k = 4 → u = v) ∧ (o.k ≠ 4 → u = .slice none 0 0)

set_option maxHeartbeats 8000000 in
theorem kept_box (A : Value) (o : Opn) (v : Value) (hA : A = opv o v) (w : World) (hC : Cs w v o.cuts) :
    Calls Tryd.prog 60 #[A] w fun e w' => ∃ u, e = .returned (opv (keptO o) u) ∧ Cs w' u (keptO o).cuts ∧ Below w.heap.size w w' ∧ KV o v u := by
  obtain ⟨va, vc, rfl, _, _⟩ := hC.form
  have HAA := hid hA
  have HC := hid hC
  clear hA hC
  have HCN := hid (Cs.nil w)
  obtain ⟨X, hX⟩ : ∃ X, keptO o = X := ⟨_, rfl⟩
  rw [hX]
  have HX := hid hX
  clear hX
  go_enter Tryd.func60, Tryd.ntmps60
  go_upto_region 1 with (first
    | (refine wpList_box_op rfl (.tmp 0) rfl A rfl o _ HAA.out ?_; intro w1 hob hb1 hlt1; have HO := hid hob; have BB := hid hb1; have hlt1' := hlt1; clear hob hb1 hlt1)
    | (refine wpList_al_op rfl rfl ?_; intro w2 hz hb2 hlt2; replace HO := hid (HO.out.below hb2); replace BB := hid (bt BB.out hb2); have HZ := hid hz; obtain ⟨r, hr⟩ : ∃ r, w1.heap.size = r := ⟨_, rfl⟩; rw [hr] at HZ hlt1' hlt2; rw [hr]; clear hz hb2 hr))
  go_upto_region 2 with (first
    | (refine wpList_ld_kind rfl rfl rfl HO.out ?_) | (refine wpList_ld_id rfl rfl rfl HO.out ?_) | (refine wpList_ld_t rfl rfl rfl HO.out ?_)
    | (refine wpList_build_head rfl _ _ _ rfl o rfl rfl rfl ?_)
    | (refine wpList_al_op rfl rfl ?_; intro w3 hz hb3 hlt3; replace HO := hid (HO.out.below hb3); replace HZ := hid (HZ.out.below hb3); replace BB := hid (bt BB.out hb3); have HK := hid hz; obtain ⟨kb, hkb⟩ : ∃ r, w2.heap.size = r := ⟨_, rfl⟩; rw [hkb] at HK hlt2; rw [hkb]; clear hz hb3 hkb)
    | (refine wpList_st_op rfl rfl rfl rfl ⟨_,_,_,rfl⟩ HK.out ?_; have hbk : ¬ w.heap.size = kb := Nat.ne_of_lt (Nat.lt_trans hlt1' hlt2); have hrk : ¬ r = kb := Nat.ne_of_lt hlt2; have hkB : w.heap.size ≤ kb := Nat.le_of_lt (Nat.lt_trans hlt1' hlt2); have hrB : w.heap.size ≤ r := Nat.le_of_lt hlt1'; intro W' hk' hf'; replace HO := hid (HO.out.fr hf' hbk); replace HZ := hid (HZ.out.fr hf' hrk); replace HK := hid hk'; replace BB := hid (below_fr BB.out hf' hkB); clear hk' hf')
    | fail)
  by_cases h1 : o.k = 1
  · go_wp2_with (first | (refine wpList_ld_kind rfl rfl rfl HO.out ?_) | (refine wpList_ld_parent rfl rfl rfl HO.out ?_) | (refine wpList_ld_key rfl rfl rfl HO.out ?_) | (refine wpList_st_parent rfl rfl rfl rfl HK.out ?_; intro W' hk' hf'; replace HO := hid (HO.out.fr hf' hbk); replace HZ := hid (HZ.out.fr hf' hrk); replace HK := hid hk'; replace BB := hid (below_fr BB.out hf' hkB); clear hk' hf') | (refine wpList_st_key rfl rfl rfl rfl HK.out ?_; intro W' hk' hf'; replace HO := hid (HO.out.fr hf' hbk); replace HZ := hid (HZ.out.fr hf' hrk); replace HK := hid hk'; replace BB := hid (below_fr BB.out hf' hkB); clear hk' hf') | (refine wpList_load_op rfl (.tmp 3) rfl kb rfl _ _ HK.out ?_) | (refine wpList_st_op rfl rfl rfl rfl ⟨_,_,_,rfl⟩ HZ.out ?_; intro W' hk' hf'; replace HZ := hid hk'; replace BB := hid (below_fr BB.out hf' hrB); clear hk' hf') | fail)
    refine bodyPost_ret (results_cell_row rfl _ _ r 43 _ (0, 0) _ rfl HZ.out Tryd.underlying43 rfl (by kernel_rfl)) rfl ?_
    have hx := HX.out
    unfold keptO at hx
    rw [if_pos h1] at hx
    subst hx
    exact ⟨_, rfl, HCN.out.below BB.out, BB.out, ⟨fun e => absurd (h1.symm.trans e) (by decide), fun _ => rfl⟩⟩
  by_cases h2 : o.k = 2
  · go_wp2_with (first | (refine wpList_ld_kind rfl rfl rfl HO.out ?_) | (refine wpList_ld_block rfl rfl rfl HO.out ?_) | (refine wpList_ld_parent rfl rfl rfl HO.out ?_) | (refine wpList_ld_key rfl rfl rfl HO.out ?_) | (refine wpList_st_block rfl rfl rfl rfl HK.out ?_; intro W' hk' hf'; replace HO := hid (HO.out.fr hf' hbk); replace HZ := hid (HZ.out.fr hf' hrk); replace HK := hid hk'; replace BB := hid (below_fr BB.out hf' hkB); clear hk' hf') | (refine wpList_st_parent rfl rfl rfl rfl HK.out ?_; intro W' hk' hf'; replace HO := hid (HO.out.fr hf' hbk); replace HZ := hid (HZ.out.fr hf' hrk); replace HK := hid hk'; replace BB := hid (below_fr BB.out hf' hkB); clear hk' hf') | (refine wpList_st_key rfl rfl rfl rfl HK.out ?_; intro W' hk' hf'; replace HO := hid (HO.out.fr hf' hbk); replace HZ := hid (HZ.out.fr hf' hrk); replace HK := hid hk'; replace BB := hid (below_fr BB.out hf' hkB); clear hk' hf') | (refine wpList_load_op rfl (.tmp 3) rfl kb rfl _ _ HK.out ?_) | (refine wpList_st_op rfl rfl rfl rfl ⟨_,_,_,rfl⟩ HZ.out ?_; intro W' hk' hf'; replace HZ := hid hk'; replace BB := hid (below_fr BB.out hf' hrB); clear hk' hf') | fail)
    refine bodyPost_ret (results_cell_row rfl _ _ r 43 _ (0, 0) _ rfl HZ.out Tryd.underlying43 rfl (by kernel_rfl)) rfl ?_
    have hx := HX.out
    unfold keptO at hx
    rw [if_neg h1, if_pos h2] at hx
    subst hx
    exact ⟨_, rfl, HCN.out.below BB.out, BB.out, ⟨fun e => absurd (h2.symm.trans e) (by decide), fun _ => rfl⟩⟩
  by_cases h3 : o.k = 3
  · go_wp2_with (first | (refine wpList_ld_kind rfl rfl rfl HO.out ?_) | (refine wpList_ld_seg rfl rfl rfl HO.out ?_) | (refine wpList_ld_left rfl rfl rfl HO.out ?_) | (refine wpList_ld_right rfl rfl rfl HO.out ?_) | (refine wpList_ld_text rfl rfl rfl HO.out ?_) | (refine wpList_st_seg rfl rfl rfl rfl HK.out ?_; intro W' hk' hf'; replace HO := hid (HO.out.fr hf' hbk); replace HZ := hid (HZ.out.fr hf' hrk); replace HK := hid hk'; replace BB := hid (below_fr BB.out hf' hkB); clear hk' hf') | (refine wpList_st_left rfl rfl rfl rfl HK.out ?_; intro W' hk' hf'; replace HO := hid (HO.out.fr hf' hbk); replace HZ := hid (HZ.out.fr hf' hrk); replace HK := hid hk'; replace BB := hid (below_fr BB.out hf' hkB); clear hk' hf') | (refine wpList_st_right rfl rfl rfl rfl HK.out ?_; intro W' hk' hf'; replace HO := hid (HO.out.fr hf' hbk); replace HZ := hid (HZ.out.fr hf' hrk); replace HK := hid hk'; replace BB := hid (below_fr BB.out hf' hkB); clear hk' hf') | (refine wpList_st_text rfl rfl rfl rfl HK.out ?_; intro W' hk' hf'; replace HO := hid (HO.out.fr hf' hbk); replace HZ := hid (HZ.out.fr hf' hrk); replace HK := hid hk'; replace BB := hid (below_fr BB.out hf' hkB); clear hk' hf') | (refine wpList_load_op rfl (.tmp 3) rfl kb rfl _ _ HK.out ?_) | (refine wpList_st_op rfl rfl rfl rfl ⟨_,_,_,rfl⟩ HZ.out ?_; intro W' hk' hf'; replace HZ := hid hk'; replace BB := hid (below_fr BB.out hf' hrB); clear hk' hf') | fail)
    refine bodyPost_ret (results_cell_row rfl _ _ r 43 _ (0, 0) _ rfl HZ.out Tryd.underlying43 rfl (by kernel_rfl)) rfl ?_
    have hx := HX.out
    unfold keptO at hx
    rw [if_neg h1, if_neg h2, if_pos h3] at hx
    subst hx
    exact ⟨_, rfl, HCN.out.below BB.out, BB.out, ⟨fun e => absurd (h3.symm.trans e) (by decide), fun _ => rfl⟩⟩
  by_cases h4 : o.k = 4
  · go_wp2_with (first | (refine wpList_ld_kind rfl rfl rfl HO.out ?_) | (refine wpList_ld_cuts rfl rfl rfl HO.out ?_) | (refine wpList_st_cuts o.cuts rfl rfl rfl rfl HK.out ?_; intro W' hk' hf'; replace HO := hid (HO.out.fr hf' hbk); replace HZ := hid (HZ.out.fr hf' hrk); replace HK := hid hk'; replace BB := hid (below_fr BB.out hf' hkB); clear hk' hf') | (refine wpList_load_op rfl (.tmp 3) rfl kb rfl _ _ HK.out ?_) | (refine wpList_st_op rfl rfl rfl rfl ⟨_,_,_,rfl⟩ HZ.out ?_; intro W' hk' hf'; replace HZ := hid hk'; replace BB := hid (below_fr BB.out hf' hrB); clear hk' hf') | fail)
    refine bodyPost_ret (results_cell_row rfl _ _ r 43 _ (0, 0) _ rfl HZ.out Tryd.underlying43 rfl (by kernel_rfl)) rfl ?_
    have hx := HX.out
    unfold keptO at hx
    rw [if_neg h1, if_neg h2, if_neg h3, if_pos h4] at hx
    subst hx
    exact ⟨_, rfl, HC.out.below BB.out, BB.out, ⟨fun _ => rfl, fun e => absurd h4 e⟩⟩
  by_cases h5 : o.k = 5
  · go_wp2_with (first | (refine wpList_ld_kind rfl rfl rfl HO.out ?_) | (refine wpList_ld_seg rfl rfl rfl HO.out ?_) | (refine wpList_ld_left rfl rfl rfl HO.out ?_) | (refine wpList_ld_right rfl rfl rfl HO.out ?_) | (refine wpList_ld_parent rfl rfl rfl HO.out ?_) | (refine wpList_ld_key rfl rfl rfl HO.out ?_) | (refine wpList_st_seg rfl rfl rfl rfl HK.out ?_; intro W' hk' hf'; replace HO := hid (HO.out.fr hf' hbk); replace HZ := hid (HZ.out.fr hf' hrk); replace HK := hid hk'; replace BB := hid (below_fr BB.out hf' hkB); clear hk' hf') | (refine wpList_st_left rfl rfl rfl rfl HK.out ?_; intro W' hk' hf'; replace HO := hid (HO.out.fr hf' hbk); replace HZ := hid (HZ.out.fr hf' hrk); replace HK := hid hk'; replace BB := hid (below_fr BB.out hf' hkB); clear hk' hf') | (refine wpList_st_right rfl rfl rfl rfl HK.out ?_; intro W' hk' hf'; replace HO := hid (HO.out.fr hf' hbk); replace HZ := hid (HZ.out.fr hf' hrk); replace HK := hid hk'; replace BB := hid (below_fr BB.out hf' hkB); clear hk' hf') | (refine wpList_st_parent rfl rfl rfl rfl HK.out ?_; intro W' hk' hf'; replace HO := hid (HO.out.fr hf' hbk); replace HZ := hid (HZ.out.fr hf' hrk); replace HK := hid hk'; replace BB := hid (below_fr BB.out hf' hkB); clear hk' hf') | (refine wpList_st_key rfl rfl rfl rfl HK.out ?_; intro W' hk' hf'; replace HO := hid (HO.out.fr hf' hbk); replace HZ := hid (HZ.out.fr hf' hrk); replace HK := hid hk'; replace BB := hid (below_fr BB.out hf' hkB); clear hk' hf') | (refine wpList_load_op rfl (.tmp 3) rfl kb rfl _ _ HK.out ?_) | (refine wpList_st_op rfl rfl rfl rfl ⟨_,_,_,rfl⟩ HZ.out ?_; intro W' hk' hf'; replace HZ := hid hk'; replace BB := hid (below_fr BB.out hf' hrB); clear hk' hf') | fail)
    refine bodyPost_ret (results_cell_row rfl _ _ r 43 _ (0, 0) _ rfl HZ.out Tryd.underlying43 rfl (by kernel_rfl)) rfl ?_
    have hx := HX.out
    unfold keptO at hx
    rw [if_neg h1, if_neg h2, if_neg h3, if_neg h4, if_pos h5] at hx
    subst hx
    exact ⟨_, rfl, HCN.out.below BB.out, BB.out, ⟨fun e => absurd (h5.symm.trans e) (by decide), fun _ => rfl⟩⟩
  by_cases h6 : o.k = 6
  · go_wp2_with (first | (refine wpList_ld_kind rfl rfl rfl HO.out ?_) | (refine wpList_ld_block rfl rfl rfl HO.out ?_) | (refine wpList_ld_flag rfl rfl rfl HO.out ?_) | (refine wpList_st_block rfl rfl rfl rfl HK.out ?_; intro W' hk' hf'; replace HO := hid (HO.out.fr hf' hbk); replace HZ := hid (HZ.out.fr hf' hrk); replace HK := hid hk'; replace BB := hid (below_fr BB.out hf' hkB); clear hk' hf') | (refine wpList_st_flag rfl rfl rfl rfl HK.out ?_; intro W' hk' hf'; replace HO := hid (HO.out.fr hf' hbk); replace HZ := hid (HZ.out.fr hf' hrk); replace HK := hid hk'; replace BB := hid (below_fr BB.out hf' hkB); clear hk' hf') | (refine wpList_load_op rfl (.tmp 3) rfl kb rfl _ _ HK.out ?_) | (refine wpList_st_op rfl rfl rfl rfl ⟨_,_,_,rfl⟩ HZ.out ?_; intro W' hk' hf'; replace HZ := hid hk'; replace BB := hid (below_fr BB.out hf' hrB); clear hk' hf') | fail)
    refine bodyPost_ret (results_cell_row rfl _ _ r 43 _ (0, 0) _ rfl HZ.out Tryd.underlying43 rfl (by kernel_rfl)) rfl ?_
    have hx := HX.out
    unfold keptO at hx
    rw [if_neg h1, if_neg h2, if_neg h3, if_neg h4, if_neg h5, if_pos h6] at hx
    subst hx
    exact ⟨_, rfl, HCN.out.below BB.out, BB.out, ⟨fun e => absurd (h6.symm.trans e) (by decide), fun _ => rfl⟩⟩
  go_wp2_with (first | (refine wpList_ld_kind rfl rfl rfl HO.out ?_) | (refine wpList_load_op rfl (.tmp 3) rfl kb rfl _ _ HK.out ?_) | (refine wpList_st_op rfl rfl rfl rfl ⟨_,_,_,rfl⟩ HZ.out ?_; intro W' hk' hf'; replace HZ := hid hk'; replace BB := hid (below_fr BB.out hf' hrB); clear hk' hf') | fail)
  refine bodyPost_ret (results_cell_row rfl _ _ r 43 _ (0, 0) _ rfl HZ.out Tryd.underlying43 rfl (by kernel_rfl)) rfl ?_
  have hx := HX.out
  unfold keptO at hx
  rw [if_neg h1, if_neg h2, if_neg h3, if_neg h4, if_neg h5, if_neg h6] at hx
  subst hx
  exact ⟨_, rfl, HCN.out.below BB.out, BB.out, ⟨fun e => absurd e h4, fun _ => rfl⟩⟩
/-- The slice of its cuts. -/
def keptV (o : Opn) (v : Value) : Value := if o.k = 4 then v else .slice none 0 0
theorem kept_cs {w : World} {o : Opn} {v : Value} (h : Cs w v o.cuts) : Cs w (keptV o v) (keptO o).cuts := by
  unfold keptV
  by_cases h4 : o.k = 4
  · rw [if_pos h4]
    have e : (keptO o).cuts = o.cuts := by unfold keptO; simp [h4]
    rw [e]; exact h
  · rw [if_neg h4]
    have e : (keptO o).cuts = [] := by unfold keptO headO; simp only [if_neg h4]; repeat' split
                                       all_goals rfl
    rw [e]; exact Cs.nil w
theorem kept_any (o : Opn) (v : Value) (w : World) (hC : Cs w v o.cuts) : Calls Tryd.prog 60 #[opv o v] w fun e w' => e = .returned (opv (keptO o) (keptV o v)) ∧ Below w.heap.size w w' :=
  (kept_box _ o v rfl w hC).mono fun _ _ ⟨u, h1, _, h3, h4, h5⟩ => by
    refine ⟨?_, h3⟩
    rw [h1]
    unfold keptV
    by_cases h : o.k = 4
    · rw [if_pos h, h4 h]
    · rw [if_neg h, h5 h]

end Go.Proofs.YtaojeanoojnknaaDoor
