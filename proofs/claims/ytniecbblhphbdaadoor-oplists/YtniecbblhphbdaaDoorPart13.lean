/-
  Parts of the proof, one behind the other; what each proves stands at its head.
-/
import Derived.Test.YtniecbblhphbdaaDoorPart6
import Derived.Test.YtniecbblhphbdaaDoorPart3
import Derived.Test.YtniecbblhphbdaaDoorPart12

/-
  A field of an op in its block: loads and stores, as laws of the walk.
-/
namespace Go.Proofs.YtniecbblhphbdaaDoor
open Go.RowKit
set_option linter.unusedVariables false
set_option maxRecDepth 100000

section
variable {ops : Array Oper} {rest : List Oper} {p : Oper} {a : Act} {W : World} {Q : Exit → Act → World → Prop} {x y : Operand} {b i : Nat} {T : TypeId} {cells : Array Value}
theorem wpList_val (v : Value) (hw : Region.wanted p (yielded ops a.tmps) = true) (h : (execOp a.eval p).run Tryd.prog W = .ok (.value v) W) (hk : wpList Tryd.prog ops Q rest (a.put p.dst v) W) : wpList Tryd.prog ops Q (p :: rest) a W :=
  BigFrame.wpList_want hw fun K hK => by unfold Oper.wp; rw [h]; exact hK _ _ hk
theorem wpList_nil (W' : World) (hw : Region.wanted p (yielded ops a.tmps) = true) (h : (execOp a.eval p).run Tryd.prog W = .ok .skip W') (hk : wpList Tryd.prog ops Q rest (a.put p.dst undef) W') : wpList Tryd.prog ops Q (p :: rest) a W :=
  BigFrame.wpList_want hw fun K hK => by unfold Oper.wp; rw [h]; exact hK _ _ hk

theorem run_ld_id {r n : Int} (ho : p.op = .load 25 x) (hx : a.eval x = .pointer (some ⟨b, i, none⟩)) (h0 : W.cell? ⟨b, i, none⟩ = some (.int .i64 r)) (h1 : W.cell? ⟨b, i + 1, none⟩ = some (.int .i64 n)) : (execOp a.eval p).run Tryd.prog W = .ok (.value (idv r n)) W := by
  unfold execOp
  simp only [ho, hx]
  simp [go_sem, h0, h1]
theorem run_ld_char {r n k : Int} (ho : p.op = .load 27 x) (hx : a.eval x = .pointer (some ⟨b, i, none⟩)) (h0 : W.cell? ⟨b, i, none⟩ = some (.int .i64 r)) (h1 : W.cell? ⟨b, i + 1, none⟩ = some (.int .i64 n)) (h2 : W.cell? ⟨b, i + 2, none⟩ = some (.int .i64 k)) : (execOp a.eval p).run Tryd.prog W = .ok (.value (chv r n k)) W := by
  unfold execOp
  simp only [ho, hx]
  simp [go_sem, h0, h1, h2]
theorem run_ld_int {r : Int} (ho : p.op = .load 3 x) (hx : a.eval x = .pointer (some ⟨b, i, none⟩)) (h0 : W.cell? ⟨b, i, none⟩ = some (.int .i64 r)) : (execOp a.eval p).run Tryd.prog W = .ok (.value (.int .i64 r)) W := by
  unfold execOp
  simp only [ho, hx]
  simp [go_sem, h0]
theorem run_ld_str {s : ByteArray} (ho : p.op = .load 9 x) (hx : a.eval x = .pointer (some ⟨b, i, none⟩)) (h0 : W.cell? ⟨b, i, none⟩ = some (.string s)) : (execOp a.eval p).run Tryd.prog W = .ok (.value (.string s)) W := by
  unfold execOp
  simp only [ho, hx]
  simp [go_sem, h0]
theorem run_ld_bool {s : Bool} (ho : p.op = .load 4 x) (hx : a.eval x = .pointer (some ⟨b, i, none⟩)) (h0 : W.cell? ⟨b, i, none⟩ = some (.bool s)) : (execOp a.eval p).run Tryd.prog W = .ok (.value (.bool s)) W := by
  unfold execOp
  simp only [ho, hx]
  simp [go_sem, h0]
theorem run_ld_cuts {v : Value} (ho : p.op = .load 28 x) (hx : a.eval x = .pointer (some ⟨b, i, none⟩)) (h0 : W.cell? ⟨b, i, none⟩ = some v) : (execOp a.eval p).run Tryd.prog W = .ok (.value v) W := by
  unfold execOp
  simp only [ho, hx]
  simp [go_sem, h0]

theorem cell_in {W : World} (h : W.heap[b]? = some (.cells cells T (0, 0))) (hi : i < cells.size) : ∃ z, W.cell? ⟨b, i, none⟩ = some z := ⟨cells[i], by rw [cell_of_row W b i _ _ _ h]; exact Array.getElem?_eq_getElem hi⟩
theorem run_st_str {s : ByteArray} (ho : p.op = .store 9 x y) (hx : a.eval x = .pointer (some ⟨b, i, none⟩)) (hy : a.eval y = .string s) (h : W.heap[b]? = some (.cells cells T (0, 0))) (hi : i < cells.size) : (execOp a.eval p).run Tryd.prog W = .ok .skip (W.setCell ⟨b, i, none⟩ (.string s)) := by
  obtain ⟨z, hz⟩ := cell_in (W := W) h hi
  have hf := frozen_of_row W b i _ _ h
  unfold execOp
  simp only [ho, hx, hy]
  simp [go_sem, hz, hf]
theorem run_st_bool {s : Bool} (ho : p.op = .store 4 x y) (hx : a.eval x = .pointer (some ⟨b, i, none⟩)) (hy : a.eval y = .bool s) (h : W.heap[b]? = some (.cells cells T (0, 0))) (hi : i < cells.size) : (execOp a.eval p).run Tryd.prog W = .ok .skip (W.setCell ⟨b, i, none⟩ (.bool s)) := by
  obtain ⟨z, hz⟩ := cell_in (W := W) h hi
  have hf := frozen_of_row W b i _ _ h
  unfold execOp
  simp only [ho, hx, hy]
  simp [go_sem, hz, hf]
theorem run_st_int {s : Int} (ho : p.op = .store 3 x y) (hx : a.eval x = .pointer (some ⟨b, i, none⟩)) (hy : a.eval y = .int .i64 s) (h : W.heap[b]? = some (.cells cells T (0, 0))) (hi : i < cells.size) : (execOp a.eval p).run Tryd.prog W = .ok .skip (W.setCell ⟨b, i, none⟩ (.int .i64 s)) := by
  obtain ⟨z, hz⟩ := cell_in (W := W) h hi
  have hf := frozen_of_row W b i _ _ h
  unfold execOp
  simp only [ho, hx, hy]
  simp [go_sem, hz, hf]
theorem run_st_cuts {va : Option Addr} {n c : Nat} (ho : p.op = .store 28 x y) (hx : a.eval x = .pointer (some ⟨b, i, none⟩)) (hy : a.eval y = .slice va n c) (h : W.heap[b]? = some (.cells cells T (0, 0))) (hi : i < cells.size) : (execOp a.eval p).run Tryd.prog W = .ok .skip (W.setCell ⟨b, i, none⟩ (.slice va n c)) := by
  obtain ⟨z, hz⟩ := cell_in (W := W) h hi
  have hf := frozen_of_row W b i _ _ h
  unfold execOp
  simp only [ho, hx, hy]
  simp [go_sem, hz, hf]
theorem run_st_id {r n : Int} (ho : p.op = .store 25 x y) (hx : a.eval x = .pointer (some ⟨b, i, none⟩)) (hy : a.eval y = idv r n) (h : W.heap[b]? = some (.cells cells T (0, 0))) (hi : i + 1 < cells.size) : (execOp a.eval p).run Tryd.prog W = .ok .skip ((W.setCell ⟨b, i, none⟩ (.int .i64 r)).setCell ⟨b, i + 1, none⟩ (.int .i64 n)) := by
  obtain ⟨z, hz⟩ := cell_in (W := W) h (show i < cells.size by omega)
  have hf := frozen_of_row W b i _ _ h
  have h' := set_row (i := i) h (.int .i64 r)
  obtain ⟨z1, hz1⟩ := cell_in (i := i + 1) (W := W.setCell ⟨b, i, none⟩ (.int .i64 r)) h' (by simpa using hi)
  have hf1 := frozen_of_row (W.setCell ⟨b, i, none⟩ (.int .i64 r)) b (i + 1) _ _ h'
  unfold execOp
  simp only [ho, hx, hy]
  simp [go_sem, hz, hf, hz1, hf1]
theorem run_st_char {r n k : Int} (ho : p.op = .store 27 x y) (hx : a.eval x = .pointer (some ⟨b, i, none⟩)) (hy : a.eval y = chv r n k) (h : W.heap[b]? = some (.cells cells T (0, 0))) (hi : i + 2 < cells.size) : (execOp a.eval p).run Tryd.prog W = .ok .skip (((W.setCell ⟨b, i, none⟩ (.int .i64 r)).setCell ⟨b, i + 1, none⟩ (.int .i64 n)).setCell ⟨b, i + 2, none⟩ (.int .i64 k)) := by
  obtain ⟨z, hz⟩ := cell_in (W := W) h (show i < cells.size by omega)
  have hf := frozen_of_row W b i _ _ h
  have h' := set_row (i := i) h (.int .i64 r)
  obtain ⟨z1, hz1⟩ := cell_in (i := i + 1) (W := W.setCell ⟨b, i, none⟩ (.int .i64 r)) h' (by simp; omega)
  have hf1 := frozen_of_row (W.setCell ⟨b, i, none⟩ (.int .i64 r)) b (i + 1) _ _ h'
  have h'' := set_row (i := i + 1) h' (.int .i64 n)
  obtain ⟨z2, hz2⟩ := cell_in (i := i + 2) (W := (W.setCell ⟨b, i, none⟩ (.int .i64 r)).setCell ⟨b, i + 1, none⟩ (.int .i64 n)) h'' (by simp; omega)
  have hf2 := frozen_of_row ((W.setCell ⟨b, i, none⟩ (.int .i64 r)).setCell ⟨b, i + 1, none⟩ (.int .i64 n)) b (i + 2) _ _ h''
  unfold execOp
  simp only [ho, hx, hy]
  simp [go_sem, hz, hf, hz1, hf1, hz2, hf2]
end

theorem opl_lt {i : Nat} (o : Opn) (v : Value) (h : i < 20) : i < (opl o v).size := h

section
variable {ops : Array Oper} {rest : List Oper} {p : Oper} {a : Act} {W : World} {Q : Exit → Act → World → Prop} {x y : Operand} {b : Nat} {o : Opn} {v : Value}
theorem wpList_st_block {r n : Int} (hw : Region.wanted p (yielded ops a.tmps) = true) (ho : p.op = .store 25 x y) (hx : a.eval x = .pointer (some ⟨b, 4, none⟩)) (hy : a.eval y = idv r n) (h : Ob W b o v)
    (hk : ∀ W', Ob W' b { o with br := r, bm := n } v → Fr (fun k => k = b) W W' → wpList Tryd.prog ops Q rest (a.put p.dst undef) W') : wpList Tryd.prog ops Q (p :: rest) a W :=
  wpList_nil _ hw (run_st_id ho hx hy h (opl_lt _ _ (by decide))) (hk _ (set_row (i := 5) (set_row (i := 4) h _) _) ((Fr.of_set W b 4 _).set 5 _ (.inr rfl)))
theorem wpList_st_id {r n : Int} (hw : Region.wanted p (yielded ops a.tmps) = true) (ho : p.op = .store 25 x y) (hx : a.eval x = .pointer (some ⟨b, 1, none⟩)) (hy : a.eval y = idv r n) (h : Ob W b o v)
    (hk : ∀ W', Ob W' b { o with ir := r, im := n } v → Fr (fun k => k = b) W W' → wpList Tryd.prog ops Q rest (a.put p.dst undef) W') : wpList Tryd.prog ops Q (p :: rest) a W :=
  wpList_nil _ hw (run_st_id ho hx hy h (opl_lt _ _ (by decide))) (hk _ (set_row (i := 2) (set_row (i := 1) h _) _) ((Fr.of_set W b 1 _).set 2 _ (.inr rfl)))
theorem wpList_st_t {r : Int} (hw : Region.wanted p (yielded ops a.tmps) = true) (ho : p.op = .store 3 x y) (hx : a.eval x = .pointer (some ⟨b, 3, none⟩)) (hy : a.eval y = .int .i64 r) (h : Ob W b o v)
    (hk : ∀ W', Ob W' b { o with t := r } v → Fr (fun k => k = b) W W' → wpList Tryd.prog ops Q rest (a.put p.dst undef) W') : wpList Tryd.prog ops Q (p :: rest) a W :=
  wpList_nil _ hw (run_st_int ho hx hy h (opl_lt _ _ (by decide))) (hk _ (set_row (i := 3) h _) (Fr.of_set W b 3 _))
theorem wpList_st_parent {r n : Int} (hw : Region.wanted p (yielded ops a.tmps) = true) (ho : p.op = .store 25 x y) (hx : a.eval x = .pointer (some ⟨b, 6, none⟩)) (hy : a.eval y = idv r n) (h : Ob W b o v)
    (hk : ∀ W', Ob W' b { o with pr := r, pm := n } v → Fr (fun k => k = b) W W' → wpList Tryd.prog ops Q rest (a.put p.dst undef) W') : wpList Tryd.prog ops Q (p :: rest) a W :=
  wpList_nil _ hw (run_st_id ho hx hy h (opl_lt _ _ (by decide))) (hk _ (set_row (i := 7) (set_row (i := 6) h _) _) ((Fr.of_set W b 6 _).set 7 _ (.inr rfl)))
theorem wpList_st_seg {r n : Int} (hw : Region.wanted p (yielded ops a.tmps) = true) (ho : p.op = .store 25 x y) (hx : a.eval x = .pointer (some ⟨b, 9, none⟩)) (hy : a.eval y = idv r n) (h : Ob W b o v)
    (hk : ∀ W', Ob W' b { o with sr := r, sm := n } v → Fr (fun k => k = b) W W' → wpList Tryd.prog ops Q rest (a.put p.dst undef) W') : wpList Tryd.prog ops Q (p :: rest) a W :=
  wpList_nil _ hw (run_st_id ho hx hy h (opl_lt _ _ (by decide))) (hk _ (set_row (i := 10) (set_row (i := 9) h _) _) ((Fr.of_set W b 9 _).set 10 _ (.inr rfl)))
theorem wpList_st_left {r n j : Int} (hw : Region.wanted p (yielded ops a.tmps) = true) (ho : p.op = .store 27 x y) (hx : a.eval x = .pointer (some ⟨b, 11, none⟩)) (hy : a.eval y = chv r n j) (h : Ob W b o v)
    (hk : ∀ W', Ob W' b { o with lr := r, lm := n, li := j } v → Fr (fun k => k = b) W W' → wpList Tryd.prog ops Q rest (a.put p.dst undef) W') : wpList Tryd.prog ops Q (p :: rest) a W :=
  wpList_nil _ hw (run_st_char ho hx hy h (opl_lt _ _ (by decide))) (hk _ (set_row (i := 13) (set_row (i := 12) (set_row (i := 11) h _) _) _) (((Fr.of_set W b 11 _).set 12 _ (.inr rfl)).set 13 _ (.inr rfl)))
theorem wpList_st_right {r n j : Int} (hw : Region.wanted p (yielded ops a.tmps) = true) (ho : p.op = .store 27 x y) (hx : a.eval x = .pointer (some ⟨b, 14, none⟩)) (hy : a.eval y = chv r n j) (h : Ob W b o v)
    (hk : ∀ W', Ob W' b { o with gr := r, gm := n, gi := j } v → Fr (fun k => k = b) W W' → wpList Tryd.prog ops Q rest (a.put p.dst undef) W') : wpList Tryd.prog ops Q (p :: rest) a W :=
  wpList_nil _ hw (run_st_char ho hx hy h (opl_lt _ _ (by decide))) (hk _ (set_row (i := 16) (set_row (i := 15) (set_row (i := 14) h _) _) _) (((Fr.of_set W b 14 _).set 15 _ (.inr rfl)).set 16 _ (.inr rfl)))
theorem wpList_st_key {s : ByteArray} (hw : Region.wanted p (yielded ops a.tmps) = true) (ho : p.op = .store 9 x y) (hx : a.eval x = .pointer (some ⟨b, 8, none⟩)) (hy : a.eval y = .string s) (h : Ob W b o v)
    (hk : ∀ W', Ob W' b { o with key := s } v → Fr (fun k => k = b) W W' → wpList Tryd.prog ops Q rest (a.put p.dst undef) W') : wpList Tryd.prog ops Q (p :: rest) a W :=
  wpList_nil _ hw (run_st_str ho hx hy h (opl_lt _ _ (by decide))) (hk _ (set_row (i := 8) h _) (Fr.of_set W b 8 _))
theorem wpList_st_text {s : ByteArray} (hw : Region.wanted p (yielded ops a.tmps) = true) (ho : p.op = .store 9 x y) (hx : a.eval x = .pointer (some ⟨b, 17, none⟩)) (hy : a.eval y = .string s) (h : Ob W b o v)
    (hk : ∀ W', Ob W' b { o with text := s } v → Fr (fun k => k = b) W W' → wpList Tryd.prog ops Q rest (a.put p.dst undef) W') : wpList Tryd.prog ops Q (p :: rest) a W :=
  wpList_nil _ hw (run_st_str ho hx hy h (opl_lt _ _ (by decide))) (hk _ (set_row (i := 17) h _) (Fr.of_set W b 17 _))
theorem wpList_st_cuts {va : Option Addr} {n c : Nat} (l : List Ct) (hw : Region.wanted p (yielded ops a.tmps) = true) (ho : p.op = .store 28 x y) (hx : a.eval x = .pointer (some ⟨b, 18, none⟩)) (hy : a.eval y = .slice va n c) (h : Ob W b o v)
    (hk : ∀ W', Ob W' b { o with cuts := l } (.slice va n c) → Fr (fun k => k = b) W W' → wpList Tryd.prog ops Q rest (a.put p.dst undef) W') : wpList Tryd.prog ops Q (p :: rest) a W :=
  wpList_nil _ hw (run_st_cuts ho hx hy h (opl_lt _ _ (by decide))) (hk _ (set_row (i := 18) h _) (Fr.of_set W b 18 _))
theorem wpList_st_flag {s : Bool} (hw : Region.wanted p (yielded ops a.tmps) = true) (ho : p.op = .store 4 x y) (hx : a.eval x = .pointer (some ⟨b, 19, none⟩)) (hy : a.eval y = .bool s) (h : Ob W b o v)
    (hk : ∀ W', Ob W' b { o with flag := s } v → Fr (fun k => k = b) W W' → wpList Tryd.prog ops Q rest (a.put p.dst undef) W') : wpList Tryd.prog ops Q (p :: rest) a W :=
  wpList_nil _ hw (run_st_bool ho hx hy h (opl_lt _ _ (by decide))) (hk _ (set_row (i := 19) h _) (Fr.of_set W b 19 _))

theorem wpList_ld_block (hw : Region.wanted p (yielded ops a.tmps) = true) (ho : p.op = .load 25 x) (hx : a.eval x = .pointer (some ⟨b, 4, none⟩)) (h : Ob W b o v) (hk : wpList Tryd.prog ops Q rest (a.put p.dst (idv o.br o.bm)) W) : wpList Tryd.prog ops Q (p :: rest) a W :=
  wpList_val _ hw (run_ld_id ho hx (h.cell 4) (h.cell 5)) hk
theorem wpList_ld_id (hw : Region.wanted p (yielded ops a.tmps) = true) (ho : p.op = .load 25 x) (hx : a.eval x = .pointer (some ⟨b, 1, none⟩)) (h : Ob W b o v) (hk : wpList Tryd.prog ops Q rest (a.put p.dst (idv o.ir o.im)) W) : wpList Tryd.prog ops Q (p :: rest) a W :=
  wpList_val _ hw (run_ld_id ho hx (h.cell 1) (h.cell 2)) hk
theorem wpList_ld_parent (hw : Region.wanted p (yielded ops a.tmps) = true) (ho : p.op = .load 25 x) (hx : a.eval x = .pointer (some ⟨b, 6, none⟩)) (h : Ob W b o v) (hk : wpList Tryd.prog ops Q rest (a.put p.dst (idv o.pr o.pm)) W) : wpList Tryd.prog ops Q (p :: rest) a W :=
  wpList_val _ hw (run_ld_id ho hx (h.cell 6) (h.cell 7)) hk
theorem wpList_ld_seg (hw : Region.wanted p (yielded ops a.tmps) = true) (ho : p.op = .load 25 x) (hx : a.eval x = .pointer (some ⟨b, 9, none⟩)) (h : Ob W b o v) (hk : wpList Tryd.prog ops Q rest (a.put p.dst (idv o.sr o.sm)) W) : wpList Tryd.prog ops Q (p :: rest) a W :=
  wpList_val _ hw (run_ld_id ho hx (h.cell 9) (h.cell 10)) hk
theorem wpList_ld_left (hw : Region.wanted p (yielded ops a.tmps) = true) (ho : p.op = .load 27 x) (hx : a.eval x = .pointer (some ⟨b, 11, none⟩)) (h : Ob W b o v) (hk : wpList Tryd.prog ops Q rest (a.put p.dst (chv o.lr o.lm o.li)) W) : wpList Tryd.prog ops Q (p :: rest) a W :=
  wpList_val _ hw (run_ld_char ho hx (h.cell 11) (h.cell 12) (h.cell 13)) hk
theorem wpList_ld_right (hw : Region.wanted p (yielded ops a.tmps) = true) (ho : p.op = .load 27 x) (hx : a.eval x = .pointer (some ⟨b, 14, none⟩)) (h : Ob W b o v) (hk : wpList Tryd.prog ops Q rest (a.put p.dst (chv o.gr o.gm o.gi)) W) : wpList Tryd.prog ops Q (p :: rest) a W :=
  wpList_val _ hw (run_ld_char ho hx (h.cell 14) (h.cell 15) (h.cell 16)) hk
theorem wpList_ld_kind (hw : Region.wanted p (yielded ops a.tmps) = true) (ho : p.op = .load 3 x) (hx : a.eval x = .pointer (some ⟨b, 0, none⟩)) (h : Ob W b o v) (hk : wpList Tryd.prog ops Q rest (a.put p.dst (.int .i64 o.k)) W) : wpList Tryd.prog ops Q (p :: rest) a W :=
  wpList_val _ hw (run_ld_int ho hx (h.cell 0)) hk
theorem wpList_ld_t (hw : Region.wanted p (yielded ops a.tmps) = true) (ho : p.op = .load 3 x) (hx : a.eval x = .pointer (some ⟨b, 3, none⟩)) (h : Ob W b o v) (hk : wpList Tryd.prog ops Q rest (a.put p.dst (.int .i64 o.t)) W) : wpList Tryd.prog ops Q (p :: rest) a W :=
  wpList_val _ hw (run_ld_int ho hx (h.cell 3)) hk
theorem wpList_ld_key (hw : Region.wanted p (yielded ops a.tmps) = true) (ho : p.op = .load 9 x) (hx : a.eval x = .pointer (some ⟨b, 8, none⟩)) (h : Ob W b o v) (hk : wpList Tryd.prog ops Q rest (a.put p.dst (.string o.key)) W) : wpList Tryd.prog ops Q (p :: rest) a W :=
  wpList_val _ hw (run_ld_str ho hx (h.cell 8)) hk
theorem wpList_ld_text (hw : Region.wanted p (yielded ops a.tmps) = true) (ho : p.op = .load 9 x) (hx : a.eval x = .pointer (some ⟨b, 17, none⟩)) (h : Ob W b o v) (hk : wpList Tryd.prog ops Q rest (a.put p.dst (.string o.text)) W) : wpList Tryd.prog ops Q (p :: rest) a W :=
  wpList_val _ hw (run_ld_str ho hx (h.cell 17)) hk
theorem wpList_ld_cuts (hw : Region.wanted p (yielded ops a.tmps) = true) (ho : p.op = .load 28 x) (hx : a.eval x = .pointer (some ⟨b, 18, none⟩)) (h : Ob W b o v) (hk : wpList Tryd.prog ops Q rest (a.put p.dst v) W) : wpList Tryd.prog ops Q (p :: rest) a W :=
  wpList_val _ hw (run_ld_cuts ho hx (h.cell 18)) hk
theorem wpList_ld_flag (hw : Region.wanted p (yielded ops a.tmps) = true) (ho : p.op = .load 4 x) (hx : a.eval x = .pointer (some ⟨b, 19, none⟩)) (h : Ob W b o v) (hk : wpList Tryd.prog ops Q rest (a.put p.dst (.bool o.flag)) W) : wpList Tryd.prog ops Q (p :: rest) a W :=
  wpList_val _ hw (run_ld_bool ho hx (h.cell 19)) hk
end

/-- An op of which the kind, the name and the time are told, built. -/
def headO (o : Opn) : Opn := { Opn.zero with k := o.k, ir := o.ir, im := o.im, t := o.t }
theorem built_head (k r n t : Int) : Tryd.prog.built 30 [(0, .int .i64 k), (1, idv r n), (2, .int .i64 t)] = some (opl { Opn.zero with k := k, ir := r, im := n, t := t } (.slice none 0 0)) := by kernel_rfl
theorem wpList_build_head {ops : Array Oper} {rest : List Oper} {p : Oper} {a : Act} {w : World} {Q : Exit → Act → World → Prop} (hgd : p.guard = none) (x y z : Operand) (ho : p.op = .build 30 #[(0, x), (1, y), (2, z)]) (o : Opn)
    (h0 : a.eval x = .int .i64 o.k) (h1 : a.eval y = idv o.ir o.im) (h2 : a.eval z = .int .i64 o.t)
    (hk : wpList Tryd.prog ops Q rest (a.put p.dst (opv (headO o) (.slice none 0 0))) w) : wpList Tryd.prog ops Q (p :: rest) a w := by
  have e : (Array.map (fun ((i, x) : Nat × Operand) => (i, a.eval x)) #[(0, x), (1, y), (2, z)]).toList = [(0, .int .i64 o.k), (1, idv o.ir o.im), (2, .int .i64 o.t)] := by simp [h0, h1, h2]
  refine wpList_build hgd 30 #[(0, x), (1, y), (2, z)] ho ?_ ?_
  · rw [e, built_head]; rfl
  · rw [e, built_head]; exact hk
theorem below_fr {w W W' : World} {b : Nat} (h : Below w.heap.size w W) (hf : Fr (fun k => k = b) W W') (hb : w.heap.size ≤ b) : Below w.heap.size w W' :=
  h.trans (hf.below (fun k hk e => by omega) h.size)
theorem Ob.fr {S : Nat → Prop} {W W' : World} {b : Nat} {o : Opn} {v : Value} (h : Ob W b o v) (hf : Fr S W W') (hs : ¬ S b) : Ob W' b o v := by
  unfold Ob; rw [hf.block b h.lt hs]; exact h

/-- A new op; a whole op, stored. -/
theorem run_al_op {p : Oper} {a : Act} {W : World} (ho : p.op = .alloc 30) : (execOp a.eval p).run Tryd.prog W = .ok (.value (.pointer (some ⟨W.heap.size, 0, none⟩))) (W.alloc (opo Opn.zero (.slice none 0 0))) := by
  unfold execOp
  simp only [ho]
  kernel_rfl
theorem wpList_al_op {ops : Array Oper} {rest : List Oper} {p : Oper} {a : Act} {W : World} {Q : Exit → Act → World → Prop} (hw : Region.wanted p (yielded ops a.tmps) = true) (ho : p.op = .alloc 30)
    (hk : ∀ W', Ob W' W.heap.size Opn.zero (.slice none 0 0) → Below W.heap.size W W' → W.heap.size < W'.heap.size → wpList Tryd.prog ops Q rest (a.put p.dst (.pointer (some ⟨W.heap.size, 0, none⟩))) W') : wpList Tryd.prog ops Q (p :: rest) a W :=
  BigFrame.wpList_want hw fun K hK => by unfold Oper.wp; rw [run_al_op ho]; exact hK _ _ (hk _ (Ob.new W _ _) (ba W _) (by simp))
theorem wpList_st_op {ops : Array Oper} {rest : List Oper} {p : Oper} {a : Act} {W : World} {Q : Exit → Act → World → Prop} {x y : Operand} {b : Nat} {o o' : Opn} {v v' : Value} (hgd : p.guard = none) (ho : p.op = .store 30 x y)
    (hx : a.eval x = .pointer (some ⟨b, 0, none⟩)) (hy : a.eval y = opv o v) (hv : ∃ va n vc, v = .slice va n vc) (h : Ob W b o' v')
    (hk : ∀ W', Ob W' b o v → Fr (fun k => k = b) W W' → wpList Tryd.prog ops Q rest (a.put p.dst undef) W') : wpList Tryd.prog ops Q (p :: rest) a W :=
  wpList_store_op hgd x y ho b hx o v hv hy o' v' h (hk _ (setRow_heap _ _ _ _ _ _ h) (Fr.of_row W b _))

end Go.Proofs.YtniecbblhphbdaaDoor

/-
  What the reference's takeName and takeChar read is proved here, for every cursor.
-/
namespace Go.Proofs.YtniecbblhphbdaaDoor
open Go.RowKit
set_option linter.unusedVariables false
set_option maxRecDepth 100000

abbrev G48 : Int := 281474976710656
/-- The state of the reference's cursor. -/
def Cx (w : World) (c : Nat) (s : St) : Prop := Cur 66 w c s.1 s.2 ∧ Vl s ∧ s.1.length ≤ 1099511627776
theorem Cx.lt {w : World} {c : Nat} {s : St} (h : Cx w c s) : c < w.heap.size := Cur.lt h.1
theorem Cx.below {w w' : World} {c : Nat} {s : St} (h : Cx w c s) (hb : Below w.heap.size w w') : Cx w' c s := ⟨Cur.below h.1 hb, h.2⟩
theorem rt_vl {m : Int} {s : St} (h : Vl s) : Vl (rt m s).2 := (rt_sound m h).1
theorem xnum_s (c : Nat) (s : St) (most : Int) (w : World) (h : Cx w c s) :
    Calls Tryd.prog 33 #[.pointer (some ⟨c, 0, none⟩), .int .i64 most] w fun e w' =>
      e = .returned (.int .i64 (rn most s).1) ∧ Cx w' c (rn most s).2 ∧ w.grownBy w' (some c) :=
  (refnum_any c s.1 s.2 most w h.1 h.2.1.2).mono fun _ _ ⟨h1, h2, h3⟩ => ⟨h1, ⟨h2, rn_vl h.2.1, Nat.le_trans (rn_short most s) h.2.2⟩, h3⟩
theorem xtext_s (c : Nat) (s : St) (most : Int) (w : World) (h : Cx w c s) :
    Calls Tryd.prog 36 #[.pointer (some ⟨c, 0, none⟩), .int .i64 most] w fun e w' =>
      e = .returned (.string (rt most s).1) ∧ Cx w' c (rt most s).2 ∧ w.grownBy w' (some c) :=
  (reftext_any c s.1 s.2 most w h.1 h.2.1.2 (by have := h.2.2; omega)).mono fun _ _ ⟨h1, h2, h3⟩ => ⟨h1, ⟨h2, rt_vl h.2.1, Nat.le_trans (rt_short most s h.2.1.1).2 h.2.2⟩, h3⟩

/-- A cursor that is elsewhere while a block without bytes changes. -/
theorem Cx.fr {S : Nat → Prop} {w w' : World} {c : Nat} {s : St} (h : Cx w c s) (hf : Fr S w w') (hc : ¬ S c) (hb : ∀ k, S k → ∀ j x, w.cell? ⟨k, j, none⟩ ≠ some (.int .u8 x)) : Cx w' c s := by
  obtain ⟨⟨v, h1, a, cp, rfl, h3, h4, h5, h6, h7⟩, h2⟩ := h
  refine ⟨⟨_, hf.rows h1 hc, a, cp, rfl, h3, h4, h5, fun i hi => ?_, h7⟩, h2⟩
  obtain ⟨b, off, e1, e2⟩ := h6 i hi
  refine ⟨b, off, e1, ?_⟩
  rw [World.cell?_of_block (w := w) (hf.block b (World.block_lt_of_cell? _ _ e2) (fun hs => hb b hs _ _ e2))]
  exact e2
theorem Ob.no_byte {w : World} {b : Nat} {o : Opn} {v : Value} (h : Ob w b o v) (hv : ∃ va n vc, v = .slice va n vc) : ∀ k, k = b → ∀ j x, w.cell? ⟨k, j, none⟩ ≠ some (.int .u8 x) := by
  obtain ⟨va, n, vc, rfl⟩ := hv
  intro k hk j x hc
  subst hk
  rw [h.cell j] at hc
  have hj : j < 20 := (Array.getElem?_eq_some_iff.1 hc).1
  have hcases : j = 0 ∨ j = 1 ∨ j = 2 ∨ j = 3 ∨ j = 4 ∨ j = 5 ∨ j = 6 ∨ j = 7 ∨ j = 8 ∨ j = 9 ∨ j = 10 ∨ j = 11 ∨ j = 12 ∨ j = 13 ∨ j = 14 ∨ j = 15 ∨ j = 16 ∨ j = 17 ∨ j = 18 ∨ j = 19 := by omega
  rcases hcases with rfl | rfl | rfl | rfl | rfl | rfl | rfl | rfl | rfl | rfl | rfl | rfl | rfl | rfl | rfl | rfl | rfl | rfl | rfl | rfl <;> simp at hc
theorem Cx.op {w w' : World} {c b : Nat} {s : St} {o : Opn} {va : Option Addr} {n vc : Nat} (h : Cx w c s) (hf : Fr (fun k => k = b) w w') (hc : ¬ c = b) (ho : Ob w b o (.slice va n vc)) : Cx w' c s := h.fr hf hc (ho.no_byte ⟨_, _, _, rfl⟩)
theorem Cx.set {w : World} {c b i : Nat} {s : St} {cs : Array Value} {T : TypeId} (h : Cx w c s) (hr : w.heap[b]? = some (.cells cs T (0, 0))) (hbc : b ≠ c) (hi : ∃ z, cs[i]? = some z ∧ ∀ x, z ≠ .int .u8 x) (v : Value) : Cx (w.setCell ⟨b, i, none⟩ v) c s := ⟨Cur.set_row h.1 hr hbc hi v, h.2⟩

set_option maxHeartbeats 1000000 in
theorem xname_r (c : Nat) (s : St) (w : World) (h : Cx w c s) :
    Calls Tryd.prog 34 #[.pointer (some ⟨c, 0, none⟩)] w fun e w' =>
      e = .returned (idv (rn G48 s).1 (rn G48 (rn G48 s).2).1) ∧ Cx w' c (rn G48 (rn G48 s).2).2 ∧ Fr (fun k => k = c) w w' := by
  have hlt := h.lt
  have HA := hid (ba w (ido 25 0 0))
  have HC := hid (h.below HA.out)
  have R2 := hid (heap_alloc_new w (ido 25 0 0))
  obtain ⟨p1, hp1⟩ : ∃ p1, rn G48 s = p1 := ⟨_, rfl⟩
  have N1 := hid (fun W => xnum_s c s G48 W)
  rw [hp1] at N1 ⊢
  obtain ⟨p2, hp2⟩ : ∃ p2, rn G48 p1.2 = p2 := ⟨_, rfl⟩
  have N2 := hid (fun W => xnum_s c p1.2 G48 W)
  rw [hp2] at N2 ⊢
  clear h hp1 hp2
  go_enter Tryd.func34, Tryd.ntmps34
  go_wp2_with fail
  refine (N1.out _ HC.out).mono ?_
  rintro e w1 ⟨rfl, hc1, hg1⟩
  have H2 := hid (grown_row hg1 R2.out (by omega))
  have HC1 := hid hc1
  have HG1 := hid hg1
  clear hc1 hg1
  go_wp2_with fail
  refine (N2.out _ HC1.out).mono ?_
  rintro e w2 ⟨rfl, hc2, hg2⟩
  have H3 := hid (grown_row hg2 H2.out (by omega))
  have HC2 := hid hc2
  have HG2 := hid hg2
  have q2 : w2.cell? ⟨w.heap.size, 0, none⟩ = some (.int .i64 0) := cell_of_row w2 w.heap.size 0 _ _ _ H3.out
  have q3 : w2.cell? ⟨w.heap.size, 1, none⟩ = some (.int .i64 0) := cell_of_row w2 w.heap.size 1 _ _ _ H3.out
  have f2 := frozen_of_row w2 w.heap.size 0 _ _ H3.out
  have f3 := frozen_of_row w2 w.heap.size 1 _ _ H3.out
  clear hc2 hg2
  go_wp2
  have H4 := set_row (i := 0) H3.out (.int .i64 p1.1)
  have H5 := set_row (i := 1) H4 (.int .i64 p2.1)
  refine bodyPost_ret (results_cell_row rfl _ _ w.heap.size 25 #[.int .i64 p1.1, .int .i64 p2.1] (0, 0) _ rfl H5 Tryd.underlying25 rfl (by kernel_rfl)) rfl ?_
  refine ⟨rfl, ?_, ?_⟩
  · exact (HC2.out.set H3.out (by omega) ⟨_, rfl, fun x => by simp⟩ _).set H4 (by omega) ⟨_, rfl, fun x => by simp⟩ _
  · have h0 : Fr (fun k => k = c) w w2 := ((Fr.of_below HA.out).trans (Fr.grown HG1.out) (fun _ _ h => h)).trans (Fr.grown HG2.out) (fun _ _ h => h)
    exact (h0.set 0 _ (.inl (by omega))).set 1 _ (.inl (by omega))

set_option maxHeartbeats 2000000 in
theorem xchar_r (c : Nat) (s : St) (w : World) (h : Cx w c s) :
    Calls Tryd.prog 35 #[.pointer (some ⟨c, 0, none⟩)] w fun e w' =>
      e = .returned (chv (rn G48 s).1 (rn G48 (rn G48 s).2).1 (rn G48 (rn G48 (rn G48 s).2).2).1) ∧ Cx w' c (rn G48 (rn G48 (rn G48 s).2).2).2 ∧ Fr (fun k => k = c) w w' := by
  have hlt := h.lt
  have HA := hid (ba w (cho 0 0 0))
  have HC := hid (h.below HA.out)
  have R2 := hid (heap_alloc_new w (cho 0 0 0))
  have N1 := hid (fun W => xname_r c s W)
  obtain ⟨p1, hp1⟩ : ∃ p1, rn G48 s = p1 := ⟨_, rfl⟩
  rw [hp1] at N1 ⊢
  obtain ⟨p2, hp2⟩ : ∃ p2, rn G48 p1.2 = p2 := ⟨_, rfl⟩
  rw [hp2] at N1 ⊢
  have N2 := hid (fun W => xnum_s c p2.2 G48 W)
  obtain ⟨p3, hp3⟩ : ∃ p3, rn G48 p2.2 = p3 := ⟨_, rfl⟩
  rw [hp3] at N2 ⊢
  clear h hp1 hp2 hp3
  go_enter Tryd.func35, Tryd.ntmps35
  go_wp2_with fail
  refine (N1.out _ HC.out).mono ?_
  rintro e w1 ⟨rfl, hc1, hf1⟩
  have H2 := hid (hf1.rows R2.out (by omega))
  have HF1 := hid ((Fr.of_below HA.out).trans hf1 (fun _ _ h => h))
  have hs1 : w.heap.size < w1.heap.size := (Array.getElem?_eq_some_iff.1 H2.out).1
  have HA2 := hid (ba w1 (ido 25 p1.1 p2.1))
  have HC1 := hid (hc1.below HA2.out)
  have H4 := hid (((Fr.of_below HA2.out : Fr (fun k => k = c) _ _)).rows H2.out (by omega))
  have H5 := hid (heap_alloc_new w1 (ido 25 p1.1 p2.1))
  clear hc1 hf1
  go_wp2_with fail
  go_region_law (go_simp; go_at_call 33; refine (N2.out (w1.alloc (ido 25 p1.1 p2.1)).drew HC1.out).mono ?_; rintro e w2 ⟨rfl, hc2, hg2⟩; have HG2 := hid hg2; have HC2 := hid hc2; have H6 := hid (grown_row hg2 H4.out (by omega)); have H7 := hid (grown_row hg2 H5.out (by omega)); have t0 := cell_of_row w2 _ 0 _ _ _ H6.out; have t1 := cell_of_row w2 _ 1 _ _ _ H6.out; have t2 := cell_of_row w2 _ 2 _ _ _ H6.out; have g0 := frozen_of_row w2 _ 0 _ _ H6.out; have g1 := frozen_of_row w2 _ 1 _ _ H6.out; have g2 := frozen_of_row w2 _ 2 _ _ H6.out; have u0 := cell_of_row w2 _ 0 _ _ _ H7.out; have u1 := cell_of_row w2 _ 1 _ _ _ H7.out; simp at t0 t1 t2 u0 u1)
  all_goals
    go_wp2
    have K1 := set_row (i := 0) H6.out (.int .i64 p1.1)
    have K2 := set_row (i := 1) K1 (.int .i64 p2.1)
    have K3 := set_row (i := 2) K2 (.int .i64 p3.1)
    refine bodyPost_ret (results_cell_row rfl _ _ w.heap.size 27 #[.int .i64 p1.1, .int .i64 p2.1, .int .i64 p3.1] (0, 0) _ rfl K3 Tryd.underlying27 rfl (by kernel_rfl)) rfl ?_
    refine ⟨rfl, ?_, ?_⟩
    · exact ((HC2.out.set H6.out (by omega) ⟨_, rfl, fun x => by simp⟩ _).set K1 (by omega) ⟨_, rfl, fun x => by simp⟩ _).set K2 (by omega) ⟨_, rfl, fun x => by simp⟩ _
    · have h0 : Fr (fun k => k = c) w w2 := (HF1.out.trans (Fr.of_below ((HA2.out).drew) : Fr (fun k => k = c) _ _) (fun _ _ h => h)).trans (Fr.grown HG2.out) (fun _ _ h => h)
      exact ((h0.set 0 _ (.inl (by omega))).set 1 _ (.inl (by omega))).set 2 _ (.inl (by omega))

end Go.Proofs.YtniecbblhphbdaaDoor

/-
  The reference's reads once more, with names for what was read: 'Rel R L o s': what is left to read (the fields L, from the state s, into the op o) comes to R.
-/
namespace Go.Proofs.YtniecbblhphbdaaDoor
open Go.RowKit
set_option linter.unusedVariables false
set_option maxRecDepth 100000

def Rel (R : Opn × St) (L : List Nat) (o : Opn) (s : St) : Prop := R = L.foldl (fun p f => rdF Bnd.ref f p) (o, s)
def Rd1 (m : Int) (s : St) (a : Int) (s' : St) : Prop := a = (rn m s).1 ∧ s' = (rn m s).2
def Rd2 (s : St) (a b : Int) (s' : St) : Prop := a = (rn G48 s).1 ∧ b = (rn G48 (rn G48 s).2).1 ∧ s' = (rn G48 (rn G48 s).2).2
def Rd3 (s : St) (a b d : Int) (s' : St) : Prop := a = (rn G48 s).1 ∧ b = (rn G48 (rn G48 s).2).1 ∧ d = (rn G48 (rn G48 (rn G48 s).2).2).1 ∧ s' = (rn G48 (rn G48 (rn G48 s).2).2).2
def Rdt (m : Int) (s : St) (t : ByteArray) (s' : St) : Prop := t = (rt m s).1 ∧ s' = (rt m s).2

theorem gname (c : Nat) (s : St) (w : World) (h : Cx w c s) :
    Calls Tryd.prog 34 #[.pointer (some ⟨c, 0, none⟩)] w fun e w' => ∃ a b s', e = .returned (idv a b) ∧ Cx w' c s' ∧ Fr (fun k => k = c) w w' ∧ Rd2 s a b s' :=
  (xname_r c s w h).mono fun _ _ ⟨h1, h2, h3⟩ => ⟨_, _, _, h1, h2, h3, rfl, rfl, rfl⟩
theorem gchar (c : Nat) (s : St) (w : World) (h : Cx w c s) :
    Calls Tryd.prog 35 #[.pointer (some ⟨c, 0, none⟩)] w fun e w' => ∃ a b d s', e = .returned (chv a b d) ∧ Cx w' c s' ∧ Fr (fun k => k = c) w w' ∧ Rd3 s a b d s' :=
  (xchar_r c s w h).mono fun _ _ ⟨h1, h2, h3⟩ => ⟨_, _, _, _, h1, h2, h3, rfl, rfl, rfl, rfl⟩
theorem gnum (c : Nat) (s : St) (m : Int) (w : World) (h : Cx w c s) :
    Calls Tryd.prog 33 #[.pointer (some ⟨c, 0, none⟩), .int .i64 m] w fun e w' => ∃ a s', e = .returned (.int .i64 a) ∧ Cx w' c s' ∧ Fr (fun k => k = c) w w' ∧ Rd1 m s a s' :=
  (xnum_s c s m w h).mono fun _ _ ⟨h1, h2, h3⟩ => ⟨_, _, h1, h2, Fr.grown h3, rfl, rfl⟩
theorem gtext (c : Nat) (s : St) (m : Int) (w : World) (h : Cx w c s) :
    Calls Tryd.prog 36 #[.pointer (some ⟨c, 0, none⟩), .int .i64 m] w fun e w' => ∃ a s', e = .returned (.string a) ∧ Cx w' c s' ∧ Fr (fun k => k = c) w w' ∧ Rdt m s a s' :=
  (xtext_s c s m w h).mono fun _ _ ⟨h1, h2, h3⟩ => ⟨_, _, h1, h2, Fr.grown h3, rfl, rfl⟩

section
variable {R : Opn × St} {L : List Nat} {o : Opn} {s s' : St} {a b d : Int} {t : ByteArray}
theorem rel_block (h : Rel R (0 :: L) o s) (q : Rd2 s a b s') : Rel R L { o with br := a, bm := b } s' := by obtain ⟨rfl, rfl, rfl⟩ := q; exact h
theorem rel_parent (h : Rel R (1 :: L) o s) (q : Rd2 s a b s') : Rel R L { o with pr := a, pm := b } s' := by obtain ⟨rfl, rfl, rfl⟩ := q; exact h
theorem rel_key (h : Rel R (2 :: L) o s) (q : Rdt G48 s t s') : Rel R L { o with key := t } s' := by obtain ⟨rfl, rfl⟩ := q; exact h
theorem rel_seg (h : Rel R (3 :: L) o s) (q : Rd2 s a b s') : Rel R L { o with sr := a, sm := b } s' := by obtain ⟨rfl, rfl, rfl⟩ := q; exact h
theorem rel_left (h : Rel R (4 :: L) o s) (q : Rd3 s a b d s') : Rel R L { o with lr := a, lm := b, li := d } s' := by obtain ⟨rfl, rfl, rfl, rfl⟩ := q; exact h
theorem rel_right (h : Rel R (5 :: L) o s) (q : Rd3 s a b d s') : Rel R L { o with gr := a, gm := b, gi := d } s' := by obtain ⟨rfl, rfl, rfl, rfl⟩ := q; exact h
theorem rel_text (h : Rel R (6 :: L) o s) (q : Rdt G48 s t s') : Rel R L { o with text := t } s' := by obtain ⟨rfl, rfl⟩ := q; exact h
theorem rel_flag (h : Rel R (8 :: L) o s) (q : Rd1 1 s a s') : Rel R L { o with flag := a == 1 } s' := by obtain ⟨rfl, rfl⟩ := q; exact h
end

/-- What is left to read, the kind, and that there are no cuts. -/
structure Inv (R : Opn × St) (L : List Nat) (K : Int) (o : Opn) (s : St) : Prop where
  rel : Rel R L o s
  kind : o.k = K
  cuts : o.cuts = []
section
variable {ops : Array Oper} {rest : List Oper} {p : Oper} {ac : Act} {W : World} {Q : Exit → Act → World → Prop} {x y : Operand} {bl : Nat} {o : Opn} {v : Value} {R : Opn × St} {L : List Nat} {K : Int} {s s' : St}
theorem wpList_ld_kk (ho : p.op = .load 3 x) (hx : ac.eval x = .pointer (some ⟨bl, 0, none⟩)) (h : Ob W bl o v) (hi : Inv R L K o s) (hw : Region.wanted p (yielded ops ac.tmps) = true) (hk : wpList Tryd.prog ops Q rest (ac.put p.dst (.int .i64 K)) W) : wpList Tryd.prog ops Q (p :: rest) ac W :=
  wpList_ld_kind hw ho hx h (by rw [hi.kind]; exact hk)
theorem wpList_rd_block {a b : Int} (ho : p.op = .store 25 x y) (hx : ac.eval x = .pointer (some ⟨bl, 4, none⟩)) (hy : ac.eval y = idv a b) (h : Ob W bl o v) (hi : Inv R (0 :: L) K o s) (q : Rd2 s a b s') (hw : Region.wanted p (yielded ops ac.tmps) = true)
    (hk : ∀ W' o', Ob W' bl o' v → Fr (fun k => k = bl) W W' → Inv R L K o' s' → wpList Tryd.prog ops Q rest (ac.put p.dst undef) W') : wpList Tryd.prog ops Q (p :: rest) ac W :=
  wpList_st_block hw ho hx hy h fun W' h1 h2 => hk W' _ h1 h2 ⟨rel_block hi.rel q, hi.kind, hi.cuts⟩
theorem wpList_rd_parent {a b : Int} (ho : p.op = .store 25 x y) (hx : ac.eval x = .pointer (some ⟨bl, 6, none⟩)) (hy : ac.eval y = idv a b) (h : Ob W bl o v) (hi : Inv R (1 :: L) K o s) (q : Rd2 s a b s') (hw : Region.wanted p (yielded ops ac.tmps) = true)
    (hk : ∀ W' o', Ob W' bl o' v → Fr (fun k => k = bl) W W' → Inv R L K o' s' → wpList Tryd.prog ops Q rest (ac.put p.dst undef) W') : wpList Tryd.prog ops Q (p :: rest) ac W :=
  wpList_st_parent hw ho hx hy h fun W' h1 h2 => hk W' _ h1 h2 ⟨rel_parent hi.rel q, hi.kind, hi.cuts⟩
theorem wpList_rd_key {t : ByteArray} (ho : p.op = .store 9 x y) (hx : ac.eval x = .pointer (some ⟨bl, 8, none⟩)) (hy : ac.eval y = .string t) (h : Ob W bl o v) (hi : Inv R (2 :: L) K o s) (q : Rdt G48 s t s') (hw : Region.wanted p (yielded ops ac.tmps) = true)
    (hk : ∀ W' o', Ob W' bl o' v → Fr (fun k => k = bl) W W' → Inv R L K o' s' → wpList Tryd.prog ops Q rest (ac.put p.dst undef) W') : wpList Tryd.prog ops Q (p :: rest) ac W :=
  wpList_st_key hw ho hx hy h fun W' h1 h2 => hk W' _ h1 h2 ⟨rel_key hi.rel q, hi.kind, hi.cuts⟩
theorem wpList_rd_seg {a b : Int} (ho : p.op = .store 25 x y) (hx : ac.eval x = .pointer (some ⟨bl, 9, none⟩)) (hy : ac.eval y = idv a b) (h : Ob W bl o v) (hi : Inv R (3 :: L) K o s) (q : Rd2 s a b s') (hw : Region.wanted p (yielded ops ac.tmps) = true)
    (hk : ∀ W' o', Ob W' bl o' v → Fr (fun k => k = bl) W W' → Inv R L K o' s' → wpList Tryd.prog ops Q rest (ac.put p.dst undef) W') : wpList Tryd.prog ops Q (p :: rest) ac W :=
  wpList_st_seg hw ho hx hy h fun W' h1 h2 => hk W' _ h1 h2 ⟨rel_seg hi.rel q, hi.kind, hi.cuts⟩
theorem wpList_rd_left {a b d : Int} (ho : p.op = .store 27 x y) (hx : ac.eval x = .pointer (some ⟨bl, 11, none⟩)) (hy : ac.eval y = chv a b d) (h : Ob W bl o v) (hi : Inv R (4 :: L) K o s) (q : Rd3 s a b d s') (hw : Region.wanted p (yielded ops ac.tmps) = true)
    (hk : ∀ W' o', Ob W' bl o' v → Fr (fun k => k = bl) W W' → Inv R L K o' s' → wpList Tryd.prog ops Q rest (ac.put p.dst undef) W') : wpList Tryd.prog ops Q (p :: rest) ac W :=
  wpList_st_left hw ho hx hy h fun W' h1 h2 => hk W' _ h1 h2 ⟨rel_left hi.rel q, hi.kind, hi.cuts⟩
theorem wpList_rd_right {a b d : Int} (ho : p.op = .store 27 x y) (hx : ac.eval x = .pointer (some ⟨bl, 14, none⟩)) (hy : ac.eval y = chv a b d) (h : Ob W bl o v) (hi : Inv R (5 :: L) K o s) (q : Rd3 s a b d s') (hw : Region.wanted p (yielded ops ac.tmps) = true)
    (hk : ∀ W' o', Ob W' bl o' v → Fr (fun k => k = bl) W W' → Inv R L K o' s' → wpList Tryd.prog ops Q rest (ac.put p.dst undef) W') : wpList Tryd.prog ops Q (p :: rest) ac W :=
  wpList_st_right hw ho hx hy h fun W' h1 h2 => hk W' _ h1 h2 ⟨rel_right hi.rel q, hi.kind, hi.cuts⟩
theorem wpList_rd_text {t : ByteArray} (ho : p.op = .store 9 x y) (hx : ac.eval x = .pointer (some ⟨bl, 17, none⟩)) (hy : ac.eval y = .string t) (h : Ob W bl o v) (hi : Inv R (6 :: L) K o s) (q : Rdt G48 s t s') (hw : Region.wanted p (yielded ops ac.tmps) = true)
    (hk : ∀ W' o', Ob W' bl o' v → Fr (fun k => k = bl) W W' → Inv R L K o' s' → wpList Tryd.prog ops Q rest (ac.put p.dst undef) W') : wpList Tryd.prog ops Q (p :: rest) ac W :=
  wpList_st_text hw ho hx hy h fun W' h1 h2 => hk W' _ h1 h2 ⟨rel_text hi.rel q, hi.kind, hi.cuts⟩
theorem wpList_rd_flag {a : Int} (ho : p.op = .store 4 x y) (hx : ac.eval x = .pointer (some ⟨bl, 19, none⟩)) (hy : ac.eval y = .bool (a == 1)) (h : Ob W bl o v) (hi : Inv R (8 :: L) K o s) (q : Rd1 1 s a s') (hw : Region.wanted p (yielded ops ac.tmps) = true)
    (hk : ∀ W' o', Ob W' bl o' v → Fr (fun k => k = bl) W W' → Inv R L K o' s' → wpList Tryd.prog ops Q rest (ac.put p.dst undef) W') : wpList Tryd.prog ops Q (p :: rest) ac W :=
  wpList_st_flag hw ho hx hy h fun W' h1 h2 => hk W' _ h1 h2 ⟨rel_flag hi.rel q, hi.kind, hi.cuts⟩
end

/-- A row of the call's own is none of the other blocks. -/
theorem own_far {w : World} {B e sz n b : Nat} {v : Value} {xs : List Value} {cells : Array Value} {T : TypeId} {f : Nat × Nat} (h : w.ownsRow B e sz v n xs) (hk : w.heap[b]? = some (.cells cells T f)) (hT : T ≠ e) : v.ownBlock ≠ some b := by
  intro eb
  rcases h.2 with ⟨rfl, _⟩ | ⟨g, cap, cur, rfl, _, hg, _⟩
  · cases eb
  · simp [Value.ownBlock] at eb
    subst eb
    rw [hk] at hg
    simp at hg
    exact hT hg.2.1
theorem own_fr {S : Nat → Prop} {w w' : World} {B e sz n : Nat} {v : Value} {xs : List Value} (h : w.ownsRow B e sz v n xs) (hf : Fr S w w') (hs : ∀ k, v.ownBlock = some k → ¬ S k) : w'.ownsRow B e sz v n xs := by
  refine ⟨h.1, ?_⟩
  rcases h.2 with h0 | ⟨g, cap, cur, rfl, hg, hh, r⟩
  · exact .inl h0
  · exact .inr ⟨g, cap, cur, rfl, hg, by rw [hf.block g (Array.getElem?_eq_some_iff.1 hh).1 (hs g rfl)]; exact hh, r⟩

/-- A cut in a block of its own. -/
abbrev cutl (a b f t : Int) : Array Value := #[.int .i64 a, .int .i64 b, .int .i64 f, .int .i64 t]
def Cb (w : World) (x : Nat) (a b f t : Int) : Prop := w.heap[x]? = some (.cells (cutl a b f t) 71 (0, 0))
theorem Cb.lt {w : World} {x : Nat} {a b f t : Int} (h : Cb w x a b f t) : x < w.heap.size := (Array.getElem?_eq_some_iff.1 h).1
theorem Cb.fr {S : Nat → Prop} {w w' : World} {x : Nat} {a b f t : Int} (h : Cb w x a b f t) (hf : Fr S w w') (hs : ¬ S x) : Cb w' x a b f t := hf.rows h hs
theorem Cb.no_byte {w : World} {x : Nat} {a b f t : Int} (h : Cb w x a b f t) : ∀ k, k = x → ∀ j y, w.cell? ⟨k, j, none⟩ ≠ some (.int .u8 y) := by
  intro k hk j y hc
  subst hk
  rw [cell_of_row w k j _ _ _ h] at hc
  have hj : j < 4 := (Array.getElem?_eq_some_iff.1 hc).1
  have hcases : j = 0 ∨ j = 1 ∨ j = 2 ∨ j = 3 := by omega
  rcases hcases with rfl | rfl | rfl | rfl <;> simp at hc
section
variable {ops : Array Oper} {rest : List Oper} {p : Oper} {ac : Act} {W : World} {Q : Exit → Act → World → Prop} {x y : Operand} {xb : Nat} {a b f t s : Int}
theorem wpList_cb_f (ho : p.op = .store 3 x y) (hx : ac.eval x = .pointer (some ⟨xb, 2, none⟩)) (hy : ac.eval y = .int .i64 s) (h : Cb W xb a b f t) (hw : Region.wanted p (yielded ops ac.tmps) = true)
    (hk : ∀ W', Cb W' xb a b s t → Fr (fun k => k = xb) W W' → wpList Tryd.prog ops Q rest (ac.put p.dst undef) W') : wpList Tryd.prog ops Q (p :: rest) ac W :=
  wpList_nil _ hw (run_st_int ho hx hy h (show 2 < 4 by decide)) (hk _ (set_row (i := 2) h _) (Fr.of_set W xb 2 _))
theorem wpList_cb_t (ho : p.op = .store 3 x y) (hx : ac.eval x = .pointer (some ⟨xb, 3, none⟩)) (hy : ac.eval y = .int .i64 s) (h : Cb W xb a b f t) (hw : Region.wanted p (yielded ops ac.tmps) = true)
    (hk : ∀ W', Cb W' xb a b f s → Fr (fun k => k = xb) W W' → wpList Tryd.prog ops Q rest (ac.put p.dst undef) W') : wpList Tryd.prog ops Q (p :: rest) ac W :=
  wpList_nil _ hw (run_st_int ho hx hy h (show 3 < 4 by decide)) (hk _ (set_row (i := 3) h _) (Fr.of_set W xb 3 _))
theorem run_ld_cut (ho : p.op = .load 71 x) (hx : ac.eval x = .pointer (some ⟨xb, 0, none⟩)) (h : Cb W xb a b f t) : (execOp ac.eval p).run Tryd.prog W = .ok (.value (.agg (cutl a b f t))) W := by
  have h0 : W.cell? ⟨xb, 0, none⟩ = some (.int .i64 a) := cell_of_row W xb 0 _ _ _ h
  have h1 : W.cell? ⟨xb, 1, none⟩ = some (.int .i64 b) := cell_of_row W xb 1 _ _ _ h
  have h2 : W.cell? ⟨xb, 2, none⟩ = some (.int .i64 f) := cell_of_row W xb 2 _ _ _ h
  have h3 : W.cell? ⟨xb, 3, none⟩ = some (.int .i64 t) := cell_of_row W xb 3 _ _ _ h
  unfold execOp
  simp only [ho, hx]
  simp [go_sem, h0, h1, h2, h3]
theorem wpList_ld_cut (ho : p.op = .load 71 x) (hx : ac.eval x = .pointer (some ⟨xb, 0, none⟩)) (h : Cb W xb a b f t) (hw : Region.wanted p (yielded ops ac.tmps) = true) (hk : wpList Tryd.prog ops Q rest (ac.put p.dst (.agg (cutl a b f t))) W) : wpList Tryd.prog ops Q (p :: rest) ac W :=
  wpList_val _ hw (run_ld_cut ho hx h) hk
theorem run_cut1 (a b f t : Int) (w : World) : (Instr.buildSlice 28 1 #[(0, .agg (cutl a b f t))]).run Tryd.prog w = .ok (.slice (some ⟨w.heap.size, 0, none⟩) 1 1) (w.alloc (.cells (cutl a b f t) 71)) := by kernel_rfl
theorem wpList_cut1 (ho : p.op = .buildSlice 28 1 #[(0, x)]) (hx : ac.eval x = .agg (cutl a b f t)) (hw : Region.wanted p (yielded ops ac.tmps) = true)
    (hk : ∀ W' u, Sl 4 W' u 1 (cutc ⟨a, b, f, t⟩) → Below W.heap.size W W' → wpList Tryd.prog ops Q rest (ac.put p.dst u) W') : wpList Tryd.prog ops Q (p :: rest) ac W := by
  refine BigFrame.wpList_want hw fun K hK => ?_
  unfold Oper.wp execOp
  have e : (Array.map (fun ((i, x) : Nat × Operand) => (i, ac.eval x)) #[(0, x)]) = #[(0, .agg (cutl a b f t))] := by simp [hx]
  simp only [ho, e, Sem.run_bind, run_cut1, Result.andThen_ok]
  exact hK _ _ (hk _ _ (Sl.lit W 71 (cutl a b f t) 1 (by decide) rfl) (ba W _))
end
theorem rcuts_step (B : Bnd) (j : Nat) (s : St) : (rcuts B (j + 1) s).1 = (rcuts B j s).1 ++ [(rcut B (rcuts B j s).2).1] ∧ (rcuts B (j + 1) s).2 = (rcut B (rcuts B j s).2).2 := ⟨rfl, rfl⟩

end Go.Proofs.YtniecbblhphbdaaDoor

/-
  An append to a row of the call's own in which there is no byte: there is none behind it either (so a cursor's bytes lie elsewhere).
-/
namespace Go.Proofs.YtniecbblhphbdaaDoor
open Go.RowKit
set_option linter.unusedVariables false
set_option maxRecDepth 100000

def NoB (u : Value) : Prop := ∀ x, u ≠ .int .u8 x
/-- No byte lies in the row's block. -/
def Clean (w : World) (v : Value) : Prop := ∀ g, v.ownBlock = some g → ∀ j x, w.cell? ⟨g, j, none⟩ ≠ some (.int .u8 x)
theorem Clean.nil (w : World) : Clean w (.slice none 0 0) := fun g h => by cases h
theorem Clean.kept {w w' : World} {v : Value} (h : Clean w v) (hb : ∀ k, v.ownBlock = some k → w'.heap[k]? = w.heap[k]?) : Clean w' v := fun g hg j x hc => by
  rw [World.cell?_of_block (w := w) (hb g hg)] at hc
  exact h g hg j x hc
theorem clean_row {w : World} {g n c : Nat} {cells : Array Value} {e : TypeId} {f : Nat × Nat} (h : w.heap[g]? = some (.cells cells e f)) (hc : ∀ u ∈ cells.toList, NoB u) : Clean w (.slice (some ⟨g, 0, none⟩) n c) := by
  intro g' hg j x hx
  simp [Value.ownBlock] at hg
  subst hg
  rw [cell_of_row w g j _ _ _ h] at hx
  have hm : (Value.int .u8 x) ∈ cells.toList := by
    have := Array.mem_of_getElem? hx
    simpa using this
  exact hc _ hm x rfl
theorem zero_nob {z : Array Value} {n : Nat} (hz : ∀ u ∈ z.toList, NoB u) (h0 : 0 < z.size) : ∀ u ∈ (Builtin.zeroCells z n).toList, NoB u := by
  intro u hu
  simp only [Builtin.zeroCells, Array.toList_map, List.mem_map] at hu
  obtain ⟨i, _, rfl⟩ := hu
  have hlt : i % z.size < z.size := Nat.mod_lt _ h0
  rw [getElem!_pos z _ hlt]
  exact hz _ (by simp)

theorem append_clean (w : World) (t ty e : TypeId) (i : TypeInfo) (z : Value) (size bytes base : Nat) (ht : Tryd.prog.underlying t = some (.slice e)) (hi : Tryd.prog.info? e = some i) (hz : i.zero = some z)
    (hsize : i.size = size) (hby : i.bytes = bytes) (hzs : z.cells.size = size) (hsz : 0 < size) (v : Value) (n : Nat) (xs : List Value) (hown : w.ownsRow base e size v n xs)
    (a : Addr) (m c : Nat) (news : List Value) (hl : news.length = m * size) (hnews : ∀ j u, news[j]? = some u → w.cell? (a.add j) = some u) (h1 : ∀ u ∈ news, u.oneCell' = true) (hm : 0 < m)
    (h63 : n + m ≤ maxLen) (hbytes : (n + m) * bytes ≤ 140737488355328) (hc : Clean w v) (hzn : ∀ u ∈ z.cells.toList, NoB u) (hnn : ∀ u ∈ news, NoB u)
    (v' : Value) (w' : World) (hr : (Builtin.append_ #[t, t] ty #[v, .slice (some a) m c]).run Tryd.prog w = .ok v' w') : Clean w' v' := by
  subst hsize
  subst hby
  have hsmall : n + m ≤ 9223372036854775807 := by simp only [maxLen] at h63; omega
  have hz0 : 0 < z.cells.size := by omega
  rcases hown.2 with ⟨rfl, rfl⟩ | ⟨g, cap, cur, rfl, hbg, hg, hnc, hcm, hcs, htake⟩
  · have hr2 := run_append_nil (P := Tryd.prog) w t ty e i z ht hi hz a m c news hl hnews hm (by omega) (by have hb := hbytes; simp only [Nat.zero_add] at hb; omega)
    rw [hr] at hr2
    simp only [Result.ok.injEq] at hr2
    obtain ⟨rfl, rfl⟩ := hr2
    refine clean_row (w := w.drew.alloc _) (heap_alloc_new w.drew _) fun u hu => ?_
    rw [Array.toList_append] at hu
    rcases List.mem_append.1 hu with hu | hu
    · exact hnn u (by simpa using hu)
    · exact zero_nob hzn hz0 u hu
  · have hcur : ∀ u ∈ cur.toList, NoB u := by
      intro u hu x e
      obtain ⟨j, hj, he⟩ := List.getElem_of_mem hu
      refine hc g rfl j x ?_
      rw [cell_of_row w g j _ _ _ hg, ← e, ← he]
      simp at hj ⊢
    have hxs : ∀ u ∈ xs, NoB u := fun u hu => hcur u (List.mem_of_mem_take (by rw [htake]; exact hu))
    by_cases hroom : n + m ≤ cap
    · have hfit : n * i.size + news.length ≤ cur.size := by rw [hl, hcs, ← Nat.add_mul]; exact Nat.mul_le_mul_right _ hroom
      have hr2 := run_append_room (P := Tryd.prog) w t ty e i ht hi g n cap cur hg a m c news hl hnews h1 hroom hfit
      rw [hr] at hr2
      simp only [Result.ok.injEq] at hr2
      obtain ⟨rfl, rfl⟩ := hr2
      refine clean_row (setRow_heap w g cur _ e _ hg) fun u hu => ?_
      simp only [List.mem_append] at hu
      rcases hu with (hu | hu) | hu
      · exact hcur u (List.mem_of_mem_take hu)
      · exact hnn u hu
      · exact hcur u (List.mem_of_mem_drop hu)
    · have holds : ∀ j u, xs[j]? = some u → w.cell? ((⟨g, 0, none⟩ : Addr).add j) = some u := hown.cells (g := g) rfl
      have hr2 := run_append_grow (P := Tryd.prog) w t ty e i z ht hi hz ⟨g, 0, none⟩ n cap xs hown.1 holds a m c news hl hnews (by omega) (by omega) (growslice_fits (by omega) hbytes)
      rw [hr] at hr2
      simp only [Result.ok.injEq] at hr2
      obtain ⟨rfl, rfl⟩ := hr2
      refine clean_row (w := w.drew.alloc _) (heap_alloc_new w.drew _) fun u hu => ?_
      rw [Array.toList_append, Array.toList_append] at hu
      rcases List.mem_append.1 hu with hu | hu
      · rcases List.mem_append.1 hu with hu | hu
        · exact hxs u (by simpa using hu)
        · exact hnn u (by simpa using hu)
      · exact zero_nob hzn hz0 u hu

/-- The law: one element or more, appended. -/
theorem wpList_append_cl {w : World} {ops : Array Oper} {rest : List Oper} {o : Oper} {a : Act} {Q : Exit → Act → World → Prop} (t e : TypeId) (sz bytes : Nat) (z : Value) (ht : Tryd.prog.underlying t = some (.slice e))
    (hinfo : (Tryd.prog.info? e).map (fun i => (i.zero, i.size, i.bytes)) = some (some z, sz, bytes)) (hzs : z.cells.size = sz) (hsz : 0 < sz) (hgd : o.guard = none) (s x : Operand)
    (ho : o.op = .call { callee := .builtin .append, args := #[s, x], argTypes := #[t, t] })
    (base : Nat) (v : Value) (n : Nat) (cells : List Value) (hs : a.eval s = v) (hown : w.ownsRow base e sz v n cells) (u : Value) (m : Nat) (news : List Value) (hx : a.eval x = u) (hu : Sl sz w u m news) (h1c : ∀ u ∈ news, u.oneCell' = true)
    (hm : 0 < m) (hb : (n + m) * bytes ≤ 140737488355328) (hl : n + m ≤ maxLen) (hbase : base ≤ w.heap.size) (hc : Clean w v) (hzn : ∀ u ∈ z.cells.toList, NoB u) (hnn : ∀ u ∈ news, NoB u)
    (h : ∀ v' w', w'.ownsRow base e sz v' (n + m) (cells ++ news) → w.grownBy w' v.ownBlock → (v'.ownBlock = v.ownBlock ∨ v'.ownBlock = some w.heap.size) → Clean w' v' → wpList Tryd.prog ops Q rest (a.put o.dst v') w') :
    wpList Tryd.prog ops Q (o :: rest) a w := by
  obtain ⟨i0, hi, hz0, hz1, hz2⟩ := info_parts hinfo
  obtain ⟨A, c, rfl, _, _⟩ := hu.form
  cases A with
  | none =>
    obtain ⟨_, rfl, _⟩ := hu.none_nil
    exact absurd hm (Nat.lt_irrefl _)
  | some A =>
    refine wpList_plain hgd fun K hK => ?_
    obtain ⟨v', w', hr, h2, h3, _, h5⟩ := run_append_own_at (P := Tryd.prog) w base t o.type e i0 z sz bytes ht hi hz0 hz1 hz2 hzs hsz v n cells hown A m c news hu.1 hu.cells_at h1c hl hb hbase
    have hcl := append_clean w t o.type e i0 z sz bytes base ht hi hz0 hz1 hz2 hzs hsz v n cells hown A m c news hu.1 hu.cells_at h1c hm hl hb hc hzn hnn v' w' hr
    unfold Oper.wp execOp
    simp only [ho, resolve, invoke, builtin, Sem.run_bind, Sem.run_pure, Result.andThen_ok, List.map_toArray, List.map_cons, List.map_nil, hs, hx, hr]
    exact hK _ _ (h v' w' h2 h3 h5 hcl)

end Go.Proofs.YtniecbblhphbdaaDoor
