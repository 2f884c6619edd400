/-
  Parts of the proof, one behind the other; what each proves stands at its head.
-/
import Derived.Test.YteckjkblngmenaaDoorPart8
import Derived.Test.YteckjkblngmenaaDoorPart6
import Derived.Test.YteckjkblngmenaaDoorPart3
import Derived.Deep.MidRow

/-
  For the laws' walks: rows of ops that a law lays (one op, two ops); what is read of a right op's bytes with a byte more, or without their end.
-/
namespace Go.Proofs.YteckjkblngmenaaDoor
open Go.RowKit
set_option linter.unusedVariables false
set_option maxRecDepth 100000

theorem run_ops1 (o : Opn) (v : Value) (w : World) : (Instr.buildSlice 31 1 #[(0, opv o v)]).run Tryd.prog w = .ok (.slice (some ⟨w.heap.size, 0, none⟩) 1 1) (w.alloc (opo o v)) := by kernel_rfl
theorem wpList_ops1 {ops : Array Oper} {rest : List Oper} {p : Oper} {a : Act} {w : World} {Q : Exit → Act → World → Prop} (hgd : p.guard = none) (x : Operand) (ho : p.op = .buildSlice 31 1 #[(0, x)]) (o : Opn) (v : Value) (hx : a.eval x = opv o v)
    (hk : wpList Tryd.prog ops Q rest (a.put p.dst (.slice (some ⟨w.heap.size, 0, none⟩) 1 1)) (w.alloc (opo o v))) : wpList Tryd.prog ops Q (p :: rest) a w := by
  refine wpList_plain hgd fun K hK => ?_
  unfold Oper.wp execOp
  have e : (Array.map (fun ((i, x) : Nat × Operand) => (i, a.eval x)) #[(0, x)]) = #[(0, opv o v)] := by simp [hx]
  simp only [ho, e, Sem.run_bind, run_ops1, Result.andThen_ok]
  exact hK _ _ hk
theorem Os.one (w : World) (o : Opn) (v : Value) (h : Cs w v o.cuts) : Os (w.alloc (opo o v)) (.slice (some ⟨w.heap.size, 0, none⟩) 1 1) [(o, v)] :=
  ⟨Sl.lit w 57 (opl o v) 1 (by decide) rfl, fun p hp => by rw [List.mem_singleton.1 hp]; exact h.below (ba w _)⟩
abbrev opl2 (o : Opn) (v : Value) (q : Opn) (u : Value) : Array Value := ((opl o v).toList ++ (opl q u).toList).toArray
theorem run_ops2 (o : Opn) (v : Value) (q : Opn) (u : Value) (w : World) : (Instr.buildSlice 31 2 #[(0, opv o v), (1, opv q u)]).run Tryd.prog w = .ok (.slice (some ⟨w.heap.size, 0, none⟩) 2 2) (w.alloc (.cells (opl2 o v q u) 57)) := by kernel_rfl
theorem wpList_ops2 {ops : Array Oper} {rest : List Oper} {p : Oper} {a : Act} {w : World} {Q : Exit → Act → World → Prop} (hgd : Region.wanted p (yielded ops a.tmps) = true) (x y : Operand) (ho : p.op = .buildSlice 31 2 #[(0, x), (1, y)]) (o : Opn) (v : Value) (q : Opn) (u : Value) (hx : a.eval x = opv o v) (hy : a.eval y = opv q u)
    (hk : wpList Tryd.prog ops Q rest (a.put p.dst (.slice (some ⟨w.heap.size, 0, none⟩) 2 2)) (w.alloc (.cells (opl2 o v q u) 57))) : wpList Tryd.prog ops Q (p :: rest) a w := by
  refine BigFrame.wpList_want hgd fun K hK => ?_
  unfold Oper.wp execOp
  have e : (Array.map (fun ((i, x) : Nat × Operand) => (i, a.eval x)) #[(0, x), (1, y)]) = #[(0, opv o v), (1, opv q u)] := by simp [hx, hy]
  simp only [ho, e, Sem.run_bind, run_ops2, Result.andThen_ok]
  exact hK _ _ hk
theorem Os.two (w : World) (o : Opn) (v : Value) (q : Opn) (u : Value) (h : Cs w v o.cuts) (k : Cs w u q.cuts) : Os (w.alloc (.cells (opl2 o v q u) 57)) (.slice (some ⟨w.heap.size, 0, none⟩) 2 2) [(o, v), (q, u)] := by
  refine ⟨Sl.lit w 57 (opl2 o v q u) 2 (by decide) rfl, fun p hp => ?_⟩
  simp only [List.mem_cons, List.not_mem_nil, or_false] at hp
  rcases hp with rfl | rfl
  · exact h.below (ba w _)
  · exact k.below (ba w _)

theorem dec_more {o : Opn} (ho : rightO o = true) {m : Int} (hb : K.Byt (encO o ++ [m])) : (decO Bnd.own (encO o ++ [m])).2 = false := by
  cases h : (decO Bnd.own (encO o ++ [m])).2 with
  | false => rfl
  | true =>
    obtain ⟨h1, h2⟩ := decO_sound Bnd.own hb h
    have := (encO_front (r := []) (s := [m]) h1 ho (by rw [List.append_nil, h2])).2
    cases this
theorem dec_less {o : Opn} (ho : rightO o = true) {j : Nat} (hj : j < (encO o).length) (hb : K.Byt ((encO o).take j)) : (decO Bnd.own ((encO o).take j)).2 = false := by
  cases h : (decO Bnd.own ((encO o).take j)).2 with
  | false => rfl
  | true =>
    obtain ⟨h1, h2⟩ := decO_sound Bnd.own hb h
    have := (encO_front (r := (encO o).drop j) (s := []) h1 ho (by rw [h2, List.take_append_drop, List.append_nil])).2
    have := congrArg List.length this
    rw [List.length_drop] at this
    simp at this
    omega
theorem encO_pos (o : Opn) : 0 < (encO o).length := by
  have := (M.sz_pos o.k).1
  unfold encO
  simp only [List.length_append, M.enc_length]
  omega
theorem small_fine {o : Opn} (h : small o = true) : o.fine ∧ o.cuts.length ≤ 40 := by
  unfold small at h
  simp at h
  exact ⟨⟨by omega, by omega⟩, h.2⟩
theorem encO_len {o : Opn} (h : rightO o = true) : (encO o).length ≤ 5000 := by
  have h1 := encFs_len o (told o.k) (told_le _) (right_told h)
  have h2 := told_len o.k
  have s1 := (M.sz_pos o.k).2
  have s2 := (M.sz_pos o.ir).2
  have s3 := (M.sz_pos o.im).2
  have s4 := (M.sz_pos o.t).2
  unfold encO
  simp only [List.length_append, M.enc_length]
  omega
theorem byt_app {a b : List Int} (ha : K.Byt a) (hb : K.Byt b) : K.Byt (a ++ b) := fun x hx => (List.mem_append.1 hx).elim (ha x) (hb x)
theorem enc_byt {x : Int} (h0 : 0 ≤ x) (h1 : x ≤ 1099511627776) : K.Byt (M.enc x) := M.enc_byte x h0 (by omega)
theorem byt_flat {α : Type} {f : α → List Int} : ∀ {l : List α}, (∀ x ∈ l, K.Byt (f x)) → K.Byt (l.flatMap f) := fun h x hx => by
  obtain ⟨y, hy, hx⟩ := List.mem_flatMap.1 hx
  exact h y hy x hx
theorem encF_byt {o : Opn} {f : Nat} (hf : f ≤ 8) (h : rightF o f = true) : K.Byt (encF o f) := by
  rcases nine hf with rfl | rfl | rfl | rfl | rfl | rfl | rfl | rfl | rfl
  · have := ro_bounds (r := o.br) (n := o.bm) h
    exact byt_app (enc_byt (by omega) (by omega)) (enc_byt (by omega) (by omega))
  · have := rb_bounds (r := o.pr) (n := o.pm) h
    exact byt_app (enc_byt (by omega) (by omega)) (enc_byt (by omega) (by omega))
  · simp [rightF, K.right, tx_length] at h
    exact encText_byte _ (by omega)
  · have := ro_bounds (r := o.sr) (n := o.sm) h
    exact byt_app (enc_byt (by omega) (by omega)) (enc_byt (by omega) (by omega))
  · have := rc_bounds (r := o.lr) (n := o.lm) (i := o.li) h
    exact byt_app (byt_app (enc_byt (by omega) (by omega)) (enc_byt (by omega) (by omega))) (enc_byt (by omega) (by omega))
  · have := rc_bounds (r := o.gr) (n := o.gm) (i := o.gi) h
    exact byt_app (byt_app (enc_byt (by omega) (by omega)) (enc_byt (by omega) (by omega))) (enc_byt (by omega) (by omega))
  · simp [rightF] at h
    exact encText_byte _ (by omega)
  · simp [rightF] at h
    refine byt_app (enc_byt (by omega) (by omega)) (byt_flat fun c hc => ?_)
    have := h.2 c hc
    simp [rct, ro] at this
    exact byt_app (byt_app (byt_app (enc_byt (by omega) (by omega)) (enc_byt (by omega) (by omega))) (enc_byt (by omega) (by omega))) (enc_byt (by omega) (by omega))
  · refine enc_byt ?_ ?_ <;> split <;> omega
theorem rs_bounds {t r : Int} (h : rs t r = true) : 0 ≤ t ∧ t ≤ 1099511627776 := by
  simp [rs] at h
  omega
theorem encO_byt {o : Opn} (h : rightO o = true) : K.Byt (encO o) := by
  have hp := (right_parts h).1
  have h1 := ro_bounds hp.1
  have h2 := rs_bounds hp.2.1
  have h3 := six hp.2.2
  refine byt_app (byt_app (byt_app (byt_app (enc_byt ?_ ?_) (enc_byt ?_ ?_)) (enc_byt ?_ ?_)) (enc_byt ?_ ?_)) (byt_flat fun f hf => encF_byt (told_le _ f hf) (right_told h f hf))
  all_goals omega

end Go.Proofs.YteckjkblngmenaaDoor

/-
  A field of an op in its block: loads and stores, as laws of the walk.
-/
namespace Go.Proofs.YteckjkblngmenaaDoor
open Go.RowKit
set_option linter.unusedVariables false
set_option maxRecDepth 100000

section
variable {ops : Array Oper} {rest : List Oper} {p : Oper} {a : Act} {W : World} {Q : Exit → Act → World → Prop} {x y : Operand} {b i : Nat} {T : TypeId} {cells : Array Value}
theorem wpList_val (v : Value) (hw : Region.wanted p (yielded ops a.tmps) = true) (h : (execOp a.eval p).run Tryd.prog W = .ok (.value v) W) (hk : wpList Tryd.prog ops Q rest (a.put p.dst v) W) : wpList Tryd.prog ops Q (p :: rest) a W :=
  BigFrame.wpList_want hw fun K hK => by unfold Oper.wp; rw [h]; exact hK _ _ hk
theorem wpList_nil (W' : World) (hw : Region.wanted p (yielded ops a.tmps) = true) (h : (execOp a.eval p).run Tryd.prog W = .ok .skip W') (hk : wpList Tryd.prog ops Q rest (a.put p.dst undef) W') : wpList Tryd.prog ops Q (p :: rest) a W :=
  BigFrame.wpList_want hw fun K hK => by unfold Oper.wp; rw [h]; exact hK _ _ hk

theorem run_ld_id {r n : Int} (ho : p.op = .load 52 x) (hx : a.eval x = .pointer (some ⟨b, i, none⟩)) (h0 : W.cell? ⟨b, i, none⟩ = some (.int .i64 r)) (h1 : W.cell? ⟨b, i + 1, none⟩ = some (.int .i64 n)) : (execOp a.eval p).run Tryd.prog W = .ok (.value (idv r n)) W := by
  unfold execOp
  simp only [ho, hx]
  simp [go_sem, h0, h1]
theorem run_ld_char {r n k : Int} (ho : p.op = .load 54 x) (hx : a.eval x = .pointer (some ⟨b, i, none⟩)) (h0 : W.cell? ⟨b, i, none⟩ = some (.int .i64 r)) (h1 : W.cell? ⟨b, i + 1, none⟩ = some (.int .i64 n)) (h2 : W.cell? ⟨b, i + 2, none⟩ = some (.int .i64 k)) : (execOp a.eval p).run Tryd.prog W = .ok (.value (chv r n k)) W := by
  unfold execOp
  simp only [ho, hx]
  simp [go_sem, h0, h1, h2]
theorem run_ld_int {r : Int} (ho : p.op = .load 3 x) (hx : a.eval x = .pointer (some ⟨b, i, none⟩)) (h0 : W.cell? ⟨b, i, none⟩ = some (.int .i64 r)) : (execOp a.eval p).run Tryd.prog W = .ok (.value (.int .i64 r)) W := by
  unfold execOp
  simp only [ho, hx]
  simp [go_sem, h0]
theorem run_ld_str {s : ByteArray} (ho : p.op = .load 9 x) (hx : a.eval x = .pointer (some ⟨b, i, none⟩)) (h0 : W.cell? ⟨b, i, none⟩ = some (.string s)) : (execOp a.eval p).run Tryd.prog W = .ok (.value (.string s)) W := by
  unfold execOp
  simp only [ho, hx]
  simp [go_sem, h0]
theorem run_ld_bool {s : Bool} (ho : p.op = .load 4 x) (hx : a.eval x = .pointer (some ⟨b, i, none⟩)) (h0 : W.cell? ⟨b, i, none⟩ = some (.bool s)) : (execOp a.eval p).run Tryd.prog W = .ok (.value (.bool s)) W := by
  unfold execOp
  simp only [ho, hx]
  simp [go_sem, h0]
theorem run_ld_cuts {v : Value} (ho : p.op = .load 55 x) (hx : a.eval x = .pointer (some ⟨b, i, none⟩)) (h0 : W.cell? ⟨b, i, none⟩ = some v) : (execOp a.eval p).run Tryd.prog W = .ok (.value v) W := by
  unfold execOp
  simp only [ho, hx]
  simp [go_sem, h0]

theorem cell_in {W : World} (h : W.heap[b]? = some (.cells cells T (0, 0))) (hi : i < cells.size) : ∃ z, W.cell? ⟨b, i, none⟩ = some z := ⟨cells[i], by rw [cell_of_row W b i _ _ _ h]; exact Array.getElem?_eq_getElem hi⟩
theorem run_st_str {s : ByteArray} (ho : p.op = .store 9 x y) (hx : a.eval x = .pointer (some ⟨b, i, none⟩)) (hy : a.eval y = .string s) (h : W.heap[b]? = some (.cells cells T (0, 0))) (hi : i < cells.size) : (execOp a.eval p).run Tryd.prog W = .ok .skip (W.setCell ⟨b, i, none⟩ (.string s)) := by
  obtain ⟨z, hz⟩ := cell_in (W := W) h hi
  have hf := frozen_of_row W b i _ _ h
  unfold execOp
  simp only [ho, hx, hy]
  simp [go_sem, hz, hf]
theorem run_st_bool {s : Bool} (ho : p.op = .store 4 x y) (hx : a.eval x = .pointer (some ⟨b, i, none⟩)) (hy : a.eval y = .bool s) (h : W.heap[b]? = some (.cells cells T (0, 0))) (hi : i < cells.size) : (execOp a.eval p).run Tryd.prog W = .ok .skip (W.setCell ⟨b, i, none⟩ (.bool s)) := by
  obtain ⟨z, hz⟩ := cell_in (W := W) h hi
  have hf := frozen_of_row W b i _ _ h
  unfold execOp
  simp only [ho, hx, hy]
  simp [go_sem, hz, hf]
theorem run_st_int {s : Int} (ho : p.op = .store 3 x y) (hx : a.eval x = .pointer (some ⟨b, i, none⟩)) (hy : a.eval y = .int .i64 s) (h : W.heap[b]? = some (.cells cells T (0, 0))) (hi : i < cells.size) : (execOp a.eval p).run Tryd.prog W = .ok .skip (W.setCell ⟨b, i, none⟩ (.int .i64 s)) := by
  obtain ⟨z, hz⟩ := cell_in (W := W) h hi
  have hf := frozen_of_row W b i _ _ h
  unfold execOp
  simp only [ho, hx, hy]
  simp [go_sem, hz, hf]
theorem run_st_cuts {va : Option Addr} {n c : Nat} (ho : p.op = .store 55 x y) (hx : a.eval x = .pointer (some ⟨b, i, none⟩)) (hy : a.eval y = .slice va n c) (h : W.heap[b]? = some (.cells cells T (0, 0))) (hi : i < cells.size) : (execOp a.eval p).run Tryd.prog W = .ok .skip (W.setCell ⟨b, i, none⟩ (.slice va n c)) := by
  obtain ⟨z, hz⟩ := cell_in (W := W) h hi
  have hf := frozen_of_row W b i _ _ h
  unfold execOp
  simp only [ho, hx, hy]
  simp [go_sem, hz, hf]
theorem run_st_id {r n : Int} (ho : p.op = .store 52 x y) (hx : a.eval x = .pointer (some ⟨b, i, none⟩)) (hy : a.eval y = idv r n) (h : W.heap[b]? = some (.cells cells T (0, 0))) (hi : i + 1 < cells.size) : (execOp a.eval p).run Tryd.prog W = .ok .skip ((W.setCell ⟨b, i, none⟩ (.int .i64 r)).setCell ⟨b, i + 1, none⟩ (.int .i64 n)) := by
  obtain ⟨z, hz⟩ := cell_in (W := W) h (show i < cells.size by omega)
  have hf := frozen_of_row W b i _ _ h
  have h' := set_row (i := i) h (.int .i64 r)
  obtain ⟨z1, hz1⟩ := cell_in (i := i + 1) (W := W.setCell ⟨b, i, none⟩ (.int .i64 r)) h' (by simpa using hi)
  have hf1 := frozen_of_row (W.setCell ⟨b, i, none⟩ (.int .i64 r)) b (i + 1) _ _ h'
  unfold execOp
  simp only [ho, hx, hy]
  simp [go_sem, hz, hf, hz1, hf1]
theorem run_st_char {r n k : Int} (ho : p.op = .store 54 x y) (hx : a.eval x = .pointer (some ⟨b, i, none⟩)) (hy : a.eval y = chv r n k) (h : W.heap[b]? = some (.cells cells T (0, 0))) (hi : i + 2 < cells.size) : (execOp a.eval p).run Tryd.prog W = .ok .skip (((W.setCell ⟨b, i, none⟩ (.int .i64 r)).setCell ⟨b, i + 1, none⟩ (.int .i64 n)).setCell ⟨b, i + 2, none⟩ (.int .i64 k)) := by
  obtain ⟨z, hz⟩ := cell_in (W := W) h (show i < cells.size by omega)
  have hf := frozen_of_row W b i _ _ h
  have h' := set_row (i := i) h (.int .i64 r)
  obtain ⟨z1, hz1⟩ := cell_in (i := i + 1) (W := W.setCell ⟨b, i, none⟩ (.int .i64 r)) h' (by simp; omega)
  have hf1 := frozen_of_row (W.setCell ⟨b, i, none⟩ (.int .i64 r)) b (i + 1) _ _ h'
  have h'' := set_row (i := i + 1) h' (.int .i64 n)
  obtain ⟨z2, hz2⟩ := cell_in (i := i + 2) (W := (W.setCell ⟨b, i, none⟩ (.int .i64 r)).setCell ⟨b, i + 1, none⟩ (.int .i64 n)) h'' (by simp; omega)
  have hf2 := frozen_of_row ((W.setCell ⟨b, i, none⟩ (.int .i64 r)).setCell ⟨b, i + 1, none⟩ (.int .i64 n)) b (i + 2) _ _ h''
  unfold execOp
  simp only [ho, hx, hy]
  simp [go_sem, hz, hf, hz1, hf1, hz2, hf2]
end

theorem opl_lt {i : Nat} (o : Opn) (v : Value) (h : i < 20) : i < (opl o v).size := h

section
variable {ops : Array Oper} {rest : List Oper} {p : Oper} {a : Act} {W : World} {Q : Exit → Act → World → Prop} {x y : Operand} {b : Nat} {o : Opn} {v : Value}
theorem wpList_st_block {r n : Int} (hw : Region.wanted p (yielded ops a.tmps) = true) (ho : p.op = .store 52 x y) (hx : a.eval x = .pointer (some ⟨b, 4, none⟩)) (hy : a.eval y = idv r n) (h : Ob W b o v)
    (hk : ∀ W', Ob W' b { o with br := r, bm := n } v → Fr (fun k => k = b) W W' → wpList Tryd.prog ops Q rest (a.put p.dst undef) W') : wpList Tryd.prog ops Q (p :: rest) a W :=
  wpList_nil _ hw (run_st_id ho hx hy h (opl_lt _ _ (by decide))) (hk _ (set_row (i := 5) (set_row (i := 4) h _) _) ((Fr.of_set W b 4 _).set 5 _ (.inr rfl)))
theorem wpList_st_id {r n : Int} (hw : Region.wanted p (yielded ops a.tmps) = true) (ho : p.op = .store 52 x y) (hx : a.eval x = .pointer (some ⟨b, 1, none⟩)) (hy : a.eval y = idv r n) (h : Ob W b o v)
    (hk : ∀ W', Ob W' b { o with ir := r, im := n } v → Fr (fun k => k = b) W W' → wpList Tryd.prog ops Q rest (a.put p.dst undef) W') : wpList Tryd.prog ops Q (p :: rest) a W :=
  wpList_nil _ hw (run_st_id ho hx hy h (opl_lt _ _ (by decide))) (hk _ (set_row (i := 2) (set_row (i := 1) h _) _) ((Fr.of_set W b 1 _).set 2 _ (.inr rfl)))
theorem wpList_st_t {r : Int} (hw : Region.wanted p (yielded ops a.tmps) = true) (ho : p.op = .store 3 x y) (hx : a.eval x = .pointer (some ⟨b, 3, none⟩)) (hy : a.eval y = .int .i64 r) (h : Ob W b o v)
    (hk : ∀ W', Ob W' b { o with t := r } v → Fr (fun k => k = b) W W' → wpList Tryd.prog ops Q rest (a.put p.dst undef) W') : wpList Tryd.prog ops Q (p :: rest) a W :=
  wpList_nil _ hw (run_st_int ho hx hy h (opl_lt _ _ (by decide))) (hk _ (set_row (i := 3) h _) (Fr.of_set W b 3 _))
theorem wpList_st_parent {r n : Int} (hw : Region.wanted p (yielded ops a.tmps) = true) (ho : p.op = .store 52 x y) (hx : a.eval x = .pointer (some ⟨b, 6, none⟩)) (hy : a.eval y = idv r n) (h : Ob W b o v)
    (hk : ∀ W', Ob W' b { o with pr := r, pm := n } v → Fr (fun k => k = b) W W' → wpList Tryd.prog ops Q rest (a.put p.dst undef) W') : wpList Tryd.prog ops Q (p :: rest) a W :=
  wpList_nil _ hw (run_st_id ho hx hy h (opl_lt _ _ (by decide))) (hk _ (set_row (i := 7) (set_row (i := 6) h _) _) ((Fr.of_set W b 6 _).set 7 _ (.inr rfl)))
theorem wpList_st_seg {r n : Int} (hw : Region.wanted p (yielded ops a.tmps) = true) (ho : p.op = .store 52 x y) (hx : a.eval x = .pointer (some ⟨b, 9, none⟩)) (hy : a.eval y = idv r n) (h : Ob W b o v)
    (hk : ∀ W', Ob W' b { o with sr := r, sm := n } v → Fr (fun k => k = b) W W' → wpList Tryd.prog ops Q rest (a.put p.dst undef) W') : wpList Tryd.prog ops Q (p :: rest) a W :=
  wpList_nil _ hw (run_st_id ho hx hy h (opl_lt _ _ (by decide))) (hk _ (set_row (i := 10) (set_row (i := 9) h _) _) ((Fr.of_set W b 9 _).set 10 _ (.inr rfl)))
theorem wpList_st_left {r n j : Int} (hw : Region.wanted p (yielded ops a.tmps) = true) (ho : p.op = .store 54 x y) (hx : a.eval x = .pointer (some ⟨b, 11, none⟩)) (hy : a.eval y = chv r n j) (h : Ob W b o v)
    (hk : ∀ W', Ob W' b { o with lr := r, lm := n, li := j } v → Fr (fun k => k = b) W W' → wpList Tryd.prog ops Q rest (a.put p.dst undef) W') : wpList Tryd.prog ops Q (p :: rest) a W :=
  wpList_nil _ hw (run_st_char ho hx hy h (opl_lt _ _ (by decide))) (hk _ (set_row (i := 13) (set_row (i := 12) (set_row (i := 11) h _) _) _) (((Fr.of_set W b 11 _).set 12 _ (.inr rfl)).set 13 _ (.inr rfl)))
theorem wpList_st_right {r n j : Int} (hw : Region.wanted p (yielded ops a.tmps) = true) (ho : p.op = .store 54 x y) (hx : a.eval x = .pointer (some ⟨b, 14, none⟩)) (hy : a.eval y = chv r n j) (h : Ob W b o v)
    (hk : ∀ W', Ob W' b { o with gr := r, gm := n, gi := j } v → Fr (fun k => k = b) W W' → wpList Tryd.prog ops Q rest (a.put p.dst undef) W') : wpList Tryd.prog ops Q (p :: rest) a W :=
  wpList_nil _ hw (run_st_char ho hx hy h (opl_lt _ _ (by decide))) (hk _ (set_row (i := 16) (set_row (i := 15) (set_row (i := 14) h _) _) _) (((Fr.of_set W b 14 _).set 15 _ (.inr rfl)).set 16 _ (.inr rfl)))
theorem wpList_st_key {s : ByteArray} (hw : Region.wanted p (yielded ops a.tmps) = true) (ho : p.op = .store 9 x y) (hx : a.eval x = .pointer (some ⟨b, 8, none⟩)) (hy : a.eval y = .string s) (h : Ob W b o v)
    (hk : ∀ W', Ob W' b { o with key := s } v → Fr (fun k => k = b) W W' → wpList Tryd.prog ops Q rest (a.put p.dst undef) W') : wpList Tryd.prog ops Q (p :: rest) a W :=
  wpList_nil _ hw (run_st_str ho hx hy h (opl_lt _ _ (by decide))) (hk _ (set_row (i := 8) h _) (Fr.of_set W b 8 _))
theorem wpList_st_text {s : ByteArray} (hw : Region.wanted p (yielded ops a.tmps) = true) (ho : p.op = .store 9 x y) (hx : a.eval x = .pointer (some ⟨b, 17, none⟩)) (hy : a.eval y = .string s) (h : Ob W b o v)
    (hk : ∀ W', Ob W' b { o with text := s } v → Fr (fun k => k = b) W W' → wpList Tryd.prog ops Q rest (a.put p.dst undef) W') : wpList Tryd.prog ops Q (p :: rest) a W :=
  wpList_nil _ hw (run_st_str ho hx hy h (opl_lt _ _ (by decide))) (hk _ (set_row (i := 17) h _) (Fr.of_set W b 17 _))
theorem wpList_st_cuts {va : Option Addr} {n c : Nat} (l : List Ct) (hw : Region.wanted p (yielded ops a.tmps) = true) (ho : p.op = .store 55 x y) (hx : a.eval x = .pointer (some ⟨b, 18, none⟩)) (hy : a.eval y = .slice va n c) (h : Ob W b o v)
    (hk : ∀ W', Ob W' b { o with cuts := l } (.slice va n c) → Fr (fun k => k = b) W W' → wpList Tryd.prog ops Q rest (a.put p.dst undef) W') : wpList Tryd.prog ops Q (p :: rest) a W :=
  wpList_nil _ hw (run_st_cuts ho hx hy h (opl_lt _ _ (by decide))) (hk _ (set_row (i := 18) h _) (Fr.of_set W b 18 _))
theorem wpList_st_flag {s : Bool} (hw : Region.wanted p (yielded ops a.tmps) = true) (ho : p.op = .store 4 x y) (hx : a.eval x = .pointer (some ⟨b, 19, none⟩)) (hy : a.eval y = .bool s) (h : Ob W b o v)
    (hk : ∀ W', Ob W' b { o with flag := s } v → Fr (fun k => k = b) W W' → wpList Tryd.prog ops Q rest (a.put p.dst undef) W') : wpList Tryd.prog ops Q (p :: rest) a W :=
  wpList_nil _ hw (run_st_bool ho hx hy h (opl_lt _ _ (by decide))) (hk _ (set_row (i := 19) h _) (Fr.of_set W b 19 _))

theorem wpList_ld_block (hw : Region.wanted p (yielded ops a.tmps) = true) (ho : p.op = .load 52 x) (hx : a.eval x = .pointer (some ⟨b, 4, none⟩)) (h : Ob W b o v) (hk : wpList Tryd.prog ops Q rest (a.put p.dst (idv o.br o.bm)) W) : wpList Tryd.prog ops Q (p :: rest) a W :=
  wpList_val _ hw (run_ld_id ho hx (h.cell 4) (h.cell 5)) hk
theorem wpList_ld_id (hw : Region.wanted p (yielded ops a.tmps) = true) (ho : p.op = .load 52 x) (hx : a.eval x = .pointer (some ⟨b, 1, none⟩)) (h : Ob W b o v) (hk : wpList Tryd.prog ops Q rest (a.put p.dst (idv o.ir o.im)) W) : wpList Tryd.prog ops Q (p :: rest) a W :=
  wpList_val _ hw (run_ld_id ho hx (h.cell 1) (h.cell 2)) hk
theorem wpList_ld_parent (hw : Region.wanted p (yielded ops a.tmps) = true) (ho : p.op = .load 52 x) (hx : a.eval x = .pointer (some ⟨b, 6, none⟩)) (h : Ob W b o v) (hk : wpList Tryd.prog ops Q rest (a.put p.dst (idv o.pr o.pm)) W) : wpList Tryd.prog ops Q (p :: rest) a W :=
  wpList_val _ hw (run_ld_id ho hx (h.cell 6) (h.cell 7)) hk
theorem wpList_ld_seg (hw : Region.wanted p (yielded ops a.tmps) = true) (ho : p.op = .load 52 x) (hx : a.eval x = .pointer (some ⟨b, 9, none⟩)) (h : Ob W b o v) (hk : wpList Tryd.prog ops Q rest (a.put p.dst (idv o.sr o.sm)) W) : wpList Tryd.prog ops Q (p :: rest) a W :=
  wpList_val _ hw (run_ld_id ho hx (h.cell 9) (h.cell 10)) hk
theorem wpList_ld_left (hw : Region.wanted p (yielded ops a.tmps) = true) (ho : p.op = .load 54 x) (hx : a.eval x = .pointer (some ⟨b, 11, none⟩)) (h : Ob W b o v) (hk : wpList Tryd.prog ops Q rest (a.put p.dst (chv o.lr o.lm o.li)) W) : wpList Tryd.prog ops Q (p :: rest) a W :=
  wpList_val _ hw (run_ld_char ho hx (h.cell 11) (h.cell 12) (h.cell 13)) hk
theorem wpList_ld_right (hw : Region.wanted p (yielded ops a.tmps) = true) (ho : p.op = .load 54 x) (hx : a.eval x = .pointer (some ⟨b, 14, none⟩)) (h : Ob W b o v) (hk : wpList Tryd.prog ops Q rest (a.put p.dst (chv o.gr o.gm o.gi)) W) : wpList Tryd.prog ops Q (p :: rest) a W :=
  wpList_val _ hw (run_ld_char ho hx (h.cell 14) (h.cell 15) (h.cell 16)) hk
theorem wpList_ld_kind (hw : Region.wanted p (yielded ops a.tmps) = true) (ho : p.op = .load 3 x) (hx : a.eval x = .pointer (some ⟨b, 0, none⟩)) (h : Ob W b o v) (hk : wpList Tryd.prog ops Q rest (a.put p.dst (.int .i64 o.k)) W) : wpList Tryd.prog ops Q (p :: rest) a W :=
  wpList_val _ hw (run_ld_int ho hx (h.cell 0)) hk
theorem wpList_ld_t (hw : Region.wanted p (yielded ops a.tmps) = true) (ho : p.op = .load 3 x) (hx : a.eval x = .pointer (some ⟨b, 3, none⟩)) (h : Ob W b o v) (hk : wpList Tryd.prog ops Q rest (a.put p.dst (.int .i64 o.t)) W) : wpList Tryd.prog ops Q (p :: rest) a W :=
  wpList_val _ hw (run_ld_int ho hx (h.cell 3)) hk
theorem wpList_ld_key (hw : Region.wanted p (yielded ops a.tmps) = true) (ho : p.op = .load 9 x) (hx : a.eval x = .pointer (some ⟨b, 8, none⟩)) (h : Ob W b o v) (hk : wpList Tryd.prog ops Q rest (a.put p.dst (.string o.key)) W) : wpList Tryd.prog ops Q (p :: rest) a W :=
  wpList_val _ hw (run_ld_str ho hx (h.cell 8)) hk
theorem wpList_ld_text (hw : Region.wanted p (yielded ops a.tmps) = true) (ho : p.op = .load 9 x) (hx : a.eval x = .pointer (some ⟨b, 17, none⟩)) (h : Ob W b o v) (hk : wpList Tryd.prog ops Q rest (a.put p.dst (.string o.text)) W) : wpList Tryd.prog ops Q (p :: rest) a W :=
  wpList_val _ hw (run_ld_str ho hx (h.cell 17)) hk
theorem wpList_ld_cuts (hw : Region.wanted p (yielded ops a.tmps) = true) (ho : p.op = .load 55 x) (hx : a.eval x = .pointer (some ⟨b, 18, none⟩)) (h : Ob W b o v) (hk : wpList Tryd.prog ops Q rest (a.put p.dst v) W) : wpList Tryd.prog ops Q (p :: rest) a W :=
  wpList_val _ hw (run_ld_cuts ho hx (h.cell 18)) hk
theorem wpList_ld_flag (hw : Region.wanted p (yielded ops a.tmps) = true) (ho : p.op = .load 4 x) (hx : a.eval x = .pointer (some ⟨b, 19, none⟩)) (h : Ob W b o v) (hk : wpList Tryd.prog ops Q rest (a.put p.dst (.bool o.flag)) W) : wpList Tryd.prog ops Q (p :: rest) a W :=
  wpList_val _ hw (run_ld_bool ho hx (h.cell 19)) hk
end

/-- An op of which the kind, the name and the time are told, built. -/
def headO (o : Opn) : Opn := { Opn.zero with k := o.k, ir := o.ir, im := o.im, t := o.t }
theorem built_head (k r n t : Int) : Tryd.prog.built 57 [(0, .int .i64 k), (1, idv r n), (2, .int .i64 t)] = some (opl { Opn.zero with k := k, ir := r, im := n, t := t } (.slice none 0 0)) := by kernel_rfl
theorem wpList_build_head {ops : Array Oper} {rest : List Oper} {p : Oper} {a : Act} {w : World} {Q : Exit → Act → World → Prop} (hgd : p.guard = none) (x y z : Operand) (ho : p.op = .build 57 #[(0, x), (1, y), (2, z)]) (o : Opn)
    (h0 : a.eval x = .int .i64 o.k) (h1 : a.eval y = idv o.ir o.im) (h2 : a.eval z = .int .i64 o.t)
    (hk : wpList Tryd.prog ops Q rest (a.put p.dst (opv (headO o) (.slice none 0 0))) w) : wpList Tryd.prog ops Q (p :: rest) a w := by
  have e : (Array.map (fun ((i, x) : Nat × Operand) => (i, a.eval x)) #[(0, x), (1, y), (2, z)]).toList = [(0, .int .i64 o.k), (1, idv o.ir o.im), (2, .int .i64 o.t)] := by simp [h0, h1, h2]
  refine wpList_build hgd 57 #[(0, x), (1, y), (2, z)] ho ?_ ?_
  · rw [e, built_head]; rfl
  · rw [e, built_head]; exact hk
theorem below_fr {w W W' : World} {b : Nat} (h : Below w.heap.size w W) (hf : Fr (fun k => k = b) W W') (hb : w.heap.size ≤ b) : Below w.heap.size w W' :=
  h.trans (hf.below (fun k hk e => by omega) h.size)
theorem Ob.fr {S : Nat → Prop} {W W' : World} {b : Nat} {o : Opn} {v : Value} (h : Ob W b o v) (hf : Fr S W W') (hs : ¬ S b) : Ob W' b o v := by
  unfold Ob; rw [hf.block b h.lt hs]; exact h

/-- A new op; a whole op, stored. -/
theorem run_al_op {p : Oper} {a : Act} {W : World} (ho : p.op = .alloc 57) : (execOp a.eval p).run Tryd.prog W = .ok (.value (.pointer (some ⟨W.heap.size, 0, none⟩))) (W.alloc (opo Opn.zero (.slice none 0 0))) := by
  unfold execOp
  simp only [ho]
  kernel_rfl
theorem wpList_al_op {ops : Array Oper} {rest : List Oper} {p : Oper} {a : Act} {W : World} {Q : Exit → Act → World → Prop} (hw : Region.wanted p (yielded ops a.tmps) = true) (ho : p.op = .alloc 57)
    (hk : ∀ W', Ob W' W.heap.size Opn.zero (.slice none 0 0) → Below W.heap.size W W' → W.heap.size < W'.heap.size → wpList Tryd.prog ops Q rest (a.put p.dst (.pointer (some ⟨W.heap.size, 0, none⟩))) W') : wpList Tryd.prog ops Q (p :: rest) a W :=
  BigFrame.wpList_want hw fun K hK => by unfold Oper.wp; rw [run_al_op ho]; exact hK _ _ (hk _ (Ob.new W _ _) (ba W _) (by simp))
theorem wpList_st_op {ops : Array Oper} {rest : List Oper} {p : Oper} {a : Act} {W : World} {Q : Exit → Act → World → Prop} {x y : Operand} {b : Nat} {o o' : Opn} {v v' : Value} (hgd : p.guard = none) (ho : p.op = .store 57 x y)
    (hx : a.eval x = .pointer (some ⟨b, 0, none⟩)) (hy : a.eval y = opv o v) (hv : ∃ va n vc, v = .slice va n vc) (h : Ob W b o' v')
    (hk : ∀ W', Ob W' b o v → Fr (fun k => k = b) W W' → wpList Tryd.prog ops Q rest (a.put p.dst undef) W') : wpList Tryd.prog ops Q (p :: rest) a W :=
  wpList_store_op hgd x y ho b hx o v hv hy o' v' h (hk _ (setRow_heap _ _ _ _ _ _ h) (Fr.of_row W b _))

end Go.Proofs.YteckjkblngmenaaDoor

/-
  What the reference's takeName and takeChar read is proved here, for every cursor.
-/
namespace Go.Proofs.YteckjkblngmenaaDoor
open Go.RowKit
set_option linter.unusedVariables false
set_option maxRecDepth 100000

abbrev G48 : Int := 281474976710656
theorem rt_vl {m : Int} {s : St} (h : Vl s) : Vl (rt m s).2 := (rt_sound m h).1
theorem Ob.no_byte {w : World} {b : Nat} {o : Opn} {v : Value} (h : Ob w b o v) (hv : ∃ va n vc, v = .slice va n vc) : ∀ k, k = b → ∀ j x, w.cell? ⟨k, j, none⟩ ≠ some (.int .u8 x) := by
  obtain ⟨va, n, vc, rfl⟩ := hv
  intro k hk j x hc
  subst hk
  rw [h.cell j] at hc
  have hj : j < 20 := (Array.getElem?_eq_some_iff.1 hc).1
  have hcases : j = 0 ∨ j = 1 ∨ j = 2 ∨ j = 3 ∨ j = 4 ∨ j = 5 ∨ j = 6 ∨ j = 7 ∨ j = 8 ∨ j = 9 ∨ j = 10 ∨ j = 11 ∨ j = 12 ∨ j = 13 ∨ j = 14 ∨ j = 15 ∨ j = 16 ∨ j = 17 ∨ j = 18 ∨ j = 19 := by omega
  rcases hcases with rfl | rfl | rfl | rfl | rfl | rfl | rfl | rfl | rfl | rfl | rfl | rfl | rfl | rfl | rfl | rfl | rfl | rfl | rfl | rfl <;> simp at hc
end Go.Proofs.YteckjkblngmenaaDoor

/-
  Lists of ops as bytes: plain mathematics.
-/
namespace Go.Proofs.YteckjkblngmenaaDoor
set_option linter.unusedVariables false
set_option maxRecDepth 100000

/-- An op's bytes as a text; a list's. -/
def encT (o : Opn) : List Int := M.encText (M.str (encO o))
def encA (l : List Opn) : List Int := M.enc l.length ++ l.flatMap encT
/-- So many ops, read; 'm s' bounds a text's length. -/
def rdA (m : St → Int) : Nat → St → Option (List Opn × St)
  | 0, s => some ([], s)
  | j + 1, s => match rdA m j s with
    | none => none
    | some (l, q) => if (decO Bnd.own (tx (rt (m q) q).1)).2 then some (l ++ [(decO Bnd.own (tx (rt (m q) q).1)).1], (rt (m q) q).2) else none
def decA (m : St → Int) (b : List Int) : List Opn × Bool :=
  match rdA m (rn 1048576 (b, false)).1.toNat (rn 1048576 (b, false)).2 with
  | none => ([], false)
  | some (l, q) => if !q.2 && q.1.isEmpty then (l, true) else ([], false)

theorem rdA_step (m : St → Int) (j : Nat) (s q : St) (l : List Opn) (h : rdA m j s = some (l, q)) :
    rdA m (j + 1) s = if (decO Bnd.own (tx (rt (m q) q).1)).2 then some (l ++ [(decO Bnd.own (tx (rt (m q) q).1)).1], (rt (m q) q).2) else none := by
  show (match rdA m j s with | none => none | some (l, q) => _) = _
  rw [h]
theorem rdA_none (m : St → Int) (j k : Nat) (s : St) (h : rdA m j s = none) (hk : j ≤ k) : rdA m k s = none := by
  induction k with
  | zero => obtain rfl : j = 0 := by omega
            exact h
  | succ k ih =>
    by_cases e : j = k + 1
    · rw [← e]; exact h
    · show (match rdA m k s with | none => none | some (l, q) => _) = _
      rw [ih (by omega)]

theorem takeL_len {n : Int} {xs : List Int} (h : (xs.length : Int) < n) (lost : Bool) : M.takeV n xs = [] ∧ M.takeS n xs = [] ∧ M.takeL n xs lost = true := by
  have : M.takeOk n xs = false := by simp [M.takeOk]; omega
  simp [M.takeV, M.takeS, M.takeL, this]
/-- A text's length may be bounded by what is left, or by a great number. -/
theorem rt_left {s : St} (hv : K.Byt s.1) (hl : s.1.length ≤ 1099511627776) : rt (s.1.length : Nat) s = rt G48 s := by
  obtain ⟨xs, l⟩ := s
  dsimp only at hv hl ⊢
  unfold rt M.textV M.textS M.textL
  dsimp only
  by_cases hf : M.fo xs = true
  · by_cases h1 : M.fn xs ≤ (xs.length : Nat)
    · have a1 : M.numOk (xs.length : Nat) xs = true := by simp [M.numOk, hf, h1]
      have a2 : M.numOk G48 xs = true := by simp [M.numOk, hf]; show M.fn xs ≤ 281474976710656; omega
      simp only [M.numV, M.numS, M.numL, a1, a2]
    · have a1 : M.numOk (xs.length : Nat) xs = false := by simp [M.numOk, hf]; omega
      by_cases h2 : M.fn xs ≤ G48
      · have a2 : M.numOk G48 xs = true := by simp [M.numOk, hf]; exact h2
        have hd : ((xs.drop (M.fc xs)).length : Int) < M.fn xs := by rw [List.length_drop]; omega
        obtain ⟨e1, e2, e3⟩ := takeL_len hd l
        simp only [M.numV, M.numS, M.numL, a1, a2, if_true, if_false, e1, e2, e3, Bool.false_eq_true]
        simp [M.takeV, M.takeS, M.takeL, M.takeOk]
      · have a2 : M.numOk G48 xs = false := by simp [M.numOk, hf]; omega
        simp only [M.numV, M.numS, M.numL, a1, a2]
  · have hf' : M.fo xs = false := by simpa using hf
    have a1 : M.numOk (xs.length : Nat) xs = false := by simp [M.numOk, hf']
    have a2 : M.numOk G48 xs = false := by simp [M.numOk, hf']
    simp only [M.numV, M.numS, M.numL, a1, a2]

def mOwn (q : St) : Int := (q.1.length : Nat)
def mRef (q : St) : Int := G48
theorem rdA_ok (s : St) (hv : Vl s) (hl : s.1.length ≤ 1099511627776) : ∀ j l q, rdA mRef j s = some (l, q) → Vl q ∧ q.1.length ≤ 1099511627776 := by
  intro j
  induction j with
  | zero => intro l q h; simp [rdA] at h; obtain ⟨_, rfl⟩ := h; exact ⟨hv, hl⟩
  | succ j ih =>
    intro l q h
    cases h0 : rdA mRef j s with
    | none => rw [rdA_none mRef j (j + 1) s h0 (by omega)] at h; cases h
    | some p =>
      obtain ⟨l0, q0⟩ := p
      obtain ⟨i1, i2⟩ := ih l0 q0 h0
      rw [rdA_step mRef j s q0 l0 h0] at h
      split at h
      · simp at h
        obtain ⟨_, rfl⟩ := h
        exact ⟨rt_vl i1, Nat.le_trans (rt_short _ _ i1.1).2 i2⟩
      · cases h
theorem rdA_same (s : St) (hv : Vl s) (hl : s.1.length ≤ 1099511627776) : ∀ j, rdA mOwn j s = rdA mRef j s := by
  intro j
  induction j with
  | zero => rfl
  | succ j ih =>
    cases h0 : rdA mRef j s with
    | none => rw [rdA_none mRef j (j + 1) s h0 (by omega), rdA_none mOwn j (j + 1) s (by rw [ih, h0]) (by omega)]
    | some p =>
      obtain ⟨l0, q0⟩ := p
      obtain ⟨i1, i2⟩ := rdA_ok s hv hl j l0 q0 h0
      rw [rdA_step mRef j s q0 l0 h0, rdA_step mOwn j s q0 l0 (by rw [ih, h0])]
      have e : rt (mOwn q0) q0 = rt (mRef q0) q0 := rt_left i1.1 i2
      rw [e]
theorem rt_encT {o : Opn} (h : rightO o = true) (r : List Int) : rt G48 (encT o ++ r, false) = (M.str (encO o), (r, false)) := by
  have hb := encO_byt h
  have hs : (M.str (encO o)).size = (encO o).length := by
    have := congrArg List.length (tx_str hb)
    rw [tx_length] at this
    exact this
  have := encO_len h
  exact rt_full (by rw [hs]; show ((encO o).length : Int) ≤ 281474976710656; omega) (by rw [hs]; omega) r
theorem rdA_full (l : List Opn) (h : ∀ o ∈ l, rightO o = true) (r : List Int) : ∀ k, k ≤ l.length → rdA mRef k (l.flatMap encT ++ r, false) = some (l.take k, ((l.drop k).flatMap encT ++ r, false)) := by
  intro k
  induction k with
  | zero => intro _; simp [rdA]
  | succ k ih =>
    intro hk
    have hlt : k < l.length := by omega
    have h0 := ih (by omega)
    rw [rdA_step mRef k _ _ _ h0]
    have hr := h _ (List.getElem_mem hlt)
    have hd : (l.drop k).flatMap encT ++ r = encT (l[k]) ++ ((l.drop (k + 1)).flatMap encT ++ r) := by
      rw [List.drop_eq_getElem_cons hlt, List.flatMap_cons, List.append_assoc]
    rw [hd]
    have ht : rt (mRef (encT l[k] ++ ((l.drop (k + 1)).flatMap encT ++ r), false)) (encT l[k] ++ ((l.drop (k + 1)).flatMap encT ++ r), false) = (M.str (encO l[k]), ((l.drop (k + 1)).flatMap encT ++ r, false)) := rt_encT hr _
    rw [ht]
    dsimp only
    rw [tx_str (encO_byt hr), decO_full own_ok hr]
    simp only [if_true]
    rw [List.take_succ_eq_append_getElem hlt]
theorem rdA_sound (s : St) (hv : Vl s) (hl : s.1.length ≤ 1099511627776) : ∀ j l q, rdA mRef j s = some (l, q) → q.2 = false → s.2 = false ∧ s.1 = l.flatMap encT ++ q.1 ∧ l.length = j ∧ ∀ o ∈ l, rightO o = true := by
  intro j
  induction j with
  | zero => intro l q h hq; simp [rdA] at h; obtain ⟨rfl, rfl⟩ := h; exact ⟨hq, by simp, rfl, fun o ho => by cases ho⟩
  | succ j ih =>
    intro l q h hq
    cases h0 : rdA mRef j s with
    | none => rw [rdA_none mRef j (j + 1) s h0 (by omega)] at h; cases h
    | some p =>
      obtain ⟨l0, q0⟩ := p
      have hok := rdA_ok s hv hl j l0 q0 h0
      rw [rdA_step mRef j s q0 l0 h0] at h
      split at h
      · rename_i hd
        simp at h
        obtain ⟨rfl, rfl⟩ := h
        have hs := rt_sound (mRef q0) hok.1
        obtain ⟨e1, e2⟩ := hs.2 hq
        obtain ⟨i1, i2, i3, i4⟩ := ih l0 q0 h0 e1
        have htb : K.Byt (tx (rt (mRef q0) q0).1) := fun x hx => M.ofStr_byte _ x hx
        obtain ⟨d1, d2⟩ := decO_sound Bnd.own htb hd
        refine ⟨i1, ?_, by simp [i3], fun o ho => ?_⟩
        · have he : encT (decO Bnd.own (tx (rt (mRef q0) q0).1)).1 = M.encText (rt (mRef q0) q0).1 := by unfold encT; rw [d2, str_tx]
          generalize (decO Bnd.own (tx (rt (mRef q0) q0).1)).1 = X at he
          rw [List.flatMap_append, List.append_assoc, show [X].flatMap encT = encT X from by simp, he, ← e2]
          exact i2
        · rcases List.mem_append.1 ho with ho | ho
          · exact i4 o ho
          · rw [List.mem_singleton.1 ho]; exact d1
      · cases h
theorem encA_read (l : List Opn) (hl : l.length ≤ 1048576) (r : List Int) : rn 1048576 (encA l ++ r, false) = ((l.length : Int), (l.flatMap encT ++ r, false)) := by
  unfold encA
  rw [List.append_assoc]
  exact rn_full (by omega) (by omega) (by omega) _
/-- What is told of right ops is read as those, and whatever follows is left. -/
theorem encA_front {l l' : List Opn} (h : ∀ o ∈ l, rightO o = true) (h' : ∀ o ∈ l', rightO o = true) (hl : l.length ≤ 1048576) (hl' : l'.length ≤ 1048576) {r r' : List Int} (e : encA l ++ r = encA l' ++ r') : l = l' ∧ r = r' := by
  have h1 := encA_read l hl r
  have h2 := encA_read l' hl' r'
  rw [e, h2] at h1
  simp only [Prod.mk.injEq, Int.natCast_inj, and_true] at h1
  have f1 := rdA_full l h r l.length (Nat.le_refl _)
  have f2 := rdA_full l' h' r' l'.length (Nat.le_refl _)
  simp only [List.take_length, List.drop_length, List.flatMap_nil, List.nil_append] at f1 f2
  rw [← h1.2, ← h1.1, f2] at f1
  simp only [Option.some.injEq, Prod.mk.injEq, and_true] at f1
  exact ⟨f1.1.symm, f1.2.symm⟩
theorem decA_full (l : List Opn) (h : ∀ o ∈ l, rightO o = true) (hl : l.length ≤ 1048576) : decA mRef (encA l) = (l, true) := by
  have h1 := encA_read l hl []
  rw [List.append_nil] at h1
  unfold decA
  rw [h1]
  dsimp only
  rw [Int.toNat_natCast, rdA_full l h [] l.length (Nat.le_refl _)]
  simp
theorem decA_sound {b : List Int} (hb : K.Byt b) (hn : b.length ≤ 1099511627776) (h : (decA mRef b).2 = true) : encA (decA mRef b).1 = b ∧ (∀ o ∈ (decA mRef b).1, rightO o = true) ∧ (decA mRef b).1.length ≤ 1048576 := by
  have hv : Vl (b, false) := ⟨hb, fun e => by cases e⟩
  have hs := rn_sound 1048576 hv
  have hr := rn_val (m := 1048576) (s := (b, false)) hb
  unfold decA at h ⊢
  cases h0 : rdA mRef (rn 1048576 (b, false)).1.toNat (rn 1048576 (b, false)).2 with
  | none => rw [h0] at h; cases h
  | some p =>
    obtain ⟨l, q⟩ := p
    rw [h0] at h
    dsimp only at h ⊢
    split at h
    · rename_i hq
      rw [if_pos hq]
      simp at hq
      obtain ⟨s1, s2, s3, s4⟩ := rdA_sound _ hs.1 (Nat.le_trans (rn_short 1048576 (b, false)) hn) _ _ _ h0 hq.1
      obtain ⟨_, e2⟩ := hs.2 s1
      dsimp only
      refine ⟨?_, s4, by have := hr.2.2 (by decide); omega⟩
      unfold encA
      have hN : ((l.length : Nat) : Int) = (rn 1048576 (b, false)).1 := by rw [s3]; exact Int.toNat_of_nonneg hr.1
      have e3 : b = M.enc (rn 1048576 (b, false)).1 ++ (rn 1048576 (b, false)).2.1 := e2
      rw [s2, hq.2, List.append_nil] at e3
      rw [hN]
      exact e3.symm
    · cases h
theorem decA_same {b : List Int} (hb : K.Byt b) (hn : b.length ≤ 1099511627776) : decA mOwn b = decA mRef b := by
  have hv : Vl (b, false) := ⟨hb, fun e => by cases e⟩
  unfold decA
  rw [rdA_same _ (rn_vl hv) (Nat.le_trans (rn_short 1048576 (b, false)) hn)]
/-- Without their end they aren't. -/
theorem decA_less {l : List Opn} (h : ∀ o ∈ l, rightO o = true) (hl : l.length ≤ 1048576) {j : Nat} (hj : j < (encA l).length) (hb : K.Byt ((encA l).take j)) (hn : (encA l).length ≤ 1099511627776) : (decA mRef ((encA l).take j)).2 = false := by
  cases hd : (decA mRef ((encA l).take j)).2 with
  | false => rfl
  | true =>
    obtain ⟨h1, h2, h3⟩ := decA_sound hb (by rw [List.length_take]; omega) hd
    have := (encA_front (r := (encA l).drop j) (r' := []) h2 h h3 hl (by rw [h1, List.take_append_drop, List.append_nil])).2
    have := congrArg List.length this
    rw [List.length_drop] at this
    simp at this
    omega

end Go.Proofs.YteckjkblngmenaaDoor

/-
  SameOps' region whose order is drawn, as a lemma; an op in a row of ops, loaded.
-/
namespace Go.Proofs.YteckjkblngmenaaDoor
open Go.RowKit
set_option linter.unusedVariables false
set_option maxRecDepth 100000

theorem run_load_opat {p : Oper} {a : Act} {W : World} {x : Operand} {b off : Nat} {o : Opn} {v : Value} (ho : p.op = .load 57 x) (hx : a.eval x = .pointer (some ⟨b, off, none⟩)) (hc : ∀ i, i < 20 → W.cell? ⟨b, off + i, none⟩ = (opl o v)[i]?) : (execOp a.eval p).run Tryd.prog W = .ok (.value (opv o v)) W := by
  have h := run_loadAt_mid (P := Tryd.prog) W b off 57 (opl o v).toList _ (fun j u hj => by
    have hl : j < 20 := (List.getElem?_eq_some_iff.1 hj).1
    rw [hc j hl]
    simpa using hj) Tryd.underlying57 rfl (by kernel_rfl)
  unfold execOp
  simp only [ho, hx, Sem.run_bind, h, Result.andThen_ok, Sem.run_pure]
theorem run_idx_ops {p : Oper} {a : Act} {W : World} {x y : Operand} {b off n c j : Nat} (ho : p.op = .indexAddr 31 x y) (hx : a.eval x = .slice (some ⟨b, off, none⟩) n c) (hy : a.eval y = .int .i64 (j : Nat)) (hj : j < n) : (execOp a.eval p).run Tryd.prog W = .ok (.value (.pointer (some ⟨b, off + j * 20, none⟩))) W := by
  have h1 : (j : Int) < (n : Int) := by omega
  have h2 : (0 : Int) ≤ (j : Int) := by omega
  unfold execOp
  simp only [ho, hx, hy]
  simp [go_sem, h1, h2]

def mp0 : Oper := { dst := some 17, op := Op.move (Operand.tmp 0), type := 31, pos := "ref.go:148", after := #[], guard := none }
def mp1 : Oper := { dst := some 18, op := Op.move (Operand.tmp 5), type := 3, pos := "ref.go:148", after := #[], guard := none }
def mp2 : Oper := { dst := some 19, op := Op.indexAddr 31 (Operand.tmp 17) (Operand.tmp 18), type := 0, pos := "ref.go:148", after := #[{ on := 0, ground := Ground.data }, { on := 1, ground := Ground.data }], guard := none }
def mp3 : Oper := { dst := some 20, op := Op.load 57 (Operand.tmp 19), type := 57, pos := "ref.go:148", after := #[{ on := 2, ground := Ground.data }], guard := none }
def mp4 : Oper := { dst := some 21, op := Op.move (Operand.tmp 1), type := 31, pos := "ref.go:148", after := #[], guard := none }
def mp5 : Oper := { dst := some 22, op := Op.move (Operand.tmp 5), type := 3, pos := "ref.go:148", after := #[], guard := none }
def mp6 : Oper := { dst := some 23, op := Op.indexAddr 31 (Operand.tmp 21) (Operand.tmp 22), type := 0, pos := "ref.go:148", after := #[{ on := 4, ground := Ground.data }, { on := 5, ground := Ground.data }], guard := none }
def mp7 : Oper := { dst := some 24, op := Op.load 57 (Operand.tmp 23), type := 57, pos := "ref.go:148", after := #[{ on := 6, ground := Ground.data }], guard := none }
def mp8 : Oper := { dst := some 25, op := Op.call { callee := Callee.value (Operand.func 26), args := #[Operand.tmp 20, Operand.tmp 24], argTypes := #[57, 57] }, type := 4, pos := "ref.go:148", after := #[{ on := 3, ground := Ground.data }, { on := 7, ground := Ground.data }], guard := none }
def mp9 : Oper := { dst := some 26, op := Op.unOp UnOp.not 4 (Operand.tmp 25), type := 4, pos := "ref.go:148", after := #[{ on := 8, ground := Ground.data }], guard := none }
def mps : Array Oper := #[mp0, mp1, mp2, mp3, mp4, mp5, mp6, mp7, mp8, mp9]
theorem mp_lex : Region.lexB .any mps = true := by kernel_rfl

theorem so_region (w : World) (b1 o1 c1 b2 o2 c2 n j : Nat) (o : Opn) (v : Value) (p : Opn) (u : Value) (r : Bool) {x2 x3 x4 x6 x7 x8 x9 x10 x11 x12 x13 x14 x15 x16 x17 x18 x19 x20 x21 x22 x23 x24 x25 x26 : Value} {Q : Exit → Act → World → Prop} (hj : j < n) (hn : n ≤ maxLen) (hb1 : b1 < w.heap.size) (hb2 : b2 < w.heap.size) (h1 : ∀ i, i < 20 → w.cell? ⟨b1, o1 + j * 20 + i, none⟩ = (opl o v)[i]?) (h2 : ∀ i, i < 20 → w.cell? ⟨b2, o2 + j * 20 + i, none⟩ = (opl p u)[i]?) (hC : Cs w v o.cuts) (hD : Cs w u p.cuts) (hr : r = true ↔ o = p)
    (hQ : ∀ W, Below w.heap.size w W → Q .normal { tmps := #[.slice (some ⟨b1, o1, none⟩) n c1, .slice (some ⟨b2, o2, none⟩) n c2, x2, x3, x4, .int .i64 (j : Nat), x6, x7, x8, x9, x10, x11, x12, x13, x14, x15, x16, .slice (some ⟨b1, o1, none⟩) n c1, .int .i64 (j : Nat), .pointer (some ⟨b1, o1 + j * 20, none⟩), opv o v, .slice (some ⟨b2, o2, none⟩) n c2, .int .i64 (j : Nat), .pointer (some ⟨b2, o2 + j * 20, none⟩), opv p u, .bool r, .bool (!r)], defers := [] } W) : (Code.region 6 mps true).wp Tryd.prog Q { tmps := #[.slice (some ⟨b1, o1, none⟩) n c1, .slice (some ⟨b2, o2, none⟩) n c2, x2, x3, x4, .int .i64 (j : Nat), x6, x7, x8, x9, x10, x11, x12, x13, x14, x15, x16, x17, x18, x19, x20, x21, x22, x23, x24, x25, x26], defers := [] } w := by
  refine wp_region_quiet (C := fun W => Below w.heap.size w W) (by kernel_rfl) mp_lex (Below.refl _ _).drew ?_
  change wpQuiet _ _ _ _ [mp0, mp1, mp2, mp3, mp4, mp5, mp6, mp7, mp8, mp9] _
  refine qs_val (.slice (some ⟨b1, o1, none⟩) n c1) { tmps := #[.slice (some ⟨b1, o1, none⟩) n c1, .slice (some ⟨b2, o2, none⟩) n c2, x2, x3, x4, .int .i64 (j : Nat), x6, x7, x8, x9, x10, x11, x12, x13, x14, x15, x16, .slice (some ⟨b1, o1, none⟩) n c1, x18, x19, x20, x21, x22, x23, x24, x25, x26], defers := [] } (by kernel_rfl) (fun W hW => by kernel_rfl) (by kernel_rfl) ?_
  refine qs_val (.int .i64 (j : Nat)) { tmps := #[.slice (some ⟨b1, o1, none⟩) n c1, .slice (some ⟨b2, o2, none⟩) n c2, x2, x3, x4, .int .i64 (j : Nat), x6, x7, x8, x9, x10, x11, x12, x13, x14, x15, x16, .slice (some ⟨b1, o1, none⟩) n c1, .int .i64 (j : Nat), x19, x20, x21, x22, x23, x24, x25, x26], defers := [] } (by kernel_rfl) (fun W hW => by kernel_rfl) (by kernel_rfl) ?_
  refine qs_val (.pointer (some ⟨b1, o1 + j * 20, none⟩)) { tmps := #[.slice (some ⟨b1, o1, none⟩) n c1, .slice (some ⟨b2, o2, none⟩) n c2, x2, x3, x4, .int .i64 (j : Nat), x6, x7, x8, x9, x10, x11, x12, x13, x14, x15, x16, .slice (some ⟨b1, o1, none⟩) n c1, .int .i64 (j : Nat), .pointer (some ⟨b1, o1 + j * 20, none⟩), x20, x21, x22, x23, x24, x25, x26], defers := [] } (by kernel_rfl) (fun W hW => run_idx_ops rfl rfl rfl hj) (by kernel_rfl) ?_
  refine qs_val (opv o v) { tmps := #[.slice (some ⟨b1, o1, none⟩) n c1, .slice (some ⟨b2, o2, none⟩) n c2, x2, x3, x4, .int .i64 (j : Nat), x6, x7, x8, x9, x10, x11, x12, x13, x14, x15, x16, .slice (some ⟨b1, o1, none⟩) n c1, .int .i64 (j : Nat), .pointer (some ⟨b1, o1 + j * 20, none⟩), opv o v, x21, x22, x23, x24, x25, x26], defers := [] } (by kernel_rfl) (fun W hW => run_load_opat rfl rfl (fun i hi => (hW.cell hb1).trans (h1 i hi))) (by kernel_rfl) ?_
  refine qs_val (.slice (some ⟨b2, o2, none⟩) n c2) { tmps := #[.slice (some ⟨b1, o1, none⟩) n c1, .slice (some ⟨b2, o2, none⟩) n c2, x2, x3, x4, .int .i64 (j : Nat), x6, x7, x8, x9, x10, x11, x12, x13, x14, x15, x16, .slice (some ⟨b1, o1, none⟩) n c1, .int .i64 (j : Nat), .pointer (some ⟨b1, o1 + j * 20, none⟩), opv o v, .slice (some ⟨b2, o2, none⟩) n c2, x22, x23, x24, x25, x26], defers := [] } (by kernel_rfl) (fun W hW => by kernel_rfl) (by kernel_rfl) ?_
  refine qs_val (.int .i64 (j : Nat)) { tmps := #[.slice (some ⟨b1, o1, none⟩) n c1, .slice (some ⟨b2, o2, none⟩) n c2, x2, x3, x4, .int .i64 (j : Nat), x6, x7, x8, x9, x10, x11, x12, x13, x14, x15, x16, .slice (some ⟨b1, o1, none⟩) n c1, .int .i64 (j : Nat), .pointer (some ⟨b1, o1 + j * 20, none⟩), opv o v, .slice (some ⟨b2, o2, none⟩) n c2, .int .i64 (j : Nat), x23, x24, x25, x26], defers := [] } (by kernel_rfl) (fun W hW => by kernel_rfl) (by kernel_rfl) ?_
  refine qs_val (.pointer (some ⟨b2, o2 + j * 20, none⟩)) { tmps := #[.slice (some ⟨b1, o1, none⟩) n c1, .slice (some ⟨b2, o2, none⟩) n c2, x2, x3, x4, .int .i64 (j : Nat), x6, x7, x8, x9, x10, x11, x12, x13, x14, x15, x16, .slice (some ⟨b1, o1, none⟩) n c1, .int .i64 (j : Nat), .pointer (some ⟨b1, o1 + j * 20, none⟩), opv o v, .slice (some ⟨b2, o2, none⟩) n c2, .int .i64 (j : Nat), .pointer (some ⟨b2, o2 + j * 20, none⟩), x24, x25, x26], defers := [] } (by kernel_rfl) (fun W hW => run_idx_ops rfl rfl rfl hj) (by kernel_rfl) ?_
  refine qs_val (opv p u) { tmps := #[.slice (some ⟨b1, o1, none⟩) n c1, .slice (some ⟨b2, o2, none⟩) n c2, x2, x3, x4, .int .i64 (j : Nat), x6, x7, x8, x9, x10, x11, x12, x13, x14, x15, x16, .slice (some ⟨b1, o1, none⟩) n c1, .int .i64 (j : Nat), .pointer (some ⟨b1, o1 + j * 20, none⟩), opv o v, .slice (some ⟨b2, o2, none⟩) n c2, .int .i64 (j : Nat), .pointer (some ⟨b2, o2 + j * 20, none⟩), opv p u, x25, x26], defers := [] } (by kernel_rfl) (fun W hW => run_load_opat rfl rfl (fun i hi => (hW.cell hb2).trans (h2 i hi))) (by kernel_rfl) ?_
  refine qs_call (f := 26) (args := #[opv o v, opv p u]) (.bool r) { tmps := #[.slice (some ⟨b1, o1, none⟩) n c1, .slice (some ⟨b2, o2, none⟩) n c2, x2, x3, x4, .int .i64 (j : Nat), x6, x7, x8, x9, x10, x11, x12, x13, x14, x15, x16, .slice (some ⟨b1, o1, none⟩) n c1, .int .i64 (j : Nat), .pointer (some ⟨b1, o1 + j * 20, none⟩), opv o v, .slice (some ⟨b2, o2, none⟩) n c2, .int .i64 (j : Nat), .pointer (some ⟨b2, o2 + j * 20, none⟩), opv p u, .bool r, x26], defers := [] } (by kernel_rfl) (fun W => by kernel_rfl) (fun W hW => (sameop_any o p v u W (hC.below hW) (hD.below hW)).mono fun _ _ ⟨q, e1, e2, e3⟩ => ⟨by rw [e1, Bool.eq_iff_iff.2 (e2.trans hr.symm)], bt hW e3⟩) (by kernel_rfl) ?_
  refine qs_val (.bool (!r)) { tmps := #[.slice (some ⟨b1, o1, none⟩) n c1, .slice (some ⟨b2, o2, none⟩) n c2, x2, x3, x4, .int .i64 (j : Nat), x6, x7, x8, x9, x10, x11, x12, x13, x14, x15, x16, .slice (some ⟨b1, o1, none⟩) n c1, .int .i64 (j : Nat), .pointer (some ⟨b1, o1 + j * 20, none⟩), opv o v, .slice (some ⟨b2, o2, none⟩) n c2, .int .i64 (j : Nat), .pointer (some ⟨b2, o2 + j * 20, none⟩), opv p u, .bool r, .bool (!r)], defers := [] } (by kernel_rfl) (fun W hW => by kernel_rfl) (by kernel_rfl) ?_
  exact hQ

end Go.Proofs.YteckjkblngmenaaDoor

/-
  That offshootref00.SameOps tells whether two rows of ops are one is proved here.
-/
namespace Go.Proofs.YteckjkblngmenaaDoor
open Go.RowKit
set_option linter.unusedVariables false
set_option maxRecDepth 100000

abbrev fsts (l : List (Opn × Value)) : List Opn := l.map Prod.fst
theorem take_step_op {xs ys : List (Opn × Value)} {k : Nat} (h1 : k < xs.length) (h2 : k < ys.length) (h : fsts (xs.take k) = fsts (ys.take k)) (he : (xs[k]).1 = (ys[k]).1) : fsts (xs.take (k + 1)) = fsts (ys.take (k + 1)) := by
  rw [List.take_succ_eq_append_getElem h1, List.take_succ_eq_append_getElem h2]
  unfold fsts at *
  rw [List.map_append, List.map_append, h]
  simp [he]

set_option maxHeartbeats 2000000 in
theorem sameops_any (a b : Value) (xs ys : List (Opn × Value)) (w : World) (h1 : Os w a xs) (h2 : Os w b ys) :
    Calls Tryd.prog 15 #[a, b] w fun e w' => ∃ r, e = .returned (.bool r) ∧ (r = true ↔ fsts xs = fsts ys) ∧ Below w.heap.size w w' := by
  have l1 := Sl.len h1.1
  have l2 := Sl.len h2.1
  unfold maxLen at l1 l2
  by_cases hl : xs.length = ys.length
  · by_cases hz : xs.length = 0
    · have e1 : xs = [] := List.eq_nil_of_length_eq_zero hz
      have e2 : ys = [] := List.eq_nil_of_length_eq_zero (by omega)
      subst e1 e2
      obtain ⟨a1, c1, rfl, _⟩ := Sl.form h1.1
      obtain ⟨a2, c2, rfl, _⟩ := Sl.form h2.1
      clear h1 h2 l1 l2 hl hz
      go_enter Tryd.func15, Tryd.ntmps15
      go_wp2
      refine wp_loop_rounds 1 ?_
      rw [rounds_succ]
      go_wp2
      go_ret
      exact ⟨true, rfl, by simp, Below.refl _ _⟩
    · obtain ⟨b1, o1, c1, rfl, _, _, hb1, hc1⟩ := h1.inv (by omega)
      obtain ⟨b2, o2, c2, rfl, _, _, hb2, hc2⟩ := h2.inv (by omega)
      rw [← hl]
      obtain ⟨n, hn⟩ : ∃ n, xs.length = n := ⟨_, rfl⟩
      have HL : Hid (ys.length = n) := by rw [← hl]; exact hn
      have HN : Hid (xs.length = n) := hn
      have HC1 := hid hc1
      have HC2 := hid hc2
      have HV1 := hid h1.2
      have HV2 := hid h2.2
      have HB1 := hid hb1
      have HB2 := hid hb2
      rw [hn]
      rw [hn] at hz l1
      clear hn hl h1 h2 hc1 hc2 hb1 hb2
      have hnn : ((n : Int) != (n : Int)) = false := by simp
      go_enter Tryd.func15, Tryd.ntmps15
      go_wp2
      go_loopw [5] (fun i wr => ∃ k : Nat, k ≤ n ∧ i = .int .i64 k ∧ Below w.heap.size w wr ∧ fsts (xs.take k) = fsts (ys.take k)) (fun i _ => n - (intOf i).toNat)
      case atStart => exact ⟨0, Nat.zero_le _, rfl, Below.refl _ _, by simp⟩
      case round =>
        obtain ⟨k, hk, rfl, hb, ht⟩ := hrel
        have HT := hid ht
        have BB := hid hb
        clear ht hb
        by_cases hlt : k < n
        · have hx : k < xs.length := by have := HN.out; omega
          have hy : k < ys.length := by have := HL.out; omega
          have g1 := HC1.out k hx
          have g2 := HC2.out k hy
          have v1 := HV1.out _ (List.getElem_mem hx)
          have v2 := HV2.out _ (List.getElem_mem hy)
          obtain ⟨⟨p1, p2⟩, hp⟩ : ∃ p, xs[k] = p := ⟨_, rfl⟩
          obtain ⟨⟨q1, q2⟩, hq⟩ : ∃ p, ys[k] = p := ⟨_, rfl⟩
          rw [hp] at g1 v1
          rw [hq] at g2 v2
          have HP := hid hp
          have HQ := hid hq
          dsimp only at g1 g2 v1 v2
          obtain ⟨r, hr⟩ : ∃ r : Bool, r = true ↔ p1 = q1 := by
            by_cases h : p1 = q1
            · exact ⟨true, by simp [h]⟩
            · exact ⟨false, by simp [h]⟩
          have HRR := hid hr
          have b1' : (k : Int) < (n : Int) := by omega
          have G1 := hid g1
          have G2 := hid g2
          have V1 := hid v1
          have V2 := hid v2
          clear hp hq g1 g2 v1 v2 hr
          go_upto_region 6 with fail
          refine so_region wr b1 o1 c1 b2 o2 c2 n k p1 p2 q1 q2 r hlt (by unfold maxLen; omega) (Nat.lt_of_lt_of_le HB1.out BB.out.size) (Nat.lt_of_lt_of_le HB2.out BB.out.size) (fun i hi => (BB.out.cell HB1.out).trans (G1.out i hi)) (fun i hi => (BB.out.cell HB2.out).trans (G2.out i hi)) (V1.out.below BB.out) (V2.out.below BB.out) HRR.out (fun W hW => ?_)
          have BW := hid (bt BB.out hW)
          clear hW
          cases r
          · go_wp2
            go_ret
            refine ⟨false, rfl, ⟨fun h => (by cases h), fun h => ?_⟩, BW.out⟩
            have h3 : (fsts xs)[k]? = (fsts ys)[k]? := by rw [h]
            unfold fsts at h3
            rw [List.getElem?_map, List.getElem?_map, List.getElem?_eq_getElem hx, List.getElem?_eq_getElem hy, HP.out, HQ.out] at h3
            simp at h3
            exact HRR.out.2 h3
          · go_wp2
            go_roundw
            case rel =>
              refine ⟨k + 1, by omega, by go_num, BW.out, take_step_op hx hy HT.out ?_⟩
              rw [HP.out, HQ.out]
              exact HRR.out.1 rfl
            case measure => simp [intOf]; omega
        · have b1' : ¬ (k : Int) < (n : Int) := by omega
          go_wp2
          go_ret
          have e1 : k = n := by omega
          have h3 := HT.out
          rw [List.take_of_length_le (by have := HN.out; omega), List.take_of_length_le (by have := HL.out; omega)] at h3
          exact Or.inr ⟨rfl, h3, BB.out⟩
  · have hne : ((xs.length : Int) != (ys.length : Int)) = true := by simp; omega
    obtain ⟨a1, c1, rfl, _⟩ := Sl.form h1.1
    obtain ⟨a2, c2, rfl, _⟩ := Sl.form h2.1
    clear h1 h2
    go_enter Tryd.func15, Tryd.ntmps15
    go_wp2
    go_ret
    refine ⟨false, rfl, ⟨fun h => (by cases h), fun h => ?_⟩, Below.refl _ _⟩
    have := congrArg List.length h
    simp at this
    exact absurd this hl

end Go.Proofs.YteckjkblngmenaaDoor
