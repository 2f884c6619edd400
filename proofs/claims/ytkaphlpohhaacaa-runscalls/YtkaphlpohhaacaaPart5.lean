/-
  Runs and items in memory: a block ('Ub'), thirteen cells anywhere ('Uc'), rows ('Us', 'Ur'); loads and stores, as laws of the walk. Printed by genumem.py.
-/
import Derived.Test.YtkaphlpohhaacaaPart3
import Derived.Test.YtkaphlpohhaacaaPart4
import Derived.Test.YtkaphlpohhaacaaPart1
import Derived.Deep.MidRow
namespace Go.Proofs.Ytkaphlpohhaacaa
open Go.RowKit
set_option linter.unusedVariables false
set_option linter.unusedSimpArgs false
set_option maxRecDepth 100000

abbrev RU : TypeId := 59
abbrev chu (r n i : Int) : Value := .agg #[.int .i64 r, .int .i64 n, .int .i64 i]

/-- A block that holds x. -/
def Ub (T : TypeId) (w : World) (b : Nat) (x : Un) : Prop := w.heap[b]? = some (.cells (unl x) T (0, 0))
theorem Ub.new (T : TypeId) (w : World) (x : Un) : Ub T (w.alloc (.cells (unl x) T)) w.heap.size x := heap_alloc_new w _
theorem Ub.lt {T : TypeId} {w : World} {b : Nat} {x : Un} (h : Ub T w b x) : b < w.heap.size := (Array.getElem?_eq_some_iff.1 h).1
theorem Ub.below {T : TypeId} {w w' : World} {b : Nat} {x : Un} (h : Ub T w b x) (hb : Below w.heap.size w w') : Ub T w' b x := by
  unfold Ub; rw [hb.block b h.lt]; exact h
theorem Ub.fr {S : Nat → Prop} {T : TypeId} {w w' : World} {b : Nat} {x : Un} (h : Ub T w b x) (hf : Fr S w w') (hs : ¬ S b) : Ub T w' b x := by
  unfold Ub; rw [hf.block b h.lt hs]; exact h
/-- Thirteen cells that hold x. -/
structure Uc (w : World) (b o : Nat) (x : Un) : Prop where
  c0 : w.cell? ⟨b, o, none⟩ = some (.int .i64 x.r)
  c1 : w.cell? ⟨b, o + 1, none⟩ = some (.int .i64 x.n)
  c2 : w.cell? ⟨b, o + 2, none⟩ = some (.int .i64 x.f)
  c3 : w.cell? ⟨b, o + 3, none⟩ = some (.int .i64 x.l)
  c4 : w.cell? ⟨b, o + 4, none⟩ = some (.int .i64 x.a)
  c5 : w.cell? ⟨b, o + 5, none⟩ = some (.int .i64 x.b)
  c6 : w.cell? ⟨b, o + 6, none⟩ = some (.int .i64 x.c)
  c7 : w.cell? ⟨b, o + 7, none⟩ = some (.int .i64 x.d)
  c8 : w.cell? ⟨b, o + 8, none⟩ = some (.int .i64 x.e)
  c9 : w.cell? ⟨b, o + 9, none⟩ = some (.int .i64 x.h)
  c10 : w.cell? ⟨b, o + 10, none⟩ = some (.bool x.g)
  c11 : w.cell? ⟨b, o + 11, none⟩ = some (.bool x.m)
  c12 : w.cell? ⟨b, o + 12, none⟩ = some (.string x.t)
theorem Uc.of {w : World} {b o : Nat} {x : Un} (h : ∀ j, j < 13 → w.cell? ⟨b, o + j, none⟩ = (unc x)[j]?) : Uc w b o x :=
  ⟨h 0 (by decide), h 1 (by decide), h 2 (by decide), h 3 (by decide), h 4 (by decide), h 5 (by decide), h 6 (by decide), h 7 (by decide), h 8 (by decide), h 9 (by decide), h 10 (by decide), h 11 (by decide), h 12 (by decide)⟩
theorem Uc.at' {w : World} {b o : Nat} {x : Un} (h : Uc w b o x) : ∀ j, j < 13 → w.cell? ⟨b, o + j, none⟩ = (unc x)[j]? := by
  intro j hj
  match j, hj with
  | 0, _ => exact h.c0
  | 1, _ => exact h.c1
  | 2, _ => exact h.c2
  | 3, _ => exact h.c3
  | 4, _ => exact h.c4
  | 5, _ => exact h.c5
  | 6, _ => exact h.c6
  | 7, _ => exact h.c7
  | 8, _ => exact h.c8
  | 9, _ => exact h.c9
  | 10, _ => exact h.c10
  | 11, _ => exact h.c11
  | 12, _ => exact h.c12
theorem Ub.cells {T : TypeId} {w : World} {b : Nat} {x : Un} (h : Ub T w b x) : Uc w b 0 x :=
  Uc.of (fun j _ => by rw [Nat.zero_add, cell_of_row w b j _ _ _ h]; simp [List.getElem?_toArray])
theorem Uc.lt {w : World} {b o : Nat} {x : Un} (h : Uc w b o x) : b < w.heap.size := World.block_lt_of_cell? _ _ h.c0
theorem Uc.kept {w w' : World} {b o : Nat} {x : Un} (h : Uc w b o x) (hb : w'.heap[b]? = w.heap[b]?) : Uc w' b o x :=
  Uc.of (fun j hj => by rw [World.cell?_of_block (w := w) (a := ⟨b, o + j, none⟩) hb]; exact h.at' j hj)
theorem Uc.below {w w' : World} {b o : Nat} {x : Un} (h : Uc w b o x) (hb : Below w.heap.size w w') : Uc w' b o x := h.kept (hb.block b h.lt)
theorem set_rowU {w : World} {b i : Nat} {cs : Array Value} {T : TypeId} (h : w.heap[b]? = some (.cells cs T (0, 0))) (v : Value) : (w.setCell ⟨b, i, none⟩ v).heap[b]? = some (.cells (cs.setIfInBounds i v) T (0, 0)) := heap_setCell_same w b i cs T v h
theorem Fr.of_rowU (w : World) (b : Nat) (cs : Array Value) : Fr (fun k => k = b) w (w.setRow b cs) :=
  ⟨rfl, rfl, rfl, by simp [World.setRow], fun k _ hn => setRow_other w b k cs hn⟩
theorem cell_inU {w : World} {b i : Nat} {cells : Array Value} {T : TypeId} (h : w.heap[b]? = some (.cells cells T (0, 0))) (hi : i < cells.size) : ∃ z, w.cell? ⟨b, i, none⟩ = some z := ⟨cells[i], by rw [cell_of_row w b i _ _ _ h]; exact Array.getElem?_eq_getElem hi⟩
theorem Fr.trans' {S : Nat → Prop} {a b c : World} (h : Fr S a b) (k : Fr S b c) : Fr S a c := h.trans k (fun _ _ e => e)

section
variable {o : Oper} {a : Act} {W : World} {x y : Operand} {b i : Nat}
theorem runU_id {r n : Int} (ho : o.op = .load 24 x) (hx : a.eval x = .pointer (some ⟨b, i, none⟩)) (h0 : W.cell? ⟨b, i, none⟩ = some (.int .i64 r)) (h1 : W.cell? ⟨b, i + 1, none⟩ = some (.int .i64 n)) : (execOp a.eval o).run Try.prog W = .ok (.value (idv r n)) W := by
  unfold execOp
  simp only [ho, hx]
  simp [go_sem, h0, h1]
theorem runU_int {r : Int} (ho : o.op = .load 3 x) (hx : a.eval x = .pointer (some ⟨b, i, none⟩)) (h0 : W.cell? ⟨b, i, none⟩ = some (.int .i64 r)) : (execOp a.eval o).run Try.prog W = .ok (.value (.int .i64 r)) W := by
  unfold execOp
  simp only [ho, hx]
  simp [go_sem, h0]
theorem runU_str {s : ByteArray} (ho : o.op = .load 9 x) (hx : a.eval x = .pointer (some ⟨b, i, none⟩)) (h0 : W.cell? ⟨b, i, none⟩ = some (.string s)) : (execOp a.eval o).run Try.prog W = .ok (.value (.string s)) W := by
  unfold execOp
  simp only [ho, hx]
  simp [go_sem, h0]
theorem runU_bool {s : Bool} (ho : o.op = .load 4 x) (hx : a.eval x = .pointer (some ⟨b, i, none⟩)) (h0 : W.cell? ⟨b, i, none⟩ = some (.bool s)) : (execOp a.eval o).run Try.prog W = .ok (.value (.bool s)) W := by
  unfold execOp
  simp only [ho, hx]
  simp [go_sem, h0]
theorem runU_runs {v : Value} (ho : o.op = .load 55 x) (hx : a.eval x = .pointer (some ⟨b, i, none⟩)) (h0 : W.cell? ⟨b, i, none⟩ = some v) : (execOp a.eval o).run Try.prog W = .ok (.value v) W := by
  unfold execOp
  simp only [ho, hx]
  simp [go_sem, h0]
theorem runU_ix {T : TypeId} {g off n c k : Nat} (ho : o.op = .indexAddr 55 x y) (hx : a.eval x = .slice (some ⟨g, off, none⟩) n c) (hy : a.eval y = .int .i64 (k : Nat)) (hk : k < n) : (execOp a.eval o).run Try.prog W = .ok (.value (.pointer (some ⟨g, off + k * 13, none⟩))) W := by
  have hk' : (k : Int) < (n : Int) := by omega
  unfold execOp
  simp only [ho, hx, hy]
  simp [go_sem, hk']
end

section
variable {o : Oper} {a : Act} {W : World} {x y : Operand} {b i : Nat} {ops : Array Oper} {rest : List Oper} {Q : Exit → Act → World → Prop} {u : Un}
theorem run_ldR (ho : o.op = .load 59 x) (hx : a.eval x = .pointer (some ⟨b, i, none⟩)) (hc : Uc W b i u) : (execOp a.eval o).run Try.prog W = .ok (.value (unv u)) W := by
  have h := run_loadAt_mid (P := Try.prog) W b i 59 (unc u) _ (fun j z hj => by
    have hl : j < 13 := (List.getElem?_eq_some_iff.1 hj).1
    rw [hc.at' j hl]
    exact hj) Try.underlying59 rfl (by kernel_rfl)
  unfold execOp
  simp only [ho, hx, Sem.run_bind, h, Result.andThen_ok, Sem.run_pure]
theorem wl_ldR (hgd : Region.wanted o (yielded ops a.tmps) = true) (ho : o.op = .load 59 x) (hx : a.eval x = .pointer (some ⟨b, i, none⟩)) (hc : Uc W b i u) (hk : wpList Try.prog ops Q rest (a.put o.dst (unv u)) W) : wpList Try.prog ops Q (o :: rest) a W :=
  BigFrame.wpList_want hgd fun K hK => by unfold Oper.wp; rw [run_ldR ho hx hc]; exact hK _ _ hk
theorem run_boxR (ho : o.op = .box 59 x) (hx : a.eval x = unv u) : (execOp a.eval o).run Try.prog W = .ok (.value (.pointer (some ⟨W.heap.size, 0, none⟩))) (W.alloc (.cells (unl u) 59)) := by
  unfold execOp
  simp only [ho, hx]
  simp [go_sem]
theorem wl_boxR (hgd : Region.wanted o (yielded ops a.tmps) = true) (ho : o.op = .box 59 x) (hx : a.eval x = unv u) (hk : ∀ W' b,b = W.heap.size → Ub 59 W' b u → Below W.heap.size W W' → wpList Try.prog ops Q rest (a.put o.dst (.pointer (some ⟨b,0,none⟩))) W') : wpList Try.prog ops Q (o :: rest) a W :=
  BigFrame.wpList_want hgd fun K hK => by unfold Oper.wp; rw [run_boxR ho hx]; exact hK _ _ (hk _ _ rfl (Ub.new 59 W u) (ba W _))
theorem run_alR (ho : o.op = .alloc 59) : (execOp a.eval o).run Try.prog W = .ok (.value (.pointer (some ⟨W.heap.size, 0, none⟩))) (W.alloc (.cells (unl Un.zero) 59)) := by
  unfold execOp
  simp only [ho]
  kernel_rfl
theorem wl_alR (hgd : Region.wanted o (yielded ops a.tmps) = true) (ho : o.op = .alloc 59) (hk : ∀ W' b, b = W.heap.size → Ub 59 W' b Un.zero → Below W.heap.size W W' → wpList Try.prog ops Q rest (a.put o.dst (.pointer (some ⟨b, 0, none⟩))) W') : wpList Try.prog ops Q (o :: rest) a W :=
  BigFrame.wpList_want hgd fun K hK => by unfold Oper.wp; rw [run_alR ho]; exact hK _ _ (hk _ _ rfl (Ub.new 59 W _) (ba W _))
theorem wl_stR {T : TypeId} {z : Un} (hgd : o.guard = none) (ho : o.op = .store 59 x y) (hx : a.eval x = .pointer (some ⟨b, 0, none⟩)) (hy : a.eval y = unv u) (h : Ub T W b z)
    (hk : ∀ W', Ub T W' b u → Fr (fun k => k = b) W W' → wpList Try.prog ops Q rest (a.put o.dst undef) W') : wpList Try.prog ops Q (o :: rest) a W :=
  wpList_store_row hgd 59 x y ho b (unl u) hx hy T (unl z) h (by kernel_rfl) rfl (by simp [Value.oneCell']) (hk _ (setRow_heap _ _ _ _ _ _ h) (Fr.of_rowU W b _))
theorem loadR {T : TypeId} {w : World} {b : Nat} {u : Un} (h : Ub T w b u) : (loadVar 59 ⟨b, 0, none⟩).run Try.prog w = .ok (unv u) w :=
  run_loadVar_row w b T 59 (unl u) (0, 0) _ h Try.underlying59 rfl (by kernel_rfl)
theorem resR {T : TypeId} {fn : Func} {p : Tmp} (h : fn.results = #[.cell p 59]) (tmps : Array Value) (w : World) {b : Nat} {u : Un} (hp : tmps.getD p undef = .pointer (some ⟨b, 0, none⟩)) (hs : Ub T w b u) :
    (results fn tmps).run Try.prog w = .ok (unv u) w := by
  have hl := loadR hs
  have hp' : tmps[p]?.getD undef = .pointer (some ⟨b, 0, none⟩) := by simpa using hp
  simp [results, h, hp', asAddr, hl]
end

section
variable {o : Oper} {a : Act} {W : World} {x y : Operand} {b i : Nat} {ops : Array Oper} {rest : List Oper} {Q : Exit → Act → World → Prop} {u : Un}
theorem run_ldI (ho : o.op = .load 36 x) (hx : a.eval x = .pointer (some ⟨b, i, none⟩)) (hc : Uc W b i u) : (execOp a.eval o).run Try.prog W = .ok (.value (unv u)) W := by
  have h := run_loadAt_mid (P := Try.prog) W b i 36 (unc u) _ (fun j z hj => by
    have hl : j < 13 := (List.getElem?_eq_some_iff.1 hj).1
    rw [hc.at' j hl]
    exact hj) Try.underlying36 rfl (by kernel_rfl)
  unfold execOp
  simp only [ho, hx, Sem.run_bind, h, Result.andThen_ok, Sem.run_pure]
theorem wl_ldI (hgd : Region.wanted o (yielded ops a.tmps) = true) (ho : o.op = .load 36 x) (hx : a.eval x = .pointer (some ⟨b, i, none⟩)) (hc : Uc W b i u) (hk : wpList Try.prog ops Q rest (a.put o.dst (unv u)) W) : wpList Try.prog ops Q (o :: rest) a W :=
  BigFrame.wpList_want hgd fun K hK => by unfold Oper.wp; rw [run_ldI ho hx hc]; exact hK _ _ hk
theorem run_boxI (ho : o.op = .box 36 x) (hx : a.eval x = unv u) : (execOp a.eval o).run Try.prog W = .ok (.value (.pointer (some ⟨W.heap.size, 0, none⟩))) (W.alloc (.cells (unl u) 36)) := by
  unfold execOp
  simp only [ho, hx]
  simp [go_sem]
theorem wl_boxI (hgd : Region.wanted o (yielded ops a.tmps) = true) (ho : o.op = .box 36 x) (hx : a.eval x = unv u) (hk : ∀ W' b,b = W.heap.size → Ub 36 W' b u → Below W.heap.size W W' → wpList Try.prog ops Q rest (a.put o.dst (.pointer (some ⟨b,0,none⟩))) W') : wpList Try.prog ops Q (o :: rest) a W :=
  BigFrame.wpList_want hgd fun K hK => by unfold Oper.wp; rw [run_boxI ho hx]; exact hK _ _ (hk _ _ rfl (Ub.new 36 W u) (ba W _))
theorem run_alI (ho : o.op = .alloc 36) : (execOp a.eval o).run Try.prog W = .ok (.value (.pointer (some ⟨W.heap.size, 0, none⟩))) (W.alloc (.cells (unl Un.zero) 36)) := by
  unfold execOp
  simp only [ho]
  kernel_rfl
theorem wl_alI (hgd : Region.wanted o (yielded ops a.tmps) = true) (ho : o.op = .alloc 36) (hk : ∀ W' b, b = W.heap.size → Ub 36 W' b Un.zero → Below W.heap.size W W' → wpList Try.prog ops Q rest (a.put o.dst (.pointer (some ⟨b, 0, none⟩))) W') : wpList Try.prog ops Q (o :: rest) a W :=
  BigFrame.wpList_want hgd fun K hK => by unfold Oper.wp; rw [run_alI ho]; exact hK _ _ (hk _ _ rfl (Ub.new 36 W _) (ba W _))
theorem wl_stI {T : TypeId} {z : Un} (hgd : o.guard = none) (ho : o.op = .store 36 x y) (hx : a.eval x = .pointer (some ⟨b, 0, none⟩)) (hy : a.eval y = unv u) (h : Ub T W b z)
    (hk : ∀ W', Ub T W' b u → Fr (fun k => k = b) W W' → wpList Try.prog ops Q rest (a.put o.dst undef) W') : wpList Try.prog ops Q (o :: rest) a W :=
  wpList_store_row hgd 36 x y ho b (unl u) hx hy T (unl z) h (by kernel_rfl) rfl (by simp [Value.oneCell']) (hk _ (setRow_heap _ _ _ _ _ _ h) (Fr.of_rowU W b _))
theorem loadI {T : TypeId} {w : World} {b : Nat} {u : Un} (h : Ub T w b u) : (loadVar 36 ⟨b, 0, none⟩).run Try.prog w = .ok (unv u) w :=
  run_loadVar_row w b T 36 (unl u) (0, 0) _ h Try.underlying36 rfl (by kernel_rfl)
theorem resI {T : TypeId} {fn : Func} {p : Tmp} (h : fn.results = #[.cell p 36]) (tmps : Array Value) (w : World) {b : Nat} {u : Un} (hp : tmps.getD p undef = .pointer (some ⟨b, 0, none⟩)) (hs : Ub T w b u) :
    (results fn tmps).run Try.prog w = .ok (unv u) w := by
  have hl := loadI hs
  have hp' : tmps[p]?.getD undef = .pointer (some ⟨b, 0, none⟩) := by simpa using hp
  simp [results, h, hp', asAddr, hl]
theorem resI2 {T : TypeId} {fn : Func} {p q : Tmp} (h : fn.results = #[.cell p 36, .tmp q]) (tmps : Array Value) (w : World) {b : Nat} {u : Un} (hp : tmps.getD p undef = .pointer (some ⟨b, 0, none⟩)) (hs : Ub T w b u) :
    (results fn tmps).run Try.prog w = .ok (.tuple #[unv u, tmps.getD q undef]) w := by
  have hl := loadI hs
  have hp' : tmps[p]?.getD undef = .pointer (some ⟨b, 0, none⟩) := by simpa using hp
  simp [results, h, hp', asAddr, hl]
theorem builtI : Try.prog.built 36 [] = some (unl Un.zero) := by kernel_rfl
theorem wl_zeroI (hgd : o.guard = none) (ho : o.op = .build 36 #[]) (hk : wpList Try.prog ops Q rest (a.put o.dst (unv Un.zero)) W) : wpList Try.prog ops Q (o :: rest) a W := by
  refine wpList_build hgd 36 #[] ho ?_ ?_
  · simp [builtI]
  · simp only [List.map_toArray, List.map_nil, builtI]; exact hk
end

section
variable {o : Oper} {a : Act} {W : World} {x y : Operand} {b i : Nat} {ops : Array Oper} {rest : List Oper} {Q : Exit → Act → World → Prop} {u : Un}
theorem builtRof (u : Un) : Try.prog.built 59 [(0, unv u)] = some (unl u) := by kernel_rfl
theorem wl_buildR (hgd : o.guard = none) (ho : o.op = .build 59 #[(0, x)]) (hx : a.eval x = unv u) (hk : wpList Try.prog ops Q rest (a.put o.dst (unv u)) W) : wpList Try.prog ops Q (o :: rest) a W := by
  have e : (Array.map (fun (i, x) => (i, a.eval x)) #[(0, x)]).toList = [(0, unv u)] := by simp [hx]
  refine wpList_build hgd 59 #[(0, x)] ho ?_ ?_
  · rw [e, builtRof]; rfl
  · rw [e, builtRof]; exact hk
/-- An item built of a name, a number, a length and a text. -/
theorem builtI4 (r n f l : Int) (t : ByteArray) : Try.prog.built 36 [(0, idv r n), (1, .int .i64 f), (2, .int .i64 l), (7, .string t)] = some (unl ⟨r, n, f, l, 0, 0, 0, 0, 0, 0, false, false, t⟩) := by kernel_rfl

theorem wl_fst {v : Value} {T T' : TypeId} {j : Nat} {cs : Array Value} (hgd : Region.wanted o (yielded ops a.tmps) = true) (h : W.heap[b]? = some (.cells cs T (0, 0))) (hr : (execOp a.eval o).run Try.prog W = .ok .skip (W.setCell ⟨b, j, none⟩ v))
    (hk : ∀ W', W'.heap[b]? = some (.cells (cs.setIfInBounds j v) T (0, 0)) → Fr (fun k => k = b) W W' → wpList Try.prog ops Q rest (a.put o.dst undef) W') : wpList Try.prog ops Q (o :: rest) a W :=
  BigFrame.wpList_want hgd fun K hK => by unfold Oper.wp; rw [hr]; exact hK _ _ (hk _ (set_rowU h v) (Fr.of_set W b j v))
theorem runS_str {s : ByteArray} {cells : Array Value} {T : TypeId} (ho : o.op = .store 9 x y) (hx : a.eval x = .pointer (some ⟨b,i,none⟩)) (hy : a.eval y = .string s) (h : W.heap[b]? = some (.cells cells T (0,0))) (hi : i < cells.size) : (execOp a.eval o).run Try.prog W = .ok .skip (W.setCell ⟨b,i,none⟩ (.string s)) := by
  obtain ⟨z, hz⟩ := cell_inU (w := W) h hi
  have hf := frozen_of_row W b i _ _ h
  unfold execOp
  simp only [ho, hx, hy]
  simp [go_sem, hz, hf]
theorem runS_bool {s : Bool} {cells : Array Value} {T : TypeId} (ho : o.op = .store 4 x y) (hx : a.eval x = .pointer (some ⟨b,i,none⟩)) (hy : a.eval y = .bool s) (h : W.heap[b]? = some (.cells cells T (0,0))) (hi : i < cells.size) : (execOp a.eval o).run Try.prog W = .ok .skip (W.setCell ⟨b,i,none⟩ (.bool s)) := by
  obtain ⟨z, hz⟩ := cell_inU (w := W) h hi
  have hf := frozen_of_row W b i _ _ h
  unfold execOp
  simp only [ho, hx, hy]
  simp [go_sem, hz, hf]
theorem runS_int {s : Int} {cells : Array Value} {T : TypeId} (ho : o.op = .store 3 x y) (hx : a.eval x = .pointer (some ⟨b,i,none⟩)) (hy : a.eval y = .int .i64 s) (h : W.heap[b]? = some (.cells cells T (0,0))) (hi : i < cells.size) : (execOp a.eval o).run Try.prog W = .ok .skip (W.setCell ⟨b,i,none⟩ (.int .i64 s)) := by
  obtain ⟨z, hz⟩ := cell_inU (w := W) h hi
  have hf := frozen_of_row W b i _ _ h
  unfold execOp
  simp only [ho, hx, hy]
  simp [go_sem, hz, hf]
theorem runS_char {r n k : Int} {cells : Array Value} {T : TypeId} (ho : o.op = .store 26 x y) (hx : a.eval x = .pointer (some ⟨b,i,none⟩)) (hy : a.eval y = chu r n k) (h : W.heap[b]? = some (.cells cells T (0,0))) (hi : i + 2 < cells.size) : (execOp a.eval o).run Try.prog W = .ok .skip (((W.setCell ⟨b,i,none⟩ (.int .i64 r)).setCell ⟨b,i + 1,none⟩ (.int .i64 n)).setCell ⟨b,i + 2,none⟩ (.int .i64 k)) := by
  obtain ⟨z, hz⟩ := cell_inU (w := W) h (show i < cells.size by omega)
  have hf := frozen_of_row W b i _ _ h
  have h' := set_rowU (i := i) h (.int .i64 r)
  obtain ⟨z1, hz1⟩ := cell_inU (i := i + 1) (w := W.setCell ⟨b, i, none⟩ (.int .i64 r)) h' (by simp; omega)
  have hf1 := frozen_of_row (W.setCell ⟨b, i, none⟩ (.int .i64 r)) b (i + 1) _ _ h'
  have h'' := set_rowU (i := i + 1) h' (.int .i64 n)
  obtain ⟨z2, hz2⟩ := cell_inU (i := i + 2) (w := (W.setCell ⟨b, i, none⟩ (.int .i64 r)).setCell ⟨b, i + 1, none⟩ (.int .i64 n)) h'' (by simp; omega)
  have hf2 := frozen_of_row ((W.setCell ⟨b, i, none⟩ (.int .i64 r)).setCell ⟨b, i + 1, none⟩ (.int .i64 n)) b (i + 2) _ _ h''
  unfold execOp
  simp only [ho, hx, hy]
  simp [go_sem, hz, hf, hz1, hf1, hz2, hf2]
variable {T : TypeId}
theorem unl_lt {i : Nat} (x : Un) (h : i < 13) : i < (unl x).size := h
theorem wl_st_text {s : ByteArray} (hgd : Region.wanted o (yielded ops a.tmps) = true) (ho : o.op = .store 9 x y) (hx : a.eval x = .pointer (some ⟨b, 12, none⟩)) (hy : a.eval y = .string s) (h : Ub T W b u)
    (hk : ∀ W', Ub T W' b { u with t := s } → Fr (fun k => k = b) W W' → wpList Try.prog ops Q rest (a.put o.dst undef) W') : wpList Try.prog ops Q (o :: rest) a W :=
  wl_fst (T' := T) hgd h (runS_str ho hx hy h (unl_lt _ (by decide))) hk
theorem wl_st_from {s : Int} (hgd : Region.wanted o (yielded ops a.tmps) = true) (ho : o.op = .store 3 x y) (hx : a.eval x = .pointer (some ⟨b, 2, none⟩)) (hy : a.eval y = .int .i64 s) (h : Ub T W b u)
    (hk : ∀ W', Ub T W' b { u with f := s } → Fr (fun k => k = b) W W' → wpList Try.prog ops Q rest (a.put o.dst undef) W') : wpList Try.prog ops Q (o :: rest) a W :=
  wl_fst (T' := T) hgd h (runS_int ho hx hy h (unl_lt _ (by decide))) hk
theorem wl_st_len {s : Int} (hgd : Region.wanted o (yielded ops a.tmps) = true) (ho : o.op = .store 3 x y) (hx : a.eval x = .pointer (some ⟨b, 3, none⟩)) (hy : a.eval y = .int .i64 s) (h : Ub T W b u)
    (hk : ∀ W', Ub T W' b { u with l := s } → Fr (fun k => k = b) W W' → wpList Try.prog ops Q rest (a.put o.dst undef) W') : wpList Try.prog ops Q (o :: rest) a W :=
  wl_fst (T' := T) hgd h (runS_int ho hx hy h (unl_lt _ (by decide))) hk
theorem wl_st_gone {s : Bool} (hgd : Region.wanted o (yielded ops a.tmps) = true) (ho : o.op = .store 4 x y) (hx : a.eval x = .pointer (some ⟨b, 10, none⟩)) (hy : a.eval y = .bool s) (h : Ub T W b u)
    (hk : ∀ W', Ub T W' b { u with g := s } → Fr (fun k => k = b) W W' → wpList Try.prog ops Q rest (a.put o.dst undef) W') : wpList Try.prog ops Q (o :: rest) a W :=
  wl_fst (T' := T) hgd h (runS_bool ho hx hy h (unl_lt _ (by decide))) hk
theorem Fr.setU {S : Nat → Prop} {a w : World} (h : Fr S a w) {b : Nat} (i : Nat) (v : Value) (hb : S b) : Fr S a (w.setCell ⟨b, i, none⟩ v) :=
  h.trans (Fr.of_set w b i v) (fun k hk e => by subst e; exact hb)
theorem wl_st_left {r n j : Int} (hgd : Region.wanted o (yielded ops a.tmps) = true) (ho : o.op = .store 26 x y) (hx : a.eval x = .pointer (some ⟨b, 4, none⟩)) (hy : a.eval y = chu r n j) (h : Ub T W b u)
    (hk : ∀ W', Ub T W' b { u with a := r, b := n, c := j } → Fr (fun k => k = b) W W' → wpList Try.prog ops Q rest (a.put o.dst undef) W') : wpList Try.prog ops Q (o :: rest) a W :=
  BigFrame.wpList_want hgd fun K hK => by unfold Oper.wp; rw [runS_char ho hx hy h (unl_lt _ (by decide))]; exact hK _ _ (hk _ (set_rowU (i := 6) (set_rowU (i := 5) (set_rowU (i := 4) h _) _) _) (((Fr.of_set W b 4 _).setU 5 _ rfl).setU 6 _ rfl))
theorem wl_st_right {r n j : Int} (hgd : Region.wanted o (yielded ops a.tmps) = true) (ho : o.op = .store 26 x y) (hx : a.eval x = .pointer (some ⟨b, 7, none⟩)) (hy : a.eval y = chu r n j) (h : Ub T W b u)
    (hk : ∀ W', Ub T W' b { u with d := r, e := n, h := j } → Fr (fun k => k = b) W W' → wpList Try.prog ops Q rest (a.put o.dst undef) W') : wpList Try.prog ops Q (o :: rest) a W :=
  BigFrame.wpList_want hgd fun K hK => by unfold Oper.wp; rw [runS_char ho hx hy h (unl_lt _ (by decide))]; exact hK _ _ (hk _ (set_rowU (i := 9) (set_rowU (i := 8) (set_rowU (i := 7) h _) _) _) (((Fr.of_set W b 7 _).setU 8 _ rfl).setU 9 _ rfl))
end
/-- What is done to a new block leaves what was there. -/
theorem below_fr {w w' w'' : World} {b : Nat} (h : Below w.heap.size w w') (hf : Fr (fun k => k = b) w' w'') (hb : w.heap.size ≤ b) : Below w.heap.size w w'' :=
  ((Fr.of_below h : Fr (fun k => k = b) w w').trans' hf).below (fun k hk e => by omega) (Nat.le_refl _)

/-- Rows: runs that came in or lie anywhere ('Us'), of the call's own ('Ur'). -/
def Us (w : World) (v : Value) (xs : List Un) : Prop := Sl 13 w v xs.length (xs.flatMap unc)
def Ur (T : TypeId) (B : Nat) (w : World) (v : Value) (xs : List Un) : Prop := w.ownsRow B T 13 v xs.length (xs.flatMap unc)
theorem Us.below {w w' : World} {v : Value} {xs : List Un} (h : Us w v xs) (hb : Below w.heap.size w w') : Us w' v xs := Sl.below h hb
theorem Us.form {w : World} {v : Value} {xs : List Un} (h : Us w v xs) : ∃ a c, v = .slice a xs.length c ∧ xs.length ≤ c ∧ c ≤ maxLen := Sl.form h
theorem Us.inv {w : World} {v : Value} {xs : List Un} (h : Us w v xs) (hn : 0 < xs.length) : ∃ b off c, v = .slice (some ⟨b, off, none⟩) xs.length c ∧ xs.length ≤ c ∧ c ≤ maxLen ∧ b < w.heap.size ∧ ∀ k (hk : k < xs.length), Uc w b (off + k * 13) (xs[k]) := by
  obtain ⟨b, off, c, h1, h2, h3, h4, h5⟩ := Sl.inv h hn (by decide)
  refine ⟨b, off, c, h1, h2, h3, h4, fun k hk => Uc.of (fun j hj => ?_)⟩
  have e := flat_at unc 13 unc_len xs k j hk hj
  have hl : j < (unc xs[k]).length := hj
  rw [Nat.add_assoc, List.getElem?_eq_getElem hl]
  exact h5 _ _ (by rw [e, List.getElem?_eq_getElem hl])
theorem Ur.us {T : TypeId} {B : Nat} {w : World} {v : Value} {xs : List Un} (h : Ur T B w v xs) : Us w v xs := Sl.of_own h
theorem Ur.nil (T : TypeId) (B : Nat) (w : World) : Ur T B w (.slice none 0 0) [] := World.ownsRow_nil _ _ _ _
theorem own_frU {S : Nat → Prop} {w w' : World} {B e sz n : Nat} {v : Value} {xs : List Value} (h : w.ownsRow B e sz v n xs) (hf : Fr S w w') (hs : ∀ k, v.ownBlock = some k → ¬ S k) : w'.ownsRow B e sz v n xs := by
  refine ⟨h.1, ?_⟩
  rcases h.2 with h0 | ⟨g, cap, cur, rfl, hg, hh, r⟩
  · exact .inl h0
  · exact .inr ⟨g, cap, cur, rfl, hg, by rw [hf.block g (Array.getElem?_eq_some_iff.1 hh).1 (hs g rfl)]; exact hh, r⟩
theorem Ur.fr {S : Nat → Prop} {T : TypeId} {B : Nat} {w w' : World} {v : Value} {xs : List Un} (h : Ur T B w v xs) (hf : Fr S w w') (hs : ∀ k, v.ownBlock = some k → ¬ S k) : Ur T B w' v xs := own_frU h hf hs
theorem Ur.below {T : TypeId} {B : Nat} {w w' : World} {v : Value} {xs : List Un} (h : Ur T B w v xs) (hb : Below w.heap.size w w') : Ur T B w' v xs := h.fr (S := fun _ => False) (Fr.of_below hb) (fun _ _ h => h)
theorem Ur.mono {T : TypeId} {B B' : Nat} {w : World} {v : Value} {xs : List Un} (h : Ur T B w v xs) (hb : B' ≤ B) : Ur T B' w v xs := by
  refine ⟨h.1, ?_⟩
  rcases h.2 with h0 | ⟨g, cap, cur, rfl, hg, r⟩
  · exact .inl h0
  · exact .inr ⟨g, cap, cur, rfl, Nat.le_trans hb hg, r⟩
theorem infoR : (Try.prog.info? 59).map (fun i => (i.zero, i.size, i.bytes)) = some (some (unv Un.zero), 13, 104) := by kernel_rfl
theorem infoI : (Try.prog.info? 36).map (fun i => (i.zero, i.size, i.bytes)) = some (some (unv Un.zero), 13, 104) := by kernel_rfl

theorem wl_appR {w : World} {ops : Array Oper} {rest : List Oper} {o : Oper} {a : Act} {Q : Exit → Act → World → Prop} (hgd : o.guard = none) (s x : Operand)
    (ho : o.op = .call { callee := .builtin .append, args := #[s, x], argTypes := #[55, 55] })
    (B : Nat) (v : Value) (l l2 : List Un) (hs : a.eval s = v) (hR : Ur 59 B w v l) (u : Value) (hx : a.eval x = u) (hu : Us w u l2) (hlen : l.length + l2.length ≤ 1048576) (hB : B ≤ w.heap.size)
    (h : ∀ v' w', Ur 59 B w' v' (l ++ l2) → Fr (fun k => v.ownBlock = some k) w w' → (v'.ownBlock = v.ownBlock ∨ v'.ownBlock = some w.heap.size) → wpList Try.prog ops Q rest (a.put o.dst v') w') :
    wpList Try.prog ops Q (o :: rest) a w := by
  refine wpList_append_sl 55 59 13 104 _ Try.underlying55 infoR rfl (by decide) hgd s x ho B v l.length (l.flatMap unc) hs hR u l2.length (l2.flatMap unc) hx hu (flat_one l2) (by omega) (by unfold maxLen; omega) hB ?_
  intro v' w' h1 h2 h3
  refine h v' w' ?_ (Fr.of_grown h2 (fun k e => e)) h3
  unfold Ur
  rw [List.length_append, List.flatMap_append]
  exact h1

theorem wl_appI {w : World} {ops : Array Oper} {rest : List Oper} {o : Oper} {a : Act} {Q : Exit → Act → World → Prop} (hgd : o.guard = none) (s x : Operand)
    (ho : o.op = .call { callee := .builtin .append, args := #[s, x], argTypes := #[32, 32] })
    (B : Nat) (v : Value) (l l2 : List Un) (hs : a.eval s = v) (hR : Ur 36 B w v l) (u : Value) (hx : a.eval x = u) (hu : Us w u l2) (hlen : l.length + l2.length ≤ 1048576) (hB : B ≤ w.heap.size)
    (h : ∀ v' w', Ur 36 B w' v' (l ++ l2) → Fr (fun k => v.ownBlock = some k) w w' → (v'.ownBlock = v.ownBlock ∨ v'.ownBlock = some w.heap.size) → wpList Try.prog ops Q rest (a.put o.dst v') w') :
    wpList Try.prog ops Q (o :: rest) a w := by
  refine wpList_append_sl 32 36 13 104 _ Try.underlying32 infoI rfl (by decide) hgd s x ho B v l.length (l.flatMap unc) hs hR u l2.length (l2.flatMap unc) hx hu (flat_one l2) (by omega) (by unfold maxLen; omega) hB ?_
  intro v' w' h1 h2 h3
  refine h v' w' ?_ (Fr.of_grown h2 (fun k e => e)) h3
  unfold Ur
  rw [List.length_append, List.flatMap_append]
  exact h1

end Go.Proofs.Ytkaphlpohhaacaa
