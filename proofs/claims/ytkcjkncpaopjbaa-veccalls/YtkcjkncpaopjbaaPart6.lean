/-
  Parts of the proof, one behind the other; what each proves stands at its head.
-/
import Derived.Test.YtkcjkncpaopjbaaPart4
import Derived.Test.YtkcjkncpaopjbaaPart1
import Derived.Deep.CutRange
import Derived.Deep.WholeRow

/-
  What New, Next and Has answer is proved here, of the program and of the reference, for all vectors.
-/
namespace Go.Proofs.Ytkcjkncpaopjbaa
open Go.RowKit
set_option linter.unusedVariables false
set_option maxRecDepth 100000

theorem new_any (w : World) : Calls Try.prog 24 #[] w fun e w' => e = .returned (.pointer (some ⟨w.heap.size, 0, none⟩)) ∧ Vc w' w.heap.size v0 ∧ Below w.heap.size w w' := by
  have h := hid (And.intro (Vc.new w v0 v0_ok 61) (ba w (.cells (is v0).toArray 61)))
  go_enter Try.func24, Try.ntmps24
  go_wp2_with fail
  go_ret
  exact ⟨rfl, h.out⟩

theorem next_in {l : List Int} {k : Nat} {x : Int} (hk : k < 16) (hx : l.getD k 0 = x) : nextV l k = if 1048576 ≤ x then 0 else x + 1 := by
  unfold nextV
  rw [if_neg (by omega), Int.toNat_natCast, hx]
theorem next_out {l : List Int} {r : Int} (h : ¬ (0 ≤ r ∧ r < 16)) : nextV l r = 0 := by
  unfold nextV
  rw [if_pos (by omega)]
theorem has_in {l : List Int} {k : Nat} {n x : Int} (hro : ro k n = true) (hx : l.getD k 0 = x) : hasV l k n = decide (n ≤ x) := by
  unfold hasV
  rw [hro, Int.toNat_natCast, hx, Bool.true_and]
theorem has_out {l : List Int} {r n : Int} (hro : ro r n = false) : hasV l r n = false := by
  unfold hasV
  rw [hro, Bool.false_and]
/-- A name's block. -/
abbrev Idb (W : World) (g : Nat) (r n : Int) : Prop := ∃ T, W.heap[g]? = some (ido T r n)
theorem run_ldid {o : Oper} {a : Act} {x : Operand} {g : Nat} {r n : Int} {W : World} (ho : o.op = .load 24 x) (hx : a.eval x = .pointer (some ⟨g, 0, none⟩)) (h : Idb W g r n) : (execOp a.eval o).run Try.prog W = .ok (.value (idv r n)) W := by
  obtain ⟨T, h⟩ := h
  have h0 : W.cell? ⟨g, 0, none⟩ = some (.int .i64 r) := by rw [cell_of_row W g 0 _ T _ h]; rfl
  have h1 : W.cell? ⟨g, 1, none⟩ = some (.int .i64 n) := by rw [cell_of_row W g 1 _ T _ h]; rfl
  unfold execOp
  simp only [ho, hx]
  simp [go_sem, h0, h1]
theorem run_ldnum {o : Oper} {a : Act} {x : Operand} {b i : Nat} {k : Int} {W : World} (ho : o.op = .load 3 x) (hx : a.eval x = .pointer (some ⟨b, i, none⟩)) (h : W.cell? ⟨b, i, none⟩ = some (.int .i64 k)) : (execOp a.eval o).run Try.prog W = .ok (.value (.int .i64 k)) W := by
  unfold execOp
  simp only [ho, hx]
  simp [go_sem, h]
theorem run_ixarr {o : Oper} {a : Act} {x y : Operand} {b k : Nat} {W : World} (ho : o.op = .indexAddr 46 x y) (hx : a.eval x = .pointer (some ⟨b, 0, none⟩)) (hy : a.eval y = .int .i64 k) (hk : k < 16) :
    (execOp a.eval o).run Try.prog W = .ok (.value (.pointer (some ⟨b, k, none⟩))) W := by
  have hk' : (k : Int) < 16 := by omega
  unfold execOp
  simp only [ho, hx, hy]
  simp [go_sem, hk']
theorem Idb.c0 {W : World} {g : Nat} {r n : Int} (h : Idb W g r n) : W.cell? ⟨g, 0, none⟩ = some (.int .i64 r) := by obtain ⟨T, h⟩ := h; rw [cell_of_row W g 0 _ T _ h]; rfl
theorem Idb.c1 {W : World} {g : Nat} {r n : Int} (h : Idb W g r n) : W.cell? ⟨g, 1, none⟩ = some (.int .i64 n) := by obtain ⟨T, h⟩ := h; rw [cell_of_row W g 1 _ T _ h]; rfl
theorem Idb.below {W W' : World} {g : Nat} {r n : Int} (h : Idb W g r n) (hb : Below W.heap.size W W') : Idb W' g r n := by
  obtain ⟨T, h⟩ := h
  exact ⟨T, by rw [hb.block g (Array.getElem?_eq_some_iff.1 h).1]; exact h⟩

theorem next_any (b : Nat) (l : List Int) (r : Int) (w : World) (h : Vc w b l) :
    Calls Try.prog 18 #[.pointer (some ⟨b, 0, none⟩), .int .i64 r] w fun e w' => e = .returned (.int .i64 (nextV l r)) ∧ w = w' := by
  by_cases h0 : 0 ≤ r ∧ r < 16
  · obtain ⟨k, rfl⟩ := Int.eq_ofNat_of_zero_le h0.1
    have hk : k < 16 := by omega
    have hc := h.cell hk
    obtain ⟨x, hx⟩ : ∃ x, l.getD k 0 = x := ⟨_, rfl⟩
    rw [next_in hk hx]
    have hb := h.1.2 k
    rw [hx] at hc hb
    have e1 : decide ((k : Int) < 0) = false := by simp
    have e2 : decide ((16 : Int) ≤ (k : Int)) = false := by simp; omega
    clear hx
    obtain ⟨z, hz⟩ : ∃ z, (if 1048576 ≤ x then 0 else x + 1) = z := ⟨_, rfl⟩
    rw [hz]
    have HZ := hid hz
    clear hz
    cases he : (x == 1048576)
    all_goals
      have HE := hid he
      go_enter Try.func18, Try.ntmps18
      go_wp2_with fail
      go_ret
      refine ⟨?_, rfl⟩
      have he := HE.out
      simp at he
      rw [← HZ.out]
      first
      | (rw [if_neg (by omega)]; rfl)
      | (rw [if_pos (by omega)]; rfl)
  · rw [next_out h0]
    have h1 : decide (r < 0) = true ∨ (decide (r < 0) = false ∧ decide (16 ≤ r) = true) := by simp; omega
    clear h0
    rcases h1 with h1 | ⟨h1, h2⟩
    all_goals
      go_enter Try.func18, Try.ntmps18
      go_wp2_with fail
      go_ret
      exact ⟨rfl, rfl⟩

def hs0 : Oper := { dst := some 5, op := Op.load 24 (Operand.tmp 3), type := 24, pos := "vec.go:34", after := #[], guard := none }
def hs1 : Oper := { dst := some 6, op := Op.call { callee := Callee.value (Operand.func 32), args := #[Operand.tmp 5], argTypes := #[24] }, type := 4, pos := "vec.go:34", after := #[{ on := 0, ground := Ground.data }], guard := none }
def hs2 : Oper := { dst := some 7, op := Op.move (Operand.tmp 6), type := 4, pos := "vec.go:34", after := #[{ on := 1, ground := Ground.data }, { on := 1, ground := Ground.chain }], guard := none }
def hs3 : Oper := { dst := some 8, op := Op.fieldAddr 24 (Operand.tmp 3) 1, type := 0, pos := "vec.go:34", after := #[{ on := 2, ground := Ground.guard }], guard := some (2, true) }
def hs4 : Oper := { dst := some 9, op := Op.load 3 (Operand.tmp 8), type := 3, pos := "vec.go:34", after := #[{ on := 3, ground := Ground.data }, { on := 2, ground := Ground.guard }], guard := some (2, true) }
def hs5 : Oper := { dst := some 10, op := Op.move (Operand.tmp 0), type := 27, pos := "vec.go:34", after := #[{ on := 2, ground := Ground.guard }], guard := some (2, true) }
def hs6 : Oper := { dst := some 11, op := Op.fieldAddr 24 (Operand.tmp 3) 0, type := 0, pos := "vec.go:34", after := #[{ on := 2, ground := Ground.guard }], guard := some (2, true) }
def hs7 : Oper := { dst := some 12, op := Op.load 3 (Operand.tmp 11), type := 3, pos := "vec.go:34", after := #[{ on := 6, ground := Ground.data }, { on := 2, ground := Ground.guard }], guard := some (2, true) }
def hs8 : Oper := { dst := some 13, op := Op.nilCheck (Operand.tmp 10), type := 0, pos := "vec.go:34", after := #[{ on := 5, ground := Ground.data }, { on := 2, ground := Ground.guard }], guard := some (2, true) }
def hs9 : Oper := { dst := some 14, op := Op.fieldAddr 61 (Operand.tmp 13) 0, type := 0, pos := "vec.go:34", after := #[{ on := 8, ground := Ground.data }, { on := 2, ground := Ground.guard }], guard := some (2, true) }
def hs10 : Oper := { dst := some 15, op := Op.indexAddr 46 (Operand.tmp 14) (Operand.tmp 12), type := 0, pos := "vec.go:34", after := #[{ on := 9, ground := Ground.data }, { on := 7, ground := Ground.data }, { on := 2, ground := Ground.guard }], guard := some (2, true) }
def hs11 : Oper := { dst := some 16, op := Op.load 3 (Operand.tmp 15), type := 3, pos := "vec.go:34", after := #[{ on := 10, ground := Ground.data }, { on := 2, ground := Ground.guard }], guard := some (2, true) }
def hs12 : Oper := { dst := some 17, op := Op.binOp BinOp.leq 3 (Operand.tmp 9) (Operand.tmp 16) 3, type := 4, pos := "vec.go:34", after := #[{ on := 4, ground := Ground.data }, { on := 11, ground := Ground.data }, { on := 2, ground := Ground.guard }], guard := some (2, true) }
def hs13 : Oper := { dst := some 18, op := Op.pick (Operand.tmp 7) (Operand.tmp 17) (Operand.const (Value.bool false)), type := 4, pos := "vec.go:34", after := #[{ on := 2, ground := Ground.data }, { on := 12, ground := Ground.data }], guard := none }
def hs14 : Oper := { dst := some 4, op := Op.assign (Operand.tmp 18), type := 4, pos := "vec.go:34", after := #[{ on := 13, ground := Ground.data }, { on := 2, ground := Ground.chain }, { on := 0, ground := Ground.phase }, { on := 1, ground := Ground.phase }, { on := 2, ground := Ground.phase }, { on := 3, ground := Ground.phase }, { on := 4, ground := Ground.phase }, { on := 5, ground := Ground.phase }, { on := 6, ground := Ground.phase }, { on := 7, ground := Ground.phase }, { on := 8, ground := Ground.phase }, { on := 9, ground := Ground.phase }, { on := 10, ground := Ground.phase }, { on := 11, ground := Ground.phase }, { on := 12, ground := Ground.phase }, { on := 13, ground := Ground.phase }], guard := none }
def hss : Array Oper := #[hs0, hs1, hs2, hs3, hs4, hs5, hs6, hs7, hs8, hs9, hs10, hs11, hs12, hs13, hs14]
theorem hs_lex : Region.lexB .any hss = true := by kernel_rfl
theorem hs_no (b : Nat) (r n : Int) (g : Nat) (w : World) {x2 x4 x5 x6 x7 x8 x9 x10 x11 x12 x13 x14 x15 x16 x17 x18 : Value} {Q : Exit → Act → World → Prop} (hro : ro r n = false) (hI : Idb w g r n)
    (hQ : ∀ W, Below w.heap.size w W → Q .normal { tmps := #[.pointer (some ⟨b, 0, none⟩), idv r n, x2, .pointer (some ⟨g, 0, none⟩), .bool false, idv r n, .bool false, .bool false, undef, undef, undef, undef, undef, undef, undef, undef, undef, undef, .bool false], defers := [] } W) : (Code.region 1 hss true).wp Try.prog Q { tmps := #[.pointer (some ⟨b, 0, none⟩), idv r n, x2, .pointer (some ⟨g, 0, none⟩), x4, x5, x6, x7, x8, x9, x10, x11, x12, x13, x14, x15, x16, x17, x18], defers := [] } w := by
  refine wp_region_quiet (C := fun W => Below w.heap.size w W) (by kernel_rfl) hs_lex (Below.refl _ _).drew ?_
  change wpQuiet _ _ _ _ [hs0, hs1, hs2, hs3, hs4, hs5, hs6, hs7, hs8, hs9, hs10, hs11, hs12, hs13, hs14] _
  refine Wq.out ?_
  refine wq_val (idv r n) { tmps := #[.pointer (some ⟨b, 0, none⟩), idv r n, x2, .pointer (some ⟨g, 0, none⟩), x4, idv r n, x6, x7, x8, x9, x10, x11, x12, x13, x14, x15, x16, x17, x18], defers := [] } (by kernel_rfl) (fun W hW => run_ldid rfl rfl (hI.below hW)) (by kernel_rfl) ?_
  refine wq_call (f := 32) (args := #[idv r n]) (.bool false) { tmps := #[.pointer (some ⟨b, 0, none⟩), idv r n, x2, .pointer (some ⟨g, 0, none⟩), x4, idv r n, .bool false, x7, x8, x9, x10, x11, x12, x13, x14, x15, x16, x17, x18], defers := [] } (by kernel_rfl) (fun W => by kernel_rfl) (fun W hW => (ro_any _ _ W).mono fun e V ⟨h1, h2⟩ => ⟨by rw [h1, hro], by rw [h2]; exact bt hW (ba W _)⟩) (by kernel_rfl) ?_
  refine wq_val (.bool false) { tmps := #[.pointer (some ⟨b, 0, none⟩), idv r n, x2, .pointer (some ⟨g, 0, none⟩), x4, idv r n, .bool false, .bool false, x8, x9, x10, x11, x12, x13, x14, x15, x16, x17, x18], defers := [] } (by kernel_rfl) (fun W hW => by kernel_rfl) (by kernel_rfl) ?_
  refine wq_skip { tmps := #[.pointer (some ⟨b, 0, none⟩), idv r n, x2, .pointer (some ⟨g, 0, none⟩), x4, idv r n, .bool false, .bool false, undef, x9, x10, x11, x12, x13, x14, x15, x16, x17, x18], defers := [] } (by kernel_rfl) (by kernel_rfl) ?_
  refine wq_skip { tmps := #[.pointer (some ⟨b, 0, none⟩), idv r n, x2, .pointer (some ⟨g, 0, none⟩), x4, idv r n, .bool false, .bool false, undef, undef, x10, x11, x12, x13, x14, x15, x16, x17, x18], defers := [] } (by kernel_rfl) (by kernel_rfl) ?_
  refine wq_skip { tmps := #[.pointer (some ⟨b, 0, none⟩), idv r n, x2, .pointer (some ⟨g, 0, none⟩), x4, idv r n, .bool false, .bool false, undef, undef, undef, x11, x12, x13, x14, x15, x16, x17, x18], defers := [] } (by kernel_rfl) (by kernel_rfl) ?_
  refine wq_skip { tmps := #[.pointer (some ⟨b, 0, none⟩), idv r n, x2, .pointer (some ⟨g, 0, none⟩), x4, idv r n, .bool false, .bool false, undef, undef, undef, undef, x12, x13, x14, x15, x16, x17, x18], defers := [] } (by kernel_rfl) (by kernel_rfl) ?_
  refine wq_skip { tmps := #[.pointer (some ⟨b, 0, none⟩), idv r n, x2, .pointer (some ⟨g, 0, none⟩), x4, idv r n, .bool false, .bool false, undef, undef, undef, undef, undef, x13, x14, x15, x16, x17, x18], defers := [] } (by kernel_rfl) (by kernel_rfl) ?_
  refine wq_skip { tmps := #[.pointer (some ⟨b, 0, none⟩), idv r n, x2, .pointer (some ⟨g, 0, none⟩), x4, idv r n, .bool false, .bool false, undef, undef, undef, undef, undef, undef, x14, x15, x16, x17, x18], defers := [] } (by kernel_rfl) (by kernel_rfl) ?_
  refine wq_skip { tmps := #[.pointer (some ⟨b, 0, none⟩), idv r n, x2, .pointer (some ⟨g, 0, none⟩), x4, idv r n, .bool false, .bool false, undef, undef, undef, undef, undef, undef, undef, x15, x16, x17, x18], defers := [] } (by kernel_rfl) (by kernel_rfl) ?_
  refine wq_skip { tmps := #[.pointer (some ⟨b, 0, none⟩), idv r n, x2, .pointer (some ⟨g, 0, none⟩), x4, idv r n, .bool false, .bool false, undef, undef, undef, undef, undef, undef, undef, undef, x16, x17, x18], defers := [] } (by kernel_rfl) (by kernel_rfl) ?_
  refine wq_skip { tmps := #[.pointer (some ⟨b, 0, none⟩), idv r n, x2, .pointer (some ⟨g, 0, none⟩), x4, idv r n, .bool false, .bool false, undef, undef, undef, undef, undef, undef, undef, undef, undef, x17, x18], defers := [] } (by kernel_rfl) (by kernel_rfl) ?_
  refine wq_skip { tmps := #[.pointer (some ⟨b, 0, none⟩), idv r n, x2, .pointer (some ⟨g, 0, none⟩), x4, idv r n, .bool false, .bool false, undef, undef, undef, undef, undef, undef, undef, undef, undef, undef, x18], defers := [] } (by kernel_rfl) (by kernel_rfl) ?_
  refine wq_val (.bool false) { tmps := #[.pointer (some ⟨b, 0, none⟩), idv r n, x2, .pointer (some ⟨g, 0, none⟩), x4, idv r n, .bool false, .bool false, undef, undef, undef, undef, undef, undef, undef, undef, undef, undef, .bool false], defers := [] } (by kernel_rfl) (fun W hW => by kernel_rfl) (by kernel_rfl) ?_
  refine wq_val (.bool false) { tmps := #[.pointer (some ⟨b, 0, none⟩), idv r n, x2, .pointer (some ⟨g, 0, none⟩), .bool false, idv r n, .bool false, .bool false, undef, undef, undef, undef, undef, undef, undef, undef, undef, undef, .bool false], defers := [] } (by kernel_rfl) (fun W hW => by kernel_rfl) (by kernel_rfl) ?_
  exact wq_nil hQ
theorem hs_yes (b k : Nat) (n x : Int) (l : List Int) (g : Nat) (w : World) {x2 x4 x5 x6 x7 x8 x9 x10 x11 x12 x13 x14 x15 x16 x17 x18 : Value} {Q : Exit → Act → World → Prop} (hro : ro (k : Int) n = true) (hk : k < 16) (hI : Idb w g k n) (hV : Vc w b l) (hx : l.getD k 0 = x)
    (hQ : ∀ W, Below w.heap.size w W → Q .normal { tmps := #[.pointer (some ⟨b, 0, none⟩), idv (k : Int) n, x2, .pointer (some ⟨g, 0, none⟩), .bool (decide (n ≤ x)), idv (k : Int) n, .bool true, .bool true, .pointer (some ⟨g, 1, none⟩), .int .i64 n, .pointer (some ⟨b, 0, none⟩), .pointer (some ⟨g, 0, none⟩), .int .i64 k, .pointer (some ⟨b, 0, none⟩), .pointer (some ⟨b, 0, none⟩), .pointer (some ⟨b, k, none⟩), .int .i64 x, .bool (decide (n ≤ x)), .bool (decide (n ≤ x))], defers := [] } W) : (Code.region 1 hss true).wp Try.prog Q { tmps := #[.pointer (some ⟨b, 0, none⟩), idv (k : Int) n, x2, .pointer (some ⟨g, 0, none⟩), x4, x5, x6, x7, x8, x9, x10, x11, x12, x13, x14, x15, x16, x17, x18], defers := [] } w := by
  refine wp_region_quiet (C := fun W => Below w.heap.size w W) (by kernel_rfl) hs_lex (Below.refl _ _).drew ?_
  change wpQuiet _ _ _ _ [hs0, hs1, hs2, hs3, hs4, hs5, hs6, hs7, hs8, hs9, hs10, hs11, hs12, hs13, hs14] _
  refine Wq.out ?_
  refine wq_val (idv (k : Int) n) { tmps := #[.pointer (some ⟨b, 0, none⟩), idv (k : Int) n, x2, .pointer (some ⟨g, 0, none⟩), x4, idv (k : Int) n, x6, x7, x8, x9, x10, x11, x12, x13, x14, x15, x16, x17, x18], defers := [] } (by kernel_rfl) (fun W hW => run_ldid rfl rfl (hI.below hW)) (by kernel_rfl) ?_
  refine wq_call (f := 32) (args := #[idv (k : Int) n]) (.bool true) { tmps := #[.pointer (some ⟨b, 0, none⟩), idv (k : Int) n, x2, .pointer (some ⟨g, 0, none⟩), x4, idv (k : Int) n, .bool true, x7, x8, x9, x10, x11, x12, x13, x14, x15, x16, x17, x18], defers := [] } (by kernel_rfl) (fun W => by kernel_rfl) (fun W hW => (ro_any _ _ W).mono fun e V ⟨h1, h2⟩ => ⟨by rw [h1, hro], by rw [h2]; exact bt hW (ba W _)⟩) (by kernel_rfl) ?_
  refine wq_val (.bool true) { tmps := #[.pointer (some ⟨b, 0, none⟩), idv (k : Int) n, x2, .pointer (some ⟨g, 0, none⟩), x4, idv (k : Int) n, .bool true, .bool true, x8, x9, x10, x11, x12, x13, x14, x15, x16, x17, x18], defers := [] } (by kernel_rfl) (fun W hW => by kernel_rfl) (by kernel_rfl) ?_
  refine wq_val (.pointer (some ⟨g, 1, none⟩)) { tmps := #[.pointer (some ⟨b, 0, none⟩), idv (k : Int) n, x2, .pointer (some ⟨g, 0, none⟩), x4, idv (k : Int) n, .bool true, .bool true, .pointer (some ⟨g, 1, none⟩), x9, x10, x11, x12, x13, x14, x15, x16, x17, x18], defers := [] } (by kernel_rfl) (fun W hW => by kernel_rfl) (by kernel_rfl) ?_
  refine wq_val (.int .i64 n) { tmps := #[.pointer (some ⟨b, 0, none⟩), idv (k : Int) n, x2, .pointer (some ⟨g, 0, none⟩), x4, idv (k : Int) n, .bool true, .bool true, .pointer (some ⟨g, 1, none⟩), .int .i64 n, x10, x11, x12, x13, x14, x15, x16, x17, x18], defers := [] } (by kernel_rfl) (fun W hW => run_ldnum rfl rfl (hI.below hW).c1) (by kernel_rfl) ?_
  refine wq_val (.pointer (some ⟨b, 0, none⟩)) { tmps := #[.pointer (some ⟨b, 0, none⟩), idv (k : Int) n, x2, .pointer (some ⟨g, 0, none⟩), x4, idv (k : Int) n, .bool true, .bool true, .pointer (some ⟨g, 1, none⟩), .int .i64 n, .pointer (some ⟨b, 0, none⟩), x11, x12, x13, x14, x15, x16, x17, x18], defers := [] } (by kernel_rfl) (fun W hW => by kernel_rfl) (by kernel_rfl) ?_
  refine wq_val (.pointer (some ⟨g, 0, none⟩)) { tmps := #[.pointer (some ⟨b, 0, none⟩), idv (k : Int) n, x2, .pointer (some ⟨g, 0, none⟩), x4, idv (k : Int) n, .bool true, .bool true, .pointer (some ⟨g, 1, none⟩), .int .i64 n, .pointer (some ⟨b, 0, none⟩), .pointer (some ⟨g, 0, none⟩), x12, x13, x14, x15, x16, x17, x18], defers := [] } (by kernel_rfl) (fun W hW => by kernel_rfl) (by kernel_rfl) ?_
  refine wq_val (.int .i64 k) { tmps := #[.pointer (some ⟨b, 0, none⟩), idv (k : Int) n, x2, .pointer (some ⟨g, 0, none⟩), x4, idv (k : Int) n, .bool true, .bool true, .pointer (some ⟨g, 1, none⟩), .int .i64 n, .pointer (some ⟨b, 0, none⟩), .pointer (some ⟨g, 0, none⟩), .int .i64 k, x13, x14, x15, x16, x17, x18], defers := [] } (by kernel_rfl) (fun W hW => run_ldnum rfl rfl (hI.below hW).c0) (by kernel_rfl) ?_
  refine wq_val (.pointer (some ⟨b, 0, none⟩)) { tmps := #[.pointer (some ⟨b, 0, none⟩), idv (k : Int) n, x2, .pointer (some ⟨g, 0, none⟩), x4, idv (k : Int) n, .bool true, .bool true, .pointer (some ⟨g, 1, none⟩), .int .i64 n, .pointer (some ⟨b, 0, none⟩), .pointer (some ⟨g, 0, none⟩), .int .i64 k, .pointer (some ⟨b, 0, none⟩), x14, x15, x16, x17, x18], defers := [] } (by kernel_rfl) (fun W hW => by kernel_rfl) (by kernel_rfl) ?_
  refine wq_val (.pointer (some ⟨b, 0, none⟩)) { tmps := #[.pointer (some ⟨b, 0, none⟩), idv (k : Int) n, x2, .pointer (some ⟨g, 0, none⟩), x4, idv (k : Int) n, .bool true, .bool true, .pointer (some ⟨g, 1, none⟩), .int .i64 n, .pointer (some ⟨b, 0, none⟩), .pointer (some ⟨g, 0, none⟩), .int .i64 k, .pointer (some ⟨b, 0, none⟩), .pointer (some ⟨b, 0, none⟩), x15, x16, x17, x18], defers := [] } (by kernel_rfl) (fun W hW => by kernel_rfl) (by kernel_rfl) ?_
  refine wq_val (.pointer (some ⟨b, k, none⟩)) { tmps := #[.pointer (some ⟨b, 0, none⟩), idv (k : Int) n, x2, .pointer (some ⟨g, 0, none⟩), x4, idv (k : Int) n, .bool true, .bool true, .pointer (some ⟨g, 1, none⟩), .int .i64 n, .pointer (some ⟨b, 0, none⟩), .pointer (some ⟨g, 0, none⟩), .int .i64 k, .pointer (some ⟨b, 0, none⟩), .pointer (some ⟨b, 0, none⟩), .pointer (some ⟨b, k, none⟩), x16, x17, x18], defers := [] } (by kernel_rfl) (fun W hW => run_ixarr rfl rfl rfl hk) (by kernel_rfl) ?_
  refine wq_val (.int .i64 x) { tmps := #[.pointer (some ⟨b, 0, none⟩), idv (k : Int) n, x2, .pointer (some ⟨g, 0, none⟩), x4, idv (k : Int) n, .bool true, .bool true, .pointer (some ⟨g, 1, none⟩), .int .i64 n, .pointer (some ⟨b, 0, none⟩), .pointer (some ⟨g, 0, none⟩), .int .i64 k, .pointer (some ⟨b, 0, none⟩), .pointer (some ⟨b, 0, none⟩), .pointer (some ⟨b, k, none⟩), .int .i64 x, x17, x18], defers := [] } (by kernel_rfl) (fun W hW => run_ldnum rfl rfl (by rw [← hx]; exact (hV.below hW).cell hk)) (by kernel_rfl) ?_
  refine wq_val (.bool (decide (n ≤ x))) { tmps := #[.pointer (some ⟨b, 0, none⟩), idv (k : Int) n, x2, .pointer (some ⟨g, 0, none⟩), x4, idv (k : Int) n, .bool true, .bool true, .pointer (some ⟨g, 1, none⟩), .int .i64 n, .pointer (some ⟨b, 0, none⟩), .pointer (some ⟨g, 0, none⟩), .int .i64 k, .pointer (some ⟨b, 0, none⟩), .pointer (some ⟨b, 0, none⟩), .pointer (some ⟨b, k, none⟩), .int .i64 x, .bool (decide (n ≤ x)), x18], defers := [] } (by kernel_rfl) (fun W hW => by kernel_rfl) (by kernel_rfl) ?_
  refine wq_val (.bool (decide (n ≤ x))) { tmps := #[.pointer (some ⟨b, 0, none⟩), idv (k : Int) n, x2, .pointer (some ⟨g, 0, none⟩), x4, idv (k : Int) n, .bool true, .bool true, .pointer (some ⟨g, 1, none⟩), .int .i64 n, .pointer (some ⟨b, 0, none⟩), .pointer (some ⟨g, 0, none⟩), .int .i64 k, .pointer (some ⟨b, 0, none⟩), .pointer (some ⟨b, 0, none⟩), .pointer (some ⟨b, k, none⟩), .int .i64 x, .bool (decide (n ≤ x)), .bool (decide (n ≤ x))], defers := [] } (by kernel_rfl) (fun W hW => by kernel_rfl) (by kernel_rfl) ?_
  refine wq_val (.bool (decide (n ≤ x))) { tmps := #[.pointer (some ⟨b, 0, none⟩), idv (k : Int) n, x2, .pointer (some ⟨g, 0, none⟩), .bool (decide (n ≤ x)), idv (k : Int) n, .bool true, .bool true, .pointer (some ⟨g, 1, none⟩), .int .i64 n, .pointer (some ⟨b, 0, none⟩), .pointer (some ⟨g, 0, none⟩), .int .i64 k, .pointer (some ⟨b, 0, none⟩), .pointer (some ⟨b, 0, none⟩), .pointer (some ⟨b, k, none⟩), .int .i64 x, .bool (decide (n ≤ x)), .bool (decide (n ≤ x))], defers := [] } (by kernel_rfl) (fun W hW => by kernel_rfl) (by kernel_rfl) ?_
  exact wq_nil hQ

theorem has_any (b : Nat) (l : List Int) (r n : Int) (w : World) (h : Vc w b l) :
    Calls Try.prog 16 #[.pointer (some ⟨b, 0, none⟩), idv r n] w fun e w' => e = .returned (.bool (hasV l r n)) ∧ Below w.heap.size w w' := by
  have HV := hid (h.below (ba w (ido 24 r n)))
  have HI := hid (show Idb (w.alloc (ido 24 r n)) w.heap.size r n from ⟨_, heap_alloc_new w _⟩)
  have HB := hid (ba w (ido 24 r n))
  cases hro : ro r n
  · rw [has_out hro]
    have HRO := hid hro
    clear h hro
    go_enter Try.func16, Try.ntmps16
    go_upto_region 1 with (fail)
    refine hs_no b r n w.heap.size _ HRO.out HI.out ?_
    intro W hW
    go_wp2_with fail
    go_ret
    exact ⟨rfl, bt HB.out hW⟩
  · have hq := ro_iff.1 hro
    obtain ⟨k, rfl⟩ := Int.eq_ofNat_of_zero_le hq.1
    obtain ⟨x, hx⟩ : ∃ x, l.getD k 0 = x := ⟨_, rfl⟩
    rw [has_in hro hx]
    have HRO := hid hro
    have HX := hid hx
    have HK := hid (show k < 16 by omega)
    clear h hro hx hq
    go_enter Try.func16, Try.ntmps16
    go_upto_region 1 with (fail)
    refine hs_yes b k n x l w.heap.size _ HRO.out HK.out HI.out HV.out HX.out ?_
    intro W hW
    go_wp2_with fail
    go_ret
    exact ⟨rfl, bt HB.out hW⟩

theorem xnext_any (b : Nat) (l : List Int) (r : Int) (w : World) (h : Vc w b l) :
    Calls Try.prog 19 #[.pointer (some ⟨b, 0, none⟩), .int .i64 r] w fun e w' => e = .returned (.int .i64 (nextV l r)) ∧ w = w' := by
  by_cases h0 : 0 ≤ r ∧ r < 16
  · obtain ⟨k, rfl⟩ := Int.eq_ofNat_of_zero_le h0.1
    have hk : k < 16 := by omega
    have hc := h.cell hk
    obtain ⟨x, hx⟩ : ∃ x, l.getD k 0 = x := ⟨_, rfl⟩
    rw [next_in hk hx]
    have hb := h.1.2 k
    rw [hx] at hc hb
    have e1 : decide ((k : Int) < 0) = false := by simp
    have e2 : decide ((15 : Int) < (k : Int)) = false := by simp; omega
    clear hx
    obtain ⟨z, hz⟩ : ∃ z, (if 1048576 ≤ x then 0 else x + 1) = z := ⟨_, rfl⟩
    rw [hz]
    have HZ := hid hz
    clear hz
    cases he : decide (1048576 ≤ x)
    all_goals
      have HE := hid he
      go_enter Try.func19, Try.ntmps19
      go_wp2_with fail
      go_ret
      refine ⟨?_, rfl⟩
      have he := HE.out
      simp at he
      rw [← HZ.out]
      first
      | (rw [if_neg (by omega)]; rfl)
      | (rw [if_pos (by omega)]; rfl)
  · rw [next_out h0]
    have h1 : decide (r < 0) = true ∨ (decide (r < 0) = false ∧ decide (15 < r) = true) := by simp; omega
    clear h0
    rcases h1 with h1 | ⟨h1, h2⟩
    all_goals
      go_enter Try.func19, Try.ntmps19
      go_wp2_with fail
      go_ret
      exact ⟨rfl, rfl⟩

def xhs0 : Oper := { dst := some 5, op := Op.load 24 (Operand.tmp 3), type := 24, pos := "ref.go:28", after := #[], guard := none }
def xhs1 : Oper := { dst := some 6, op := Op.call { callee := Callee.value (Operand.func 33), args := #[Operand.tmp 5], argTypes := #[24] }, type := 4, pos := "ref.go:28", after := #[{ on := 0, ground := Ground.data }], guard := none }
def xhs2 : Oper := { dst := some 7, op := Op.move (Operand.tmp 6), type := 4, pos := "ref.go:28", after := #[{ on := 1, ground := Ground.data }, { on := 1, ground := Ground.chain }], guard := none }
def xhs3 : Oper := { dst := some 8, op := Op.fieldAddr 24 (Operand.tmp 3) 1, type := 0, pos := "ref.go:28", after := #[{ on := 2, ground := Ground.guard }], guard := some (2, true) }
def xhs4 : Oper := { dst := some 9, op := Op.load 3 (Operand.tmp 8), type := 3, pos := "ref.go:28", after := #[{ on := 3, ground := Ground.data }, { on := 2, ground := Ground.guard }], guard := some (2, true) }
def xhs5 : Oper := { dst := some 10, op := Op.move (Operand.tmp 0), type := 28, pos := "ref.go:28", after := #[{ on := 2, ground := Ground.guard }], guard := some (2, true) }
def xhs6 : Oper := { dst := some 11, op := Op.fieldAddr 24 (Operand.tmp 3) 0, type := 0, pos := "ref.go:28", after := #[{ on := 2, ground := Ground.guard }], guard := some (2, true) }
def xhs7 : Oper := { dst := some 12, op := Op.load 3 (Operand.tmp 11), type := 3, pos := "ref.go:28", after := #[{ on := 6, ground := Ground.data }, { on := 2, ground := Ground.guard }], guard := some (2, true) }
def xhs8 : Oper := { dst := some 13, op := Op.nilCheck (Operand.tmp 10), type := 0, pos := "ref.go:28", after := #[{ on := 5, ground := Ground.data }, { on := 2, ground := Ground.guard }], guard := some (2, true) }
def xhs9 : Oper := { dst := some 14, op := Op.fieldAddr 48 (Operand.tmp 13) 0, type := 0, pos := "ref.go:28", after := #[{ on := 8, ground := Ground.data }, { on := 2, ground := Ground.guard }], guard := some (2, true) }
def xhs10 : Oper := { dst := some 15, op := Op.indexAddr 46 (Operand.tmp 14) (Operand.tmp 12), type := 0, pos := "ref.go:28", after := #[{ on := 9, ground := Ground.data }, { on := 7, ground := Ground.data }, { on := 2, ground := Ground.guard }], guard := some (2, true) }
def xhs11 : Oper := { dst := some 16, op := Op.load 3 (Operand.tmp 15), type := 3, pos := "ref.go:28", after := #[{ on := 10, ground := Ground.data }, { on := 2, ground := Ground.guard }], guard := some (2, true) }
def xhs12 : Oper := { dst := some 17, op := Op.binOp BinOp.leq 3 (Operand.tmp 9) (Operand.tmp 16) 3, type := 4, pos := "ref.go:28", after := #[{ on := 4, ground := Ground.data }, { on := 11, ground := Ground.data }, { on := 2, ground := Ground.guard }], guard := some (2, true) }
def xhs13 : Oper := { dst := some 18, op := Op.pick (Operand.tmp 7) (Operand.tmp 17) (Operand.const (Value.bool false)), type := 4, pos := "ref.go:28", after := #[{ on := 2, ground := Ground.data }, { on := 12, ground := Ground.data }], guard := none }
def xhs14 : Oper := { dst := some 4, op := Op.assign (Operand.tmp 18), type := 4, pos := "ref.go:28", after := #[{ on := 13, ground := Ground.data }, { on := 2, ground := Ground.chain }, { on := 0, ground := Ground.phase }, { on := 1, ground := Ground.phase }, { on := 2, ground := Ground.phase }, { on := 3, ground := Ground.phase }, { on := 4, ground := Ground.phase }, { on := 5, ground := Ground.phase }, { on := 6, ground := Ground.phase }, { on := 7, ground := Ground.phase }, { on := 8, ground := Ground.phase }, { on := 9, ground := Ground.phase }, { on := 10, ground := Ground.phase }, { on := 11, ground := Ground.phase }, { on := 12, ground := Ground.phase }, { on := 13, ground := Ground.phase }], guard := none }
def xhss : Array Oper := #[xhs0, xhs1, xhs2, xhs3, xhs4, xhs5, xhs6, xhs7, xhs8, xhs9, xhs10, xhs11, xhs12, xhs13, xhs14]
theorem xhs_lex : Region.lexB .any xhss = true := by kernel_rfl
theorem xhs_no (b : Nat) (r n : Int) (g : Nat) (w : World) {x2 x4 x5 x6 x7 x8 x9 x10 x11 x12 x13 x14 x15 x16 x17 x18 : Value} {Q : Exit → Act → World → Prop} (hro : ro r n = false) (hI : Idb w g r n)
    (hQ : ∀ W, Below w.heap.size w W → Q .normal { tmps := #[.pointer (some ⟨b, 0, none⟩), idv r n, x2, .pointer (some ⟨g, 0, none⟩), .bool false, idv r n, .bool false, .bool false, undef, undef, undef, undef, undef, undef, undef, undef, undef, undef, .bool false], defers := [] } W) : (Code.region 1 xhss true).wp Try.prog Q { tmps := #[.pointer (some ⟨b, 0, none⟩), idv r n, x2, .pointer (some ⟨g, 0, none⟩), x4, x5, x6, x7, x8, x9, x10, x11, x12, x13, x14, x15, x16, x17, x18], defers := [] } w := by
  refine wp_region_quiet (C := fun W => Below w.heap.size w W) (by kernel_rfl) xhs_lex (Below.refl _ _).drew ?_
  change wpQuiet _ _ _ _ [xhs0, xhs1, xhs2, xhs3, xhs4, xhs5, xhs6, xhs7, xhs8, xhs9, xhs10, xhs11, xhs12, xhs13, xhs14] _
  refine Wq.out ?_
  refine wq_val (idv r n) { tmps := #[.pointer (some ⟨b, 0, none⟩), idv r n, x2, .pointer (some ⟨g, 0, none⟩), x4, idv r n, x6, x7, x8, x9, x10, x11, x12, x13, x14, x15, x16, x17, x18], defers := [] } (by kernel_rfl) (fun W hW => run_ldid rfl rfl (hI.below hW)) (by kernel_rfl) ?_
  refine wq_call (f := 33) (args := #[idv r n]) (.bool false) { tmps := #[.pointer (some ⟨b, 0, none⟩), idv r n, x2, .pointer (some ⟨g, 0, none⟩), x4, idv r n, .bool false, x7, x8, x9, x10, x11, x12, x13, x14, x15, x16, x17, x18], defers := [] } (by kernel_rfl) (fun W => by kernel_rfl) (fun W hW => (xro_any _ _ W).mono fun e V ⟨h1, h2⟩ => ⟨by rw [h1, hro], by rw [h2]; exact bt hW (ba W _)⟩) (by kernel_rfl) ?_
  refine wq_val (.bool false) { tmps := #[.pointer (some ⟨b, 0, none⟩), idv r n, x2, .pointer (some ⟨g, 0, none⟩), x4, idv r n, .bool false, .bool false, x8, x9, x10, x11, x12, x13, x14, x15, x16, x17, x18], defers := [] } (by kernel_rfl) (fun W hW => by kernel_rfl) (by kernel_rfl) ?_
  refine wq_skip { tmps := #[.pointer (some ⟨b, 0, none⟩), idv r n, x2, .pointer (some ⟨g, 0, none⟩), x4, idv r n, .bool false, .bool false, undef, x9, x10, x11, x12, x13, x14, x15, x16, x17, x18], defers := [] } (by kernel_rfl) (by kernel_rfl) ?_
  refine wq_skip { tmps := #[.pointer (some ⟨b, 0, none⟩), idv r n, x2, .pointer (some ⟨g, 0, none⟩), x4, idv r n, .bool false, .bool false, undef, undef, x10, x11, x12, x13, x14, x15, x16, x17, x18], defers := [] } (by kernel_rfl) (by kernel_rfl) ?_
  refine wq_skip { tmps := #[.pointer (some ⟨b, 0, none⟩), idv r n, x2, .pointer (some ⟨g, 0, none⟩), x4, idv r n, .bool false, .bool false, undef, undef, undef, x11, x12, x13, x14, x15, x16, x17, x18], defers := [] } (by kernel_rfl) (by kernel_rfl) ?_
  refine wq_skip { tmps := #[.pointer (some ⟨b, 0, none⟩), idv r n, x2, .pointer (some ⟨g, 0, none⟩), x4, idv r n, .bool false, .bool false, undef, undef, undef, undef, x12, x13, x14, x15, x16, x17, x18], defers := [] } (by kernel_rfl) (by kernel_rfl) ?_
  refine wq_skip { tmps := #[.pointer (some ⟨b, 0, none⟩), idv r n, x2, .pointer (some ⟨g, 0, none⟩), x4, idv r n, .bool false, .bool false, undef, undef, undef, undef, undef, x13, x14, x15, x16, x17, x18], defers := [] } (by kernel_rfl) (by kernel_rfl) ?_
  refine wq_skip { tmps := #[.pointer (some ⟨b, 0, none⟩), idv r n, x2, .pointer (some ⟨g, 0, none⟩), x4, idv r n, .bool false, .bool false, undef, undef, undef, undef, undef, undef, x14, x15, x16, x17, x18], defers := [] } (by kernel_rfl) (by kernel_rfl) ?_
  refine wq_skip { tmps := #[.pointer (some ⟨b, 0, none⟩), idv r n, x2, .pointer (some ⟨g, 0, none⟩), x4, idv r n, .bool false, .bool false, undef, undef, undef, undef, undef, undef, undef, x15, x16, x17, x18], defers := [] } (by kernel_rfl) (by kernel_rfl) ?_
  refine wq_skip { tmps := #[.pointer (some ⟨b, 0, none⟩), idv r n, x2, .pointer (some ⟨g, 0, none⟩), x4, idv r n, .bool false, .bool false, undef, undef, undef, undef, undef, undef, undef, undef, x16, x17, x18], defers := [] } (by kernel_rfl) (by kernel_rfl) ?_
  refine wq_skip { tmps := #[.pointer (some ⟨b, 0, none⟩), idv r n, x2, .pointer (some ⟨g, 0, none⟩), x4, idv r n, .bool false, .bool false, undef, undef, undef, undef, undef, undef, undef, undef, undef, x17, x18], defers := [] } (by kernel_rfl) (by kernel_rfl) ?_
  refine wq_skip { tmps := #[.pointer (some ⟨b, 0, none⟩), idv r n, x2, .pointer (some ⟨g, 0, none⟩), x4, idv r n, .bool false, .bool false, undef, undef, undef, undef, undef, undef, undef, undef, undef, undef, x18], defers := [] } (by kernel_rfl) (by kernel_rfl) ?_
  refine wq_val (.bool false) { tmps := #[.pointer (some ⟨b, 0, none⟩), idv r n, x2, .pointer (some ⟨g, 0, none⟩), x4, idv r n, .bool false, .bool false, undef, undef, undef, undef, undef, undef, undef, undef, undef, undef, .bool false], defers := [] } (by kernel_rfl) (fun W hW => by kernel_rfl) (by kernel_rfl) ?_
  refine wq_val (.bool false) { tmps := #[.pointer (some ⟨b, 0, none⟩), idv r n, x2, .pointer (some ⟨g, 0, none⟩), .bool false, idv r n, .bool false, .bool false, undef, undef, undef, undef, undef, undef, undef, undef, undef, undef, .bool false], defers := [] } (by kernel_rfl) (fun W hW => by kernel_rfl) (by kernel_rfl) ?_
  exact wq_nil hQ
theorem xhs_yes (b k : Nat) (n x : Int) (l : List Int) (g : Nat) (w : World) {x2 x4 x5 x6 x7 x8 x9 x10 x11 x12 x13 x14 x15 x16 x17 x18 : Value} {Q : Exit → Act → World → Prop} (hro : ro (k : Int) n = true) (hk : k < 16) (hI : Idb w g k n) (hV : Vc w b l) (hx : l.getD k 0 = x)
    (hQ : ∀ W, Below w.heap.size w W → Q .normal { tmps := #[.pointer (some ⟨b, 0, none⟩), idv (k : Int) n, x2, .pointer (some ⟨g, 0, none⟩), .bool (decide (n ≤ x)), idv (k : Int) n, .bool true, .bool true, .pointer (some ⟨g, 1, none⟩), .int .i64 n, .pointer (some ⟨b, 0, none⟩), .pointer (some ⟨g, 0, none⟩), .int .i64 k, .pointer (some ⟨b, 0, none⟩), .pointer (some ⟨b, 0, none⟩), .pointer (some ⟨b, k, none⟩), .int .i64 x, .bool (decide (n ≤ x)), .bool (decide (n ≤ x))], defers := [] } W) : (Code.region 1 xhss true).wp Try.prog Q { tmps := #[.pointer (some ⟨b, 0, none⟩), idv (k : Int) n, x2, .pointer (some ⟨g, 0, none⟩), x4, x5, x6, x7, x8, x9, x10, x11, x12, x13, x14, x15, x16, x17, x18], defers := [] } w := by
  refine wp_region_quiet (C := fun W => Below w.heap.size w W) (by kernel_rfl) xhs_lex (Below.refl _ _).drew ?_
  change wpQuiet _ _ _ _ [xhs0, xhs1, xhs2, xhs3, xhs4, xhs5, xhs6, xhs7, xhs8, xhs9, xhs10, xhs11, xhs12, xhs13, xhs14] _
  refine Wq.out ?_
  refine wq_val (idv (k : Int) n) { tmps := #[.pointer (some ⟨b, 0, none⟩), idv (k : Int) n, x2, .pointer (some ⟨g, 0, none⟩), x4, idv (k : Int) n, x6, x7, x8, x9, x10, x11, x12, x13, x14, x15, x16, x17, x18], defers := [] } (by kernel_rfl) (fun W hW => run_ldid rfl rfl (hI.below hW)) (by kernel_rfl) ?_
  refine wq_call (f := 33) (args := #[idv (k : Int) n]) (.bool true) { tmps := #[.pointer (some ⟨b, 0, none⟩), idv (k : Int) n, x2, .pointer (some ⟨g, 0, none⟩), x4, idv (k : Int) n, .bool true, x7, x8, x9, x10, x11, x12, x13, x14, x15, x16, x17, x18], defers := [] } (by kernel_rfl) (fun W => by kernel_rfl) (fun W hW => (xro_any _ _ W).mono fun e V ⟨h1, h2⟩ => ⟨by rw [h1, hro], by rw [h2]; exact bt hW (ba W _)⟩) (by kernel_rfl) ?_
  refine wq_val (.bool true) { tmps := #[.pointer (some ⟨b, 0, none⟩), idv (k : Int) n, x2, .pointer (some ⟨g, 0, none⟩), x4, idv (k : Int) n, .bool true, .bool true, x8, x9, x10, x11, x12, x13, x14, x15, x16, x17, x18], defers := [] } (by kernel_rfl) (fun W hW => by kernel_rfl) (by kernel_rfl) ?_
  refine wq_val (.pointer (some ⟨g, 1, none⟩)) { tmps := #[.pointer (some ⟨b, 0, none⟩), idv (k : Int) n, x2, .pointer (some ⟨g, 0, none⟩), x4, idv (k : Int) n, .bool true, .bool true, .pointer (some ⟨g, 1, none⟩), x9, x10, x11, x12, x13, x14, x15, x16, x17, x18], defers := [] } (by kernel_rfl) (fun W hW => by kernel_rfl) (by kernel_rfl) ?_
  refine wq_val (.int .i64 n) { tmps := #[.pointer (some ⟨b, 0, none⟩), idv (k : Int) n, x2, .pointer (some ⟨g, 0, none⟩), x4, idv (k : Int) n, .bool true, .bool true, .pointer (some ⟨g, 1, none⟩), .int .i64 n, x10, x11, x12, x13, x14, x15, x16, x17, x18], defers := [] } (by kernel_rfl) (fun W hW => run_ldnum rfl rfl (hI.below hW).c1) (by kernel_rfl) ?_
  refine wq_val (.pointer (some ⟨b, 0, none⟩)) { tmps := #[.pointer (some ⟨b, 0, none⟩), idv (k : Int) n, x2, .pointer (some ⟨g, 0, none⟩), x4, idv (k : Int) n, .bool true, .bool true, .pointer (some ⟨g, 1, none⟩), .int .i64 n, .pointer (some ⟨b, 0, none⟩), x11, x12, x13, x14, x15, x16, x17, x18], defers := [] } (by kernel_rfl) (fun W hW => by kernel_rfl) (by kernel_rfl) ?_
  refine wq_val (.pointer (some ⟨g, 0, none⟩)) { tmps := #[.pointer (some ⟨b, 0, none⟩), idv (k : Int) n, x2, .pointer (some ⟨g, 0, none⟩), x4, idv (k : Int) n, .bool true, .bool true, .pointer (some ⟨g, 1, none⟩), .int .i64 n, .pointer (some ⟨b, 0, none⟩), .pointer (some ⟨g, 0, none⟩), x12, x13, x14, x15, x16, x17, x18], defers := [] } (by kernel_rfl) (fun W hW => by kernel_rfl) (by kernel_rfl) ?_
  refine wq_val (.int .i64 k) { tmps := #[.pointer (some ⟨b, 0, none⟩), idv (k : Int) n, x2, .pointer (some ⟨g, 0, none⟩), x4, idv (k : Int) n, .bool true, .bool true, .pointer (some ⟨g, 1, none⟩), .int .i64 n, .pointer (some ⟨b, 0, none⟩), .pointer (some ⟨g, 0, none⟩), .int .i64 k, x13, x14, x15, x16, x17, x18], defers := [] } (by kernel_rfl) (fun W hW => run_ldnum rfl rfl (hI.below hW).c0) (by kernel_rfl) ?_
  refine wq_val (.pointer (some ⟨b, 0, none⟩)) { tmps := #[.pointer (some ⟨b, 0, none⟩), idv (k : Int) n, x2, .pointer (some ⟨g, 0, none⟩), x4, idv (k : Int) n, .bool true, .bool true, .pointer (some ⟨g, 1, none⟩), .int .i64 n, .pointer (some ⟨b, 0, none⟩), .pointer (some ⟨g, 0, none⟩), .int .i64 k, .pointer (some ⟨b, 0, none⟩), x14, x15, x16, x17, x18], defers := [] } (by kernel_rfl) (fun W hW => by kernel_rfl) (by kernel_rfl) ?_
  refine wq_val (.pointer (some ⟨b, 0, none⟩)) { tmps := #[.pointer (some ⟨b, 0, none⟩), idv (k : Int) n, x2, .pointer (some ⟨g, 0, none⟩), x4, idv (k : Int) n, .bool true, .bool true, .pointer (some ⟨g, 1, none⟩), .int .i64 n, .pointer (some ⟨b, 0, none⟩), .pointer (some ⟨g, 0, none⟩), .int .i64 k, .pointer (some ⟨b, 0, none⟩), .pointer (some ⟨b, 0, none⟩), x15, x16, x17, x18], defers := [] } (by kernel_rfl) (fun W hW => by kernel_rfl) (by kernel_rfl) ?_
  refine wq_val (.pointer (some ⟨b, k, none⟩)) { tmps := #[.pointer (some ⟨b, 0, none⟩), idv (k : Int) n, x2, .pointer (some ⟨g, 0, none⟩), x4, idv (k : Int) n, .bool true, .bool true, .pointer (some ⟨g, 1, none⟩), .int .i64 n, .pointer (some ⟨b, 0, none⟩), .pointer (some ⟨g, 0, none⟩), .int .i64 k, .pointer (some ⟨b, 0, none⟩), .pointer (some ⟨b, 0, none⟩), .pointer (some ⟨b, k, none⟩), x16, x17, x18], defers := [] } (by kernel_rfl) (fun W hW => run_ixarr rfl rfl rfl hk) (by kernel_rfl) ?_
  refine wq_val (.int .i64 x) { tmps := #[.pointer (some ⟨b, 0, none⟩), idv (k : Int) n, x2, .pointer (some ⟨g, 0, none⟩), x4, idv (k : Int) n, .bool true, .bool true, .pointer (some ⟨g, 1, none⟩), .int .i64 n, .pointer (some ⟨b, 0, none⟩), .pointer (some ⟨g, 0, none⟩), .int .i64 k, .pointer (some ⟨b, 0, none⟩), .pointer (some ⟨b, 0, none⟩), .pointer (some ⟨b, k, none⟩), .int .i64 x, x17, x18], defers := [] } (by kernel_rfl) (fun W hW => run_ldnum rfl rfl (by rw [← hx]; exact (hV.below hW).cell hk)) (by kernel_rfl) ?_
  refine wq_val (.bool (decide (n ≤ x))) { tmps := #[.pointer (some ⟨b, 0, none⟩), idv (k : Int) n, x2, .pointer (some ⟨g, 0, none⟩), x4, idv (k : Int) n, .bool true, .bool true, .pointer (some ⟨g, 1, none⟩), .int .i64 n, .pointer (some ⟨b, 0, none⟩), .pointer (some ⟨g, 0, none⟩), .int .i64 k, .pointer (some ⟨b, 0, none⟩), .pointer (some ⟨b, 0, none⟩), .pointer (some ⟨b, k, none⟩), .int .i64 x, .bool (decide (n ≤ x)), x18], defers := [] } (by kernel_rfl) (fun W hW => by kernel_rfl) (by kernel_rfl) ?_
  refine wq_val (.bool (decide (n ≤ x))) { tmps := #[.pointer (some ⟨b, 0, none⟩), idv (k : Int) n, x2, .pointer (some ⟨g, 0, none⟩), x4, idv (k : Int) n, .bool true, .bool true, .pointer (some ⟨g, 1, none⟩), .int .i64 n, .pointer (some ⟨b, 0, none⟩), .pointer (some ⟨g, 0, none⟩), .int .i64 k, .pointer (some ⟨b, 0, none⟩), .pointer (some ⟨b, 0, none⟩), .pointer (some ⟨b, k, none⟩), .int .i64 x, .bool (decide (n ≤ x)), .bool (decide (n ≤ x))], defers := [] } (by kernel_rfl) (fun W hW => by kernel_rfl) (by kernel_rfl) ?_
  refine wq_val (.bool (decide (n ≤ x))) { tmps := #[.pointer (some ⟨b, 0, none⟩), idv (k : Int) n, x2, .pointer (some ⟨g, 0, none⟩), .bool (decide (n ≤ x)), idv (k : Int) n, .bool true, .bool true, .pointer (some ⟨g, 1, none⟩), .int .i64 n, .pointer (some ⟨b, 0, none⟩), .pointer (some ⟨g, 0, none⟩), .int .i64 k, .pointer (some ⟨b, 0, none⟩), .pointer (some ⟨b, 0, none⟩), .pointer (some ⟨b, k, none⟩), .int .i64 x, .bool (decide (n ≤ x)), .bool (decide (n ≤ x))], defers := [] } (by kernel_rfl) (fun W hW => by kernel_rfl) (by kernel_rfl) ?_
  exact wq_nil hQ

theorem xhas_any (b : Nat) (l : List Int) (r n : Int) (w : World) (h : Vc w b l) :
    Calls Try.prog 17 #[.pointer (some ⟨b, 0, none⟩), idv r n] w fun e w' => e = .returned (.bool (hasV l r n)) ∧ Below w.heap.size w w' := by
  have HV := hid (h.below (ba w (ido 24 r n)))
  have HI := hid (show Idb (w.alloc (ido 24 r n)) w.heap.size r n from ⟨_, heap_alloc_new w _⟩)
  have HB := hid (ba w (ido 24 r n))
  cases hro : ro r n
  · rw [has_out hro]
    have HRO := hid hro
    clear h hro
    go_enter Try.func17, Try.ntmps17
    go_upto_region 1 with (fail)
    refine xhs_no b r n w.heap.size _ HRO.out HI.out ?_
    intro W hW
    go_wp2_with fail
    go_ret
    exact ⟨rfl, bt HB.out hW⟩
  · have hq := ro_iff.1 hro
    obtain ⟨k, rfl⟩ := Int.eq_ofNat_of_zero_le hq.1
    obtain ⟨x, hx⟩ : ∃ x, l.getD k 0 = x := ⟨_, rfl⟩
    rw [has_in hro hx]
    have HRO := hid hro
    have HX := hid hx
    have HK := hid (show k < 16 by omega)
    clear h hro hx hq
    go_enter Try.func17, Try.ntmps17
    go_upto_region 1 with (fail)
    refine xhs_yes b k n x l w.heap.size _ HRO.out HK.out HI.out HV.out HX.out ?_
    intro W hW
    go_wp2_with fail
    go_ret
    exact ⟨rfl, bt HB.out hW⟩

end Go.Proofs.Ytkcjkncpaopjbaa

/-
  What Count, Covers and Clone answer is proved here, of the program and of the reference, for all vectors.
-/
namespace Go.Proofs.Ytkcjkncpaopjbaa
open Go.RowKit
set_option linter.unusedVariables false
set_option maxRecDepth 100000

section
variable {ops : Array Oper} {rest : List Oper} {o : Oper} {a : Act} {w : World} {Q : Exit → Act → World → Prop}
theorem wpList_ld_arr (hgd : o.guard = none) (x : Operand) (ho : o.op = .load 46 x) (b : Nat) (l : List Int) (hx : a.eval x = .pointer (some ⟨b, 0, none⟩)) (hV : Vc w b l)
    (h : wpList Try.prog ops Q rest (a.put o.dst (.agg (is l).toArray)) w) : wpList Try.prog ops Q (o :: rest) a w := by
  obtain ⟨hk, T, e⟩ := hV
  have h16 : (is l).toArray.size = 16 := by simp [hk.1]
  have hs : (Try.prog.info? 46).map (·.size) = some 16 := by kernel_rfl
  exact wpList_load_row hgd 46 x ho b hx T (is l).toArray (0, 0) _ e Try.underlying46 rfl (by rw [h16]; exact hs) h
theorem wpList_ld_vec (hgd : o.guard = none) (x : Operand) (ho : o.op = .load 61 x) (b : Nat) (l : List Int) (hx : a.eval x = .pointer (some ⟨b, 0, none⟩)) (hV : Vc w b l)
    (h : wpList Try.prog ops Q rest (a.put o.dst (.agg (is l).toArray)) w) : wpList Try.prog ops Q (o :: rest) a w := by
  obtain ⟨hk, T, e⟩ := hV
  have h16 : (is l).toArray.size = 16 := by simp [hk.1]
  have hs : (Try.prog.info? 61).map (·.size) = some 16 := by kernel_rfl
  exact wpList_load_row hgd 61 x ho b hx T (is l).toArray (0, 0) _ e Try.underlying61 rfl (by rw [h16]; exact hs) h
theorem all_one (l : List Int) : (is l).toArray.all (·.oneCell') = true := by
  rw [Array.all_eq_true]
  intro i hi
  simp [Value.oneCell']
/-- Sixteen numbers into the block that was made last. -/
theorem wpList_st_vec {w0 : World} {c : Array Value} (hgd : o.guard = none) (x y : Operand) (ho : o.op = .store 61 x y) (l : List Int) (hc : c.size = 16)
    (hx : a.eval x = .pointer (some ⟨w0.heap.size, 0, none⟩)) (hy : a.eval y = .agg (is l).toArray) (hk : Vk l)
    (h : ∀ w', Vc w' w0.heap.size l → Below w0.heap.size w0 w' → wpList Try.prog ops Q rest (a.put o.dst undef) w') : wpList Try.prog ops Q (o :: rest) a (w0.alloc (.cells c 61)) := by
  have h16 : (is l).toArray.size = 16 := by simp [hk.1]
  have hs : (Try.prog.info? 61).map (·.size) = some 16 := by kernel_rfl
  have hrun := run_storeAt_new (P := Try.prog) w0 61 c (is l).toArray (by rw [h16]; exact hs) (by rw [h16, hc]) (all_one l)
  refine wpList_plain hgd fun K hK => ?_
  unfold Oper.wp execOp
  simp only [ho, hx, hy, hrun, Sem.run_bind, Result.andThen]
  exact hK _ _ (h _ (Vc.new w0 l hk _) (ba w0 _))
end

theorem run_ix {l : List Int} (hl : Vk l) {k : Nat} (hk : k < 16) (w : World) : (Instr.index 46 (.agg (is l).toArray) (.int .i64 k)).run Try.prog w = .ok (.int .i64 (l.getD k 0)) w := by
  have hc : l[k]? = some (l.getD k 0) := by simp [show k < l.length by rw [hl.1]; exact hk]
  simp [Instr.index, run_underlying Try.underlying46, asIntOf, go_sem, part, hk]
  simp [show k < l.length by rw [hl.1]; exact hk]

theorem sum_next {l : List Int} (h : Vk l) {k : Nat} (hk : k < 16) : IntKind.i64.wrap (sumTo l k + l.getD k 0) = sumTo l (k + 1) := by
  have h1 := sum_le h (k + 1)
  have h2 : sumTo l (k + 1) = sumTo l k + l.getD k 0 := rfl
  rw [IntKind.wrap_i64]
  omega

theorem count_any (b : Nat) (l : List Int) (w : World) (h : Vc w b l) :
    Calls Try.prog 22 #[.pointer (some ⟨b, 0, none⟩)] w fun e w' => e = .returned (.int .i64 (sumTo l 16)) ∧ w = w' := by
  have HV := hid h
  have hk := h.1
  clear h
  go_enter Try.func22, Try.ntmps22
  go_wp2_with (refine wpList_ld_arr rfl (.tmp 8) rfl b l rfl HV.out ?_)
  go_loopw [3, 10] (fun s i wr => ∃ k : Nat, k ≤ 16 ∧ i = .int .i64 k ∧ s = .int .i64 (sumTo l k) ∧ w = wr) (fun _ i _ => 16 - (intOf i).toNat)
  case atStart => exact ⟨0, by omega, rfl, rfl, rfl⟩
  case round =>
    obtain ⟨k, hk16, rfl, rfl, rfl⟩ := hrel
    by_cases hlt : k < 16
    · have hlt' : (k : Int) < 16 := by omega
      have hix := run_ix hk hlt
      obtain ⟨x, hx⟩ : ∃ x, l.getD k 0 = x := ⟨_, rfl⟩
      obtain ⟨S, hS⟩ : ∃ S, sumTo l k = S := ⟨_, rfl⟩
      have hs1 : sumTo l (k + 1) = S + x := by rw [← hS, ← hx]; rfl
      have hb := sum_le hk (k + 1)
      rw [hs1] at hb
      have HS := hid hs1
      rw [hx] at hix
      rw [hS]
      clear hs1 hx hS
      go_wp2_with fail
      go_roundw
      case rel => exact ⟨k + 1, by omega, by go_num, by rw [HS.out], trivial⟩
      case measure => simp [intOf]; omega
    · obtain rfl : k = 16 := by omega
      obtain ⟨S, hS⟩ : ∃ S, sumTo l 16 = S := ⟨_, rfl⟩
      rw [hS]
      have HS := hid hS
      clear hS
      go_wp2_with fail
      go_ret
      exact ⟨by rw [HS.out]; rfl, rfl⟩

theorem covers_any (b c : Nat) (l m : List Int) (w : World) (h : Vc w b l) (h' : Vc w c m) :
    Calls Try.prog 20 #[.pointer (some ⟨b, 0, none⟩), .pointer (some ⟨c, 0, none⟩)] w fun e w' => e = .returned (.bool (covV l m)) ∧ w = w' := by
  obtain ⟨z, hz⟩ : ∃ z, covV l m = z := ⟨_, rfl⟩
  rw [hz]
  have HZ := hid hz
  have HV := hid h
  have HW := hid h'
  have hk := h'.1
  clear h h' hz
  go_enter Try.func20, Try.ntmps20
  go_wp2_with (refine wpList_ld_arr rfl (.tmp 9) rfl c m rfl HW.out ?_)
  go_loopw [11] (fun i wr => ∃ k : Nat, k ≤ 16 ∧ i = .int .i64 k ∧ covTo l m k ∧ w = wr) (fun i _ => 16 - (intOf i).toNat)
  case atStart => exact ⟨0, by omega, rfl, fun i hi => absurd hi (Nat.not_lt_zero _), rfl⟩
  case round =>
    obtain ⟨k, hk16, rfl, hcv, rfl⟩ := hrel
    have HC := hid hcv
    clear hcv
    by_cases hlt : k < 16
    · have hlt' : (k : Int) < 16 := by omega
      have hix := run_ix hk hlt
      have hcell := HV.out.cell hlt
      obtain ⟨x, hx⟩ : ∃ x, m.getD k 0 = x := ⟨_, rfl⟩
      obtain ⟨y, hy⟩ : ∃ y, l.getD k 0 = y := ⟨_, rfl⟩
      rw [hx] at hix
      rw [hy] at hcell
      have HX := hid hx
      have HY := hid hy
      clear hx hy
      cases hd : decide (y < x)
      · have HD := hid hd
        go_wp2_with fail
        go_roundw
        case rel =>
          refine ⟨k + 1, by omega, by go_num, fun i hi => ?_, trivial⟩
          by_cases e : i = k
          · subst e; rw [HX.out, HY.out]; have := HD.out; simp at this; exact this
          · exact HC.out i (by omega)
        case measure => simp [intOf]; omega
      · have HD := hid hd
        go_wp2_with fail
        go_ret
        refine ⟨?_, rfl⟩
        rw [← HZ.out, cov_not k hlt (by rw [HX.out, HY.out]; have := HD.out; simpa using this)]
        rfl
    · obtain rfl : k = 16 := by omega
      go_wp2_with fail
      go_ret
      refine ⟨?_, rfl⟩
      rw [← HZ.out, cov_iff.2 HC.out]
      rfl

theorem clone_any (b : Nat) (l : List Int) (w : World) (h : Vc w b l) :
    Calls Try.prog 27 #[.pointer (some ⟨b, 0, none⟩)] w fun e w' => ∃ c, e = .returned (.pointer (some ⟨c, 0, none⟩)) ∧ w.heap.size ≤ c ∧ Vc w' c l ∧ Below w.heap.size w w' := by
  have HV := hid h
  clear h
  go_enter Try.func27, Try.ntmps27
  go_wp2_with (first | (refine wpList_ld_vec rfl (.tmp 5) rfl b l rfl HV.out ?_) | (refine wpList_st_vec rfl (.tmp 3) (.tmp 6) rfl l rfl rfl rfl HV.out.1 ?_; intro w2 hv2 hb2; have HV2 := hid hv2; have HB2 := hid hb2; clear hv2 hb2))
  go_ret
  exact ⟨_, rfl, Nat.le_refl _, HV2.out, HB2.out⟩

theorem info_int : (Try.prog.info? 3).map (fun i => (i.zero, i.size, i.bytes)) = some (some (.int .i64 0), 1, 8) := by kernel_rfl
theorem run_mk16 (W : World) : (Instr.makeSlice 22 (.int .i64 16) (.int .i64 16)).run Try.prog W = .ok (.slice (some ⟨W.heap.size, 0, none⟩) 16 16) (W.alloc (.cells (is v0).toArray 3)) := by
  obtain ⟨i0, hi, hz0, hz1, hz2⟩ := info_parts info_int
  have h := run_make (P := Try.prog) W 22 3 i0 _ Try.underlying22 hi hz0 .i64 .i64 16 16 (by decide) (by decide) (by rw [hz2]; decide) (by decide)
  rw [h, hz1]
  congr 2
  kernel_rfl
theorem splice_all (l : List Int) (h : l.length = 16) : splice (is v0) 0 (is l) = is l := by
  unfold splice
  rw [List.take_zero, List.nil_append, List.drop_eq_nil_of_le (by simp [h, v0]), List.append_nil]

theorem Iz.row {w : World} {g : Nat} {l : List Int} {t : TypeId} (h : w.heap[g]? = some (.cells (is l).toArray t (0, 0))) (h16 : l.length = 16) : Iz w (.slice (some ⟨g, 0, none⟩) 16 16) l := by
  refine ⟨by simp, some ⟨g, 0, none⟩, 16, by rw [h16], by omega, by unfold maxLen; omega, (fun e => by cases e), fun j u hu => ⟨g, 0, rfl, ?_⟩⟩
  rw [Nat.zero_add, cell_of_row w g j _ t _ h]
  simpa using hu
theorem Vc.cells_at {w : World} {b : Nat} {l : List Int} (h : Vc w b l) : ∀ j u, (is l)[j]? = some u → w.cell? ((⟨b, 0, none⟩ : Addr).add j) = some u := by
  intro j u hu
  obtain ⟨hk, T, e⟩ := h
  have e3 : (⟨b, 0, none⟩ : Addr).add j = ⟨b, j, none⟩ := by
    unfold Addr.add; split <;> simp_all
  rw [e3, cell_of_row w b j _ T _ e]
  simpa using hu

theorem have_any (b : Nat) (l : List Int) (w : World) (h : Vc w b l) :
    Calls Try.prog 14 #[.pointer (some ⟨b, 0, none⟩)] w fun e w' => ∃ v, e = .returned v ∧ Iz w' v l ∧ Below w.heap.size w w' := by
  have HV := hid (h.below (ba w (.cells (is v0).toArray 3)))
  have hmk := run_mk16
  have HG := hid (heap_alloc_new w (.cells (is v0).toArray 3))
  have HB := hid (ba w (.cells (is v0).toArray 3))
  have HL := hid (show (is l).length = 16 by simp [h.1.1])
  have HC := hid (h.below (ba w (.cells (is v0).toArray 3))).cells_at
  clear h
  go_enter Try.func14, Try.ntmps14
  go_wp2_with (refine wpList_copy_splice rfl (.tmp 5) (.tmp 9) 22 22 rfl 3 Try.underlying22 (by kernel_rfl) (some ⟨w.heap.size, 0, none⟩) (some ⟨b, 0, none⟩) 16 16 16 16 rfl rfl w.heap.size 0 (is v0) 3 HG.out (is l) (by rw [HL.out]; rfl) (fun _ => ⟨rfl, _, rfl, HC.out⟩) (by rw [HL.out]; decide) (ints_oneCell .i64 l) w.heap.size w HB.out (Nat.le_refl _) ?_; intro w2 hg2 hb2; have HB2 := hid hb2; clear hb2)
  go_ret
  rw [splice_all l HV.out.1.1] at hg2
  exact ⟨_, rfl, Iz.row hg2.out HV.out.1.1, HB2.out⟩

end Go.Proofs.Ytkcjkncpaopjbaa
