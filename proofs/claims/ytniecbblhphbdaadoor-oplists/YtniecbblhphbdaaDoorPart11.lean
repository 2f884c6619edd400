/-
  Parts of the proof, one behind the other; what each proves stands at its head.
-/
import Derived.Test.YtniecbblhphbdaaDoorPart7
import Derived.Test.YtniecbblhphbdaaDoorPart10
import Derived.BigQuiet
import Derived.RegionTactic
import Derived.Test.YtniecbblhphbdaaDoorPart3

/-
  The last region of offshootlaw05.alive, whose order is drawn, is walked here: each operation is a definition, so that the terms stay small.
-/
namespace Go.Proofs.YtniecbblhphbdaaDoor
open Go.RowKit
set_option linter.unusedVariables false
set_option maxRecDepth 100000

def ap0 : Oper := { dst := some 18, op := Op.move (Operand.tmp 2), type := 4, pos := "law.go:21", after := #[], guard := none }
def ap1 : Oper := { dst := some 19, op := Op.move (Operand.tmp 18), type := 4, pos := "law.go:21", after := #[{ on := 0, ground := Ground.data }], guard := none }
def ap2 : Oper := { dst := some 20, op := Op.move (Operand.tmp 4), type := 4, pos := "law.go:21", after := #[{ on := 1, ground := Ground.guard }], guard := some (1, true) }
def ap3 : Oper := { dst := some 21, op := Op.pick (Operand.tmp 19) (Operand.tmp 20) (Operand.const (Value.bool false)), type := 4, pos := "law.go:21", after := #[{ on := 1, ground := Ground.data }, { on := 2, ground := Ground.data }], guard := none }
def ap4 : Oper := { dst := some 22, op := Op.move (Operand.tmp 21), type := 4, pos := "law.go:21", after := #[{ on := 3, ground := Ground.data }, { on := 1, ground := Ground.chain }], guard := none }
def ap5 : Oper := { dst := some 23, op := Op.move (Operand.tmp 1), type := 22, pos := "law.go:21", after := #[{ on := 4, ground := Ground.guard }], guard := some (4, true) }
def ap6 : Oper := { dst := some 24, op := Op.buildSlice 22 7 #[(0, Operand.const (Value.int IntKind.u8 6)), (1, Operand.const (Value.int IntKind.u8 1)), (2, Operand.const (Value.int IntKind.u8 2)), (3, Operand.const (Value.int IntKind.u8 3)), (4, Operand.const (Value.int IntKind.u8 0)), (5, Operand.const (Value.int IntKind.u8 1)), (6, Operand.const (Value.int IntKind.u8 1))], type := 22, pos := "law.go:21", after := #[{ on := 4, ground := Ground.guard }], guard := some (4, true) }
def ap7 : Oper := { dst := some 25, op := Op.call { callee := Callee.value (Operand.func 18), args := #[Operand.tmp 23, Operand.tmp 24], argTypes := #[22, 22] }, type := 4, pos := "law.go:21", after := #[{ on := 5, ground := Ground.data }, { on := 6, ground := Ground.data }, { on := 4, ground := Ground.chain }, { on := 4, ground := Ground.guard }], guard := some (4, true) }
def ap8 : Oper := { dst := some 26, op := Op.pick (Operand.tmp 22) (Operand.tmp 25) (Operand.const (Value.bool false)), type := 4, pos := "law.go:21", after := #[{ on := 4, ground := Ground.data }, { on := 7, ground := Ground.data }], guard := none }
def ap9 : Oper := { dst := some 27, op := Op.move (Operand.tmp 26), type := 4, pos := "law.go:21", after := #[{ on := 8, ground := Ground.data }, { on := 7, ground := Ground.chain }], guard := none }
def ap10 : Oper := { dst := some 28, op := Op.load 30 (Operand.tmp 3), type := 30, pos := "law.go:21", after := #[{ on := 9, ground := Ground.guard }], guard := some (9, true) }
def ap11 : Oper := { dst := some 29, op := Op.call { callee := Callee.value (Operand.func 26), args := #[], argTypes := #[] }, type := 30, pos := "law.go:21", after := #[{ on := 9, ground := Ground.chain }, { on := 9, ground := Ground.guard }], guard := some (9, true) }
def ap12 : Oper := { dst := some 30, op := Op.call { callee := Callee.value (Operand.func 13), args := #[Operand.tmp 28, Operand.tmp 29], argTypes := #[30, 30] }, type := 4, pos := "law.go:21", after := #[{ on := 10, ground := Ground.data }, { on := 11, ground := Ground.data }, { on := 11, ground := Ground.chain }, { on := 9, ground := Ground.guard }], guard := some (9, true) }
def ap13 : Oper := { dst := some 31, op := Op.pick (Operand.tmp 27) (Operand.tmp 30) (Operand.const (Value.bool false)), type := 4, pos := "law.go:21", after := #[{ on := 9, ground := Ground.data }, { on := 12, ground := Ground.data }], guard := none }
def ap14 : Oper := { dst := some 32, op := Op.move (Operand.tmp 31), type := 4, pos := "law.go:21", after := #[{ on := 13, ground := Ground.data }, { on := 12, ground := Ground.chain }], guard := none }
def ap15 : Oper := { dst := some 33, op := Op.move (Operand.tmp 5), type := 48, pos := "law.go:21", after := #[{ on := 14, ground := Ground.guard }], guard := some (14, true) }
def ap16 : Oper := { dst := some 34, op := Op.call { callee := Callee.builtin Builtin.len, args := #[Operand.tmp 33], argTypes := #[48] }, type := 3, pos := "law.go:21", after := #[{ on := 15, ground := Ground.data }, { on := 14, ground := Ground.guard }], guard := some (14, true) }
def ap17 : Oper := { dst := some 35, op := Op.binOp BinOp.eql 3 (Operand.tmp 34) (Operand.const (Value.int IntKind.i64 1)) 3, type := 4, pos := "law.go:21", after := #[{ on := 16, ground := Ground.data }, { on := 14, ground := Ground.guard }], guard := some (14, true) }
def ap18 : Oper := { dst := some 36, op := Op.pick (Operand.tmp 32) (Operand.tmp 35) (Operand.const (Value.bool false)), type := 4, pos := "law.go:21", after := #[{ on := 14, ground := Ground.data }, { on := 17, ground := Ground.data }], guard := none }
def ap19 : Oper := { dst := some 37, op := Op.move (Operand.tmp 36), type := 4, pos := "law.go:21", after := #[{ on := 18, ground := Ground.data }, { on := 14, ground := Ground.chain }], guard := none }
def ap20 : Oper := { dst := some 38, op := Op.move (Operand.tmp 5), type := 48, pos := "law.go:21", after := #[{ on := 19, ground := Ground.guard }], guard := some (19, true) }
def ap21 : Oper := { dst := some 39, op := Op.indexAddr 48 (Operand.tmp 38) (Operand.const (Value.int IntKind.i64 0)), type := 0, pos := "law.go:21", after := #[{ on := 20, ground := Ground.data }, { on := 19, ground := Ground.guard }], guard := some (19, true) }
def ap22 : Oper := { dst := some 40, op := Op.load 25 (Operand.tmp 39), type := 25, pos := "law.go:21", after := #[{ on := 21, ground := Ground.data }, { on := 19, ground := Ground.guard }], guard := some (19, true) }
def ap23 : Oper := { dst := some 41, op := Op.build 25 #[(1, Operand.const (Value.int IntKind.i64 1))], type := 25, pos := "law.go:21", after := #[{ on := 19, ground := Ground.guard }], guard := some (19, true) }
def ap24 : Oper := { dst := some 42, op := Op.binOp BinOp.eql 25 (Operand.tmp 40) (Operand.tmp 41) 25, type := 4, pos := "law.go:21", after := #[{ on := 22, ground := Ground.data }, { on := 23, ground := Ground.data }, { on := 19, ground := Ground.guard }], guard := some (19, true) }
def ap25 : Oper := { dst := some 43, op := Op.pick (Operand.tmp 37) (Operand.tmp 42) (Operand.const (Value.bool false)), type := 4, pos := "law.go:21", after := #[{ on := 19, ground := Ground.data }, { on := 24, ground := Ground.data }], guard := none }
def ap26 : Oper := { dst := some 44, op := Op.move (Operand.tmp 43), type := 4, pos := "law.go:21", after := #[{ on := 25, ground := Ground.data }, { on := 19, ground := Ground.chain }], guard := none }
def ap27 : Oper := { dst := some 45, op := Op.build 30 #[], type := 30, pos := "law.go:21", after := #[{ on := 26, ground := Ground.guard }], guard := some (26, true) }
def ap28 : Oper := { dst := some 46, op := Op.call { callee := Callee.value (Operand.func 20), args := #[Operand.tmp 45], argTypes := #[30] }, type := 4, pos := "law.go:21", after := #[{ on := 27, ground := Ground.data }, { on := 26, ground := Ground.chain }, { on := 26, ground := Ground.guard }], guard := some (26, true) }
def ap29 : Oper := { dst := some 47, op := Op.unOp UnOp.not 4 (Operand.tmp 46), type := 4, pos := "law.go:21", after := #[{ on := 28, ground := Ground.data }, { on := 26, ground := Ground.guard }], guard := some (26, true) }
def ap30 : Oper := { dst := some 48, op := Op.pick (Operand.tmp 44) (Operand.tmp 47) (Operand.const (Value.bool false)), type := 4, pos := "law.go:21", after := #[{ on := 26, ground := Ground.data }, { on := 29, ground := Ground.data }], guard := none }
def ap31 : Oper := { dst := some 49, op := Op.move (Operand.tmp 48), type := 4, pos := "law.go:21", after := #[{ on := 30, ground := Ground.data }, { on := 28, ground := Ground.chain }], guard := none }
def ap32 : Oper := { dst := some 50, op := Op.load 30 (Operand.tmp 3), type := 30, pos := "law.go:21", after := #[{ on := 31, ground := Ground.guard }], guard := some (31, true) }
def ap33 : Oper := { dst := some 51, op := Op.call { callee := Callee.value (Operand.func 26), args := #[], argTypes := #[] }, type := 30, pos := "law.go:21", after := #[{ on := 31, ground := Ground.chain }, { on := 31, ground := Ground.guard }], guard := some (31, true) }
def ap34 : Oper := { dst := some 52, op := Op.call { callee := Callee.value (Operand.func 22), args := #[Operand.tmp 50, Operand.tmp 51], argTypes := #[30, 30] }, type := 4, pos := "law.go:21", after := #[{ on := 32, ground := Ground.data }, { on := 33, ground := Ground.data }, { on := 33, ground := Ground.chain }, { on := 31, ground := Ground.guard }], guard := some (31, true) }
def ap35 : Oper := { dst := some 53, op := Op.pick (Operand.tmp 49) (Operand.tmp 52) (Operand.const (Value.bool false)), type := 4, pos := "law.go:21", after := #[{ on := 31, ground := Ground.data }, { on := 34, ground := Ground.data }], guard := none }
def ap36 : Oper := { dst := some 0, op := Op.assign (Operand.tmp 53), type := 4, pos := "law.go:21", after := #[{ on := 35, ground := Ground.data }, { on := 34, ground := Ground.chain }, { on := 0, ground := Ground.phase }, { on := 1, ground := Ground.phase }, { on := 2, ground := Ground.phase }, { on := 3, ground := Ground.phase }, { on := 4, ground := Ground.phase }, { on := 5, ground := Ground.phase }, { on := 6, ground := Ground.phase }, { on := 7, ground := Ground.phase }, { on := 8, ground := Ground.phase }, { on := 9, ground := Ground.phase }, { on := 10, ground := Ground.phase }, { on := 11, ground := Ground.phase }, { on := 12, ground := Ground.phase }, { on := 13, ground := Ground.phase }, { on := 14, ground := Ground.phase }, { on := 15, ground := Ground.phase }, { on := 16, ground := Ground.phase }, { on := 17, ground := Ground.phase }, { on := 18, ground := Ground.phase }, { on := 19, ground := Ground.phase }, { on := 20, ground := Ground.phase }, { on := 21, ground := Ground.phase }, { on := 22, ground := Ground.phase }, { on := 23, ground := Ground.phase }, { on := 24, ground := Ground.phase }, { on := 25, ground := Ground.phase }, { on := 26, ground := Ground.phase }, { on := 27, ground := Ground.phase }, { on := 28, ground := Ground.phase }, { on := 29, ground := Ground.phase }, { on := 30, ground := Ground.phase }, { on := 31, ground := Ground.phase }, { on := 32, ground := Ground.phase }, { on := 33, ground := Ground.phase }, { on := 34, ground := Ground.phase }, { on := 35, ground := Ground.phase }], guard := none }
def aops : Array Oper := #[ap0, ap1, ap2, ap3, ap4, ap5, ap6, ap7, ap8, ap9, ap10, ap11, ap12, ap13, ap14, ap15, ap16, ap17, ap18, ap19, ap20, ap21, ap22, ap23, ap24, ap25, ap26, ap27, ap28, ap29, ap30, ap31, ap32, ap33, ap34, ap35, ap36]

theorem run_load_op {p : Oper} {a : Act} {x : Operand} {b : Nat} {o : Opn} {v : Value} {W : World} (ho : p.op = .load 30 x) (hx : a.eval x = .pointer (some ⟨b, 0, none⟩)) (h : Ob W b o v) : (execOp a.eval p).run Tryd.prog W = .ok (.value (opv o v)) W := by
  unfold execOp
  simp only [ho, hx, Instr.loadAt, Instr.sureAddr, Sem.run_bind, Sem.run_pure, Result.andThen_ok, h.load]
theorem run_load_id {p : Oper} {a : Act} {x : Operand} {b off : Nat} {r n : Int} {W : World} (ho : p.op = .load 25 x) (hx : a.eval x = .pointer (some ⟨b, off, none⟩)) (h0 : W.cell? ⟨b, off, none⟩ = some (.int .i64 r)) (h1 : W.cell? ⟨b, off + 1, none⟩ = some (.int .i64 n)) : (execOp a.eval p).run Tryd.prog W = .ok (.value (idv r n)) W := by
  unfold execOp
  simp only [ho, hx]
  simp [go_sem, h0, h1]
theorem run_build_zero {p : Oper} {a : Act} {W : World} (ho : p.op = .build 30 #[]) : (execOp a.eval p).run Tryd.prog W = .ok (.value (.agg (zopc 0))) W := by
  unfold execOp
  simp only [ho]
  kernel_rfl
theorem run_lit {p : Oper} {a : Act} {w : World} (ho : p.op = .buildSlice 22 7 #[(0, .const (.int .u8 6)), (1, .const (.int .u8 1)), (2, .const (.int .u8 2)), (3, .const (.int .u8 3)), (4, .const (.int .u8 0)), (5, .const (.int .u8 1)), (6, .const (.int .u8 1))]) :
    (execOp a.eval p).run Tryd.prog w = .ok (.value (.slice (some ⟨w.heap.size, 0, none⟩) 7 7)) (w.alloc (.cells (cs [6, 1, 2, 3, 0, 1, 1]).toArray 5)) := by
  unfold execOp
  simp only [ho]
  simp [go_sem]
theorem run_eq_id {p : Oper} {a : Act} {x y : Operand} {r n : Int} {W : World} (ho : p.op = .binOp .eql 25 x y 25) (hx : a.eval x = idv r n) (hy : a.eval y = idv r n) : (execOp a.eval p).run Tryd.prog W = .ok (.value (.bool true)) W := by
  unfold execOp
  simp only [ho, hx, hy]
  simp [go_sem]
theorem aops_lit : Region.noSelect aops = true := by kernel_rfl
theorem alive_last (w6 : World) (ea : Option Addr) (ec pb nb noff nc : Nat) (F0 F1 x6 x7 x8 x9 x10 x11 x12 x13 x14 x15 x16 x17 : Value) (Q : Exit → Act → World → Prop)
    (hE : Bs w6 (.slice ea 7 ec) [6, 1, 2, 3, 0, 1, 1])
    (hO : ∀ W, Below w6.heap.size w6 W → ∀ {p : Oper} {a : Act} {x : Operand}, p.op = .load 30 x → a.eval x = .pointer (some ⟨pb, 0, none⟩) → (execOp a.eval p).run Tryd.prog W = .ok (.value F1) W)
    (hFO : ∀ W, Calls Tryd.prog 26 #[] W fun e w' => e = .returned F0 ∧ Below W.heap.size W w')
    (hSO : ∀ W, Below w6.heap.size w6 W → Calls Tryd.prog 13 #[F1, F0] W fun e w' => e = .returned (.bool true) ∧ Below W.heap.size W w')
    (hSM : ∀ W, Below w6.heap.size w6 W → Calls Tryd.prog 22 #[F1, F0] W fun e w' => e = .returned (.bool true) ∧ Below W.heap.size W w')
    (hRZ : ∀ W, Below w6.heap.size w6 W → Calls Tryd.prog 20 #[.agg (zopc 0)] W fun e w' => e = .returned (.bool false) ∧ Below W.heap.size W w')
    (hn0 : ∀ W, Below w6.heap.size w6 W → W.cell? ⟨nb, noff, none⟩ = some (.int .i64 0)) (hn1 : ∀ W, Below w6.heap.size w6 W → W.cell? ⟨nb, noff + 1, none⟩ = some (.int .i64 1))
    (hP : ∀ c t t' d W, Q (.panic c) { tmps := t, defers := d } W → Q (.panic c) { tmps := t', defers := d } W) (hQ : ∀ W, Below w6.heap.size w6 W → Q .normal { tmps := #[.bool true, .slice ea 7 ec, .bool true, .pointer (some ⟨pb, 0, none⟩), .bool true, .slice (some ⟨nb, noff, none⟩) 1 nc, x6, x7, x8, x9, x10, x11, x12, x13, x14, x15, x16, x17, .bool true, .bool true, .bool true, .bool true, .bool true, .slice ea 7 ec, .slice (some ⟨w6.heap.size, 0, none⟩) 7 7, .bool true, .bool true, .bool true, F1, F0, .bool true, .bool true, .bool true, .slice (some ⟨nb, noff, none⟩) 1 nc, .int .i64 1, .bool true, .bool true, .bool true, .slice (some ⟨nb, noff, none⟩) 1 nc, .pointer (some ⟨nb, noff, none⟩), idv 0 1, idv 0 1, .bool true, .bool true, .bool true, .agg (zopc 0), .bool false, .bool true, .bool true, .bool true, F1, F0, .bool true, .bool true], defers := [] } W) : (Code.region 4 aops true).wp Tryd.prog Q { tmps := #[.bool false, .slice ea 7 ec, .bool true, .pointer (some ⟨pb, 0, none⟩), .bool true, .slice (some ⟨nb, noff, none⟩) 1 nc, x6, x7, x8, x9, x10, x11, x12, x13, x14, x15, x16, x17, undef, undef, undef, undef, undef, undef, undef, undef, undef, undef, undef, undef, undef, undef, undef, undef, undef, undef, undef, undef, undef, undef, undef, undef, undef, undef, undef, undef, undef, undef, undef, undef, undef, undef, undef, undef], defers := [] } w6 := by
  refine wp_region_any (by kernel_rfl) ?_
  change wpAny _ _ _ _ 37 _ _ (World.drew _)
  have hb0 : Below w6.heap.size w6 w6.drew := (Below.refl _ _).drew
  have HA7 := ba w6.drew (.cells (cs [6, 1, 2, 3, 0, 1, 1]).toArray 5)
  have S1 : Bs (w6.drew.alloc (.cells (cs [6, 1, 2, 3, 0, 1, 1]).toArray 5)) (.slice ea 7 ec) [6, 1, 2, 3, 0, 1, 1] := Bs.below (w := w6.drew) hE HA7
  have S2 : Bs (w6.drew.alloc (.cells (cs [6, 1, 2, 3, 0, 1, 1]).toArray 5)) (.slice (some ⟨w6.heap.size, 0, none⟩) 7 7) [6, 1, 2, 3, 0, 1, 1] := Bs.lit w6.drew 5 [6, 1, 2, 3, 0, 1, 1] (by decide) (by decide)
  have HS := same_b _ _ _ _ _ S1 S2
  rw [show decide ([(6 : Int), 1, 2, 3, 0, 1, 1] = [6, 1, 2, 3, 0, 1, 1]) = true from rfl] at HS
  refine wpAny_take (i := 0) (oi := ap0) (v := .bool true) (by kernel_rfl) aops_lit (by kernel_rfl) (by kernel_rfl) (fun c a W h => hP c _ _ _ W h) (Or.inl ⟨by kernel_rfl, fun W => by kernel_rfl⟩) ?_
  rw [show Act.put _ ap0.dst _ = { tmps := #[.bool false, .slice ea 7 ec, .bool true, .pointer (some ⟨pb, 0, none⟩), .bool true, .slice (some ⟨nb, noff, none⟩) 1 nc, x6, x7, x8, x9, x10, x11, x12, x13, x14, x15, x16, x17, .bool true, undef, undef, undef, undef, undef, undef, undef, undef, undef, undef, undef, undef, undef, undef, undef, undef, undef, undef, undef, undef, undef, undef, undef, undef, undef, undef, undef, undef, undef, undef, undef, undef, undef, undef, undef], defers := [] } from by kernel_rfl]
  refine wpAny_take (i := 1) (oi := ap1) (v := .bool true) (by kernel_rfl) aops_lit (by kernel_rfl) (by kernel_rfl) (fun c a W h => hP c _ _ _ W h) (Or.inl ⟨by kernel_rfl, fun W => by kernel_rfl⟩) ?_
  rw [show Act.put _ ap1.dst _ = { tmps := #[.bool false, .slice ea 7 ec, .bool true, .pointer (some ⟨pb, 0, none⟩), .bool true, .slice (some ⟨nb, noff, none⟩) 1 nc, x6, x7, x8, x9, x10, x11, x12, x13, x14, x15, x16, x17, .bool true, .bool true, undef, undef, undef, undef, undef, undef, undef, undef, undef, undef, undef, undef, undef, undef, undef, undef, undef, undef, undef, undef, undef, undef, undef, undef, undef, undef, undef, undef, undef, undef, undef, undef, undef, undef], defers := [] } from by kernel_rfl]
  refine wpAny_take (i := 2) (oi := ap2) (v := .bool true) (by kernel_rfl) aops_lit (by kernel_rfl) (by kernel_rfl) (fun c a W h => hP c _ _ _ W h) (Or.inl ⟨by kernel_rfl, fun W => by kernel_rfl⟩) ?_
  rw [show Act.put _ ap2.dst _ = { tmps := #[.bool false, .slice ea 7 ec, .bool true, .pointer (some ⟨pb, 0, none⟩), .bool true, .slice (some ⟨nb, noff, none⟩) 1 nc, x6, x7, x8, x9, x10, x11, x12, x13, x14, x15, x16, x17, .bool true, .bool true, .bool true, undef, undef, undef, undef, undef, undef, undef, undef, undef, undef, undef, undef, undef, undef, undef, undef, undef, undef, undef, undef, undef, undef, undef, undef, undef, undef, undef, undef, undef, undef, undef, undef, undef], defers := [] } from by kernel_rfl]
  refine wpAny_take (i := 3) (oi := ap3) (v := .bool true) (by kernel_rfl) aops_lit (by kernel_rfl) (by kernel_rfl) (fun c a W h => hP c _ _ _ W h) (Or.inl ⟨by kernel_rfl, fun W => by kernel_rfl⟩) ?_
  rw [show Act.put _ ap3.dst _ = { tmps := #[.bool false, .slice ea 7 ec, .bool true, .pointer (some ⟨pb, 0, none⟩), .bool true, .slice (some ⟨nb, noff, none⟩) 1 nc, x6, x7, x8, x9, x10, x11, x12, x13, x14, x15, x16, x17, .bool true, .bool true, .bool true, .bool true, undef, undef, undef, undef, undef, undef, undef, undef, undef, undef, undef, undef, undef, undef, undef, undef, undef, undef, undef, undef, undef, undef, undef, undef, undef, undef, undef, undef, undef, undef, undef, undef], defers := [] } from by kernel_rfl]
  refine wpAny_take (i := 4) (oi := ap4) (v := .bool true) (by kernel_rfl) aops_lit (by kernel_rfl) (by kernel_rfl) (fun c a W h => hP c _ _ _ W h) (Or.inl ⟨by kernel_rfl, fun W => by kernel_rfl⟩) ?_
  rw [show Act.put _ ap4.dst _ = { tmps := #[.bool false, .slice ea 7 ec, .bool true, .pointer (some ⟨pb, 0, none⟩), .bool true, .slice (some ⟨nb, noff, none⟩) 1 nc, x6, x7, x8, x9, x10, x11, x12, x13, x14, x15, x16, x17, .bool true, .bool true, .bool true, .bool true, .bool true, undef, undef, undef, undef, undef, undef, undef, undef, undef, undef, undef, undef, undef, undef, undef, undef, undef, undef, undef, undef, undef, undef, undef, undef, undef, undef, undef, undef, undef, undef, undef], defers := [] } from by kernel_rfl]
  refine wpAny_take (i := 5) (oi := ap5) (v := .slice ea 7 ec) (by kernel_rfl) aops_lit (by kernel_rfl) (by kernel_rfl) (fun c a W h => hP c _ _ _ W h) (Or.inl ⟨by kernel_rfl, fun W => by kernel_rfl⟩) ?_
  rw [show Act.put _ ap5.dst _ = { tmps := #[.bool false, .slice ea 7 ec, .bool true, .pointer (some ⟨pb, 0, none⟩), .bool true, .slice (some ⟨nb, noff, none⟩) 1 nc, x6, x7, x8, x9, x10, x11, x12, x13, x14, x15, x16, x17, .bool true, .bool true, .bool true, .bool true, .bool true, .slice ea 7 ec, undef, undef, undef, undef, undef, undef, undef, undef, undef, undef, undef, undef, undef, undef, undef, undef, undef, undef, undef, undef, undef, undef, undef, undef, undef, undef, undef, undef, undef, undef], defers := [] } from by kernel_rfl]
  refine as_new (i := 6) (o := ap6) (.slice (some ⟨w6.heap.size, 0, none⟩) 7 7) { tmps := #[.bool false, .slice ea 7 ec, .bool true, .pointer (some ⟨pb, 0, none⟩), .bool true, .slice (some ⟨nb, noff, none⟩) 1 nc, x6, x7, x8, x9, x10, x11, x12, x13, x14, x15, x16, x17, .bool true, .bool true, .bool true, .bool true, .bool true, .slice ea 7 ec, .slice (some ⟨w6.heap.size, 0, none⟩) 7 7, undef, undef, undef, undef, undef, undef, undef, undef, undef, undef, undef, undef, undef, undef, undef, undef, undef, undef, undef, undef, undef, undef, undef, undef, undef, undef, undef, undef, undef], defers := [] } (by kernel_rfl) (by kernel_rfl) (by kernel_rfl) (run_lit rfl) (by kernel_rfl) ?_
  refine as_call (i := 7) (o := ap7) (f := 18) (args := #[.slice ea 7 ec, .slice (some ⟨w6.heap.size, 0, none⟩) 7 7]) (.bool true) { tmps := #[.bool false, .slice ea 7 ec, .bool true, .pointer (some ⟨pb, 0, none⟩), .bool true, .slice (some ⟨nb, noff, none⟩) 1 nc, x6, x7, x8, x9, x10, x11, x12, x13, x14, x15, x16, x17, .bool true, .bool true, .bool true, .bool true, .bool true, .slice ea 7 ec, .slice (some ⟨w6.heap.size, 0, none⟩) 7 7, .bool true, undef, undef, undef, undef, undef, undef, undef, undef, undef, undef, undef, undef, undef, undef, undef, undef, undef, undef, undef, undef, undef, undef, undef, undef, undef, undef, undef, undef], defers := [] } (by kernel_rfl) (by kernel_rfl) (by kernel_rfl) (by kernel_rfl) HS (by kernel_rfl) (fun w7 c7 => ?_)
  have hb7 : Below w6.heap.size w6 w7 := bt (bt hb0 HA7) c7
  refine wpAny_of_quiet (C := fun W => Below w6.heap.size w6 W) (Q := fun a' => a' = { tmps := #[.bool true, .slice ea 7 ec, .bool true, .pointer (some ⟨pb, 0, none⟩), .bool true, .slice (some ⟨nb, noff, none⟩) 1 nc, x6, x7, x8, x9, x10, x11, x12, x13, x14, x15, x16, x17, .bool true, .bool true, .bool true, .bool true, .bool true, .slice ea 7 ec, .slice (some ⟨w6.heap.size, 0, none⟩) 7 7, .bool true, .bool true, .bool true, F1, F0, .bool true, .bool true, .bool true, .slice (some ⟨nb, noff, none⟩) 1 nc, .int .i64 1, .bool true, .bool true, .bool true, .slice (some ⟨nb, noff, none⟩) 1 nc, .pointer (some ⟨nb, noff, none⟩), idv 0 1, idv 0 1, .bool true, .bool true, .bool true, .agg (zopc 0), .bool false, .bool true, .bool true, .bool true, F1, F0, .bool true, .bool true], defers := [] }) (fun a' W hW ha => by rw [ha]; exact hQ W hW) 29 _ _ _ hb7 ?_
  refine wpAnyQ_lex aops_lit [ap8, ap9, ap10, ap11, ap12, ap13, ap14, ap15, ap16, ap17, ap18, ap19, ap20, ap21, ap22, ap23, ap24, ap25, ap26, ap27, ap28, ap29, ap30, ap31, ap32, ap33, ap34, ap35, ap36] 8 _ _ (fun j => ?_) (by kernel_rfl) ?_
  · change _ = ([ap0, ap1, ap2, ap3, ap4, ap5, ap6, ap7] ++ [ap8, ap9, ap10, ap11, ap12, ap13, ap14, ap15, ap16, ap17, ap18, ap19, ap20, ap21, ap22, ap23, ap24, ap25, ap26, ap27, ap28, ap29, ap30, ap31, ap32, ap33, ap34, ap35, ap36]).toArray[8 + j]?
    rw [List.getElem?_toArray, List.getElem?_append_right (by simp)]
    simp
  refine qs_val (.bool true) { tmps := #[.bool false, .slice ea 7 ec, .bool true, .pointer (some ⟨pb, 0, none⟩), .bool true, .slice (some ⟨nb, noff, none⟩) 1 nc, x6, x7, x8, x9, x10, x11, x12, x13, x14, x15, x16, x17, .bool true, .bool true, .bool true, .bool true, .bool true, .slice ea 7 ec, .slice (some ⟨w6.heap.size, 0, none⟩) 7 7, .bool true, .bool true, undef, undef, undef, undef, undef, undef, undef, undef, undef, undef, undef, undef, undef, undef, undef, undef, undef, undef, undef, undef, undef, undef, undef, undef, undef, undef, undef], defers := [] } (by kernel_rfl) (fun W hW => by kernel_rfl) (by kernel_rfl) ?_
  refine qs_val (.bool true) { tmps := #[.bool false, .slice ea 7 ec, .bool true, .pointer (some ⟨pb, 0, none⟩), .bool true, .slice (some ⟨nb, noff, none⟩) 1 nc, x6, x7, x8, x9, x10, x11, x12, x13, x14, x15, x16, x17, .bool true, .bool true, .bool true, .bool true, .bool true, .slice ea 7 ec, .slice (some ⟨w6.heap.size, 0, none⟩) 7 7, .bool true, .bool true, .bool true, undef, undef, undef, undef, undef, undef, undef, undef, undef, undef, undef, undef, undef, undef, undef, undef, undef, undef, undef, undef, undef, undef, undef, undef, undef, undef], defers := [] } (by kernel_rfl) (fun W hW => by kernel_rfl) (by kernel_rfl) ?_
  refine qs_val (F1) { tmps := #[.bool false, .slice ea 7 ec, .bool true, .pointer (some ⟨pb, 0, none⟩), .bool true, .slice (some ⟨nb, noff, none⟩) 1 nc, x6, x7, x8, x9, x10, x11, x12, x13, x14, x15, x16, x17, .bool true, .bool true, .bool true, .bool true, .bool true, .slice ea 7 ec, .slice (some ⟨w6.heap.size, 0, none⟩) 7 7, .bool true, .bool true, .bool true, F1, undef, undef, undef, undef, undef, undef, undef, undef, undef, undef, undef, undef, undef, undef, undef, undef, undef, undef, undef, undef, undef, undef, undef, undef, undef], defers := [] } (by kernel_rfl) (fun W hW => hO W hW rfl rfl) (by kernel_rfl) ?_
  refine qs_call (f := 26) (args := #[]) (F0) { tmps := #[.bool false, .slice ea 7 ec, .bool true, .pointer (some ⟨pb, 0, none⟩), .bool true, .slice (some ⟨nb, noff, none⟩) 1 nc, x6, x7, x8, x9, x10, x11, x12, x13, x14, x15, x16, x17, .bool true, .bool true, .bool true, .bool true, .bool true, .slice ea 7 ec, .slice (some ⟨w6.heap.size, 0, none⟩) 7 7, .bool true, .bool true, .bool true, F1, F0, undef, undef, undef, undef, undef, undef, undef, undef, undef, undef, undef, undef, undef, undef, undef, undef, undef, undef, undef, undef, undef, undef, undef, undef], defers := [] } (by kernel_rfl) (fun W => by kernel_rfl) (fun W hW => (hFO W).mono fun _ _ h => ⟨h.1, bt hW h.2⟩) (by kernel_rfl) ?_
  refine qs_call (f := 13) (args := #[F1, F0]) (.bool true) { tmps := #[.bool false, .slice ea 7 ec, .bool true, .pointer (some ⟨pb, 0, none⟩), .bool true, .slice (some ⟨nb, noff, none⟩) 1 nc, x6, x7, x8, x9, x10, x11, x12, x13, x14, x15, x16, x17, .bool true, .bool true, .bool true, .bool true, .bool true, .slice ea 7 ec, .slice (some ⟨w6.heap.size, 0, none⟩) 7 7, .bool true, .bool true, .bool true, F1, F0, .bool true, undef, undef, undef, undef, undef, undef, undef, undef, undef, undef, undef, undef, undef, undef, undef, undef, undef, undef, undef, undef, undef, undef, undef], defers := [] } (by kernel_rfl) (fun W => by kernel_rfl) (fun W hW => (hSO W hW).mono fun _ _ h => ⟨h.1, bt hW h.2⟩) (by kernel_rfl) ?_
  refine qs_val (.bool true) { tmps := #[.bool false, .slice ea 7 ec, .bool true, .pointer (some ⟨pb, 0, none⟩), .bool true, .slice (some ⟨nb, noff, none⟩) 1 nc, x6, x7, x8, x9, x10, x11, x12, x13, x14, x15, x16, x17, .bool true, .bool true, .bool true, .bool true, .bool true, .slice ea 7 ec, .slice (some ⟨w6.heap.size, 0, none⟩) 7 7, .bool true, .bool true, .bool true, F1, F0, .bool true, .bool true, undef, undef, undef, undef, undef, undef, undef, undef, undef, undef, undef, undef, undef, undef, undef, undef, undef, undef, undef, undef, undef, undef], defers := [] } (by kernel_rfl) (fun W hW => by kernel_rfl) (by kernel_rfl) ?_
  refine qs_val (.bool true) { tmps := #[.bool false, .slice ea 7 ec, .bool true, .pointer (some ⟨pb, 0, none⟩), .bool true, .slice (some ⟨nb, noff, none⟩) 1 nc, x6, x7, x8, x9, x10, x11, x12, x13, x14, x15, x16, x17, .bool true, .bool true, .bool true, .bool true, .bool true, .slice ea 7 ec, .slice (some ⟨w6.heap.size, 0, none⟩) 7 7, .bool true, .bool true, .bool true, F1, F0, .bool true, .bool true, .bool true, undef, undef, undef, undef, undef, undef, undef, undef, undef, undef, undef, undef, undef, undef, undef, undef, undef, undef, undef, undef, undef], defers := [] } (by kernel_rfl) (fun W hW => by kernel_rfl) (by kernel_rfl) ?_
  refine qs_val (.slice (some ⟨nb, noff, none⟩) 1 nc) { tmps := #[.bool false, .slice ea 7 ec, .bool true, .pointer (some ⟨pb, 0, none⟩), .bool true, .slice (some ⟨nb, noff, none⟩) 1 nc, x6, x7, x8, x9, x10, x11, x12, x13, x14, x15, x16, x17, .bool true, .bool true, .bool true, .bool true, .bool true, .slice ea 7 ec, .slice (some ⟨w6.heap.size, 0, none⟩) 7 7, .bool true, .bool true, .bool true, F1, F0, .bool true, .bool true, .bool true, .slice (some ⟨nb, noff, none⟩) 1 nc, undef, undef, undef, undef, undef, undef, undef, undef, undef, undef, undef, undef, undef, undef, undef, undef, undef, undef, undef, undef], defers := [] } (by kernel_rfl) (fun W hW => by kernel_rfl) (by kernel_rfl) ?_
  refine qs_val (.int .i64 1) { tmps := #[.bool false, .slice ea 7 ec, .bool true, .pointer (some ⟨pb, 0, none⟩), .bool true, .slice (some ⟨nb, noff, none⟩) 1 nc, x6, x7, x8, x9, x10, x11, x12, x13, x14, x15, x16, x17, .bool true, .bool true, .bool true, .bool true, .bool true, .slice ea 7 ec, .slice (some ⟨w6.heap.size, 0, none⟩) 7 7, .bool true, .bool true, .bool true, F1, F0, .bool true, .bool true, .bool true, .slice (some ⟨nb, noff, none⟩) 1 nc, .int .i64 1, undef, undef, undef, undef, undef, undef, undef, undef, undef, undef, undef, undef, undef, undef, undef, undef, undef, undef, undef], defers := [] } (by kernel_rfl) (fun W hW => by kernel_rfl) (by kernel_rfl) ?_
  refine qs_val (.bool true) { tmps := #[.bool false, .slice ea 7 ec, .bool true, .pointer (some ⟨pb, 0, none⟩), .bool true, .slice (some ⟨nb, noff, none⟩) 1 nc, x6, x7, x8, x9, x10, x11, x12, x13, x14, x15, x16, x17, .bool true, .bool true, .bool true, .bool true, .bool true, .slice ea 7 ec, .slice (some ⟨w6.heap.size, 0, none⟩) 7 7, .bool true, .bool true, .bool true, F1, F0, .bool true, .bool true, .bool true, .slice (some ⟨nb, noff, none⟩) 1 nc, .int .i64 1, .bool true, undef, undef, undef, undef, undef, undef, undef, undef, undef, undef, undef, undef, undef, undef, undef, undef, undef, undef], defers := [] } (by kernel_rfl) (fun W hW => by kernel_rfl) (by kernel_rfl) ?_
  refine qs_val (.bool true) { tmps := #[.bool false, .slice ea 7 ec, .bool true, .pointer (some ⟨pb, 0, none⟩), .bool true, .slice (some ⟨nb, noff, none⟩) 1 nc, x6, x7, x8, x9, x10, x11, x12, x13, x14, x15, x16, x17, .bool true, .bool true, .bool true, .bool true, .bool true, .slice ea 7 ec, .slice (some ⟨w6.heap.size, 0, none⟩) 7 7, .bool true, .bool true, .bool true, F1, F0, .bool true, .bool true, .bool true, .slice (some ⟨nb, noff, none⟩) 1 nc, .int .i64 1, .bool true, .bool true, undef, undef, undef, undef, undef, undef, undef, undef, undef, undef, undef, undef, undef, undef, undef, undef, undef], defers := [] } (by kernel_rfl) (fun W hW => by kernel_rfl) (by kernel_rfl) ?_
  refine qs_val (.bool true) { tmps := #[.bool false, .slice ea 7 ec, .bool true, .pointer (some ⟨pb, 0, none⟩), .bool true, .slice (some ⟨nb, noff, none⟩) 1 nc, x6, x7, x8, x9, x10, x11, x12, x13, x14, x15, x16, x17, .bool true, .bool true, .bool true, .bool true, .bool true, .slice ea 7 ec, .slice (some ⟨w6.heap.size, 0, none⟩) 7 7, .bool true, .bool true, .bool true, F1, F0, .bool true, .bool true, .bool true, .slice (some ⟨nb, noff, none⟩) 1 nc, .int .i64 1, .bool true, .bool true, .bool true, undef, undef, undef, undef, undef, undef, undef, undef, undef, undef, undef, undef, undef, undef, undef, undef], defers := [] } (by kernel_rfl) (fun W hW => by kernel_rfl) (by kernel_rfl) ?_
  refine qs_val (.slice (some ⟨nb, noff, none⟩) 1 nc) { tmps := #[.bool false, .slice ea 7 ec, .bool true, .pointer (some ⟨pb, 0, none⟩), .bool true, .slice (some ⟨nb, noff, none⟩) 1 nc, x6, x7, x8, x9, x10, x11, x12, x13, x14, x15, x16, x17, .bool true, .bool true, .bool true, .bool true, .bool true, .slice ea 7 ec, .slice (some ⟨w6.heap.size, 0, none⟩) 7 7, .bool true, .bool true, .bool true, F1, F0, .bool true, .bool true, .bool true, .slice (some ⟨nb, noff, none⟩) 1 nc, .int .i64 1, .bool true, .bool true, .bool true, .slice (some ⟨nb, noff, none⟩) 1 nc, undef, undef, undef, undef, undef, undef, undef, undef, undef, undef, undef, undef, undef, undef, undef], defers := [] } (by kernel_rfl) (fun W hW => by kernel_rfl) (by kernel_rfl) ?_
  refine qs_val (.pointer (some ⟨nb, noff, none⟩)) { tmps := #[.bool false, .slice ea 7 ec, .bool true, .pointer (some ⟨pb, 0, none⟩), .bool true, .slice (some ⟨nb, noff, none⟩) 1 nc, x6, x7, x8, x9, x10, x11, x12, x13, x14, x15, x16, x17, .bool true, .bool true, .bool true, .bool true, .bool true, .slice ea 7 ec, .slice (some ⟨w6.heap.size, 0, none⟩) 7 7, .bool true, .bool true, .bool true, F1, F0, .bool true, .bool true, .bool true, .slice (some ⟨nb, noff, none⟩) 1 nc, .int .i64 1, .bool true, .bool true, .bool true, .slice (some ⟨nb, noff, none⟩) 1 nc, .pointer (some ⟨nb, noff, none⟩), undef, undef, undef, undef, undef, undef, undef, undef, undef, undef, undef, undef, undef, undef], defers := [] } (by kernel_rfl) (fun W hW => by kernel_rfl) (by kernel_rfl) ?_
  refine qs_val (idv 0 1) { tmps := #[.bool false, .slice ea 7 ec, .bool true, .pointer (some ⟨pb, 0, none⟩), .bool true, .slice (some ⟨nb, noff, none⟩) 1 nc, x6, x7, x8, x9, x10, x11, x12, x13, x14, x15, x16, x17, .bool true, .bool true, .bool true, .bool true, .bool true, .slice ea 7 ec, .slice (some ⟨w6.heap.size, 0, none⟩) 7 7, .bool true, .bool true, .bool true, F1, F0, .bool true, .bool true, .bool true, .slice (some ⟨nb, noff, none⟩) 1 nc, .int .i64 1, .bool true, .bool true, .bool true, .slice (some ⟨nb, noff, none⟩) 1 nc, .pointer (some ⟨nb, noff, none⟩), idv 0 1, undef, undef, undef, undef, undef, undef, undef, undef, undef, undef, undef, undef, undef], defers := [] } (by kernel_rfl) (fun W hW => run_load_id rfl rfl (hn0 W hW) (hn1 W hW)) (by kernel_rfl) ?_
  refine qs_val (idv 0 1) { tmps := #[.bool false, .slice ea 7 ec, .bool true, .pointer (some ⟨pb, 0, none⟩), .bool true, .slice (some ⟨nb, noff, none⟩) 1 nc, x6, x7, x8, x9, x10, x11, x12, x13, x14, x15, x16, x17, .bool true, .bool true, .bool true, .bool true, .bool true, .slice ea 7 ec, .slice (some ⟨w6.heap.size, 0, none⟩) 7 7, .bool true, .bool true, .bool true, F1, F0, .bool true, .bool true, .bool true, .slice (some ⟨nb, noff, none⟩) 1 nc, .int .i64 1, .bool true, .bool true, .bool true, .slice (some ⟨nb, noff, none⟩) 1 nc, .pointer (some ⟨nb, noff, none⟩), idv 0 1, idv 0 1, undef, undef, undef, undef, undef, undef, undef, undef, undef, undef, undef, undef], defers := [] } (by kernel_rfl) (fun W hW => by kernel_rfl) (by kernel_rfl) ?_
  refine qs_val (.bool true) { tmps := #[.bool false, .slice ea 7 ec, .bool true, .pointer (some ⟨pb, 0, none⟩), .bool true, .slice (some ⟨nb, noff, none⟩) 1 nc, x6, x7, x8, x9, x10, x11, x12, x13, x14, x15, x16, x17, .bool true, .bool true, .bool true, .bool true, .bool true, .slice ea 7 ec, .slice (some ⟨w6.heap.size, 0, none⟩) 7 7, .bool true, .bool true, .bool true, F1, F0, .bool true, .bool true, .bool true, .slice (some ⟨nb, noff, none⟩) 1 nc, .int .i64 1, .bool true, .bool true, .bool true, .slice (some ⟨nb, noff, none⟩) 1 nc, .pointer (some ⟨nb, noff, none⟩), idv 0 1, idv 0 1, .bool true, undef, undef, undef, undef, undef, undef, undef, undef, undef, undef, undef], defers := [] } (by kernel_rfl) (fun W hW => run_eq_id (r := 0) (n := 1) rfl rfl rfl) (by kernel_rfl) ?_
  refine qs_val (.bool true) { tmps := #[.bool false, .slice ea 7 ec, .bool true, .pointer (some ⟨pb, 0, none⟩), .bool true, .slice (some ⟨nb, noff, none⟩) 1 nc, x6, x7, x8, x9, x10, x11, x12, x13, x14, x15, x16, x17, .bool true, .bool true, .bool true, .bool true, .bool true, .slice ea 7 ec, .slice (some ⟨w6.heap.size, 0, none⟩) 7 7, .bool true, .bool true, .bool true, F1, F0, .bool true, .bool true, .bool true, .slice (some ⟨nb, noff, none⟩) 1 nc, .int .i64 1, .bool true, .bool true, .bool true, .slice (some ⟨nb, noff, none⟩) 1 nc, .pointer (some ⟨nb, noff, none⟩), idv 0 1, idv 0 1, .bool true, .bool true, undef, undef, undef, undef, undef, undef, undef, undef, undef, undef], defers := [] } (by kernel_rfl) (fun W hW => by kernel_rfl) (by kernel_rfl) ?_
  refine qs_val (.bool true) { tmps := #[.bool false, .slice ea 7 ec, .bool true, .pointer (some ⟨pb, 0, none⟩), .bool true, .slice (some ⟨nb, noff, none⟩) 1 nc, x6, x7, x8, x9, x10, x11, x12, x13, x14, x15, x16, x17, .bool true, .bool true, .bool true, .bool true, .bool true, .slice ea 7 ec, .slice (some ⟨w6.heap.size, 0, none⟩) 7 7, .bool true, .bool true, .bool true, F1, F0, .bool true, .bool true, .bool true, .slice (some ⟨nb, noff, none⟩) 1 nc, .int .i64 1, .bool true, .bool true, .bool true, .slice (some ⟨nb, noff, none⟩) 1 nc, .pointer (some ⟨nb, noff, none⟩), idv 0 1, idv 0 1, .bool true, .bool true, .bool true, undef, undef, undef, undef, undef, undef, undef, undef, undef], defers := [] } (by kernel_rfl) (fun W hW => by kernel_rfl) (by kernel_rfl) ?_
  refine qs_val (.agg (zopc 0)) { tmps := #[.bool false, .slice ea 7 ec, .bool true, .pointer (some ⟨pb, 0, none⟩), .bool true, .slice (some ⟨nb, noff, none⟩) 1 nc, x6, x7, x8, x9, x10, x11, x12, x13, x14, x15, x16, x17, .bool true, .bool true, .bool true, .bool true, .bool true, .slice ea 7 ec, .slice (some ⟨w6.heap.size, 0, none⟩) 7 7, .bool true, .bool true, .bool true, F1, F0, .bool true, .bool true, .bool true, .slice (some ⟨nb, noff, none⟩) 1 nc, .int .i64 1, .bool true, .bool true, .bool true, .slice (some ⟨nb, noff, none⟩) 1 nc, .pointer (some ⟨nb, noff, none⟩), idv 0 1, idv 0 1, .bool true, .bool true, .bool true, .agg (zopc 0), undef, undef, undef, undef, undef, undef, undef, undef], defers := [] } (by kernel_rfl) (fun W hW => run_build_zero rfl) (by kernel_rfl) ?_
  refine qs_call (f := 20) (args := #[.agg (zopc 0)]) (.bool false) { tmps := #[.bool false, .slice ea 7 ec, .bool true, .pointer (some ⟨pb, 0, none⟩), .bool true, .slice (some ⟨nb, noff, none⟩) 1 nc, x6, x7, x8, x9, x10, x11, x12, x13, x14, x15, x16, x17, .bool true, .bool true, .bool true, .bool true, .bool true, .slice ea 7 ec, .slice (some ⟨w6.heap.size, 0, none⟩) 7 7, .bool true, .bool true, .bool true, F1, F0, .bool true, .bool true, .bool true, .slice (some ⟨nb, noff, none⟩) 1 nc, .int .i64 1, .bool true, .bool true, .bool true, .slice (some ⟨nb, noff, none⟩) 1 nc, .pointer (some ⟨nb, noff, none⟩), idv 0 1, idv 0 1, .bool true, .bool true, .bool true, .agg (zopc 0), .bool false, undef, undef, undef, undef, undef, undef, undef], defers := [] } (by kernel_rfl) (fun W => by kernel_rfl) (fun W hW => (hRZ W hW).mono fun _ _ h => ⟨h.1, bt hW h.2⟩) (by kernel_rfl) ?_
  refine qs_val (.bool true) { tmps := #[.bool false, .slice ea 7 ec, .bool true, .pointer (some ⟨pb, 0, none⟩), .bool true, .slice (some ⟨nb, noff, none⟩) 1 nc, x6, x7, x8, x9, x10, x11, x12, x13, x14, x15, x16, x17, .bool true, .bool true, .bool true, .bool true, .bool true, .slice ea 7 ec, .slice (some ⟨w6.heap.size, 0, none⟩) 7 7, .bool true, .bool true, .bool true, F1, F0, .bool true, .bool true, .bool true, .slice (some ⟨nb, noff, none⟩) 1 nc, .int .i64 1, .bool true, .bool true, .bool true, .slice (some ⟨nb, noff, none⟩) 1 nc, .pointer (some ⟨nb, noff, none⟩), idv 0 1, idv 0 1, .bool true, .bool true, .bool true, .agg (zopc 0), .bool false, .bool true, undef, undef, undef, undef, undef, undef], defers := [] } (by kernel_rfl) (fun W hW => by kernel_rfl) (by kernel_rfl) ?_
  refine qs_val (.bool true) { tmps := #[.bool false, .slice ea 7 ec, .bool true, .pointer (some ⟨pb, 0, none⟩), .bool true, .slice (some ⟨nb, noff, none⟩) 1 nc, x6, x7, x8, x9, x10, x11, x12, x13, x14, x15, x16, x17, .bool true, .bool true, .bool true, .bool true, .bool true, .slice ea 7 ec, .slice (some ⟨w6.heap.size, 0, none⟩) 7 7, .bool true, .bool true, .bool true, F1, F0, .bool true, .bool true, .bool true, .slice (some ⟨nb, noff, none⟩) 1 nc, .int .i64 1, .bool true, .bool true, .bool true, .slice (some ⟨nb, noff, none⟩) 1 nc, .pointer (some ⟨nb, noff, none⟩), idv 0 1, idv 0 1, .bool true, .bool true, .bool true, .agg (zopc 0), .bool false, .bool true, .bool true, undef, undef, undef, undef, undef], defers := [] } (by kernel_rfl) (fun W hW => by kernel_rfl) (by kernel_rfl) ?_
  refine qs_val (.bool true) { tmps := #[.bool false, .slice ea 7 ec, .bool true, .pointer (some ⟨pb, 0, none⟩), .bool true, .slice (some ⟨nb, noff, none⟩) 1 nc, x6, x7, x8, x9, x10, x11, x12, x13, x14, x15, x16, x17, .bool true, .bool true, .bool true, .bool true, .bool true, .slice ea 7 ec, .slice (some ⟨w6.heap.size, 0, none⟩) 7 7, .bool true, .bool true, .bool true, F1, F0, .bool true, .bool true, .bool true, .slice (some ⟨nb, noff, none⟩) 1 nc, .int .i64 1, .bool true, .bool true, .bool true, .slice (some ⟨nb, noff, none⟩) 1 nc, .pointer (some ⟨nb, noff, none⟩), idv 0 1, idv 0 1, .bool true, .bool true, .bool true, .agg (zopc 0), .bool false, .bool true, .bool true, .bool true, undef, undef, undef, undef], defers := [] } (by kernel_rfl) (fun W hW => by kernel_rfl) (by kernel_rfl) ?_
  refine qs_val (F1) { tmps := #[.bool false, .slice ea 7 ec, .bool true, .pointer (some ⟨pb, 0, none⟩), .bool true, .slice (some ⟨nb, noff, none⟩) 1 nc, x6, x7, x8, x9, x10, x11, x12, x13, x14, x15, x16, x17, .bool true, .bool true, .bool true, .bool true, .bool true, .slice ea 7 ec, .slice (some ⟨w6.heap.size, 0, none⟩) 7 7, .bool true, .bool true, .bool true, F1, F0, .bool true, .bool true, .bool true, .slice (some ⟨nb, noff, none⟩) 1 nc, .int .i64 1, .bool true, .bool true, .bool true, .slice (some ⟨nb, noff, none⟩) 1 nc, .pointer (some ⟨nb, noff, none⟩), idv 0 1, idv 0 1, .bool true, .bool true, .bool true, .agg (zopc 0), .bool false, .bool true, .bool true, .bool true, F1, undef, undef, undef], defers := [] } (by kernel_rfl) (fun W hW => hO W hW rfl rfl) (by kernel_rfl) ?_
  refine qs_call (f := 26) (args := #[]) (F0) { tmps := #[.bool false, .slice ea 7 ec, .bool true, .pointer (some ⟨pb, 0, none⟩), .bool true, .slice (some ⟨nb, noff, none⟩) 1 nc, x6, x7, x8, x9, x10, x11, x12, x13, x14, x15, x16, x17, .bool true, .bool true, .bool true, .bool true, .bool true, .slice ea 7 ec, .slice (some ⟨w6.heap.size, 0, none⟩) 7 7, .bool true, .bool true, .bool true, F1, F0, .bool true, .bool true, .bool true, .slice (some ⟨nb, noff, none⟩) 1 nc, .int .i64 1, .bool true, .bool true, .bool true, .slice (some ⟨nb, noff, none⟩) 1 nc, .pointer (some ⟨nb, noff, none⟩), idv 0 1, idv 0 1, .bool true, .bool true, .bool true, .agg (zopc 0), .bool false, .bool true, .bool true, .bool true, F1, F0, undef, undef], defers := [] } (by kernel_rfl) (fun W => by kernel_rfl) (fun W hW => (hFO W).mono fun _ _ h => ⟨h.1, bt hW h.2⟩) (by kernel_rfl) ?_
  refine qs_call (f := 22) (args := #[F1, F0]) (.bool true) { tmps := #[.bool false, .slice ea 7 ec, .bool true, .pointer (some ⟨pb, 0, none⟩), .bool true, .slice (some ⟨nb, noff, none⟩) 1 nc, x6, x7, x8, x9, x10, x11, x12, x13, x14, x15, x16, x17, .bool true, .bool true, .bool true, .bool true, .bool true, .slice ea 7 ec, .slice (some ⟨w6.heap.size, 0, none⟩) 7 7, .bool true, .bool true, .bool true, F1, F0, .bool true, .bool true, .bool true, .slice (some ⟨nb, noff, none⟩) 1 nc, .int .i64 1, .bool true, .bool true, .bool true, .slice (some ⟨nb, noff, none⟩) 1 nc, .pointer (some ⟨nb, noff, none⟩), idv 0 1, idv 0 1, .bool true, .bool true, .bool true, .agg (zopc 0), .bool false, .bool true, .bool true, .bool true, F1, F0, .bool true, undef], defers := [] } (by kernel_rfl) (fun W => by kernel_rfl) (fun W hW => (hSM W hW).mono fun _ _ h => ⟨h.1, bt hW h.2⟩) (by kernel_rfl) ?_
  refine qs_val (.bool true) { tmps := #[.bool false, .slice ea 7 ec, .bool true, .pointer (some ⟨pb, 0, none⟩), .bool true, .slice (some ⟨nb, noff, none⟩) 1 nc, x6, x7, x8, x9, x10, x11, x12, x13, x14, x15, x16, x17, .bool true, .bool true, .bool true, .bool true, .bool true, .slice ea 7 ec, .slice (some ⟨w6.heap.size, 0, none⟩) 7 7, .bool true, .bool true, .bool true, F1, F0, .bool true, .bool true, .bool true, .slice (some ⟨nb, noff, none⟩) 1 nc, .int .i64 1, .bool true, .bool true, .bool true, .slice (some ⟨nb, noff, none⟩) 1 nc, .pointer (some ⟨nb, noff, none⟩), idv 0 1, idv 0 1, .bool true, .bool true, .bool true, .agg (zopc 0), .bool false, .bool true, .bool true, .bool true, F1, F0, .bool true, .bool true], defers := [] } (by kernel_rfl) (fun W hW => by kernel_rfl) (by kernel_rfl) ?_
  refine qs_val (.bool true) { tmps := #[.bool true, .slice ea 7 ec, .bool true, .pointer (some ⟨pb, 0, none⟩), .bool true, .slice (some ⟨nb, noff, none⟩) 1 nc, x6, x7, x8, x9, x10, x11, x12, x13, x14, x15, x16, x17, .bool true, .bool true, .bool true, .bool true, .bool true, .slice ea 7 ec, .slice (some ⟨w6.heap.size, 0, none⟩) 7 7, .bool true, .bool true, .bool true, F1, F0, .bool true, .bool true, .bool true, .slice (some ⟨nb, noff, none⟩) 1 nc, .int .i64 1, .bool true, .bool true, .bool true, .slice (some ⟨nb, noff, none⟩) 1 nc, .pointer (some ⟨nb, noff, none⟩), idv 0 1, idv 0 1, .bool true, .bool true, .bool true, .agg (zopc 0), .bool false, .bool true, .bool true, .bool true, F1, F0, .bool true, .bool true], defers := [] } (by kernel_rfl) (fun W hW => by kernel_rfl) (by kernel_rfl) ?_
  exact rfl

end Go.Proofs.YtniecbblhphbdaaDoor

/-
  That offshootlaw05.alive returns true is proved here, where the package variables hold what the program lays there.
-/
namespace Go.Proofs.YtniecbblhphbdaaDoor
open Go.RowKit
set_option linter.unusedVariables false
set_option maxRecDepth 100000

theorem wpList_store_ops {ops : Array Oper} {rest : List Oper} {p : Oper} {a : Act} {W : World} {Q : Exit → Act → World → Prop} (hgd : p.guard = none) (x y : Operand) (ho : p.op = .store 30 x y) (k0 : Int) (o : Opn) (v : Value) (hv : ∃ va n vc, v = .slice va n vc)
    (hx : a.eval x = .pointer (some ⟨W.heap.size, 0, none⟩)) (hy : a.eval y = opv o v)
    (hk : wpList Tryd.prog ops Q rest (a.put p.dst undef) (W.alloc (opo o v))) : wpList Tryd.prog ops Q (p :: rest) a (W.alloc (.cells (zopc k0) 30)) :=
  wpList_store_opn hgd x y ho (zopc k0) (opl o v) hx hy rfl rfl (by obtain ⟨va, n, vc, rfl⟩ := hv; simp [Value.oneCell']) hk

set_option maxHeartbeats 8000000 in
theorem alive_any (w : World) (hL : Lay w) : Calls Tryd.prog 8 #[] w fun e w' => e = .returned (.bool true) ∧ Below w.heap.size w w' := by
  have HL := hid hL
  clear hL
  go_enter Tryd.func8, Tryd.ntmps8
  go_wp2_with fail
  refine (fold_any _).mono ?_
  rintro e w1 ⟨rfl, b1⟩
  have B1 := hid b1
  clear b1
  go_wp2_with fail
  refine (encode_yes foldO _ _ (HL.out.below B1.out) (Cs.nil _) fold_fine fold_right).mono ?_
  rintro e w2 ⟨ve, rfl, hve, b2⟩
  rw [fold_enc] at hve
  have B2 := hid (bt B1.out b2)
  have HE := hid (Bs.of_own hve (by decide))
  obtain ⟨ea, ec, hev, _⟩ := own_form hve
  subst hev
  clear b2 hve
  have HA3 := hid (ba w2 (.cells (cs [6, 1, 2, 3, 0, 1, 1]).toArray 5))
  have HD := hid (decode_any _ [6, 1, 2, 3, 0, 1, 1] (w2.alloc (.cells (cs [6, 1, 2, 3, 0, 1, 1]).toArray 5)) (HL.out.below (bt B2.out HA3.out)) (Bs.lit w2 5 [6, 1, 2, 3, 0, 1, 1] (by decide) (by decide)) (by decide))
  rw [fold_dec] at HD
  go_wp2_with fail
  refine HD.out.mono ?_
  rintro e w3 ⟨vd, rfl, hcd, b3, _⟩
  have B3 := hid (bt (bt B2.out HA3.out) b3)
  have HE3 := hid ((HE.out.below HA3.out).below b3)
  have HCD := hid hcd
  have hvd : ∃ va n vc, vd = .slice va n vc := by
    obtain ⟨va, vc, e, _⟩ := hcd.form
    exact ⟨va, _, vc, e⟩
  have HVD := hid hvd
  clear hcd b3 hvd HD
  have HA4 := hid (ba w3 (opo foldO vd))
  have HO4 := hid (Ob.new w3 foldO vd)
  go_wp2_with (refine wpList_store_ops rfl _ _ rfl 0 foldO vd HVD.out rfl rfl ?_)
  refine (fold_any _).mono ?_
  rintro e w5 ⟨rfl, b5⟩
  have B5 := hid (bt (bt B3.out HA4.out) b5)
  have HO5 := hid (HO4.out.below b5)
  have HE5 := hid ((HE3.out.below HA4.out).below b5)
  have HC5 := hid ((HCD.out.below HA4.out).below b5)
  clear b5
  go_wp2_with fail
  refine (needs_any foldO _ _ (Cs.nil _) (by decide)).mono ?_
  rintro e w6 ⟨vn, rfl, hns, b6⟩
  rw [fold_needs] at hns
  obtain ⟨nb, noff, nc, rfl, _, _, hnl, hnc⟩ := hns.inv (by decide)
  have hn0 := hnc 0 (by decide)
  have B6 := hid (bt B5.out b6)
  have HO6 := hid (HO5.out.below b6)
  have HE6 := hid (HE5.out.below b6)
  have HC6 := hid (HC5.out.below b6)
  have HL6 := hid (HL.out.below B6.out)
  simp at hn0
  clear b6 hns hnc
  go_wp2_with fail
  have nn0 : ∀ W, Below w6.heap.size w6 W → W.cell? ⟨nb, noff, none⟩ = some (.int .i64 0) := fun W hW => (hW.cell hnl).trans hn0.1
  have nn1 : ∀ W, Below w6.heap.size w6 W → W.cell? ⟨nb, noff + 1, none⟩ = some (.int .i64 1) := fun W hW => (hW.cell hnl).trans hn0.2
  refine alive_last w6 ea ec w3.heap.size nb noff nc (opv foldO (.slice none 0 0)) (opv foldO vd) _ _ _ _ _ _ _ _ _ _ _ _ _ HE6.out (fun W hW _ _ _ h1 h2 => run_load_op h1 h2 (HO6.out.below hW)) (fun W => fold_any W) (fun W hW => (sameop_any foldO foldO vd (.slice none 0 0) W (HC6.out.below hW) (Cs.nil _)).mono fun _ _ ⟨r, h1, h2, h3⟩ => ⟨by rw [h1, h2.2 rfl], h3⟩) (fun W hW => (same_op foldO foldO vd (.slice none 0 0) W (HC6.out.below hW) (Cs.nil _)).mono fun _ _ ⟨r, h1, h2, h3⟩ => ⟨by rw [h1, h2.2 rfl], h3⟩) (fun W hW => right_any Opn.zero (.slice none 0 0) W (HL6.out.below hW) (Cs.nil _) ⟨by decide, by decide⟩) nn0 nn1 (fun _ _ _ _ _ h => h) (fun W hW => ?_)
  have HB := hid (bt B6.out hW)
  go_wp2_with fail
  go_ret
  exact ⟨rfl, HB.out⟩

end Go.Proofs.YtniecbblhphbdaaDoor

/-
  Rows of ops in memory ('Os'); what Long answers is proved here, for all rows of ops.
-/
namespace Go.Proofs.YtniecbblhphbdaaDoor
open Go.RowKit
set_option linter.unusedVariables false
set_option maxRecDepth 100000

/-- Ops, each with its cuts' slice. -/
abbrev opc (p : Opn × Value) : List Value := (opl p.1 p.2).toList
def Os (w : World) (v : Value) (l : List (Opn × Value)) : Prop := Sl 20 w v l.length (l.flatMap opc) ∧ ∀ p ∈ l, Cs w p.2 p.1.cuts
theorem Os.inv {w : World} {v : Value} {l : List (Opn × Value)} (h : Os w v l) (hn : 0 < l.length) :
    ∃ b off c, v = .slice (some ⟨b, off, none⟩) l.length c ∧ l.length ≤ c ∧ c ≤ maxLen ∧ b < w.heap.size ∧ ∀ i (hi : i < l.length) j, j < 20 → w.cell? ⟨b, off + i * 20 + j, none⟩ = (opl (l[i]).1 (l[i]).2)[j]? := by
  obtain ⟨b, off, c, h1, h2, h3, h4, h5⟩ := Sl.inv h.1 hn (by decide)
  refine ⟨b, off, c, h1, h2, h3, h4, fun i hi j hj => ?_⟩
  have k := flat_at opc 20 (fun _ => rfl) l i j hi hj
  have hs : j < (opl (l[i]).1 (l[i]).2).size := hj
  have e : (opl (l[i]).1 (l[i]).2)[j]? = some ((opl (l[i]).1 (l[i]).2)[j]) := Array.getElem?_eq_getElem hs
  rw [e, Nat.add_assoc]
  refine h5 _ _ ?_
  rw [k, ← e]
  simp [opc]

/-- An op that is looked at. -/
def small (o : Opn) : Bool := decide (o.text.size ≤ 200) && decide (o.key.size ≤ 200) && decide (o.cuts.length ≤ 40)

set_option maxHeartbeats 2000000 in
theorem long_any (v : Value) (l : List (Opn × Value)) (most : Nat) (w : World) (h : Os w v l) (hm : l.length ≤ most) (hm' : most ≤ 1000) :
    Calls Tryd.prog 15 #[v, .int .i64 most] w fun e w' => e = .returned (.bool (!l.all (fun p => small p.1))) ∧ w = w' := by
  by_cases hz : l.length = 0
  · obtain rfl := List.eq_nil_of_length_eq_zero hz
    obtain ⟨a, c, rfl, _, _⟩ := Sl.form h.1
    clear h hz
    go_enter Tryd.func15, Tryd.ntmps15
    go_wp2
    refine wp_loop_rounds 1 ?_
    rw [rounds_succ]
    go_wp2
    go_ret
    exact ⟨rfl, rfl⟩
  · obtain ⟨b, off, c, rfl, hlc, hcm, hbl, hc⟩ := h.inv (by omega)
    have hcs := h.2
    obtain ⟨n, hn⟩ : ∃ n, l.length = n := ⟨_, rfl⟩
    have HN := hid hn
    rw [hn] at hz hlc hm ⊢
    unfold maxLen at hcm
    have HC := hid hc
    have HCS := hid hcs
    obtain ⟨r, hr⟩ : ∃ r, l.all (fun p => small p.1) = r := ⟨_, rfl⟩
    rw [hr]
    have HR := hid hr
    have hd1 : decide (most < n) = false := by simp; omega
    have hd2 : decide ((most : Int) < (n : Int)) = false := by simp; omega
    clear hn hc h hbl hcs hr
    go_enter Tryd.func15, Tryd.ntmps15
    go_wp2
    go_loopw [5] (fun i wr => ∃ k : Nat, k ≤ n ∧ i = .int .i64 k ∧ wr = w ∧ ∀ j (hj : j < l.length), j < k → small (l[j]).1 = true) (fun i _ => n - (intOf i).toNat)
    case atStart => exact ⟨0, Nat.zero_le _, rfl, rfl, fun j _ h => absurd h (Nat.not_lt_zero _)⟩
    case round =>
      obtain ⟨k, hk, rfl, rfl, ht⟩ := hrel
      have HT := hid ht
      clear ht
      by_cases hlt : k < n
      · have hkl : k < l.length := by rw [HN.out]; exact hlt
        obtain ⟨x, hx⟩ : ∃ x, l[k] = x := ⟨_, rfl⟩
        have g1 := HC.out k hkl 17 (by decide)
        have g2 := HC.out k hkl 8 (by decide)
        have g3 := HC.out k hkl 18 (by decide)
        rw [hx] at g1 g2 g3
        have hxc := HCS.out _ (List.getElem_mem hkl)
        rw [hx] at hxc
        obtain ⟨xa, xc, hxv, _, _⟩ := hxc.form
        simp at g1 g2 g3
        rw [hxv] at g3
        have HX := hid hx
        clear hx hxc hxv
        have b1' : (k : Int) < (n : Int) := by omega
        have hs : small x.1 = (decide (x.1.text.size ≤ 200) && decide (x.1.key.size ≤ 200) && decide (x.1.cuts.length ≤ 40)) := rfl
        cases t1 : decide (x.1.text.size ≤ 200)
        all_goals cases t2 : decide (x.1.key.size ≤ 200)
        all_goals cases t3 : decide (x.1.cuts.length ≤ 40)
        all_goals
          rw [t1, t2, t3] at hs
          have HS := hid hs
          simp at t1 t2 t3
          clear hs
          go_wp2
          try
            go_ret
            refine ⟨retb ?_, rfl⟩
            rw [← HR.out]
            have hf : l.all (fun p => small p.1) = false := by
              rw [List.all_eq_false]
              exact ⟨x, by have := List.getElem_mem hkl; rw [HX.out] at this; exact this, by rw [HS.out]; decide⟩
            rw [hf]
            decide
        go_roundw
        case rel =>
          refine ⟨k + 1, by omega, by go_num, by first | rfl | trivial, fun j hj hjk => ?_⟩
          by_cases e : j = k
          · subst e; rw [HX.out]; exact HS.out
          · exact HT.out j hj (by omega)
        case measure => simp [intOf]; omega
      · have e1 : k = n := by omega
        clear HC
        go_wp2
        go_ret
        refine ⟨retb ?_, rfl⟩
        rw [← HR.out]
        have hf : l.all (fun p => small p.1) = true := by
          rw [List.all_eq_true]
          intro p hp
          obtain ⟨j, hj, e⟩ := List.getElem_of_mem hp
          have := HT.out j hj (by have := HN.out; omega)
          rw [e] at this
          exact this
        rw [hf]
        decide

end Go.Proofs.YtniecbblhphbdaaDoor
