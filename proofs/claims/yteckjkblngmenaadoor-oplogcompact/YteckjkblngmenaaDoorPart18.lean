/-
  Parts of the proof, one behind the other; what each proves stands at its head.
-/
import Derived.Test.YteckjkblngmenaaDoorPart17
import Derived.Test.YteckjkblngmenaaDoorPart9
import Derived.Test.YteckjkblngmenaaDoorPart11

/-
  That offshootlaw07.alive returns true is proved here, where the package variables hold what the program lays there.
-/
namespace Go.Proofs.YteckjkblngmenaaDoor
open Go.RowKit
set_option linter.unusedVariables false
set_option maxRecDepth 100000

def gl0 : Oper := { dst := some 59, op := Op.move (Operand.tmp 2), type := 25, pos := "law.go:39", after := #[], guard := none }
def gl1 : Oper := { dst := some 60, op := Op.binOp BinOp.eql 25 (Operand.tmp 59) (Operand.const (Value.int IntKind.i64 0)) 25, type := 4, pos := "law.go:39", after := #[{ on := 0, ground := Ground.data }], guard := none }
def gl2 : Oper := { dst := some 61, op := Op.move (Operand.tmp 60), type := 4, pos := "law.go:39", after := #[{ on := 1, ground := Ground.data }], guard := none }
def gl3 : Oper := { dst := some 62, op := Op.move (Operand.tmp 4), type := 28, pos := "law.go:39", after := #[{ on := 2, ground := Ground.guard }], guard := some (2, true) }
def gl4 : Oper := { dst := some 63, op := Op.binOp BinOp.neq 28 (Operand.tmp 62) (Operand.const (Value.pointer none)) 28, type := 4, pos := "law.go:39", after := #[{ on := 3, ground := Ground.data }, { on := 2, ground := Ground.guard }], guard := some (2, true) }
def gl5 : Oper := { dst := some 64, op := Op.pick (Operand.tmp 61) (Operand.tmp 63) (Operand.const (Value.bool false)), type := 4, pos := "law.go:39", after := #[{ on := 2, ground := Ground.data }, { on := 4, ground := Ground.data }], guard := none }
def gl6 : Oper := { dst := some 65, op := Op.move (Operand.tmp 64), type := 4, pos := "law.go:39", after := #[{ on := 5, ground := Ground.data }, { on := 2, ground := Ground.chain }], guard := none }
def gl7 : Oper := { dst := some 66, op := Op.move (Operand.tmp 5), type := 31, pos := "law.go:39", after := #[{ on := 6, ground := Ground.guard }], guard := some (6, true) }
def gl8 : Oper := { dst := some 67, op := Op.call { callee := Callee.builtin Builtin.len, args := #[Operand.tmp 66], argTypes := #[31] }, type := 3, pos := "law.go:39", after := #[{ on := 7, ground := Ground.data }, { on := 6, ground := Ground.guard }], guard := some (6, true) }
def gl9 : Oper := { dst := some 68, op := Op.binOp BinOp.eql 3 (Operand.tmp 67) (Operand.const (Value.int IntKind.i64 1)) 3, type := 4, pos := "law.go:39", after := #[{ on := 8, ground := Ground.data }, { on := 6, ground := Ground.guard }], guard := some (6, true) }
def gl10 : Oper := { dst := some 69, op := Op.pick (Operand.tmp 65) (Operand.tmp 68) (Operand.const (Value.bool false)), type := 4, pos := "law.go:39", after := #[{ on := 6, ground := Ground.data }, { on := 9, ground := Ground.data }], guard := none }
def gl11 : Oper := { dst := some 70, op := Op.move (Operand.tmp 69), type := 4, pos := "law.go:39", after := #[{ on := 10, ground := Ground.data }, { on := 6, ground := Ground.chain }], guard := none }
def gl12 : Oper := { dst := some 71, op := Op.move (Operand.tmp 5), type := 31, pos := "law.go:39", after := #[{ on := 11, ground := Ground.guard }], guard := some (11, true) }
def gl13 : Oper := { dst := some 72, op := Op.indexAddr 31 (Operand.tmp 71) (Operand.const (Value.int IntKind.i64 0)), type := 0, pos := "law.go:39", after := #[{ on := 12, ground := Ground.data }, { on := 11, ground := Ground.guard }], guard := some (11, true) }
def gl14 : Oper := { dst := some 73, op := Op.load 57 (Operand.tmp 72), type := 57, pos := "law.go:39", after := #[{ on := 13, ground := Ground.data }, { on := 11, ground := Ground.guard }], guard := some (11, true) }
def gl15 : Oper := { dst := some 74, op := Op.call { callee := Callee.value (Operand.func 24), args := #[Operand.const (Value.int IntKind.i64 1)], argTypes := #[3] }, type := 57, pos := "law.go:39", after := #[{ on := 11, ground := Ground.chain }, { on := 11, ground := Ground.guard }], guard := some (11, true) }
def gl16 : Oper := { dst := some 75, op := Op.call { callee := Callee.value (Operand.func 26), args := #[Operand.tmp 73, Operand.tmp 74], argTypes := #[57, 57] }, type := 4, pos := "law.go:39", after := #[{ on := 14, ground := Ground.data }, { on := 15, ground := Ground.data }, { on := 15, ground := Ground.chain }, { on := 11, ground := Ground.guard }], guard := some (11, true) }
def gl17 : Oper := { dst := some 76, op := Op.pick (Operand.tmp 70) (Operand.tmp 75) (Operand.const (Value.bool false)), type := 4, pos := "law.go:39", after := #[{ on := 11, ground := Ground.data }, { on := 16, ground := Ground.data }], guard := none }
def gl18 : Oper := { dst := some 77, op := Op.move (Operand.tmp 76), type := 4, pos := "law.go:39", after := #[{ on := 17, ground := Ground.data }, { on := 16, ground := Ground.chain }], guard := none }
def gl19 : Oper := { dst := some 78, op := Op.move (Operand.tmp 4), type := 28, pos := "law.go:39", after := #[{ on := 18, ground := Ground.guard }], guard := some (18, true) }
def gl20 : Oper := { dst := some 79, op := Op.call { callee := Callee.value (Operand.func 27), args := #[Operand.tmp 78], argTypes := #[28] }, type := 3, pos := "law.go:39", after := #[{ on := 19, ground := Ground.data }, { on := 18, ground := Ground.chain }, { on := 18, ground := Ground.guard }], guard := some (18, true) }
def gl21 : Oper := { dst := some 80, op := Op.binOp BinOp.eql 3 (Operand.tmp 79) (Operand.const (Value.int IntKind.i64 3)) 3, type := 4, pos := "law.go:39", after := #[{ on := 20, ground := Ground.data }, { on := 18, ground := Ground.guard }], guard := some (18, true) }
def gl22 : Oper := { dst := some 81, op := Op.pick (Operand.tmp 77) (Operand.tmp 80) (Operand.const (Value.bool false)), type := 4, pos := "law.go:39", after := #[{ on := 18, ground := Ground.data }, { on := 21, ground := Ground.data }], guard := none }
def gl23 : Oper := { dst := some 0, op := Op.assign (Operand.tmp 81), type := 4, pos := "law.go:39", after := #[{ on := 22, ground := Ground.data }, { on := 20, ground := Ground.chain }, { on := 0, ground := Ground.phase }, { on := 1, ground := Ground.phase }, { on := 2, ground := Ground.phase }, { on := 3, ground := Ground.phase }, { on := 4, ground := Ground.phase }, { on := 5, ground := Ground.phase }, { on := 6, ground := Ground.phase }, { on := 7, ground := Ground.phase }, { on := 8, ground := Ground.phase }, { on := 9, ground := Ground.phase }, { on := 10, ground := Ground.phase }, { on := 11, ground := Ground.phase }, { on := 12, ground := Ground.phase }, { on := 13, ground := Ground.phase }, { on := 14, ground := Ground.phase }, { on := 15, ground := Ground.phase }, { on := 16, ground := Ground.phase }, { on := 17, ground := Ground.phase }, { on := 18, ground := Ground.phase }, { on := 19, ground := Ground.phase }, { on := 20, ground := Ground.phase }, { on := 21, ground := Ground.phase }, { on := 22, ground := Ground.phase }], guard := none }
def gls : Array Oper := #[gl0, gl1, gl2, gl3, gl4, gl5, gl6, gl7, gl8, gl9, gl10, gl11, gl12, gl13, gl14, gl15, gl16, gl17, gl18, gl19, gl20, gl21, gl22, gl23]
theorem gl_lex : Region.lexB .any gls = true := by kernel_rfl
set_option maxHeartbeats 2000000 in
theorem galive_last (w : World) (lb ob off cp : Nat) (F0 F1 : Value) {x0 x1 x3 x6 x7 x8 x9 x10 x11 x12 x13 x14 x15 x16 x17 x18 x19 x20 x21 x22 x23 x24 x25 x26 x27 x28 x29 x30 x31 x32 x33 x34 x35 x36 x37 x38 x39 x40 x41 x42 x43 x44 x45 x46 x47 x48 x49 x50 x51 x52 x53 x54 x55 x56 x57 x58 x59 x60 x61 x62 x63 x64 x65 x66 x67 x68 x69 x70 x71 x72 x73 x74 x75 x76 x77 x78 x79 x80 x81 : Value} {Q : Exit → Act → World → Prop} 
    (hO : ∀ W, Below w.heap.size w W → ∀ {p : Oper} {a : Act} {x : Operand}, p.op = .load 57 x → a.eval x = .pointer (some ⟨ob, off, none⟩) → (execOp a.eval p).run Tryd.prog W = .ok (.value F1) W)
    (hFO : ∀ W, Calls Tryd.prog 24 #[.int .i64 1] W fun e w' => e = .returned F0 ∧ Below W.heap.size W w')
    (hSO : ∀ W, Below w.heap.size w W → Calls Tryd.prog 26 #[F1, F0] W fun e w' => e = .returned (.bool true) ∧ Below W.heap.size W w')
    (hR : ∀ W, Below w.heap.size w W → Calls Tryd.prog 27 #[.pointer (some ⟨lb, 0, none⟩)] W fun e w' => e = .returned (.int .i64 3) ∧ W = w')
    (hQ : ∀ W, Below w.heap.size w W → Q .normal { tmps := #[.bool true, x1, .int .i64 0, x3, .pointer (some ⟨lb, 0, none⟩), .slice (some ⟨ob, off, none⟩) 1 cp, x6, x7, x8, x9, x10, x11, x12, x13, x14, x15, x16, x17, x18, x19, x20, x21, x22, x23, x24, x25, x26, x27, x28, x29, x30, x31, x32, x33, x34, x35, x36, x37, x38, x39, x40, x41, x42, x43, x44, x45, x46, x47, x48, x49, x50, x51, x52, x53, x54, x55, x56, x57, x58, .int .i64 0, .bool true, .bool true, .pointer (some ⟨lb, 0, none⟩), .bool true, .bool true, .bool true, .slice (some ⟨ob, off, none⟩) 1 cp, .int .i64 1, .bool true, .bool true, .bool true, .slice (some ⟨ob, off, none⟩) 1 cp, .pointer (some ⟨ob, off, none⟩), F1, F0, .bool true, .bool true, .bool true, .pointer (some ⟨lb, 0, none⟩), .int .i64 3, .bool true, .bool true], defers := [] } W) : (Code.region 12 gls true).wp Tryd.prog Q { tmps := #[x0, x1, .int .i64 0, x3, .pointer (some ⟨lb, 0, none⟩), .slice (some ⟨ob, off, none⟩) 1 cp, x6, x7, x8, x9, x10, x11, x12, x13, x14, x15, x16, x17, x18, x19, x20, x21, x22, x23, x24, x25, x26, x27, x28, x29, x30, x31, x32, x33, x34, x35, x36, x37, x38, x39, x40, x41, x42, x43, x44, x45, x46, x47, x48, x49, x50, x51, x52, x53, x54, x55, x56, x57, x58, x59, x60, x61, x62, x63, x64, x65, x66, x67, x68, x69, x70, x71, x72, x73, x74, x75, x76, x77, x78, x79, x80, x81], defers := [] } w := by
  refine wp_region_quiet (C := fun W => Below w.heap.size w W) (by kernel_rfl) gl_lex (Below.refl _ _).drew ?_
  change wpQuiet _ _ _ _ [gl0, gl1, gl2, gl3, gl4, gl5, gl6, gl7, gl8, gl9, gl10, gl11, gl12, gl13, gl14, gl15, gl16, gl17, gl18, gl19, gl20, gl21, gl22, gl23] _
  refine qs_val (.int .i64 0) { tmps := #[x0, x1, .int .i64 0, x3, .pointer (some ⟨lb, 0, none⟩), .slice (some ⟨ob, off, none⟩) 1 cp, x6, x7, x8, x9, x10, x11, x12, x13, x14, x15, x16, x17, x18, x19, x20, x21, x22, x23, x24, x25, x26, x27, x28, x29, x30, x31, x32, x33, x34, x35, x36, x37, x38, x39, x40, x41, x42, x43, x44, x45, x46, x47, x48, x49, x50, x51, x52, x53, x54, x55, x56, x57, x58, .int .i64 0, x60, x61, x62, x63, x64, x65, x66, x67, x68, x69, x70, x71, x72, x73, x74, x75, x76, x77, x78, x79, x80, x81], defers := [] } (by kernel_rfl) (fun W hW => by kernel_rfl) (by kernel_rfl) ?_
  refine qs_val (.bool true) { tmps := #[x0, x1, .int .i64 0, x3, .pointer (some ⟨lb, 0, none⟩), .slice (some ⟨ob, off, none⟩) 1 cp, x6, x7, x8, x9, x10, x11, x12, x13, x14, x15, x16, x17, x18, x19, x20, x21, x22, x23, x24, x25, x26, x27, x28, x29, x30, x31, x32, x33, x34, x35, x36, x37, x38, x39, x40, x41, x42, x43, x44, x45, x46, x47, x48, x49, x50, x51, x52, x53, x54, x55, x56, x57, x58, .int .i64 0, .bool true, x61, x62, x63, x64, x65, x66, x67, x68, x69, x70, x71, x72, x73, x74, x75, x76, x77, x78, x79, x80, x81], defers := [] } (by kernel_rfl) (fun W hW => by kernel_rfl) (by kernel_rfl) ?_
  refine qs_val (.bool true) { tmps := #[x0, x1, .int .i64 0, x3, .pointer (some ⟨lb, 0, none⟩), .slice (some ⟨ob, off, none⟩) 1 cp, x6, x7, x8, x9, x10, x11, x12, x13, x14, x15, x16, x17, x18, x19, x20, x21, x22, x23, x24, x25, x26, x27, x28, x29, x30, x31, x32, x33, x34, x35, x36, x37, x38, x39, x40, x41, x42, x43, x44, x45, x46, x47, x48, x49, x50, x51, x52, x53, x54, x55, x56, x57, x58, .int .i64 0, .bool true, .bool true, x62, x63, x64, x65, x66, x67, x68, x69, x70, x71, x72, x73, x74, x75, x76, x77, x78, x79, x80, x81], defers := [] } (by kernel_rfl) (fun W hW => by kernel_rfl) (by kernel_rfl) ?_
  refine qs_val (.pointer (some ⟨lb, 0, none⟩)) { tmps := #[x0, x1, .int .i64 0, x3, .pointer (some ⟨lb, 0, none⟩), .slice (some ⟨ob, off, none⟩) 1 cp, x6, x7, x8, x9, x10, x11, x12, x13, x14, x15, x16, x17, x18, x19, x20, x21, x22, x23, x24, x25, x26, x27, x28, x29, x30, x31, x32, x33, x34, x35, x36, x37, x38, x39, x40, x41, x42, x43, x44, x45, x46, x47, x48, x49, x50, x51, x52, x53, x54, x55, x56, x57, x58, .int .i64 0, .bool true, .bool true, .pointer (some ⟨lb, 0, none⟩), x63, x64, x65, x66, x67, x68, x69, x70, x71, x72, x73, x74, x75, x76, x77, x78, x79, x80, x81], defers := [] } (by kernel_rfl) (fun W hW => by kernel_rfl) (by kernel_rfl) ?_
  refine qs_val (.bool true) { tmps := #[x0, x1, .int .i64 0, x3, .pointer (some ⟨lb, 0, none⟩), .slice (some ⟨ob, off, none⟩) 1 cp, x6, x7, x8, x9, x10, x11, x12, x13, x14, x15, x16, x17, x18, x19, x20, x21, x22, x23, x24, x25, x26, x27, x28, x29, x30, x31, x32, x33, x34, x35, x36, x37, x38, x39, x40, x41, x42, x43, x44, x45, x46, x47, x48, x49, x50, x51, x52, x53, x54, x55, x56, x57, x58, .int .i64 0, .bool true, .bool true, .pointer (some ⟨lb, 0, none⟩), .bool true, x64, x65, x66, x67, x68, x69, x70, x71, x72, x73, x74, x75, x76, x77, x78, x79, x80, x81], defers := [] } (by kernel_rfl) (fun W hW => by kernel_rfl) (by kernel_rfl) ?_
  refine qs_val (.bool true) { tmps := #[x0, x1, .int .i64 0, x3, .pointer (some ⟨lb, 0, none⟩), .slice (some ⟨ob, off, none⟩) 1 cp, x6, x7, x8, x9, x10, x11, x12, x13, x14, x15, x16, x17, x18, x19, x20, x21, x22, x23, x24, x25, x26, x27, x28, x29, x30, x31, x32, x33, x34, x35, x36, x37, x38, x39, x40, x41, x42, x43, x44, x45, x46, x47, x48, x49, x50, x51, x52, x53, x54, x55, x56, x57, x58, .int .i64 0, .bool true, .bool true, .pointer (some ⟨lb, 0, none⟩), .bool true, .bool true, x65, x66, x67, x68, x69, x70, x71, x72, x73, x74, x75, x76, x77, x78, x79, x80, x81], defers := [] } (by kernel_rfl) (fun W hW => by kernel_rfl) (by kernel_rfl) ?_
  refine qs_val (.bool true) { tmps := #[x0, x1, .int .i64 0, x3, .pointer (some ⟨lb, 0, none⟩), .slice (some ⟨ob, off, none⟩) 1 cp, x6, x7, x8, x9, x10, x11, x12, x13, x14, x15, x16, x17, x18, x19, x20, x21, x22, x23, x24, x25, x26, x27, x28, x29, x30, x31, x32, x33, x34, x35, x36, x37, x38, x39, x40, x41, x42, x43, x44, x45, x46, x47, x48, x49, x50, x51, x52, x53, x54, x55, x56, x57, x58, .int .i64 0, .bool true, .bool true, .pointer (some ⟨lb, 0, none⟩), .bool true, .bool true, .bool true, x66, x67, x68, x69, x70, x71, x72, x73, x74, x75, x76, x77, x78, x79, x80, x81], defers := [] } (by kernel_rfl) (fun W hW => by kernel_rfl) (by kernel_rfl) ?_
  refine qs_val (.slice (some ⟨ob, off, none⟩) 1 cp) { tmps := #[x0, x1, .int .i64 0, x3, .pointer (some ⟨lb, 0, none⟩), .slice (some ⟨ob, off, none⟩) 1 cp, x6, x7, x8, x9, x10, x11, x12, x13, x14, x15, x16, x17, x18, x19, x20, x21, x22, x23, x24, x25, x26, x27, x28, x29, x30, x31, x32, x33, x34, x35, x36, x37, x38, x39, x40, x41, x42, x43, x44, x45, x46, x47, x48, x49, x50, x51, x52, x53, x54, x55, x56, x57, x58, .int .i64 0, .bool true, .bool true, .pointer (some ⟨lb, 0, none⟩), .bool true, .bool true, .bool true, .slice (some ⟨ob, off, none⟩) 1 cp, x67, x68, x69, x70, x71, x72, x73, x74, x75, x76, x77, x78, x79, x80, x81], defers := [] } (by kernel_rfl) (fun W hW => by kernel_rfl) (by kernel_rfl) ?_
  refine qs_val (.int .i64 1) { tmps := #[x0, x1, .int .i64 0, x3, .pointer (some ⟨lb, 0, none⟩), .slice (some ⟨ob, off, none⟩) 1 cp, x6, x7, x8, x9, x10, x11, x12, x13, x14, x15, x16, x17, x18, x19, x20, x21, x22, x23, x24, x25, x26, x27, x28, x29, x30, x31, x32, x33, x34, x35, x36, x37, x38, x39, x40, x41, x42, x43, x44, x45, x46, x47, x48, x49, x50, x51, x52, x53, x54, x55, x56, x57, x58, .int .i64 0, .bool true, .bool true, .pointer (some ⟨lb, 0, none⟩), .bool true, .bool true, .bool true, .slice (some ⟨ob, off, none⟩) 1 cp, .int .i64 1, x68, x69, x70, x71, x72, x73, x74, x75, x76, x77, x78, x79, x80, x81], defers := [] } (by kernel_rfl) (fun W hW => by kernel_rfl) (by kernel_rfl) ?_
  refine qs_val (.bool true) { tmps := #[x0, x1, .int .i64 0, x3, .pointer (some ⟨lb, 0, none⟩), .slice (some ⟨ob, off, none⟩) 1 cp, x6, x7, x8, x9, x10, x11, x12, x13, x14, x15, x16, x17, x18, x19, x20, x21, x22, x23, x24, x25, x26, x27, x28, x29, x30, x31, x32, x33, x34, x35, x36, x37, x38, x39, x40, x41, x42, x43, x44, x45, x46, x47, x48, x49, x50, x51, x52, x53, x54, x55, x56, x57, x58, .int .i64 0, .bool true, .bool true, .pointer (some ⟨lb, 0, none⟩), .bool true, .bool true, .bool true, .slice (some ⟨ob, off, none⟩) 1 cp, .int .i64 1, .bool true, x69, x70, x71, x72, x73, x74, x75, x76, x77, x78, x79, x80, x81], defers := [] } (by kernel_rfl) (fun W hW => by kernel_rfl) (by kernel_rfl) ?_
  refine qs_val (.bool true) { tmps := #[x0, x1, .int .i64 0, x3, .pointer (some ⟨lb, 0, none⟩), .slice (some ⟨ob, off, none⟩) 1 cp, x6, x7, x8, x9, x10, x11, x12, x13, x14, x15, x16, x17, x18, x19, x20, x21, x22, x23, x24, x25, x26, x27, x28, x29, x30, x31, x32, x33, x34, x35, x36, x37, x38, x39, x40, x41, x42, x43, x44, x45, x46, x47, x48, x49, x50, x51, x52, x53, x54, x55, x56, x57, x58, .int .i64 0, .bool true, .bool true, .pointer (some ⟨lb, 0, none⟩), .bool true, .bool true, .bool true, .slice (some ⟨ob, off, none⟩) 1 cp, .int .i64 1, .bool true, .bool true, x70, x71, x72, x73, x74, x75, x76, x77, x78, x79, x80, x81], defers := [] } (by kernel_rfl) (fun W hW => by kernel_rfl) (by kernel_rfl) ?_
  refine qs_val (.bool true) { tmps := #[x0, x1, .int .i64 0, x3, .pointer (some ⟨lb, 0, none⟩), .slice (some ⟨ob, off, none⟩) 1 cp, x6, x7, x8, x9, x10, x11, x12, x13, x14, x15, x16, x17, x18, x19, x20, x21, x22, x23, x24, x25, x26, x27, x28, x29, x30, x31, x32, x33, x34, x35, x36, x37, x38, x39, x40, x41, x42, x43, x44, x45, x46, x47, x48, x49, x50, x51, x52, x53, x54, x55, x56, x57, x58, .int .i64 0, .bool true, .bool true, .pointer (some ⟨lb, 0, none⟩), .bool true, .bool true, .bool true, .slice (some ⟨ob, off, none⟩) 1 cp, .int .i64 1, .bool true, .bool true, .bool true, x71, x72, x73, x74, x75, x76, x77, x78, x79, x80, x81], defers := [] } (by kernel_rfl) (fun W hW => by kernel_rfl) (by kernel_rfl) ?_
  refine qs_val (.slice (some ⟨ob, off, none⟩) 1 cp) { tmps := #[x0, x1, .int .i64 0, x3, .pointer (some ⟨lb, 0, none⟩), .slice (some ⟨ob, off, none⟩) 1 cp, x6, x7, x8, x9, x10, x11, x12, x13, x14, x15, x16, x17, x18, x19, x20, x21, x22, x23, x24, x25, x26, x27, x28, x29, x30, x31, x32, x33, x34, x35, x36, x37, x38, x39, x40, x41, x42, x43, x44, x45, x46, x47, x48, x49, x50, x51, x52, x53, x54, x55, x56, x57, x58, .int .i64 0, .bool true, .bool true, .pointer (some ⟨lb, 0, none⟩), .bool true, .bool true, .bool true, .slice (some ⟨ob, off, none⟩) 1 cp, .int .i64 1, .bool true, .bool true, .bool true, .slice (some ⟨ob, off, none⟩) 1 cp, x72, x73, x74, x75, x76, x77, x78, x79, x80, x81], defers := [] } (by kernel_rfl) (fun W hW => by kernel_rfl) (by kernel_rfl) ?_
  refine qs_val (.pointer (some ⟨ob, off, none⟩)) { tmps := #[x0, x1, .int .i64 0, x3, .pointer (some ⟨lb, 0, none⟩), .slice (some ⟨ob, off, none⟩) 1 cp, x6, x7, x8, x9, x10, x11, x12, x13, x14, x15, x16, x17, x18, x19, x20, x21, x22, x23, x24, x25, x26, x27, x28, x29, x30, x31, x32, x33, x34, x35, x36, x37, x38, x39, x40, x41, x42, x43, x44, x45, x46, x47, x48, x49, x50, x51, x52, x53, x54, x55, x56, x57, x58, .int .i64 0, .bool true, .bool true, .pointer (some ⟨lb, 0, none⟩), .bool true, .bool true, .bool true, .slice (some ⟨ob, off, none⟩) 1 cp, .int .i64 1, .bool true, .bool true, .bool true, .slice (some ⟨ob, off, none⟩) 1 cp, .pointer (some ⟨ob, off, none⟩), x73, x74, x75, x76, x77, x78, x79, x80, x81], defers := [] } (by kernel_rfl) (fun W hW => by kernel_rfl) (by kernel_rfl) ?_
  refine qs_val (F1) { tmps := #[x0, x1, .int .i64 0, x3, .pointer (some ⟨lb, 0, none⟩), .slice (some ⟨ob, off, none⟩) 1 cp, x6, x7, x8, x9, x10, x11, x12, x13, x14, x15, x16, x17, x18, x19, x20, x21, x22, x23, x24, x25, x26, x27, x28, x29, x30, x31, x32, x33, x34, x35, x36, x37, x38, x39, x40, x41, x42, x43, x44, x45, x46, x47, x48, x49, x50, x51, x52, x53, x54, x55, x56, x57, x58, .int .i64 0, .bool true, .bool true, .pointer (some ⟨lb, 0, none⟩), .bool true, .bool true, .bool true, .slice (some ⟨ob, off, none⟩) 1 cp, .int .i64 1, .bool true, .bool true, .bool true, .slice (some ⟨ob, off, none⟩) 1 cp, .pointer (some ⟨ob, off, none⟩), F1, x74, x75, x76, x77, x78, x79, x80, x81], defers := [] } (by kernel_rfl) (fun W hW => hO W hW rfl rfl) (by kernel_rfl) ?_
  refine qs_call (f := 24) (args := #[.int .i64 1]) (F0) { tmps := #[x0, x1, .int .i64 0, x3, .pointer (some ⟨lb, 0, none⟩), .slice (some ⟨ob, off, none⟩) 1 cp, x6, x7, x8, x9, x10, x11, x12, x13, x14, x15, x16, x17, x18, x19, x20, x21, x22, x23, x24, x25, x26, x27, x28, x29, x30, x31, x32, x33, x34, x35, x36, x37, x38, x39, x40, x41, x42, x43, x44, x45, x46, x47, x48, x49, x50, x51, x52, x53, x54, x55, x56, x57, x58, .int .i64 0, .bool true, .bool true, .pointer (some ⟨lb, 0, none⟩), .bool true, .bool true, .bool true, .slice (some ⟨ob, off, none⟩) 1 cp, .int .i64 1, .bool true, .bool true, .bool true, .slice (some ⟨ob, off, none⟩) 1 cp, .pointer (some ⟨ob, off, none⟩), F1, F0, x75, x76, x77, x78, x79, x80, x81], defers := [] } (by kernel_rfl) (fun W => by kernel_rfl) (fun W hW => (hFO W).mono fun _ _ h => ⟨h.1, bt hW h.2⟩) (by kernel_rfl) ?_
  refine qs_call (f := 26) (args := #[F1, F0]) (.bool true) { tmps := #[x0, x1, .int .i64 0, x3, .pointer (some ⟨lb, 0, none⟩), .slice (some ⟨ob, off, none⟩) 1 cp, x6, x7, x8, x9, x10, x11, x12, x13, x14, x15, x16, x17, x18, x19, x20, x21, x22, x23, x24, x25, x26, x27, x28, x29, x30, x31, x32, x33, x34, x35, x36, x37, x38, x39, x40, x41, x42, x43, x44, x45, x46, x47, x48, x49, x50, x51, x52, x53, x54, x55, x56, x57, x58, .int .i64 0, .bool true, .bool true, .pointer (some ⟨lb, 0, none⟩), .bool true, .bool true, .bool true, .slice (some ⟨ob, off, none⟩) 1 cp, .int .i64 1, .bool true, .bool true, .bool true, .slice (some ⟨ob, off, none⟩) 1 cp, .pointer (some ⟨ob, off, none⟩), F1, F0, .bool true, x76, x77, x78, x79, x80, x81], defers := [] } (by kernel_rfl) (fun W => by kernel_rfl) (fun W hW => (hSO W hW).mono fun _ _ h => ⟨h.1, bt hW h.2⟩) (by kernel_rfl) ?_
  refine qs_val (.bool true) { tmps := #[x0, x1, .int .i64 0, x3, .pointer (some ⟨lb, 0, none⟩), .slice (some ⟨ob, off, none⟩) 1 cp, x6, x7, x8, x9, x10, x11, x12, x13, x14, x15, x16, x17, x18, x19, x20, x21, x22, x23, x24, x25, x26, x27, x28, x29, x30, x31, x32, x33, x34, x35, x36, x37, x38, x39, x40, x41, x42, x43, x44, x45, x46, x47, x48, x49, x50, x51, x52, x53, x54, x55, x56, x57, x58, .int .i64 0, .bool true, .bool true, .pointer (some ⟨lb, 0, none⟩), .bool true, .bool true, .bool true, .slice (some ⟨ob, off, none⟩) 1 cp, .int .i64 1, .bool true, .bool true, .bool true, .slice (some ⟨ob, off, none⟩) 1 cp, .pointer (some ⟨ob, off, none⟩), F1, F0, .bool true, .bool true, x77, x78, x79, x80, x81], defers := [] } (by kernel_rfl) (fun W hW => by kernel_rfl) (by kernel_rfl) ?_
  refine qs_val (.bool true) { tmps := #[x0, x1, .int .i64 0, x3, .pointer (some ⟨lb, 0, none⟩), .slice (some ⟨ob, off, none⟩) 1 cp, x6, x7, x8, x9, x10, x11, x12, x13, x14, x15, x16, x17, x18, x19, x20, x21, x22, x23, x24, x25, x26, x27, x28, x29, x30, x31, x32, x33, x34, x35, x36, x37, x38, x39, x40, x41, x42, x43, x44, x45, x46, x47, x48, x49, x50, x51, x52, x53, x54, x55, x56, x57, x58, .int .i64 0, .bool true, .bool true, .pointer (some ⟨lb, 0, none⟩), .bool true, .bool true, .bool true, .slice (some ⟨ob, off, none⟩) 1 cp, .int .i64 1, .bool true, .bool true, .bool true, .slice (some ⟨ob, off, none⟩) 1 cp, .pointer (some ⟨ob, off, none⟩), F1, F0, .bool true, .bool true, .bool true, x78, x79, x80, x81], defers := [] } (by kernel_rfl) (fun W hW => by kernel_rfl) (by kernel_rfl) ?_
  refine qs_val (.pointer (some ⟨lb, 0, none⟩)) { tmps := #[x0, x1, .int .i64 0, x3, .pointer (some ⟨lb, 0, none⟩), .slice (some ⟨ob, off, none⟩) 1 cp, x6, x7, x8, x9, x10, x11, x12, x13, x14, x15, x16, x17, x18, x19, x20, x21, x22, x23, x24, x25, x26, x27, x28, x29, x30, x31, x32, x33, x34, x35, x36, x37, x38, x39, x40, x41, x42, x43, x44, x45, x46, x47, x48, x49, x50, x51, x52, x53, x54, x55, x56, x57, x58, .int .i64 0, .bool true, .bool true, .pointer (some ⟨lb, 0, none⟩), .bool true, .bool true, .bool true, .slice (some ⟨ob, off, none⟩) 1 cp, .int .i64 1, .bool true, .bool true, .bool true, .slice (some ⟨ob, off, none⟩) 1 cp, .pointer (some ⟨ob, off, none⟩), F1, F0, .bool true, .bool true, .bool true, .pointer (some ⟨lb, 0, none⟩), x79, x80, x81], defers := [] } (by kernel_rfl) (fun W hW => by kernel_rfl) (by kernel_rfl) ?_
  refine qs_call (f := 27) (args := #[.pointer (some ⟨lb, 0, none⟩)]) (.int .i64 3) { tmps := #[x0, x1, .int .i64 0, x3, .pointer (some ⟨lb, 0, none⟩), .slice (some ⟨ob, off, none⟩) 1 cp, x6, x7, x8, x9, x10, x11, x12, x13, x14, x15, x16, x17, x18, x19, x20, x21, x22, x23, x24, x25, x26, x27, x28, x29, x30, x31, x32, x33, x34, x35, x36, x37, x38, x39, x40, x41, x42, x43, x44, x45, x46, x47, x48, x49, x50, x51, x52, x53, x54, x55, x56, x57, x58, .int .i64 0, .bool true, .bool true, .pointer (some ⟨lb, 0, none⟩), .bool true, .bool true, .bool true, .slice (some ⟨ob, off, none⟩) 1 cp, .int .i64 1, .bool true, .bool true, .bool true, .slice (some ⟨ob, off, none⟩) 1 cp, .pointer (some ⟨ob, off, none⟩), F1, F0, .bool true, .bool true, .bool true, .pointer (some ⟨lb, 0, none⟩), .int .i64 3, x80, x81], defers := [] } (by kernel_rfl) (fun W => by kernel_rfl) (fun W hW => (hR W hW).mono fun _ _ h => ⟨h.1, by rw [← h.2]; exact hW⟩) (by kernel_rfl) ?_
  refine qs_val (.bool true) { tmps := #[x0, x1, .int .i64 0, x3, .pointer (some ⟨lb, 0, none⟩), .slice (some ⟨ob, off, none⟩) 1 cp, x6, x7, x8, x9, x10, x11, x12, x13, x14, x15, x16, x17, x18, x19, x20, x21, x22, x23, x24, x25, x26, x27, x28, x29, x30, x31, x32, x33, x34, x35, x36, x37, x38, x39, x40, x41, x42, x43, x44, x45, x46, x47, x48, x49, x50, x51, x52, x53, x54, x55, x56, x57, x58, .int .i64 0, .bool true, .bool true, .pointer (some ⟨lb, 0, none⟩), .bool true, .bool true, .bool true, .slice (some ⟨ob, off, none⟩) 1 cp, .int .i64 1, .bool true, .bool true, .bool true, .slice (some ⟨ob, off, none⟩) 1 cp, .pointer (some ⟨ob, off, none⟩), F1, F0, .bool true, .bool true, .bool true, .pointer (some ⟨lb, 0, none⟩), .int .i64 3, .bool true, x81], defers := [] } (by kernel_rfl) (fun W hW => by kernel_rfl) (by kernel_rfl) ?_
  refine qs_val (.bool true) { tmps := #[x0, x1, .int .i64 0, x3, .pointer (some ⟨lb, 0, none⟩), .slice (some ⟨ob, off, none⟩) 1 cp, x6, x7, x8, x9, x10, x11, x12, x13, x14, x15, x16, x17, x18, x19, x20, x21, x22, x23, x24, x25, x26, x27, x28, x29, x30, x31, x32, x33, x34, x35, x36, x37, x38, x39, x40, x41, x42, x43, x44, x45, x46, x47, x48, x49, x50, x51, x52, x53, x54, x55, x56, x57, x58, .int .i64 0, .bool true, .bool true, .pointer (some ⟨lb, 0, none⟩), .bool true, .bool true, .bool true, .slice (some ⟨ob, off, none⟩) 1 cp, .int .i64 1, .bool true, .bool true, .bool true, .slice (some ⟨ob, off, none⟩) 1 cp, .pointer (some ⟨ob, off, none⟩), F1, F0, .bool true, .bool true, .bool true, .pointer (some ⟨lb, 0, none⟩), .int .i64 3, .bool true, .bool true], defers := [] } (by kernel_rfl) (fun W hW => by kernel_rfl) (by kernel_rfl) ?_
  refine qs_val (.bool true) { tmps := #[.bool true, x1, .int .i64 0, x3, .pointer (some ⟨lb, 0, none⟩), .slice (some ⟨ob, off, none⟩) 1 cp, x6, x7, x8, x9, x10, x11, x12, x13, x14, x15, x16, x17, x18, x19, x20, x21, x22, x23, x24, x25, x26, x27, x28, x29, x30, x31, x32, x33, x34, x35, x36, x37, x38, x39, x40, x41, x42, x43, x44, x45, x46, x47, x48, x49, x50, x51, x52, x53, x54, x55, x56, x57, x58, .int .i64 0, .bool true, .bool true, .pointer (some ⟨lb, 0, none⟩), .bool true, .bool true, .bool true, .slice (some ⟨ob, off, none⟩) 1 cp, .int .i64 1, .bool true, .bool true, .bool true, .slice (some ⟨ob, off, none⟩) 1 cp, .pointer (some ⟨ob, off, none⟩), F1, F0, .bool true, .bool true, .bool true, .pointer (some ⟨lb, 0, none⟩), .int .i64 3, .bool true, .bool true], defers := [] } (by kernel_rfl) (fun W hW => by kernel_rfl) (by kernel_rfl) ?_
  exact hQ

theorem Os.later {w w' : World} {v : Value} {l : List (Opn × Value)} (h : Os w v l) (hb : Below w.heap.size w w') : Os w' v l := ⟨Sl.below h.1 hb, fun p hp => (h.2 p hp).below hb⟩
/-- How many ops are synced, where the bytes that are synced end with a frame. -/
theorem syF_at {Fs : List (List Opn)} (k : Nat) (hk : k ≤ Fs.length) (h : Good Fs) : syF Fs (10 + szF (Fs.take k)) = (Fs.take k).flatten.length := by
  unfold syF
  rw [inF_ends Fs k _ hk (Nat.le_refl _) (fun hlt => ?_), opsAt_ends Fs k hk]
  rw [List.take_succ_eq_append_getElem hlt, szF_append, szF_one]
  omega
theorem lo_crash {B lb fb : Nat} {fv vo ve : Value} {r : Int} {Fs : List (List Opn)} {n R : Nat} {w : World} {l : List (Opn × Value)} (h : Lo B w lb fb fv vo ve r Fs n R l) (keep : Int) :
    Calls Tryd.prog 13 #[.pointer (some ⟨fb, 0, none⟩), .int .i64 keep] w fun e w' => e = .returned (.tuple #[]) ∧ ∃ fv', Fi B w' fb fv' ((lby r Fs).take (left keep (lby r Fs) n)) (left keep (lby r Fs) n) R ∧ Lx (Fb fb fv) (Fb fb fv') w w' :=
  (fcrash_any h.lg.fi h.ns keep).mono fun e w' ⟨h1, h2⟩ => by
    obtain ⟨fv', h3, h4⟩ := h2.out (xs := (lby r Fs).take (left keep (lby r Fs) n)) (n := left keep (lby r Fs) n) (z := 0) rfl
    exact ⟨h1, fv', h3, lx_file (B := B) h4⟩
theorem left_bounds {keep : Int} {xs : List Int} {n : Nat} (h : n ≤ xs.length) : n ≤ left keep xs n ∧ left keep xs n ≤ xs.length := by
  unfold left
  omega

theorem one_of {q : List (Opn × Value)} {o : Opn} (h : fsts q = [[o]].flatten) : ∃ u, q = [(o, u)] := by
  unfold fsts at h
  obtain ⟨a, ha, _⟩ : ∃ a, q = [a] ∧ a.1 = o := by
    rcases q with _ | ⟨a, _ | ⟨b, q⟩⟩
    · simp at h
    · exact ⟨a, rfl, by simpa using h⟩
    · simp at h
  subst ha
  exact ⟨a.2, by simp at h; rw [← h]⟩

set_option maxHeartbeats 8000000 in
theorem galive_any (w : World) (hL : Lay w) : Calls Tryd.prog 6 #[] w fun e w' => e = .returned (.bool true) ∧ Below w.heap.size w w' := by
  have HL := hid hL
  have H2 := hid hL.two
  have ap1 : apE 500 [] [foldN 1] = 0 := by unfold apE; rw [foldN_fr1, szF_nil, foldN_len1]; decide
  have af1 : apF 500 [] [foldN 1] = [[foldN 1]] := by unfold apF; rw [if_pos ap1]; rfl
  have sz1 : szF [[foldN 1]] = 17 := by rw [szF_one, foldN_len1]
  have ap2 : apE 500 [[foldN 1]] [foldN 2] = 0 := by unfold apE; rw [foldN_fr2, sz1, foldN_len2]; decide
  have af2 : apF 500 [[foldN 1]] [foldN 2] = [[foldN 1], [foldN 2]] := by unfold apF; rw [if_pos ap2]; rfl
  have sz2 : szF [[foldN 1], [foldN 2]] = 34 := by rw [szF_cons, szF_one, foldN_len1, foldN_len2]
  have AP1 := hid ap1
  have AF1 := hid af1
  have AP2 := hid ap2
  have AF2 := hid af2
  have SZ1 := hid sz1
  have SZ2 := hid sz2
  clear hL ap1 af1 sz1 ap2 af2 sz2
  go_enter Tryd.func6, Tryd.ntmps6
  go_wp2_with fail
  refine (new_ok 500 (by decide)).mono ?_
  rintro e w1 ⟨rfl, b1, v1, hf1⟩
  obtain ⟨B, hB⟩ : ∃ B, w.heap.size = B := ⟨_, rfl⟩
  have HB := hid hB
  rw [hB] at b1 hf1 ⊢
  have B1 := hid b1
  have F1 := hid hf1
  have S1 : Hid (B ≤ w1.heap.size) := hid (by have := hf1.lt; omega)
  clear b1 hf1 hB
  go_wp2_with fail
  refine (format_any F1.out (HL.out.low B1.out (by have := H2.out; have := HB.out; omega)) S1.out 3 (by decide) (by decide)).mono ?_
  rintro e w2 h2
  rcases h2 with ⟨hbad, _⟩ | ⟨_, lb, fv2, rfl, hlo2, hx2⟩
  · exact absurd hbad (by decide)
  have L2 := hid hlo2
  have B2 : Hid (Below B w w2) := hid (B1.out.trans (hx2.below (fun k hk => by
    rcases hk with rfl | hk
    · exact F1.out.2.1
    · exact (F1.out.own.lt k hk).1) S1.out))
  have S2 : Hid (B ≤ w2.heap.size) := hid (Nat.le_trans S1.out hx2.size)
  clear hlo2 hx2
  go_wp2_with fail
  refine (foldn_any 1 w2).mono ?_
  rintro e w3 ⟨rfl, b3⟩
  have L3 := hid (L2.out.below b3)
  have B3 := hid (B2.out.trans (b3.mono S2.out))
  have S3 : Hid (B ≤ w3.heap.size) := hid (Nat.le_trans S2.out b3.size)
  clear b3
  have HA3 := hid (ba w3 (opo (foldN 1) (.slice none 0 0)))
  have Q3 := hid (Oq.one L3.out.lg (foldN 1) (.slice none 0 0) rfl (Cs.nil _))
  have S3' : Hid (B ≤ (w3.alloc (opo (foldN 1) (.slice none 0 0))).heap.size) := hid (Nat.le_trans S3.out HA3.out.size)
  have B3' := hid (B3.out.trans (HA3.out.mono S3.out))
  go_wp2_with (first | (refine wpList_ops1 rfl _ rfl (foldN 1) (.slice none 0 0) rfl ?_) | fail)
  refine (lappend_any (L3.out.below HA3.out) (HL.out.low B3'.out (by have := H2.out; have := HB.out; omega)) S3'.out Q3.out (fun p hp => by rw [List.mem_singleton.1 hp]; exact foldN_fine 1) (by show 1 ≤ _; decide)).mono ?_
  rintro e w4 ⟨rfl, fv4, vo4, ve4, l4, hlo4, hx4, _⟩
  rw [show fsts [(foldN 1, Value.slice none 0 0)] = [foldN 1] from rfl, AF1.out] at hlo4
  rw [show fsts [(foldN 1, Value.slice none 0 0)] = [foldN 1] from rfl, AP1.out]
  have L4 := hid hlo4
  have B4 := hid (B3'.out.trans ((L3.out.below HA3.out).lg.fr hx4 S3'.out))
  have S4 : Hid (B ≤ w4.heap.size) := hid (Nat.le_trans S3'.out hx4.size)
  clear hlo4 hx4
  go_wp2_with fail
  refine (lo_sync L4.out).mono ?_
  rintro e w5 ⟨rfl, fv5, vo5, ve5, l5, hlo5, hx5, _⟩
  have L5 := hid hlo5
  have B5 := hid (B4.out.trans (L4.out.lg.fr hx5 S4.out))
  have S5 : Hid (B ≤ w5.heap.size) := hid (Nat.le_trans S4.out hx5.size)
  clear hlo5 hx5
  go_wp2_with fail
  refine (foldn_any 2 w5).mono ?_
  rintro e w6 ⟨rfl, b6⟩
  have L6 := hid (L5.out.below b6)
  have B6 := hid (B5.out.trans (b6.mono S5.out))
  have S6 : Hid (B ≤ w6.heap.size) := hid (Nat.le_trans S5.out b6.size)
  clear b6
  have HA6 := hid (ba w6 (opo (foldN 2) (.slice none 0 0)))
  have Q6 := hid (Oq.one L6.out.lg (foldN 2) (.slice none 0 0) rfl (Cs.nil _))
  have S6' : Hid (B ≤ (w6.alloc (opo (foldN 2) (.slice none 0 0))).heap.size) := hid (Nat.le_trans S6.out HA6.out.size)
  have B6' := hid (B6.out.trans (HA6.out.mono S6.out))
  go_wp2_with (first | (refine wpList_ops1 rfl _ rfl (foldN 2) (.slice none 0 0) rfl ?_) | fail)
  refine (lappend_any (L6.out.below HA6.out) (HL.out.low B6'.out (by have := H2.out; have := HB.out; omega)) S6'.out Q6.out (fun p hp => by rw [List.mem_singleton.1 hp]; exact foldN_fine 2) (by show 1 ≤ _; decide)).mono ?_
  rintro e w7 ⟨rfl, fv7, vo7, ve7, l7, hlo7, hx7, _⟩
  rw [show fsts [(foldN 2, Value.slice none 0 0)] = [foldN 2] from rfl, AF2.out] at hlo7
  rw [show fsts [(foldN 2, Value.slice none 0 0)] = [foldN 2] from rfl, AP2.out]
  have hn27 : (lby 3 [[foldN 1]]).length = 27 := by rw [lby_len (by decide) (by decide), SZ1.out]
  rw [hn27] at hlo7
  have L7 := hid hlo7
  have B7 := hid (B6'.out.trans ((L6.out.below HA6.out).lg.fr hx7 S6'.out))
  have S7 : Hid (B ≤ w7.heap.size) := hid (Nat.le_trans S6'.out hx7.size)
  clear hlo7 hx7 hn27
  go_wp2_with fail
  refine (lo_count L7.out).mono ?_
  rintro e w8 ⟨rfl, b8⟩
  rw [show (([[foldN 1], [foldN 2]].flatten.length : Nat) : Int) = 2 from rfl]
  have L8 := hid (L7.out.below b8)
  have B8 := hid (B7.out.trans (b8.mono S7.out))
  have S8 : Hid (B ≤ w8.heap.size) := hid (Nat.le_trans S7.out b8.size)
  clear b8
  go_wp2_with fail
  refine (lo_synced L8.out).mono ?_
  rintro e w9 ⟨rfl, b9⟩
  have hsy : syF [[foldN 1], [foldN 2]] 27 = 1 := by
    have := syF_at (Fs := [[foldN 1], [foldN 2]]) 1 (by decide) L8.out.good
    rw [show [[foldN 1], [foldN 2]].take 1 = [[foldN 1]] from rfl, SZ1.out] at this
    exact this
  rw [hsy]
  have L9 := hid (L8.out.below b9)
  have B9 := hid (B8.out.trans (b9.mono S8.out))
  have S9 : Hid (B ≤ w9.heap.size) := hid (Nat.le_trans S8.out b9.size)
  clear b9 hsy
  go_wp2_with fail
  refine (lo_crash L9.out 5).mono ?_
  rintro e w10 ⟨rfl, fv10, hf10, hx10⟩
  have hall : (lby 3 [[foldN 1], [foldN 2]]).length = 44 := by rw [lby_len (by decide) (by decide), SZ2.out]
  have hlf : left 5 (lby 3 [[foldN 1], [foldN 2]]) 27 = 32 := by unfold left; rw [hall]; rfl
  rw [hlf] at hf10
  obtain ⟨k, ys, hk, hk1, hk2, _, _, htl⟩ := Tl.cut L9.out.good (r := 3) (by decide) (by decide) 32 (by decide) (by rw [hall]; decide)
  have hk1' : k = 1 := by
    have : k = 0 ∨ k = 1 ∨ k = 2 := by simp at hk; omega
    rcases this with rfl | rfl | rfl
    · have := hk2 (by decide)
      rw [show [[foldN 1], [foldN 2]].take (0 + 1) = [[foldN 1]] from rfl, SZ1.out] at this
      omega
    · rfl
    · rw [show [[foldN 1], [foldN 2]].take 2 = [[foldN 1], [foldN 2]] from rfl, SZ2.out] at hk1
      omega
  subst hk1'
  rw [show [[foldN 1], [foldN 2]].take 1 = [[foldN 1]] from rfl] at htl
  have TL := hid htl
  have F10 := hid hf10
  have B10 : Hid (Below B w w10) := hid (B9.out.trans (hx10.below (fun k hk => by
    rcases hk with rfl | hk
    · exact L9.out.lg.fi.2.1
    · exact (L9.out.lg.fi.own.lt k hk).1) S9.out))
  have S10 : Hid (B ≤ w10.heap.size) := hid (Nat.le_trans S9.out hx10.size)
  clear hf10 hx10 hall hlf hk hk1 hk2 htl
  go_wp2_with fail
  refine (open_any F10.out (HL.out.low B10.out (by have := H2.out; have := HB.out; omega)) S10.out (by have := H2.out; have := HB.out; omega)).mono ?_
  rintro e w11 h11
  rcases h11 with ⟨hbad, _⟩ | ⟨r, Fs, lb11, vo11, ve11, fv11, l11, v11, q11, htl, rfl, hlo11, hq11, hfs11, hn11, hx11⟩
  · have := Tl.det hbad TL.out; cases this
  have hsome := Tl.det htl TL.out
  simp only [Option.some.injEq, Prod.mk.injEq] at hsome
  obtain ⟨rfl, rfl⟩ := hsome
  obtain ⟨u, rfl⟩ := one_of hfs11
  have Q11 := hid hq11.os
  obtain ⟨ob, off, cp, rfl, hcp, hcm, hob, hcell⟩ := hq11.os.inv (Nat.succ_pos _)
  have HC : Hid (∀ j, j < 20 → w11.cell? ⟨ob, off + 0 * 20 + j, none⟩ = (opl (foldN 1) u)[j]?) := hid (fun j hj => hcell 0 (Nat.succ_pos _) j hj)
  have HOB := hid hob
  have L11 := hid hlo11
  have B11 : Hid (Below B w w11) := hid (B10.out.trans (hx11.below (fun k hk => by
    rcases hk with rfl | hk
    · exact F10.out.2.1
    · exact (F10.out.own.lt k hk).1) S10.out))
  have CU : Hid (Cs w11 u []) := hid (hq11.os.2 (foldN 1, u) (by simp))
  have S11 : Hid (B ≤ w11.heap.size) := hid (Nat.le_trans S10.out hx11.size)
  clear htl hlo11 hq11 hfs11 hn11 hx11 hcell hob
  go_wp2_with fail
  refine galive_last w11 lb11 ob off cp (opv (foldN 1) (.slice none 0 0)) (opv (foldN 1) u) (fun W hW _ _ _ h1 h2 => run_load_opat h1 h2 (fun i hi => by have h := HC.out i hi; rw [Nat.zero_mul, Nat.add_zero] at h; exact (hW.cell HOB.out).trans h)) (foldn_any 1)
    (fun W hW => (sameop_any (foldN 1) (foldN 1) u (.slice none 0 0) W (CU.out.below hW) (Cs.nil _)).mono fun _ _ ⟨r, h1, h2, h3⟩ => ⟨by rw [h1, h2.2 rfl], h3⟩)
    (fun W hW => replica_any (L11.out.below hW).lg) (fun W hW => ?_)
  have HB12 := hid (B11.out.trans (hW.mono S11.out))
  go_wp2_with fail
  go_ret
  exact ⟨rfl, by rw [HB.out]; exact HB12.out⟩
end Go.Proofs.YteckjkblngmenaaDoor

/-
  Lists of lists of ops that came in ('Oss'); what Long answers for any list; a row of ops, and one of numbers, that a law itself gathers beside a log ('Al', 'Zl').
-/
namespace Go.Proofs.YteckjkblngmenaaDoor
open Go.RowKit
set_option linter.unusedVariables false
set_option maxRecDepth 100000

def longB (l : List (Opn × Value)) (most : Nat) : Bool := decide (most < l.length) || !l.all (fun p => small p.1)
set_option maxHeartbeats 1000000 in
theorem long_all (v : Value) (l : List (Opn × Value)) (most : Nat) (w : World) (h : Os w v l) (hm : most ≤ 1000) :
    Calls Tryd.prog 10 #[v, .int .i64 most] w fun e w' => e = .returned (.bool (longB l most)) ∧ w = w' := by
  by_cases hl : most < l.length
  · have e : longB l most = true := by unfold longB; simp [hl]
    rw [e]
    obtain ⟨a, c, rfl, _, _⟩ := Sl.form h.1
    obtain ⟨n, hn⟩ : ∃ n, l.length = n := ⟨_, rfl⟩
    rw [hn] at hl ⊢
    have hd : (most : Int) < (n : Int) := by omega
    clear h hn e
    go_enter Tryd.func10, Tryd.ntmps10
    go_wp2
    go_ret
    exact ⟨rfl, rfl⟩
  · have e : longB l most = !l.all (fun p => small p.1) := by unfold longB; simp [hl]
    rw [e]
    exact long_any v l most w h (by omega) hm
theorem longB_no {l : List (Opn × Value)} {most : Nat} (h : longB l most = false) : l.length ≤ most ∧ ∀ p ∈ l, p.1.fine ∧ p.1.cuts.length ≤ 40 := by
  unfold longB at h
  simp at h
  refine ⟨h.1, fun p hp => ?_⟩
  exact small_fine (h.2 p.1 p.2 hp)

def Oss (w : World) (v : Value) (ls : List (List (Opn × Value))) : Prop := ∃ us : List Value, us.length = ls.length ∧ Sl 1 w v ls.length us ∧ ∀ i (h : i < ls.length) (k : i < us.length), Os w (us[i]) (ls[i])
theorem Oss.below {w w' : World} {v : Value} {ls : List (List (Opn × Value))} (h : Oss w v ls) (hb : Below w.heap.size w w') : Oss w' v ls := by
  obtain ⟨us, h1, h2, h3⟩ := h
  exact ⟨us, h1, h2.below hb, fun i hi k => (h3 i hi k).later hb⟩
theorem Oss.form {w : World} {v : Value} {ls : List (List (Opn × Value))} (h : Oss w v ls) : ∃ a c, v = .slice a ls.length c ∧ ls.length ≤ c ∧ c ≤ maxLen := by
  obtain ⟨us, h1, h2, h3⟩ := h
  exact h2.form
/-- The list at a place. -/
theorem Oss.at {w : World} {v : Value} {ls : List (List (Opn × Value))} (h : Oss w v ls) {i : Nat} (hi : i < ls.length) : ∃ b off c u, v = .slice (some ⟨b, off, none⟩) ls.length c ∧ b < w.heap.size ∧ w.cell? ⟨b, off + i, none⟩ = some u ∧ Os w u (ls[i]) := by
  obtain ⟨us, h1, h2, h3⟩ := h
  obtain ⟨b, off, c, e, _, _, hb, hc⟩ := h2.inv (by omega) (by decide)
  have hk : i < us.length := by omega
  exact ⟨b, off, c, us[i], e, hb, hc i _ (List.getElem?_eq_getElem hk), h3 i hi hk⟩
/-- A list that came in, beside a log that was made since. -/
theorem Oq.old {B : Nat} {w w' : World} {lb fb : Nat} {fv vo ve u : Value} {xs : List Int} {n R : Nat} {r : Int} {l q : List (Opn × Value)} {es : List (Nat × Nat)} (h : Lg B w' lb fb fv vo ve xs n R r l es) (hB : w.heap.size ≤ B) (ho : Os w u q) (hb : Below w.heap.size w w') :
    Oq (Ft lb fb fv vo ve) w' u q := by
  refine ⟨ho.later hb, ?_, fun p hp => ⟨(ho.2 p hp).below hb, ?_⟩⟩
  · by_cases hq : q = []
    · exact .inl hq
    · refine .inr (fun k hk e => ?_)
      obtain ⟨b, off, c, rfl, _, _, hbl, _⟩ := ho.inv (List.length_pos_iff.2 hq)
      simp [Value.ownBlock] at hk
      have := (h.inside e).1
      omega
  · by_cases hc : p.1.cuts = []
    · exact .inl hc
    · refine .inr (fun k hk e => ?_)
      have h1 := (ho.2 p hp).blk hc hk
      have := (h.inside e).1
      omega

/-- A row of numbers of the call's own. -/
abbrev Zl (B : Nat) (w : World) (v : Value) (zs : List Nat) : Prop := w.ownsRow B 3 1 v zs.length (zs.map fun (z : Nat) => Value.int .i64 (z : Int))
theorem Zl.log {B : Nat} {w w' : World} {lb fb : Nat} {fv vo ve : Value} {xs : List Int} {n R : Nat} {r : Int} {l : List (Opn × Value)} {es : List (Nat × Nat)} {S' : Nat → Prop} {v : Value} {zs : List Nat} (h : Lg B w lb fb fv vo ve xs n R r l es) (hz : Zl B w v zs) (x : Lx (Ft lb fb fv vo ve) S' w w') : Zl B w' v zs := by
  refine own_fr hz x.fr (fun k hk e => ?_)
  rcases e with rfl | rfl | e | e | e
  · exact own_far hz h.blk (by decide) hk
  · exact own_far hz h.fi.1 (by decide) hk
  · exact own_two hz h.fi.own (by decide) hk e
  · exact own_two hz h.ro (by decide) hk e
  · exact own_two hz h.re (by decide) hk e
theorem Zl.below {B : Nat} {w w' : World} {v : Value} {zs : List Nat} (hz : Zl B w v zs) (hb : Below w.heap.size w w') : Zl B w' v zs := own_fr hz (Fr.of_below (S := fun _ => False) hb) (fun _ _ e => e)
/-- Where one row is changed, a log beside it stays. -/
theorem Lo.side {B lb fb : Nat} {fv vo ve : Value} {r : Int} {Fs : List (List Opn)} {n R : Nat} {w w' : World} {l : List (Opn × Value)} {S : Nat → Prop} (h : Lo B w lb fb fv vo ve r Fs n R l) (hf : Fr S w w') (hs : ∀ k, S k → ¬ Ft lb fb fv vo ve k)
    (hc : ∀ p ∈ l, p.1.cuts = [] ∨ ∀ k, p.2.ownBlock = some k → ¬ S k) : Lo B w' lb fb fv vo ve r Fs n R l := by
  have hk : ∀ k, Ft lb fb fv vo ve k → w'.heap[k]? = w.heap[k]? := fun k e => hf.block k (h.lg.inside e).2 (fun hk => hs k hk e)
  refine ⟨⟨(hk lb (.inl rfl)).trans h.lg.blk, h.lg.base, h.lg.fi.of_block (fun k e => hk k (e.elim (fun e => .inr (.inl e)) (fun e => .inr (.inr (.inl e))))), own_fr h.lg.ro hf (fun k e e2 => hs k e2 (.inr (.inr (.inr (.inl e))))), own_fr h.lg.re hf (fun k e e2 => hs k e2 (.inr (.inr (.inr (.inr e))))), fun p hp => ?_⟩, h.fl, h.good, h.r0, h.r1, h.ns⟩
  obtain ⟨h1, h2⟩ := h.lg.cu p hp
  refine ⟨?_, h2⟩
  rcases hc p hp with e | e
  · rw [e] at h1 ⊢; exact h1.none
  · exact Sl.kept h1 (fun k hk hlt => hf.block k hlt (e k hk))
end Go.Proofs.YteckjkblngmenaaDoor

/-
  Small ops' bytes; a log's bytes of which one is another, in plain mathematics.
-/
namespace Go.Proofs.YteckjkblngmenaaDoor
open Go.RowKit
set_option linter.unusedVariables false
set_option maxRecDepth 100000

theorem encO_less {o : Opn} (h : rightO o = true) : (encO o).length ≤ 490 := by
  have hr := right_told h
  have s1 := fun n => (M.sz_pos n).2
  have hk := s1 o.k
  have h1 := s1 o.ir
  have h2 := s1 o.im
  have h3 := s1 o.t
  have f0 : (encF o 0).length ≤ 14 := by have := s1 o.br; have := s1 o.bm; simp [encF, en2, M.enc_length]; omega
  have f1 : (encF o 1).length ≤ 14 := by have := s1 o.pr; have := s1 o.pm; simp [encF, en2, M.enc_length]; omega
  have f3 : (encF o 3).length ≤ 14 := by have := s1 o.sr; have := s1 o.sm; simp [encF, en2, M.enc_length]; omega
  have f4 : (encF o 4).length ≤ 21 := by have := s1 o.lr; have := s1 o.lm; have := s1 o.li; simp [encF, en3, M.enc_length]; omega
  have f5 : (encF o 5).length ≤ 21 := by have := s1 o.gr; have := s1 o.gm; have := s1 o.gi; simp [encF, en3, M.enc_length]; omega
  have f8 : (encF o 8).length ≤ 7 := by have := s1 (if o.flag then 1 else 0); simp only [encF, M.enc_length]; omega
  have f2 : 2 ∈ told o.k → (encF o 2).length ≤ 40 := fun hm => by
    have h := hr 2 hm
    have := s1 o.key.size
    simp [rightF, K.right, tx_length] at h
    simp only [encF, encText_length]; omega
  have f6 : 6 ∈ told o.k → (encF o 6).length ≤ 71 := fun hm => by
    have h := hr 6 hm
    have := s1 o.text.size
    simp [rightF] at h
    simp only [encF, encText_length]; omega
  have f7 : 7 ∈ told o.k → (encF o 7).length ≤ 455 := fun hm => by
    have h := hr 7 hm
    have := s1 o.cuts.length
    have := cuts_len o.cuts
    simp [rightF] at h
    simp only [encF, List.length_append, M.enc_length]; omega
  have hne := (right_parts h).1.2.2
  unfold encO
  simp only [List.length_append, M.enc_length]
  rcases six hne with e | e | e | e | e | e
  · have ht : told o.k = [1, 2] := by rw [e]; rfl
    rw [ht] at f2 ⊢
    have := f2 (by decide)
    simp only [List.flatMap_cons, List.flatMap_nil, List.length_append, List.length_nil]; omega
  · have ht : told o.k = [0, 1, 2] := by rw [e]; rfl
    rw [ht] at f2 ⊢
    have := f2 (by decide)
    simp only [List.flatMap_cons, List.flatMap_nil, List.length_append, List.length_nil]; omega
  · have ht : told o.k = [3, 4, 5, 6] := by rw [e]; rfl
    rw [ht] at f6 ⊢
    have := f6 (by decide)
    simp only [List.flatMap_cons, List.flatMap_nil, List.length_append, List.length_nil]; omega
  · have ht : told o.k = [7] := by rw [e]; rfl
    rw [ht] at f7 ⊢
    have := f7 (by decide)
    simp only [List.flatMap_cons, List.flatMap_nil, List.length_append, List.length_nil]; omega
  · have ht : told o.k = [3, 4, 5, 1, 2] := by rw [e]; rfl
    rw [ht] at f2 ⊢
    have := f2 (by decide)
    simp only [List.flatMap_cons, List.flatMap_nil, List.length_append, List.length_nil]; omega
  · have ht : told o.k = [0, 8] := by rw [e]; rfl
    rw [ht]
    simp only [List.flatMap_cons, List.flatMap_nil, List.length_append, List.length_nil]; omega
theorem str_size {l : List Int} (h : K.Byt l) : (M.str l).size = l.length := by rw [← tx_length, tx_str h]
theorem encT_less {o : Opn} (h : rightO o = true) : (encT o).length ≤ 500 := by
  unfold encT
  rw [encText_length, str_size (encO_byt h)]
  have := encO_less h
  have := (M.sz_pos ((encO o).length : Int)).2
  omega
theorem encTs_less : ∀ {f : List Opn}, (∀ o ∈ f, rightO o = true) → (f.flatMap encT).length ≤ 500 * f.length
  | [], _ => Nat.le_refl _
  | o :: f, h => by
    have h1 := encT_less (h o (by simp))
    have h2 := encTs_less (f := f) (fun p hp => h p (by simp [hp]))
    rw [List.flatMap_cons, List.length_append, List.length_cons]
    omega
theorem encA_less {f : List Opn} (h : ∀ o ∈ f, rightO o = true) (hl : f.length ≤ 50) : (encA f).length ≤ 25001 := by
  have := encTs_less h
  unfold encA
  rw [List.length_append, M.enc_length]
  have e : M.sz (f.length : Int) = 1 := by unfold M.sz; rw [if_pos (by omega)]
  omega

/-- Where frames stand. -/
def atF (ls : List (List Int)) (j : Nat) : Nat := (C.cat (ls.take j)).length
theorem atF_zero (ls : List (List Int)) : atF ls 0 = 0 := rfl
theorem atF_succ (ls : List (List Int)) {j : Nat} (h : j < ls.length) : atF ls (j + 1) = atF ls j + 8 + (ls[j]).length := by
  unfold atF
  rw [List.take_succ_eq_append_getElem h, C.cat_snoc, List.length_append, C.frame_length]
  omega
theorem cat_parts (ls : List (List Int)) {j : Nat} (h : j < ls.length) : C.cat ls = C.cat (ls.take j) ++ (C.frame ls[j] ++ C.cat (ls.drop (j + 1))) := by
  rw [← C.cat_cons, ← C.cat_append, List.getElem_cons_drop, List.take_append_drop]
theorem atF_end (ls : List (List Int)) {j : Nat} (h : j < ls.length) : atF ls (j + 1) ≤ (C.cat ls).length := by
  have e := congrArg List.length (cat_parts ls h)
  rw [atF_succ ls h]
  rw [List.length_append, List.length_append, C.frame_length] at e
  unfold atF
  omega
/-- The two low bytes of a frame's length. -/
theorem at_word (ls : List (List Int)) {j : Nat} (h : j < ls.length) (hl : (ls[j]).length < 65536) :
    (C.cat ls).getD (atF ls j) 0 = ((ls[j]).length : Int) % 256 ∧ (C.cat ls).getD (atF ls j + 1) 0 = ((ls[j]).length : Int) / 256 := by
  rw [cat_parts ls h]
  have e0 : (C.cat (ls.take j) ++ (C.frame ls[j] ++ C.cat (ls.drop (j + 1)))).getD (atF ls j) 0 = (C.frame ls[j] ++ C.cat (ls.drop (j + 1))).getD 0 0 := by
    unfold atF
    rw [List.getD_eq_getElem?_getD, List.getElem?_append_right (Nat.le_refl _), Nat.sub_self, ← List.getD_eq_getElem?_getD]
  have e1 : (C.cat (ls.take j) ++ (C.frame ls[j] ++ C.cat (ls.drop (j + 1)))).getD (atF ls j + 1) 0 = (C.frame ls[j] ++ C.cat (ls.drop (j + 1))).getD 1 0 := by
    unfold atF
    rw [List.getD_eq_getElem?_getD, List.getElem?_append_right (Nat.le_succ _), show (C.cat (ls.take j)).length.succ - (C.cat (ls.take j)).length = 1 by omega, ← List.getD_eq_getElem?_getD]
  rw [e0, e1]
  refine ⟨rfl, ?_⟩
  show ((ls[j]).length : Int) / 256 % 256 = _
  omega
theorem wh_app {xs : List Int} (h : C.wh xs = 2) (r : List Int) : C.wh (xs ++ r) = 2 := by
  have h8 : 8 ≤ xs.length := by
    unfold C.wh at h
    split at h
    · cases h
    · omega
  have hg : ∀ i, i < 8 → (xs ++ r).getD i 0 = xs.getD i 0 := fun i hi => by
    rw [List.getD_eq_getElem?_getD, List.getElem?_append_left (by omega), ← List.getD_eq_getElem?_getD]
  have hwi : C.wi (xs ++ r) = C.wi xs := by
    unfold C.wi
    rw [hg 0 (by decide), hg 1 (by decide), hg 2 (by decide), hg 3 (by decide)]
  have hwd : C.wd (xs ++ r) = C.wd xs := by unfold C.wd; rw [hwi]
  have hwd4 : C.wd ((xs ++ r).drop 4) = C.wd (xs.drop 4) := by
    unfold C.wd C.wi
    simp only [List.getD_eq_getElem?_getD, List.getElem?_drop]
    have hq : ∀ i, i < 8 → ((xs ++ r)[i]?).getD 0 = (xs[i]?).getD 0 := fun i hi => by rw [List.getElem?_append_left (by omega)]
    rw [hq (4 + 0) (by decide), hq (4 + 1) (by decide), hq (4 + 2) (by decide), hq (4 + 3) (by decide)]
  unfold C.wh at h ⊢
  rw [if_neg (by omega)] at h
  rw [if_neg (by rw [List.length_append]; omega), hwd]
  by_cases h1 : 65536 < C.wd xs
  · rw [if_pos h1]
  · rw [if_neg h1] at h ⊢
    by_cases h2 : xs.length - 8 < C.wd xs
    · rw [if_pos h2] at h; cases h
    · rw [if_neg h2] at h
      rw [if_neg (by rw [List.length_append]; omega)]
      have hbd : C.bd (xs ++ r) = C.bd xs := by
        unfold C.bd
        rw [hwd, List.drop_append_of_le_length h8, List.take_append_of_le_length (by rw [List.length_drop]; omega)]
      rw [hbd, hwd4]
      exact h
/-- A log's bytes of which one behind a frame's first four is another tell no log. -/
theorem tl_flip {r : Int} {Fs : List (List Opn)} (hg : Good Fs) (h0 : 0 ≤ r) (h1 : r ≤ 15) {j k : Nat} (hj : j < (fb0 r :: Fs.map encA).length) (hk4 : 4 ≤ k) (hk : k < 8 + ((fb0 r :: Fs.map encA)[j]).length) {x : Int} (hx : 0 ≤ x ∧ x < 256)
    (hne : x ≠ (lby r Fs).getD (atF (fb0 r :: Fs.map encA) j + k) 0) : Tl ((lby r Fs).set (atF (fb0 r :: Fs.map encA) j + k) x) none := by
  have hb := hg.bodies h0 h1
  obtain ⟨ls, hls⟩ : ∃ ls, fb0 r :: Fs.map encA = ls := ⟨_, rfl⟩
  have hlb : lby r Fs = C.cat ls := by rw [← hls]; rfl
  have hmem := hb (fb0 r :: Fs.map encA)[j] (List.getElem_mem hj)
  have hset : (lby r Fs).set (atF (fb0 r :: Fs.map encA) j + k) x = C.cat (ls.take j) ++ ((C.frame (fb0 r :: Fs.map encA)[j]).set k x ++ C.cat (ls.drop (j + 1))) := by
    rw [hlb, cat_parts ls (by rw [← hls]; exact hj)]
    simp only [hls]
    unfold atF
    rw [List.set_append_right _ _ (Nat.le_add_right _ _), Nat.add_sub_cancel_left, List.set_append_left _ _ (by rw [C.frame_length]; simp only [hls] at hk; exact hk)]
  have hget : (lby r Fs).getD (atF (fb0 r :: Fs.map encA) j + k) 0 = (C.frame (fb0 r :: Fs.map encA)[j]).getD k 0 := by
    rw [hlb, cat_parts ls (by rw [← hls]; exact hj)]
    simp only [hls]
    unfold atF
    rw [List.getD_eq_getElem?_getD, List.getElem?_append_right (Nat.le_add_right _ _), Nat.add_sub_cancel_left, List.getElem?_append_left (by rw [C.frame_length]; simp only [hls] at hk; exact hk), ← List.getD_eq_getElem?_getD]
  rw [hget] at hne
  have hw := wh_app (C.wh_other _ k x hmem.1 hmem.2 hk4 hk hx hne) (C.cat (ls.drop (j + 1)))
  rw [hset]
  cases j with
  | zero =>
    refine .inl ?_
    rw [List.take_zero, show C.cat [] = [] from rfl, List.nil_append, hw]
    decide
  | succ j =>
    have e : C.cat (ls.take (j + 1)) = lby r (Fs.take j) := by rw [← hls, List.take_succ_cons, ← List.map_take]; rfl
    rw [e]
    have := Tl.of (hg.take j) h0 h1 (Og.bad hw)
    simpa using this
end Go.Proofs.YteckjkblngmenaaDoor
