/-
  Parts of the proof, one behind the other; what each proves stands at its head.
-/
import Derived.Test.YtmgemgkanlpnnaaDoorPart12
import Derived.Test.YtmgemgkanlpnnaaDoorPart11
import Derived.Test.YtmgemgkanlpnnaaDoorPart10
import Derived.Test.YtmgemgkanlpnnaaDoorCards
import Derived.Test.YtmgemgkanlpnnaaDoorTie
import Derived.Test.YtmgemgkanlpnnaaDoorPart5
import Derived.Deep.SlicePairs
import Derived.LaidMore
import Derived.Deep.DeepWitnessRowRef
import Derived.SevenTiedAt

/-
  The last region of OpOne, whose order is drawn, where both ops are encoded.
-/
namespace Go.Proofs.YtmgemgkanlpnnaaDoor
open Go.RowKit
set_option linter.unusedVariables false
set_option maxRecDepth 100000

def bp0 : Oper := { dst := some 59, op := Op.move (Operand.tmp 8), type := 4, pos := "law.go:123", after := #[], guard := none }
def bp1 : Oper := { dst := some 60, op := Op.unOp UnOp.not 4 (Operand.tmp 59), type := 4, pos := "law.go:123", after := #[{ on := 0, ground := Ground.data }], guard := none }
def bp2 : Oper := { dst := some 61, op := Op.move (Operand.tmp 60), type := 4, pos := "law.go:123", after := #[{ on := 1, ground := Ground.data }], guard := none }
def bp3 : Oper := { dst := some 62, op := Op.move (Operand.tmp 13), type := 4, pos := "law.go:123", after := #[{ on := 2, ground := Ground.guard }], guard := some (2, false) }
def bp4 : Oper := { dst := some 63, op := Op.unOp UnOp.not 4 (Operand.tmp 62), type := 4, pos := "law.go:123", after := #[{ on := 3, ground := Ground.data }, { on := 2, ground := Ground.guard }], guard := some (2, false) }
def bp5 : Oper := { dst := some 64, op := Op.pick (Operand.tmp 61) (Operand.const (Value.bool true)) (Operand.tmp 63), type := 4, pos := "law.go:123", after := #[{ on := 2, ground := Ground.data }, { on := 4, ground := Ground.data }], guard := none }
def bp6 : Oper := { dst := some 65, op := Op.move (Operand.tmp 64), type := 4, pos := "law.go:123", after := #[{ on := 5, ground := Ground.data }, { on := 2, ground := Ground.chain }], guard := none }
def bp7 : Oper := { dst := some 66, op := Op.move (Operand.tmp 11), type := 22, pos := "law.go:123", after := #[{ on := 6, ground := Ground.guard }], guard := some (6, false) }
def bp8 : Oper := { dst := some 67, op := Op.move (Operand.tmp 12), type := 22, pos := "law.go:123", after := #[{ on := 6, ground := Ground.guard }], guard := some (6, false) }
def bp9 : Oper := { dst := some 68, op := Op.call { callee := Callee.value (Operand.func 18), args := #[Operand.tmp 66, Operand.tmp 67], argTypes := #[22, 22] }, type := 4, pos := "law.go:123", after := #[{ on := 7, ground := Ground.data }, { on := 8, ground := Ground.data }, { on := 6, ground := Ground.chain }, { on := 6, ground := Ground.guard }], guard := some (6, false) }
def bp10 : Oper := { dst := some 69, op := Op.load 30 (Operand.tmp 4), type := 30, pos := "law.go:123", after := #[{ on := 6, ground := Ground.guard }], guard := some (6, false) }
def bp11 : Oper := { dst := some 70, op := Op.load 30 (Operand.tmp 5), type := 30, pos := "law.go:123", after := #[{ on := 6, ground := Ground.guard }], guard := some (6, false) }
def bp12 : Oper := { dst := some 71, op := Op.call { callee := Callee.value (Operand.func 22), args := #[Operand.tmp 69, Operand.tmp 70], argTypes := #[30, 30] }, type := 4, pos := "law.go:123", after := #[{ on := 10, ground := Ground.data }, { on := 11, ground := Ground.data }, { on := 9, ground := Ground.chain }, { on := 6, ground := Ground.guard }], guard := some (6, false) }
def bp13 : Oper := { dst := some 72, op := Op.binOp BinOp.eql 4 (Operand.tmp 68) (Operand.tmp 71) 4, type := 4, pos := "law.go:123", after := #[{ on := 9, ground := Ground.data }, { on := 12, ground := Ground.data }, { on := 6, ground := Ground.guard }], guard := some (6, false) }
def bp14 : Oper := { dst := some 73, op := Op.pick (Operand.tmp 65) (Operand.const (Value.bool true)) (Operand.tmp 72), type := 4, pos := "law.go:123", after := #[{ on := 6, ground := Ground.data }, { on := 13, ground := Ground.data }], guard := none }
def bp15 : Oper := { dst := some 6, op := Op.assign (Operand.tmp 73), type := 4, pos := "law.go:123", after := #[{ on := 14, ground := Ground.data }, { on := 12, ground := Ground.chain }, { on := 0, ground := Ground.phase }, { on := 1, ground := Ground.phase }, { on := 2, ground := Ground.phase }, { on := 3, ground := Ground.phase }, { on := 4, ground := Ground.phase }, { on := 5, ground := Ground.phase }, { on := 6, ground := Ground.phase }, { on := 7, ground := Ground.phase }, { on := 8, ground := Ground.phase }, { on := 9, ground := Ground.phase }, { on := 10, ground := Ground.phase }, { on := 11, ground := Ground.phase }, { on := 12, ground := Ground.phase }, { on := 13, ground := Ground.phase }, { on := 14, ground := Ground.phase }], guard := none }
def bps : Array Oper := #[bp0, bp1, bp2, bp3, bp4, bp5, bp6, bp7, bp8, bp9, bp10, bp11, bp12, bp13, bp14, bp15]
theorem bp_lex : Region.lexB .any bps = true := by kernel_rfl

theorem one_last (w : World) (ob pb : Nat) (o : Opn) (v : Value) (p : Opn) (u : Value) (vy vz : Value) (b : Bool) {x0 x1 x2 x3 x6 x7 x9 x10 x14 x15 x16 x17 x18 x19 x20 x21 x22 x23 x24 x25 x26 x27 x28 x29 x30 x31 x32 x33 x34 x35 x36 x37 x38 x39 x40 x41 x42 x43 x44 x45 x46 x47 x48 x49 x50 x51 x52 x53 x54 x55 x56 x57 x58 x59 x60 x61 x62 x63 x64 x65 x66 x67 x68 x69 x70 x71 x72 x73 : Value} {Q : Exit → Act → World → Prop} (hO : Ob w ob o v) (hP : Ob w pb p u)
    (hSB : ∀ W, Below w.heap.size w W → Calls Tryd.prog 18 #[vy, vz] W fun e w' => e = .returned (.bool b) ∧ Below W.heap.size W w')
    (hSM : ∀ W, Below w.heap.size w W → Calls Tryd.prog 22 #[opv o v, opv p u] W fun e w' => e = .returned (.bool b) ∧ Below W.heap.size W w')
    (hQ : ∀ W, Below w.heap.size w W → Q .normal { tmps := #[x0, x1, x2, x3, .pointer (some ⟨ob, 0, none⟩), .pointer (some ⟨pb, 0, none⟩), .bool true, x7, .bool true, x9, x10, vy, vz, .bool true, x14, x15, x16, x17, x18, x19, x20, x21, x22, x23, x24, x25, x26, x27, x28, x29, x30, x31, x32, x33, x34, x35, x36, x37, x38, x39, x40, x41, x42, x43, x44, x45, x46, x47, x48, x49, x50, x51, x52, x53, x54, x55, x56, x57, x58, .bool true, .bool false, .bool false, .bool true, .bool false, .bool false, .bool false, vy, vz, .bool b, opv o v, opv p u, .bool b, .bool true, .bool true], defers := [] } W) : (Code.region 12 bps true).wp Tryd.prog Q { tmps := #[x0, x1, x2, x3, .pointer (some ⟨ob, 0, none⟩), .pointer (some ⟨pb, 0, none⟩), x6, x7, .bool true, x9, x10, vy, vz, .bool true, x14, x15, x16, x17, x18, x19, x20, x21, x22, x23, x24, x25, x26, x27, x28, x29, x30, x31, x32, x33, x34, x35, x36, x37, x38, x39, x40, x41, x42, x43, x44, x45, x46, x47, x48, x49, x50, x51, x52, x53, x54, x55, x56, x57, x58, x59, x60, x61, x62, x63, x64, x65, x66, x67, x68, x69, x70, x71, x72, x73], defers := [] } w := by
  refine wp_region_quiet (C := fun W => Below w.heap.size w W) (by kernel_rfl) bp_lex (Below.refl _ _).drew ?_
  change wpQuiet _ _ _ _ [bp0, bp1, bp2, bp3, bp4, bp5, bp6, bp7, bp8, bp9, bp10, bp11, bp12, bp13, bp14, bp15] _
  refine qs_val (.bool true) { tmps := #[x0, x1, x2, x3, .pointer (some ⟨ob, 0, none⟩), .pointer (some ⟨pb, 0, none⟩), x6, x7, .bool true, x9, x10, vy, vz, .bool true, x14, x15, x16, x17, x18, x19, x20, x21, x22, x23, x24, x25, x26, x27, x28, x29, x30, x31, x32, x33, x34, x35, x36, x37, x38, x39, x40, x41, x42, x43, x44, x45, x46, x47, x48, x49, x50, x51, x52, x53, x54, x55, x56, x57, x58, .bool true, x60, x61, x62, x63, x64, x65, x66, x67, x68, x69, x70, x71, x72, x73], defers := [] } (by kernel_rfl) (fun W hW => by kernel_rfl) (by kernel_rfl) ?_
  refine qs_val (.bool false) { tmps := #[x0, x1, x2, x3, .pointer (some ⟨ob, 0, none⟩), .pointer (some ⟨pb, 0, none⟩), x6, x7, .bool true, x9, x10, vy, vz, .bool true, x14, x15, x16, x17, x18, x19, x20, x21, x22, x23, x24, x25, x26, x27, x28, x29, x30, x31, x32, x33, x34, x35, x36, x37, x38, x39, x40, x41, x42, x43, x44, x45, x46, x47, x48, x49, x50, x51, x52, x53, x54, x55, x56, x57, x58, .bool true, .bool false, x61, x62, x63, x64, x65, x66, x67, x68, x69, x70, x71, x72, x73], defers := [] } (by kernel_rfl) (fun W hW => by kernel_rfl) (by kernel_rfl) ?_
  refine qs_val (.bool false) { tmps := #[x0, x1, x2, x3, .pointer (some ⟨ob, 0, none⟩), .pointer (some ⟨pb, 0, none⟩), x6, x7, .bool true, x9, x10, vy, vz, .bool true, x14, x15, x16, x17, x18, x19, x20, x21, x22, x23, x24, x25, x26, x27, x28, x29, x30, x31, x32, x33, x34, x35, x36, x37, x38, x39, x40, x41, x42, x43, x44, x45, x46, x47, x48, x49, x50, x51, x52, x53, x54, x55, x56, x57, x58, .bool true, .bool false, .bool false, x62, x63, x64, x65, x66, x67, x68, x69, x70, x71, x72, x73], defers := [] } (by kernel_rfl) (fun W hW => by kernel_rfl) (by kernel_rfl) ?_
  refine qs_val (.bool true) { tmps := #[x0, x1, x2, x3, .pointer (some ⟨ob, 0, none⟩), .pointer (some ⟨pb, 0, none⟩), x6, x7, .bool true, x9, x10, vy, vz, .bool true, x14, x15, x16, x17, x18, x19, x20, x21, x22, x23, x24, x25, x26, x27, x28, x29, x30, x31, x32, x33, x34, x35, x36, x37, x38, x39, x40, x41, x42, x43, x44, x45, x46, x47, x48, x49, x50, x51, x52, x53, x54, x55, x56, x57, x58, .bool true, .bool false, .bool false, .bool true, x63, x64, x65, x66, x67, x68, x69, x70, x71, x72, x73], defers := [] } (by kernel_rfl) (fun W hW => by kernel_rfl) (by kernel_rfl) ?_
  refine qs_val (.bool false) { tmps := #[x0, x1, x2, x3, .pointer (some ⟨ob, 0, none⟩), .pointer (some ⟨pb, 0, none⟩), x6, x7, .bool true, x9, x10, vy, vz, .bool true, x14, x15, x16, x17, x18, x19, x20, x21, x22, x23, x24, x25, x26, x27, x28, x29, x30, x31, x32, x33, x34, x35, x36, x37, x38, x39, x40, x41, x42, x43, x44, x45, x46, x47, x48, x49, x50, x51, x52, x53, x54, x55, x56, x57, x58, .bool true, .bool false, .bool false, .bool true, .bool false, x64, x65, x66, x67, x68, x69, x70, x71, x72, x73], defers := [] } (by kernel_rfl) (fun W hW => by kernel_rfl) (by kernel_rfl) ?_
  refine qs_val (.bool false) { tmps := #[x0, x1, x2, x3, .pointer (some ⟨ob, 0, none⟩), .pointer (some ⟨pb, 0, none⟩), x6, x7, .bool true, x9, x10, vy, vz, .bool true, x14, x15, x16, x17, x18, x19, x20, x21, x22, x23, x24, x25, x26, x27, x28, x29, x30, x31, x32, x33, x34, x35, x36, x37, x38, x39, x40, x41, x42, x43, x44, x45, x46, x47, x48, x49, x50, x51, x52, x53, x54, x55, x56, x57, x58, .bool true, .bool false, .bool false, .bool true, .bool false, .bool false, x65, x66, x67, x68, x69, x70, x71, x72, x73], defers := [] } (by kernel_rfl) (fun W hW => by kernel_rfl) (by kernel_rfl) ?_
  refine qs_val (.bool false) { tmps := #[x0, x1, x2, x3, .pointer (some ⟨ob, 0, none⟩), .pointer (some ⟨pb, 0, none⟩), x6, x7, .bool true, x9, x10, vy, vz, .bool true, x14, x15, x16, x17, x18, x19, x20, x21, x22, x23, x24, x25, x26, x27, x28, x29, x30, x31, x32, x33, x34, x35, x36, x37, x38, x39, x40, x41, x42, x43, x44, x45, x46, x47, x48, x49, x50, x51, x52, x53, x54, x55, x56, x57, x58, .bool true, .bool false, .bool false, .bool true, .bool false, .bool false, .bool false, x66, x67, x68, x69, x70, x71, x72, x73], defers := [] } (by kernel_rfl) (fun W hW => by kernel_rfl) (by kernel_rfl) ?_
  refine qs_val (vy) { tmps := #[x0, x1, x2, x3, .pointer (some ⟨ob, 0, none⟩), .pointer (some ⟨pb, 0, none⟩), x6, x7, .bool true, x9, x10, vy, vz, .bool true, x14, x15, x16, x17, x18, x19, x20, x21, x22, x23, x24, x25, x26, x27, x28, x29, x30, x31, x32, x33, x34, x35, x36, x37, x38, x39, x40, x41, x42, x43, x44, x45, x46, x47, x48, x49, x50, x51, x52, x53, x54, x55, x56, x57, x58, .bool true, .bool false, .bool false, .bool true, .bool false, .bool false, .bool false, vy, x67, x68, x69, x70, x71, x72, x73], defers := [] } (by kernel_rfl) (fun W hW => by kernel_rfl) (by kernel_rfl) ?_
  refine qs_val (vz) { tmps := #[x0, x1, x2, x3, .pointer (some ⟨ob, 0, none⟩), .pointer (some ⟨pb, 0, none⟩), x6, x7, .bool true, x9, x10, vy, vz, .bool true, x14, x15, x16, x17, x18, x19, x20, x21, x22, x23, x24, x25, x26, x27, x28, x29, x30, x31, x32, x33, x34, x35, x36, x37, x38, x39, x40, x41, x42, x43, x44, x45, x46, x47, x48, x49, x50, x51, x52, x53, x54, x55, x56, x57, x58, .bool true, .bool false, .bool false, .bool true, .bool false, .bool false, .bool false, vy, vz, x68, x69, x70, x71, x72, x73], defers := [] } (by kernel_rfl) (fun W hW => by kernel_rfl) (by kernel_rfl) ?_
  refine qs_call (f := 18) (args := #[vy, vz]) (.bool b) { tmps := #[x0, x1, x2, x3, .pointer (some ⟨ob, 0, none⟩), .pointer (some ⟨pb, 0, none⟩), x6, x7, .bool true, x9, x10, vy, vz, .bool true, x14, x15, x16, x17, x18, x19, x20, x21, x22, x23, x24, x25, x26, x27, x28, x29, x30, x31, x32, x33, x34, x35, x36, x37, x38, x39, x40, x41, x42, x43, x44, x45, x46, x47, x48, x49, x50, x51, x52, x53, x54, x55, x56, x57, x58, .bool true, .bool false, .bool false, .bool true, .bool false, .bool false, .bool false, vy, vz, .bool b, x69, x70, x71, x72, x73], defers := [] } (by kernel_rfl) (fun W => by kernel_rfl) (fun W hW => (hSB W hW).mono fun _ _ h => ⟨h.1, bt hW h.2⟩) (by kernel_rfl) ?_
  refine qs_val (opv o v) { tmps := #[x0, x1, x2, x3, .pointer (some ⟨ob, 0, none⟩), .pointer (some ⟨pb, 0, none⟩), x6, x7, .bool true, x9, x10, vy, vz, .bool true, x14, x15, x16, x17, x18, x19, x20, x21, x22, x23, x24, x25, x26, x27, x28, x29, x30, x31, x32, x33, x34, x35, x36, x37, x38, x39, x40, x41, x42, x43, x44, x45, x46, x47, x48, x49, x50, x51, x52, x53, x54, x55, x56, x57, x58, .bool true, .bool false, .bool false, .bool true, .bool false, .bool false, .bool false, vy, vz, .bool b, opv o v, x70, x71, x72, x73], defers := [] } (by kernel_rfl) (fun W hW => run_load_op rfl rfl (hO.below hW)) (by kernel_rfl) ?_
  refine qs_val (opv p u) { tmps := #[x0, x1, x2, x3, .pointer (some ⟨ob, 0, none⟩), .pointer (some ⟨pb, 0, none⟩), x6, x7, .bool true, x9, x10, vy, vz, .bool true, x14, x15, x16, x17, x18, x19, x20, x21, x22, x23, x24, x25, x26, x27, x28, x29, x30, x31, x32, x33, x34, x35, x36, x37, x38, x39, x40, x41, x42, x43, x44, x45, x46, x47, x48, x49, x50, x51, x52, x53, x54, x55, x56, x57, x58, .bool true, .bool false, .bool false, .bool true, .bool false, .bool false, .bool false, vy, vz, .bool b, opv o v, opv p u, x71, x72, x73], defers := [] } (by kernel_rfl) (fun W hW => run_load_op rfl rfl (hP.below hW)) (by kernel_rfl) ?_
  refine qs_call (f := 22) (args := #[opv o v, opv p u]) (.bool b) { tmps := #[x0, x1, x2, x3, .pointer (some ⟨ob, 0, none⟩), .pointer (some ⟨pb, 0, none⟩), x6, x7, .bool true, x9, x10, vy, vz, .bool true, x14, x15, x16, x17, x18, x19, x20, x21, x22, x23, x24, x25, x26, x27, x28, x29, x30, x31, x32, x33, x34, x35, x36, x37, x38, x39, x40, x41, x42, x43, x44, x45, x46, x47, x48, x49, x50, x51, x52, x53, x54, x55, x56, x57, x58, .bool true, .bool false, .bool false, .bool true, .bool false, .bool false, .bool false, vy, vz, .bool b, opv o v, opv p u, .bool b, x72, x73], defers := [] } (by kernel_rfl) (fun W => by kernel_rfl) (fun W hW => (hSM W hW).mono fun _ _ h => ⟨h.1, bt hW h.2⟩) (by kernel_rfl) ?_
  refine qs_val (.bool true) { tmps := #[x0, x1, x2, x3, .pointer (some ⟨ob, 0, none⟩), .pointer (some ⟨pb, 0, none⟩), x6, x7, .bool true, x9, x10, vy, vz, .bool true, x14, x15, x16, x17, x18, x19, x20, x21, x22, x23, x24, x25, x26, x27, x28, x29, x30, x31, x32, x33, x34, x35, x36, x37, x38, x39, x40, x41, x42, x43, x44, x45, x46, x47, x48, x49, x50, x51, x52, x53, x54, x55, x56, x57, x58, .bool true, .bool false, .bool false, .bool true, .bool false, .bool false, .bool false, vy, vz, .bool b, opv o v, opv p u, .bool b, .bool true, x73], defers := [] } (by kernel_rfl) (fun W hW => by cases b <;> kernel_rfl) (by kernel_rfl) ?_
  refine qs_val (.bool true) { tmps := #[x0, x1, x2, x3, .pointer (some ⟨ob, 0, none⟩), .pointer (some ⟨pb, 0, none⟩), x6, x7, .bool true, x9, x10, vy, vz, .bool true, x14, x15, x16, x17, x18, x19, x20, x21, x22, x23, x24, x25, x26, x27, x28, x29, x30, x31, x32, x33, x34, x35, x36, x37, x38, x39, x40, x41, x42, x43, x44, x45, x46, x47, x48, x49, x50, x51, x52, x53, x54, x55, x56, x57, x58, .bool true, .bool false, .bool false, .bool true, .bool false, .bool false, .bool false, vy, vz, .bool b, opv o v, opv p u, .bool b, .bool true, .bool true], defers := [] } (by kernel_rfl) (fun W hW => by kernel_rfl) (by kernel_rfl) ?_
  refine qs_val (.bool true) { tmps := #[x0, x1, x2, x3, .pointer (some ⟨ob, 0, none⟩), .pointer (some ⟨pb, 0, none⟩), .bool true, x7, .bool true, x9, x10, vy, vz, .bool true, x14, x15, x16, x17, x18, x19, x20, x21, x22, x23, x24, x25, x26, x27, x28, x29, x30, x31, x32, x33, x34, x35, x36, x37, x38, x39, x40, x41, x42, x43, x44, x45, x46, x47, x48, x49, x50, x51, x52, x53, x54, x55, x56, x57, x58, .bool true, .bool false, .bool false, .bool true, .bool false, .bool false, .bool false, vy, vz, .bool b, opv o v, opv p u, .bool b, .bool true, .bool true], defers := [] } (by kernel_rfl) (fun W hW => by kernel_rfl) (by kernel_rfl) ?_
  exact hQ

end Go.Proofs.YtmgemgkanlpnnaaDoor

/-
  OpOne returns true for every bytes and two ops: its walk.
-/
namespace Go.Proofs.YtmgemgkanlpnnaaDoor
open Go.RowKit
set_option linter.unusedVariables false
set_option maxRecDepth 100000

theorem right_fine {o : Opn} (h : rightO o = true) : o.fine := by
  have h2 := (right_parts h).2 2 (by decide)
  have h6 := (right_parts h).2 6 (by decide)
  unfold goodF at h2 h6
  refine ⟨?_, ?_⟩
  · split at h2
    · simp [rightF, K.right, tx_length] at h2; omega
    · have : o.key.size = 0 := of_decide_eq_true h2
      omega
  · split at h6
    · simp [rightF] at h6; omega
    · have : o.text.size = 0 := of_decide_eq_true h6
      omega

set_option maxHeartbeats 8000000 in
theorem one_walk (vb : Value) (xs : List Int) (A : Value) (o : Opn) (v : Value) (hA : A = opv o v) (B : Value) (p : Opn) (u : Value) (hB : B = opv p u) (w : World) (hb : Bs w vb xs) (hC : Cs w v o.cuts) (hD : Cs w u p.cuts) (hL : Lay w) :
    Calls Tryd.prog 6 #[vb, A, B] w fun e w' => e = .returned (.bool true) ∧ Below w.heap.size w w' := by
  obtain ⟨ba0, bc0, rfl⟩ := hb.form
  have HN0 := hid hb.len
  obtain ⟨n, hn⟩ : ∃ n, xs.length = n := ⟨_, rfl⟩
  have HN := hid hn
  rw [hn] at hb HN0 ⊢
  have HAA := hid hA
  have HBB := hid hB
  have HB := hid hb
  have HC := hid hC
  have HD := hid hD
  have HL := hid hL
  clear hA hB hb hC hD hL hn
  go_enter Tryd.func6, Tryd.ntmps6
  go_wp2_with (first | (refine wpList_box_op rfl (.tmp 1) rfl A rfl o v HAA.out ?_; intro w1 hob hb1 hlt1; have HO1 := hid hob; have B1 := hid hb1; clear hob hb1 hlt1) | (refine wpList_box_op rfl (.tmp 2) rfl B rfl p u HBB.out ?_; intro w2 hob hb2 hlt1; have HP2 := hid hob; have B2 := hid hb2; clear hob hb2 hlt1))
  have HO2 := hid (HO1.out.below B2.out)
  have BB2 := hid (bt B1.out B2.out)
  obtain ⟨pb, hpb⟩ : ∃ pb, w1.heap.size = pb := ⟨_, rfl⟩
  rw [hpb] at HP2 ⊢
  clear HO1 B1 B2 hpb
  refine (alive_any w2 (HL.out.below BB2.out)).mono ?_
  rintro e w3 ⟨rfl, b3⟩
  have HO3 := hid (HO2.out.below b3)
  have HP3 := hid (HP2.out.below b3)
  have B3 := hid (bt BB2.out b3)
  have HC3 := hid (HC.out.below B3.out)
  have HD3 := hid (HD.out.below B3.out)
  have HB3 := hid (HB.out.below B3.out)
  clear b3 HO2 HP2 BB2 HC HD HB
  by_cases hlen : n ≤ 3000
  case neg =>
    have h1 : decide ((3000 : Int) < (n : Int)) = true := by simp; omega
    have h2 : decide (3000 < n) = true := by simp; omega
    go_wp2
    go_ret
    exact ⟨rfl, B3.out⟩
  have h1 : decide ((3000 : Int) < (n : Int)) = false := by simp; omega
  have h2 : decide (3000 < n) = false := by simp; omega
  have HA4 := hid (ba w3 (.cells (opl2 o v p u) 30))
  have HL4 := hid (long_any _ [(o, v), (p, u)] 2 _ (Os.two w3 o v p u HC3.out HD3.out) (by simp) (by decide))
  rw [show ([(o, v), (p, u)].all fun p => small p.1) = (small o && small p) from by simp] at HL4
  go_wp2_with (first | (refine wpList_load_opg (by kernel_rfl) (.tmp 4) rfl w.heap.size rfl o v HO3.out ?_) | (refine wpList_load_opg (by kernel_rfl) (.tmp 5) rfl pb rfl p u HP3.out ?_) | (refine wpList_ops2 (by kernel_rfl) _ _ rfl o v p u rfl rfl ?_) | fail)
  refine HL4.out.mono ?_
  rintro e w4 ⟨rfl, rfl⟩
  have HO4 := hid (HO3.out.below HA4.out)
  have HP4 := hid (HP3.out.below HA4.out)
  have B4 := hid (bt B3.out HA4.out)
  have HC4 := hid (HC3.out.below HA4.out)
  have HD4 := hid (HD3.out.below HA4.out)
  have HB4 := hid (HB3.out.below HA4.out)
  obtain ⟨W, hW⟩ : ∃ W, w3.alloc (.cells (opl2 o v p u) 30) = W := ⟨_, rfl⟩
  rw [hW] at HO4 HP4 B4 HC4 HD4 HB4 ⊢
  clear hW HL4 HA4 HO3 HP3 B3 HC3 HD3 HB3
  cases hs : (small o && small p)
  · go_wp2
    go_ret
    exact ⟨rfl, B4.out⟩
  simp only [Bool.and_eq_true] at hs
  have HF := hid (small_fine hs.1).1
  have HG := hid (small_fine hs.2).1
  have HLW := hid (HL.out.below B4.out)
  clear hs
  have HDE := hid (decode_any _ xs W HLW.out HB4.out (by rw [HN.out]; omega))
  have HBY := hid HB4.out.range
  obtain ⟨q, hq⟩ : ∃ q, decO Bnd.own xs = q := ⟨_, rfl⟩
  have HQ : Hid (q.2 = true → rightO q.1 = true ∧ encO q.1 = xs) := hid (fun h => by rw [← hq] at h ⊢; exact decO_sound Bnd.own HBY.out h)
  rw [hq] at HDE
  clear hq
  obtain ⟨q, qb⟩ := q
  dsimp only at HDE HQ
  go_wp2_with fail
  refine HDE.out.mono ?_
  rintro e w5 ⟨vq, rfl, hcq, b5, _⟩
  have hvd : ∃ va n vc, vq = .slice va n vc := by
    obtain ⟨va, vc, e, _⟩ := hcq.form
    exact ⟨va, _, vc, e⟩
  have HVD := hid hvd
  have HA6 := hid (ba w5 (opo q vq))
  have HO6 := hid ((HO4.out.below b5).below HA6.out)
  have HP6 := hid ((HP4.out.below b5).below HA6.out)
  have HQ6 := hid (Ob.new w5 q vq)
  have HC6 := hid ((HC4.out.below b5).below HA6.out)
  have HD6 := hid ((HD4.out.below b5).below HA6.out)
  have HE6 := hid (hcq.below HA6.out)
  have HB6 := hid ((HB4.out.below b5).below HA6.out)
  have B6 := hid (bt (bt B4.out b5) HA6.out)
  have HL6 := hid ((HLW.out.below b5).below HA6.out)
  clear hcq b5 hvd HDE HO4 HP4 HC4 HD4 HB4 B4 HLW
  cases qb
  case false =>
    have HO := hid HO6.out
    have HP := hid HP6.out
    have HCO := hid HC6.out
    have HCP := hid HD6.out
    have HLL := hid HL6.out
    have BB := hid B6.out
    cases ro' : rightO o
    · have HEO := hid (encode_no o v _ HLL.out HCO.out HF.out ro')
      go_wp2_with (first | (refine wpList_store_ops rfl _ _ rfl 0 q vq HVD.out rfl rfl ?_) | (refine wpList_load_op rfl (.tmp 4) rfl w.heap.size rfl o v HO.out ?_) | fail)
      refine HEO.out.mono ?_
      rintro e y1 ⟨rfl, c1⟩
      have HP1 := hid (HP.out.below c1)
      have BB1 := hid (bt BB.out c1)
      have HCP1 := hid (HCP.out.below c1)
      have HLL1 := hid (HLL.out.below c1)
      clear c1 HEO
      cases rp : rightO p
      · have HEP := hid (encode_no p u _ HLL1.out HCP1.out HG.out rp)
        go_wp2_with (first | (refine wpList_load_op rfl (.tmp 5) rfl pb rfl p u HP1.out ?_) | fail)
        refine HEP.out.mono ?_
        rintro e y2 ⟨rfl, c2⟩
        have BB2 := hid (bt BB1.out c2)
        clear c2 HEP
        go_wp2
        go_quiet (fail)
        go_wp2
        go_ret
        exact ⟨rfl, bt BB2.out (bd _ _)⟩
      · have HEP := hid (encode_yes p u _ HLL1.out HCP1.out HG.out rp)
        go_wp2_with (first | (refine wpList_load_op rfl (.tmp 5) rfl pb rfl p u HP1.out ?_) | fail)
        refine HEP.out.mono ?_
        rintro e y2 ⟨vz, rfl, _, c2⟩
        have BB2 := hid (bt BB1.out c2)
        clear c2 HEP
        go_wp2
        go_quiet (fail)
        go_wp2
        go_ret
        exact ⟨rfl, bt BB2.out (bd _ _)⟩
    · have HEO := hid (encode_yes o v _ HLL.out HCO.out HF.out ro')
      go_wp2_with (first | (refine wpList_store_ops rfl _ _ rfl 0 q vq HVD.out rfl rfl ?_) | (refine wpList_load_op rfl (.tmp 4) rfl w.heap.size rfl o v HO.out ?_) | fail)
      refine HEO.out.mono ?_
      rintro e y1 ⟨vy, rfl, howny, c1⟩
      have HY1 := hid (Bs.of_own howny (encO_byt ro'))
      have HO1 := hid (HO.out.below c1)
      have HP1 := hid (HP.out.below c1)
      have BB1 := hid (bt BB.out c1)
      have HCO1 := hid (HCO.out.below c1)
      have HCP1 := hid (HCP.out.below c1)
      have HLL1 := hid (HLL.out.below c1)
      clear c1 HEO howny
      cases rp : rightO p
      · have HEP := hid (encode_no p u _ HLL1.out HCP1.out HG.out rp)
        go_wp2_with (first | (refine wpList_load_op rfl (.tmp 5) rfl pb rfl p u HP1.out ?_) | fail)
        refine HEP.out.mono ?_
        rintro e y2 ⟨rfl, c2⟩
        have BB2 := hid (bt BB1.out c2)
        clear c2 HEP
        go_wp2
        go_quiet (fail)
        go_wp2
        go_ret
        exact ⟨rfl, bt BB2.out (bd _ _)⟩
      · have HEP := hid (encode_yes p u _ HLL1.out HCP1.out HG.out rp)
        go_wp2_with (first | (refine wpList_load_op rfl (.tmp 5) rfl pb rfl p u HP1.out ?_) | fail)
        refine HEP.out.mono ?_
        rintro e y2 ⟨vz, rfl, hownz, c2⟩
        have HZ2 := hid (Bs.of_own hownz (encO_byt rp))
        have HY2 := hid (HY1.out.below c2)
        have HO2 := hid (HO1.out.below c2)
        have HP2 := hid (HP1.out.below c2)
        have HCO2 := hid (HCO1.out.below c2)
        have HCP2 := hid (HCP1.out.below c2)
        have BB2 := hid (bt BB1.out c2)
        obtain ⟨b, hb⟩ : ∃ b : Bool, b = true ↔ o = p := by
          by_cases h : o = p
          · exact ⟨true, by simp [h]⟩
          · exact ⟨false, by simp [h]⟩
        have hbe : decide (encO o = encO p) = b := by
          cases b with
          | true => simp [hb.1 rfl]
          | false =>
            have : ¬ encO o = encO p := fun h => by have := hb.2 (encO_inj ro' rp h); cases this
            simp [this]
        have HBE := hid hbe
        have HBI := hid hb
        clear c2 HEP hownz hbe hb
        go_wp2_with fail
        refine one_last y2 w.heap.size pb o v p u vy vz b HO2.out HP2.out (fun W hW => by rw [← HBE.out]; exact same_b vy vz _ _ W (HY2.out.below hW) (HZ2.out.below hW)) (fun W hW => (same_op o p v u W (HCO2.out.below hW) (HCP2.out.below hW)).mono fun _ _ ⟨r, h1, h2, h3⟩ => ⟨by rw [h1, Bool.eq_iff_iff.2 (h2.trans HBI.out.symm)], h3⟩) (fun W hW => ?_)
        have BB3 := hid (bt BB2.out hW)
        go_wp2_with fail
        go_ret
        exact ⟨rfl, BB3.out⟩
  case true =>
    obtain ⟨rq, eq⟩ := HQ.out rfl
    have HEQ := hid (encode_yes q vq _ HL6.out HE6.out (right_fine rq) rq)
    rw [eq] at HEQ
    have HRQ := hid rq
    clear rq eq
    go_wp2_with (first | (refine wpList_store_ops rfl _ _ rfl 0 q vq HVD.out rfl rfl ?_) | (refine wpList_load_op rfl (.tmp 7) rfl w5.heap.size rfl q vq HQ6.out ?_) | fail)
    refine HEQ.out.mono ?_
    rintro e w7 ⟨va, rfl, hown7, b7⟩
    have HA7 := hid (Bs.of_own hown7 HBY.out)
    have HSB := hid (same_b va _ _ _ w7 HA7.out (HB6.out.below b7))
    rw [show decide (xs = xs) = true from by simp] at HSB
    have HO7 := hid (HO6.out.below b7)
    have HP7 := hid (HP6.out.below b7)
    have HQ7 := hid (HQ6.out.below b7)
    have HC7 := hid (HC6.out.below b7)
    have HD7 := hid (HD6.out.below b7)
    have HE7 := hid (HE6.out.below b7)
    have HL7 := hid (HL6.out.below b7)
    have B7 := hid (bt B6.out b7)
    clear b7 hown7 HEQ
    go_wp2_with fail
    refine HSB.out.mono ?_
    rintro e w8 ⟨rfl, b8⟩
    have HQ8 := hid (HQ7.out.below b8)
    have HRI := hid (right_any q vq w8 (HL7.out.below b8) (HE7.out.below b8) (right_fine HRQ.out))
    rw [HRQ.out] at HRI
    have HO8 := hid (HO7.out.below b8)
    have HP8 := hid (HP7.out.below b8)
    have HC8 := hid (HC7.out.below b8)
    have HD8 := hid (HD7.out.below b8)
    have HL8 := hid (HL7.out.below b8)
    have B8 := hid (bt B7.out b8)
    clear b8 HSB
    go_wp2_with (first | (refine wpList_load_opg (by kernel_rfl) (.tmp 7) rfl w5.heap.size rfl q vq HQ8.out ?_) | fail)
    refine HRI.out.mono ?_
    rintro e w9 ⟨rfl, b9⟩
    have HO := hid (HO8.out.below b9)
    have HP := hid (HP8.out.below b9)
    have HCO := hid (HC8.out.below b9)
    have HCP := hid (HD8.out.below b9)
    have HLL := hid (HL8.out.below b9)
    have BB := hid (bt B8.out b9)
    cases ro' : rightO o
    · have HEO := hid (encode_no o v _ HLL.out HCO.out HF.out ro')
      go_wp2_with (first | (refine wpList_load_op rfl (.tmp 4) rfl w.heap.size rfl o v HO.out ?_) | fail)
      refine HEO.out.mono ?_
      rintro e y1 ⟨rfl, c1⟩
      have HP1 := hid (HP.out.below c1)
      have BB1 := hid (bt BB.out c1)
      have HCP1 := hid (HCP.out.below c1)
      have HLL1 := hid (HLL.out.below c1)
      clear c1 HEO
      cases rp : rightO p
      · have HEP := hid (encode_no p u _ HLL1.out HCP1.out HG.out rp)
        go_wp2_with (first | (refine wpList_load_op rfl (.tmp 5) rfl pb rfl p u HP1.out ?_) | fail)
        refine HEP.out.mono ?_
        rintro e y2 ⟨rfl, c2⟩
        have BB2 := hid (bt BB1.out c2)
        clear c2 HEP
        go_wp2
        go_quiet (fail)
        go_wp2
        go_ret
        exact ⟨rfl, bt BB2.out (bd _ _)⟩
      · have HEP := hid (encode_yes p u _ HLL1.out HCP1.out HG.out rp)
        go_wp2_with (first | (refine wpList_load_op rfl (.tmp 5) rfl pb rfl p u HP1.out ?_) | fail)
        refine HEP.out.mono ?_
        rintro e y2 ⟨vz, rfl, _, c2⟩
        have BB2 := hid (bt BB1.out c2)
        clear c2 HEP
        go_wp2
        go_quiet (fail)
        go_wp2
        go_ret
        exact ⟨rfl, bt BB2.out (bd _ _)⟩
    · have HEO := hid (encode_yes o v _ HLL.out HCO.out HF.out ro')
      go_wp2_with (first | (refine wpList_load_op rfl (.tmp 4) rfl w.heap.size rfl o v HO.out ?_) | fail)
      refine HEO.out.mono ?_
      rintro e y1 ⟨vy, rfl, howny, c1⟩
      have HY1 := hid (Bs.of_own howny (encO_byt ro'))
      have HO1 := hid (HO.out.below c1)
      have HP1 := hid (HP.out.below c1)
      have BB1 := hid (bt BB.out c1)
      have HCO1 := hid (HCO.out.below c1)
      have HCP1 := hid (HCP.out.below c1)
      have HLL1 := hid (HLL.out.below c1)
      clear c1 HEO howny
      cases rp : rightO p
      · have HEP := hid (encode_no p u _ HLL1.out HCP1.out HG.out rp)
        go_wp2_with (first | (refine wpList_load_op rfl (.tmp 5) rfl pb rfl p u HP1.out ?_) | fail)
        refine HEP.out.mono ?_
        rintro e y2 ⟨rfl, c2⟩
        have BB2 := hid (bt BB1.out c2)
        clear c2 HEP
        go_wp2
        go_quiet (fail)
        go_wp2
        go_ret
        exact ⟨rfl, bt BB2.out (bd _ _)⟩
      · have HEP := hid (encode_yes p u _ HLL1.out HCP1.out HG.out rp)
        go_wp2_with (first | (refine wpList_load_op rfl (.tmp 5) rfl pb rfl p u HP1.out ?_) | fail)
        refine HEP.out.mono ?_
        rintro e y2 ⟨vz, rfl, hownz, c2⟩
        have HZ2 := hid (Bs.of_own hownz (encO_byt rp))
        have HY2 := hid (HY1.out.below c2)
        have HO2 := hid (HO1.out.below c2)
        have HP2 := hid (HP1.out.below c2)
        have HCO2 := hid (HCO1.out.below c2)
        have HCP2 := hid (HCP1.out.below c2)
        have BB2 := hid (bt BB1.out c2)
        obtain ⟨b, hb⟩ : ∃ b : Bool, b = true ↔ o = p := by
          by_cases h : o = p
          · exact ⟨true, by simp [h]⟩
          · exact ⟨false, by simp [h]⟩
        have hbe : decide (encO o = encO p) = b := by
          cases b with
          | true => simp [hb.1 rfl]
          | false =>
            have : ¬ encO o = encO p := fun h => by have := hb.2 (encO_inj ro' rp h); cases this
            simp [this]
        have HBE := hid hbe
        have HBI := hid hb
        clear c2 HEP hownz hbe hb
        go_wp2_with fail
        refine one_last y2 w.heap.size pb o v p u vy vz b HO2.out HP2.out (fun W hW => by rw [← HBE.out]; exact same_b vy vz _ _ W (HY2.out.below hW) (HZ2.out.below hW)) (fun W hW => (same_op o p v u W (HCO2.out.below hW) (HCP2.out.below hW)).mono fun _ _ ⟨r, h1, h2, h3⟩ => ⟨by rw [h1, Bool.eq_iff_iff.2 (h2.trans HBI.out.symm)], h3⟩) (fun W hW => ?_)
        have BB3 := hid (bt BB2.out hW)
        go_wp2_with fail
        go_ret
        exact ⟨rfl, BB3.out⟩

end Go.Proofs.YtmgemgkanlpnnaaDoor

/-
  From a walk to the given statement: what the arguments' readings give (ops, rows of ops, bytes), and a world for the witness.
-/
namespace Go.Proofs.YtmgemgkanlpnnaaDoor
open Go.RowKit Go.ChangeShapes Go.WideShapes Go.ChangeAt
set_option linter.unusedVariables false
set_option maxRecDepth 100000

theorem own : ownKnob Tryd.prog.godebug = none := by kernel_rfl
theorem laidOut : laidOutB Tryd.prog = true := by kernel_rfl

theorem Sl.of_rows {sz : Nat} {W : World} {x : Addr} {len cap : Nat} (hs : 0 < sz) (hl : len ≤ cap) (hm : cap ≤ maxLen) (R : Nat → List Value)
    (h : ∀ i, i < len → (R i).length = sz ∧ ∀ j u, (R i)[j]? = some u → W.cell? (x.add (i * sz + j)) = some u) : Sl sz W (.slice (some x) len cap) len ((List.range len).flatMap R) := by
  have hlen : ∀ n, n ≤ len → ((List.range n).flatMap R).length = n * sz := by
    intro n
    induction n with
    | zero => intro _; simp
    | succ n ih => intro hn; rw [List.range_succ, List.flatMap_append, List.length_append, ih (by omega)]; simp [(h n (by omega)).1, Nat.add_mul]
  have hat : ∀ n, n ≤ len → ∀ j u, ((List.range n).flatMap R)[j]? = some u → W.cell? (x.add j) = some u := by
    intro n
    induction n with
    | zero => intro _ j u hj; simp at hj
    | succ n ih =>
      intro hn j u hj
      rw [List.range_succ, List.flatMap_append] at hj
      by_cases hjl : j < n * sz
      · rw [List.getElem?_append_left (by rw [hlen n (by omega)]; exact hjl)] at hj
        exact ih (by omega) j u hj
      · rw [List.getElem?_append_right (by rw [hlen n (by omega)]; omega), hlen n (by omega)] at hj
        simp at hj
        have := (h n (by omega)).2 _ u hj
        rw [show n * sz + (j - n * sz) = j from by omega] at this
        exact this
  refine ⟨hlen len (Nat.le_refl _), some x, cap, rfl, hl, hm, fun h => (by cases h), fun j u hu => ?_⟩
  have h1 := hat len (Nat.le_refl _) j u hu
  have hpos : 0 < len := by
    rcases Nat.eq_zero_or_pos len with e | e
    · subst e; simp at hu
    · exact e
  obtain ⟨b, off, spot⟩ := x
  have hs0 : spot = none := by
    obtain ⟨h0, h0'⟩ := h 0 hpos
    obtain ⟨u0, hu0⟩ : ∃ u0, (R 0)[0]? = some u0 := ⟨_, List.getElem?_eq_getElem (by omega)⟩
    have := World.cell?_spot (h0' 0 u0 hu0)
    simpa [Addr.add] using this
  subst hs0
  rw [Addr.add_lit] at h1
  exact ⟨b, off, rfl, h1⟩

theorem cells_cut : Tryd.prog.cellsOf 71 = 4 := by kernel_rfl
theorem cells_id : Tryd.prog.cellsOf 25 = 2 := by kernel_rfl
theorem cells_char : Tryd.prog.cellsOf 27 = 3 := by kernel_rfl
theorem cells_int : Tryd.prog.cellsOf 3 = 1 := by kernel_rfl
theorem cells_str : Tryd.prog.cellsOf 9 = 1 := by kernel_rfl
theorem cells_bool : Tryd.prog.cellsOf 4 = 1 := by kernel_rfl
theorem cells_cuts : Tryd.prog.cellsOf 28 = 1 := by kernel_rfl
theorem cells_op : Tryd.prog.cellsOf 30 = 20 := by kernel_rfl

theorem list_3 {α : Type} {l : List α} (h : l.length = 3) : ∃ a b c, l = [a, b, c] := by
  match l, h with
  | [a, b, c], _ => exact ⟨a, b, c, rfl⟩
theorem list_4 {α : Type} {l : List α} (h : l.length = 4) : ∃ a b c d, l = [a, b, c, d] := by
  match l, h with
  | [a, b, c, d], _ => exact ⟨a, b, c, d, rfl⟩
theorem list_20 {α : Type} {l : List α} (h : l.length = 20) : ∃ a b c d e f g h i j k m n o p q r s t u, l = [a, b, c, d, e, f, g, h, i, j, k, m, n, o, p, q, r, s, t, u] := by
  match l, h with
  | [a, b, c, d, e, f, g, h, i, j, k, m, n, o, p, q, r, s, t, u], _ => exact ⟨a, b, c, d, e, f, g, h, i, j, k, m, n, o, p, q, r, s, t, u, rfl⟩

section
variable {H : Type} {enc : TypeId × Value → H} {W : World} {held : Bool}
theorem trod_id {n : Nat} {a b : Value} {x : DataW H × List MemPlace} (h : DataW.trod enc Tryd.prog W 0 (fun _ => true) held n 25 [a, b] = some x) : ∃ r m, a = .int .i64 r ∧ b = .int .i64 m := by
  obtain ⟨y0, y1, n, _, hl, h0, h1⟩ := trod_struct2 Tryd.underlying25 h
  simp [cells_int] at h0 h1
  obtain ⟨r, e0, _⟩ := DataW.trod_int Tryd.underlying3 h0
  obtain ⟨m, e1, _⟩ := DataW.trod_int Tryd.underlying3 h1
  simp at e0 e1
  exact ⟨r, m, e0, e1⟩
theorem trod_char {n : Nat} {a b c : Value} {x : DataW H × List MemPlace} (h : DataW.trod enc Tryd.prog W 0 (fun _ => true) held n 27 [a, b, c] = some x) : ∃ r m i, a = .int .i64 r ∧ b = .int .i64 m ∧ c = .int .i64 i := by
  obtain ⟨y0, y1, n, _, hl, h0, h1⟩ := trod_struct2 Tryd.underlying27 h
  simp [cells_int, cells_id] at h0 h1
  obtain ⟨r, m, e0, e1⟩ := trod_id h0
  obtain ⟨i, e2, _⟩ := DataW.trod_int Tryd.underlying3 h1
  simp at e2
  exact ⟨r, m, i, e0, e1, e2⟩
theorem trod_cut {n : Nat} {cs : List Value} {x : DataW H × List MemPlace} (h : DataW.trod enc Tryd.prog W 0 (fun _ => true) held n 71 cs = some x) : ∃ c : Ct, cs = cutc c := by
  obtain ⟨xs, k, hk, hxy, hlen, hxl, hfl⟩ := DataW.trod_struct Tryd.underlying71 h
  rw [cells_cut] at hlen
  obtain ⟨y0, y1, y2, rfl⟩ := list_3 hxl
  obtain ⟨v0, v1, v2, v3, rfl⟩ := list_4 hlen
  have g0 := hfl 0 _ rfl
  have g1 := hfl 1 _ rfl
  have g2 := hfl 2 _ rfl
  simp [cells_int, cells_id] at g0 g1 g2
  obtain ⟨r, m, rfl, rfl⟩ := trod_id g0
  obtain ⟨f, e1, _⟩ := DataW.trod_int Tryd.underlying3 g1
  obtain ⟨t, e2, _⟩ := DataW.trod_int Tryd.underlying3 g2
  simp at e1 e2
  subst e1; subst e2
  exact ⟨⟨r, m, f, t⟩, rfl⟩
theorem trod_cuts {n : Nat} {v : Value} {x : DataW H × List MemPlace} (h : DataW.trod enc Tryd.prog W 0 (fun _ => true) held n 28 [v] = some x) : ∃ l, Cs W v l := by
  rcases Go.Deep.open_slice Tryd.underlying28 h with ⟨hcs, _⟩ | ⟨x, len, c, m, n, D, Pl, hcs, _, hl, hm, hmm, _, hx⟩
  · simp at hcs
    subst hcs
    exact ⟨[], Cs.nil W⟩
  · simp at hcs
    subst hcs
    simp at hmm
    subst hmm
    rw [cells_cut] at hx
    have each : ∀ i, i < len → ∃ q : Ct, W.cells? 0 (x.add (i * 4)) 4 = some (cutc q) := fun i hi => by
      obtain ⟨cs', h1, h2⟩ := hx i (by omega)
      obtain ⟨q, rfl⟩ := trod_cut h2
      exact ⟨q, h1⟩
    have hinh : Inhabited Ct := ⟨Ct.zero⟩
    obtain ⟨q, hq⟩ := Go.Deep.choose_lt each
    refine ⟨(List.range len).map q, ?_⟩
    have := Sl.of_rows (sz := 4) (W := W) (x := x) (by decide) hl hm (fun i => cutc (q i)) (fun i hi => ⟨rfl, fun j u hu => by
      obtain ⟨_, _, hcell⟩ := World.cells?_some (hq i hi)
      have hj : j < 4 := (List.getElem?_eq_some_iff.1 hu).1
      have := hcell j hj
      rw [Go.Deep.add_add] at this
      rw [this, hu]⟩)
    unfold Cs
    rw [List.length_map, List.length_range, List.flatMap_map]
    exact this
theorem trod_op {n : Nat} {cs : List Value} {x : DataW H × List MemPlace} (h : DataW.trod enc Tryd.prog W 0 (fun _ => true) held n 30 cs = some x) : ∃ o v, cs = opc (o, v) ∧ Cs W v o.cuts := by
  obtain ⟨xs, k, hk, hxy, hlen, hxl, hfl⟩ := DataW.trod_struct Tryd.underlying30 h
  rw [cells_op] at hlen
  obtain ⟨v0, v1, v2, v3, v4, v5, v6, v7, v8, v9, v10, v11, v12, v13, v14, v15, v16, v17, v18, v19, rfl⟩ := list_20 hlen
  have hsz : xs.length = 12 := hxl
  have hat : ∀ i, i < 12 → ∃ y, xs[i]? = some y := fun i hi => ⟨_, List.getElem?_eq_getElem (by omega)⟩
  obtain ⟨z0, k0⟩ := hat 0 (by decide)
  obtain ⟨z1, k1⟩ := hat 1 (by decide)
  obtain ⟨z2, k2⟩ := hat 2 (by decide)
  obtain ⟨z3, k3⟩ := hat 3 (by decide)
  obtain ⟨z4, k4⟩ := hat 4 (by decide)
  obtain ⟨z5, k5⟩ := hat 5 (by decide)
  obtain ⟨z6, k6⟩ := hat 6 (by decide)
  obtain ⟨z7, k7⟩ := hat 7 (by decide)
  obtain ⟨z8, k8⟩ := hat 8 (by decide)
  obtain ⟨z9, k9⟩ := hat 9 (by decide)
  obtain ⟨z10, k10⟩ := hat 10 (by decide)
  obtain ⟨z11, k11⟩ := hat 11 (by decide)
  have g0 := (hfl 0 _ rfl).trans k0
  have g1 := (hfl 1 _ rfl).trans k1
  have g2 := (hfl 2 _ rfl).trans k2
  have g3 := (hfl 3 _ rfl).trans k3
  have g4 := (hfl 4 _ rfl).trans k4
  have g5 := (hfl 5 _ rfl).trans k5
  have g6 := (hfl 6 _ rfl).trans k6
  have g7 := (hfl 7 _ rfl).trans k7
  have g8 := (hfl 8 _ rfl).trans k8
  have g9 := (hfl 9 _ rfl).trans k9
  have g10 := (hfl 10 _ rfl).trans k10
  have g11 := (hfl 11 _ rfl).trans k11
  simp [cells_int] at g0
  simp [cells_id] at g1
  simp [cells_int] at g2
  simp [cells_id] at g3
  simp [cells_id] at g4
  simp [cells_str] at g5
  simp [cells_id] at g6
  simp [cells_char] at g7
  simp [cells_char] at g8
  simp [cells_str] at g9
  simp [cells_cuts] at g10
  simp [cells_bool] at g11
  obtain ⟨a0, e0, _⟩ := DataW.trod_int Tryd.underlying3 g0
  obtain ⟨a1, a2, rfl, rfl⟩ := trod_id g1
  obtain ⟨a3, e3, _⟩ := DataW.trod_int Tryd.underlying3 g2
  obtain ⟨a4, a5, rfl, rfl⟩ := trod_id g3
  obtain ⟨a6, a7, rfl, rfl⟩ := trod_id g4
  obtain ⟨a8, e8, _⟩ := DataW.trod_string Tryd.underlying9 g5
  obtain ⟨a9, a10, rfl, rfl⟩ := trod_id g6
  obtain ⟨a11, a12, a13, rfl, rfl, rfl⟩ := trod_char g7
  obtain ⟨a14, a15, a16, rfl, rfl, rfl⟩ := trod_char g8
  obtain ⟨a17, e17, _⟩ := DataW.trod_string Tryd.underlying9 g9
  obtain ⟨l, hl⟩ := trod_cuts g10
  obtain ⟨a19, e19, _⟩ := DataW.trod_bool Tryd.underlying4 g11
  obtain rfl : v0 = _ := by simpa using e0
  obtain rfl : v3 = _ := by simpa using e3
  obtain rfl : v8 = _ := by simpa using e8
  obtain rfl : v17 = _ := by simpa using e17
  obtain rfl : v19 = _ := by simpa using e19
  exact ⟨⟨a0, a1, a2, a3, a4, a5, a6, a7, a8, a9, a10, a11, a12, a13, a14, a15, a16, a17, l, a19⟩, v18, rfl, hl⟩
theorem open_op {b0 : Nat} {v : Value} {d : DataW H} {p : List MemPlace} (hv : Value.okWide Tryd.prog W .any b0 30 v) (h : DataW.Trod enc Tryd.prog W 0 (fun _ => true) held 30 v d p) : ∃ o u, v = opv o u ∧ Cs W u o.cuts := by
  obtain ⟨cs, rfl, hsz⟩ := okWide_struct Tryd.underlying30 hv
  obtain ⟨fuel, hf⟩ := h
  obtain ⟨o, u, e, hc⟩ := trod_op hf
  refine ⟨o, u, ?_, hc⟩
  obtain ⟨l⟩ := cs
  have e' : l = opc (o, u) := by simpa [Value.cells] using e
  rw [e']
theorem open_ops {b0 : Nat} {v : Value} {d : DataW H} {p : List MemPlace} (hv : Value.okWide Tryd.prog W .any b0 33 v) (h : DataW.Trod enc Tryd.prog W 0 (fun _ => true) held 33 v d p) : ∃ l, Os W v l := by
  obtain ⟨a, len, cap, rfl⟩ := okWide_slice Tryd.underlying33 hv
  obtain ⟨fuel, hf⟩ := h
  rcases Go.Deep.open_slice Tryd.underlying33 hf with ⟨hcs, _⟩ | ⟨x, l, c, m, n, D, Pl, hcs, _, hl, hm, hmm, _, hx⟩
  · simp [Value.cells] at hcs
    obtain ⟨rfl, rfl, rfl⟩ := hcs
    exact ⟨[], Sl.nil 20 W, fun p hp => by cases hp⟩
  · simp [Value.cells] at hcs
    obtain ⟨rfl, rfl, rfl⟩ := hcs
    simp at hmm
    subst hmm
    rw [cells_op] at hx
    have each : ∀ i, i < len → ∃ q : Opn × Value, W.cells? 0 (x.add (i * 20)) 20 = some (opc q) ∧ Cs W q.2 q.1.cuts := fun i hi => by
      obtain ⟨cs', h1, h2⟩ := hx i (by omega)
      obtain ⟨o, u, rfl, hc⟩ := trod_op h2
      exact ⟨(o, u), h1, hc⟩
    have hinh : Inhabited (Opn × Value) := ⟨(Opn.zero, .slice none 0 0)⟩
    obtain ⟨q, hq⟩ := Go.Deep.choose_lt each
    refine ⟨(List.range len).map q, ?_, fun p hp => ?_⟩
    · have := Sl.of_rows (sz := 20) (W := W) (x := x) (by decide) hl hm (fun i => opc (q i)) (fun i hi => ⟨rfl, fun j u hu => by
        obtain ⟨_, _, hcell⟩ := World.cells?_some (hq i hi).1
        have hj : j < 20 := (List.getElem?_eq_some_iff.1 hu).1
        have := hcell j hj
        rw [Go.Deep.add_add] at this
        rw [this, hu]⟩)
      rw [List.length_map, List.length_range, List.flatMap_map]
      exact this
    · obtain ⟨i, hi, rfl⟩ := List.mem_map.1 hp
      exact (hq i (List.mem_range.1 hi)).2
theorem open_u8s {b0 : Nat} {v : Value} {d : DataW H} {p : List MemPlace} (hv : Value.okWide Tryd.prog W .any b0 22 v) (h : DataW.Trod enc Tryd.prog W 0 (fun _ => true) held 22 v d p) : ∃ xs, Bs W v xs := by
  obtain ⟨a, len, cap, rfl⟩ := okWide_slice Tryd.underlying22 hv
  obtain ⟨fuel, hf⟩ := h
  rcases open_ints Tryd.underlying22 Tryd.underlying5 (by kernel_rfl) hf with ⟨hcs, _⟩ | ⟨x, l, c, zs, hcs, _, hl, hm, hz, _, hcell, hwz⟩
  · simp [Value.cells] at hcs
    obtain ⟨rfl, rfl, rfl⟩ := hcs
    exact ⟨[], Bs.nil W⟩
  · simp [Value.cells] at hcs
    obtain ⟨rfl, rfl, rfl⟩ := hcs
    exact ⟨zs.take len, Bs.of_row hl hm (by simpa using hz) hcell hwz⟩
theorem open_byte {b0 : Nat} {v : Value} {d : DataW H} {p : List MemPlace} (hv : Value.okWide Tryd.prog W .any b0 5 v) (h : DataW.Trod enc Tryd.prog W 0 (fun _ => true) held 5 v d p) : ∃ x, v = .int .u8 x ∧ 0 ≤ x ∧ x < 256 := by
  obtain ⟨a, rfl, _, _, hw⟩ := open_int Tryd.underlying5 hv h
  refine ⟨a, rfl, ?_⟩
  simp [Lit.wf, IntKind.min, IntKind.max, IntKind.signed, IntKind.bits] at hw
  omega
end

/-- The heap that the program's own text lays meets the list. -/
theorem door_met (os : Go.Os) (args : Array Value) : laidMetH Tryd.prog Rows.opBackRow.laid ((World.doorLaid Tryd.prog 72 os).forCall (fun _ _ => 0) ⟨#[], args, []⟩).memory := by
  rw [MakeChecks.laidMetH_plain _ _ _ (by kernel_rfl)]
  exact laidMet_of_run' 8 (by kernel_rfl) (by kernel_rfl)

end Go.Proofs.YtmgemgkanlpnnaaDoor
