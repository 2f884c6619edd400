/-
  Parts of the proof, one behind the other; what each proves stands at its head.
-/
import Derived.Test.YteckjkblngmenaaGreatDoorPart16
import Derived.Test.YteckjkblngmenaaGreatDoorPart9
import Derived.Test.YteckjkblngmenaaGreatDoorPart10
import Derived.Test.YteckjkblngmenaaGreatDoorPart14

/-
  That offshootlaw07.alive returns true is proved here, where the package variables hold what the program lays there.
-/
namespace Go.Proofs.YteckjkblngmenaaGreatDoor
open Go.RowKit
set_option linter.unusedVariables false
set_option maxRecDepth 100000

def gl0 : Oper := { dst := some 59, op := Op.move (Operand.tmp 2), type := 26, pos := "law.go:39", after := #[], guard := none }
def gl1 : Oper := { dst := some 60, op := Op.binOp BinOp.eql 26 (Operand.tmp 59) (Operand.const (Value.int IntKind.i64 0)) 26, type := 4, pos := "law.go:39", after := #[{ on := 0, ground := Ground.data }], guard := none }
def gl2 : Oper := { dst := some 61, op := Op.move (Operand.tmp 60), type := 4, pos := "law.go:39", after := #[{ on := 1, ground := Ground.data }], guard := none }
def gl3 : Oper := { dst := some 62, op := Op.move (Operand.tmp 4), type := 32, pos := "law.go:39", after := #[{ on := 2, ground := Ground.guard }], guard := some (2, true) }
def gl4 : Oper := { dst := some 63, op := Op.binOp BinOp.neq 32 (Operand.tmp 62) (Operand.const (Value.pointer none)) 32, type := 4, pos := "law.go:39", after := #[{ on := 3, ground := Ground.data }, { on := 2, ground := Ground.guard }], guard := some (2, true) }
def gl5 : Oper := { dst := some 64, op := Op.pick (Operand.tmp 61) (Operand.tmp 63) (Operand.const (Value.bool false)), type := 4, pos := "law.go:39", after := #[{ on := 2, ground := Ground.data }, { on := 4, ground := Ground.data }], guard := none }
def gl6 : Oper := { dst := some 65, op := Op.move (Operand.tmp 64), type := 4, pos := "law.go:39", after := #[{ on := 5, ground := Ground.data }, { on := 2, ground := Ground.chain }], guard := none }
def gl7 : Oper := { dst := some 66, op := Op.move (Operand.tmp 5), type := 38, pos := "law.go:39", after := #[{ on := 6, ground := Ground.guard }], guard := some (6, true) }
def gl8 : Oper := { dst := some 67, op := Op.call { callee := Callee.builtin Builtin.len, args := #[Operand.tmp 66], argTypes := #[38] }, type := 3, pos := "law.go:39", after := #[{ on := 7, ground := Ground.data }, { on := 6, ground := Ground.guard }], guard := some (6, true) }
def gl9 : Oper := { dst := some 68, op := Op.binOp BinOp.eql 3 (Operand.tmp 67) (Operand.const (Value.int IntKind.i64 1)) 3, type := 4, pos := "law.go:39", after := #[{ on := 8, ground := Ground.data }, { on := 6, ground := Ground.guard }], guard := some (6, true) }
def gl10 : Oper := { dst := some 69, op := Op.pick (Operand.tmp 65) (Operand.tmp 68) (Operand.const (Value.bool false)), type := 4, pos := "law.go:39", after := #[{ on := 6, ground := Ground.data }, { on := 9, ground := Ground.data }], guard := none }
def gl11 : Oper := { dst := some 70, op := Op.move (Operand.tmp 69), type := 4, pos := "law.go:39", after := #[{ on := 10, ground := Ground.data }, { on := 6, ground := Ground.chain }], guard := none }
def gl12 : Oper := { dst := some 71, op := Op.move (Operand.tmp 5), type := 38, pos := "law.go:39", after := #[{ on := 11, ground := Ground.guard }], guard := some (11, true) }
def gl13 : Oper := { dst := some 72, op := Op.indexAddr 38 (Operand.tmp 71) (Operand.const (Value.int IntKind.i64 0)), type := 0, pos := "law.go:39", after := #[{ on := 12, ground := Ground.data }, { on := 11, ground := Ground.guard }], guard := some (11, true) }
def gl14 : Oper := { dst := some 73, op := Op.load 77 (Operand.tmp 72), type := 77, pos := "law.go:39", after := #[{ on := 13, ground := Ground.data }, { on := 11, ground := Ground.guard }], guard := some (11, true) }
def gl15 : Oper := { dst := some 74,op := Op.call { callee := Callee.value (Operand.func 39),args := #[Operand.const (Value.int IntKind.i64 1)],argTypes := #[3] },type := 77,pos := "law.go:39",after := #[{ on := 11,ground := Ground.chain },{ on := 11,ground := Ground.guard }],guard := some (11,true) }
def gl16 : Oper := { dst := some 75,op := Op.call { callee := Callee.value (Operand.func 40),args := #[Operand.tmp 73,Operand.tmp 74],argTypes := #[77,77] },type := 4,pos := "law.go:39",after := #[{ on := 14,ground := Ground.data },{ on := 15,ground := Ground.data },{ on := 15,ground := Ground.chain },{ on := 11,ground := Ground.guard }],guard := some (11,true) }
def gl17 : Oper := { dst := some 76, op := Op.pick (Operand.tmp 70) (Operand.tmp 75) (Operand.const (Value.bool false)), type := 4, pos := "law.go:39", after := #[{ on := 11, ground := Ground.data }, { on := 16, ground := Ground.data }], guard := none }
def gl18 : Oper := { dst := some 77, op := Op.move (Operand.tmp 76), type := 4, pos := "law.go:39", after := #[{ on := 17, ground := Ground.data }, { on := 16, ground := Ground.chain }], guard := none }
def gl19 : Oper := { dst := some 78, op := Op.move (Operand.tmp 4), type := 32, pos := "law.go:39", after := #[{ on := 18, ground := Ground.guard }], guard := some (18, true) }
def gl20 : Oper := { dst := some 79,op := Op.call { callee := Callee.value (Operand.func 33),args := #[Operand.tmp 78],argTypes := #[32] },type := 3,pos := "law.go:39",after := #[{ on := 19,ground := Ground.data },{ on := 18,ground := Ground.chain },{ on := 18,ground := Ground.guard }],guard := some (18,true) }
def gl21 : Oper := { dst := some 80, op := Op.binOp BinOp.eql 3 (Operand.tmp 79) (Operand.const (Value.int IntKind.i64 3)) 3, type := 4, pos := "law.go:39", after := #[{ on := 20, ground := Ground.data }, { on := 18, ground := Ground.guard }], guard := some (18, true) }
def gl22 : Oper := { dst := some 81, op := Op.pick (Operand.tmp 77) (Operand.tmp 80) (Operand.const (Value.bool false)), type := 4, pos := "law.go:39", after := #[{ on := 18, ground := Ground.data }, { on := 21, ground := Ground.data }], guard := none }
def gl23 : Oper := { dst := some 0,op := Op.assign (Operand.tmp 81),type := 4,pos := "law.go:39",after := #[{ on := 22,ground := Ground.data },{ on := 20,ground := Ground.chain },{ on := 0,ground := Ground.phase },{ on := 1,ground := Ground.phase },{ on := 2,ground := Ground.phase },{ on := 3,ground := Ground.phase },{ on := 4,ground := Ground.phase },{ on := 5,ground := Ground.phase },{ on := 6,ground := Ground.phase },{ on := 7,ground := Ground.phase },{ on := 8,ground := Ground.phase },{ on := 9,ground := Ground.phase },{ on := 10,ground := Ground.phase },{ on := 11,ground := Ground.phase },{ on := 12,ground := Ground.phase },{ on := 13,ground := Ground.phase },{ on := 14,ground := Ground.phase },{ on := 15,ground := Ground.phase },{ on := 16,ground := Ground.phase },{ on := 17,ground := Ground.phase },{ on := 18,ground := Ground.phase },{ on := 19,ground := Ground.phase },{ on := 20,ground := Ground.phase },{ on := 21,ground := Ground.phase },{ on := 22,ground := Ground.phase }],guard := none }
def gls : Array Oper := #[gl0, gl1, gl2, gl3, gl4, gl5, gl6, gl7, gl8, gl9, gl10, gl11, gl12, gl13, gl14, gl15, gl16, gl17, gl18, gl19, gl20, gl21, gl22, gl23]
theorem gl_lex : Region.lexB .any gls = true := by kernel_rfl
set_option maxHeartbeats 2000000 in
theorem galive_last (w : World) (lb ob off cp : Nat) (F0 F1 : Value) {x0 x1 x3 x6 x7 x8 x9 x10 x11 x12 x13 x14 x15 x16 x17 x18 x19 x20 x21 x22 x23 x24 x25 x26 x27 x28 x29 x30 x31 x32 x33 x34 x35 x36 x37 x38 x39 x40 x41 x42 x43 x44 x45 x46 x47 x48 x49 x50 x51 x52 x53 x54 x55 x56 x57 x58 x59 x60 x61 x62 x63 x64 x65 x66 x67 x68 x69 x70 x71 x72 x73 x74 x75 x76 x77 x78 x79 x80 x81 : Value} {Q : Exit → Act → World → Prop} 
    (hO : ∀ W, Below w.heap.size w W → ∀ {p : Oper} {a : Act} {x : Operand}, p.op = .load 77 x → a.eval x = .pointer (some ⟨ob, off, none⟩) → (execOp a.eval p).run Tryz.prog W = .ok (.value F1) W)
    (hFO : ∀ W, Calls Tryz.prog 39 #[.int .i64 1] W fun e w' => e = .returned F0 ∧ Below W.heap.size W w')
    (hSO : ∀ W, Below w.heap.size w W → Calls Tryz.prog 40 #[F1, F0] W fun e w' => e = .returned (.bool true) ∧ Below W.heap.size W w')
    (hR : ∀ W, Below w.heap.size w W → Calls Tryz.prog 33 #[.pointer (some ⟨lb, 0, none⟩)] W fun e w' => e = .returned (.int .i64 3) ∧ W = w')
    (hQ : ∀ W,Below w.heap.size w W → Q .normal { tmps := #[.bool true,x1,.int .i64 0,x3,.pointer (some ⟨lb,0,none⟩),.slice (some ⟨ob,off,none⟩) 1 cp,x6,x7,x8,x9,x10,x11,x12,x13,x14,x15,x16,x17,x18,x19,x20,x21,x22,x23,x24,x25,x26,x27,x28,x29,x30,x31,x32,x33,x34,x35,x36,x37,x38,x39,x40,x41,x42,x43,x44,x45,x46,x47,x48,x49,x50,x51,x52,x53,x54,x55,x56,x57,x58,.int .i64 0,.bool true,.bool true,.pointer (some ⟨lb,0,none⟩),.bool true,.bool true,.bool true,.slice (some ⟨ob,off,none⟩) 1 cp,.int .i64 1,.bool true,.bool true,.bool true,.slice (some ⟨ob,off,none⟩) 1 cp,.pointer (some ⟨ob,off,none⟩),F1,F0,.bool true,.bool true,.bool true,.pointer (some ⟨lb,0,none⟩),.int .i64 3,.bool true,.bool true],defers := [] } W) : (Code.region 12 gls true).wp Tryz.prog Q { tmps := #[x0,x1,.int .i64 0,x3,.pointer (some ⟨lb,0,none⟩),.slice (some ⟨ob,off,none⟩) 1 cp,x6,x7,x8,x9,x10,x11,x12,x13,x14,x15,x16,x17,x18,x19,x20,x21,x22,x23,x24,x25,x26,x27,x28,x29,x30,x31,x32,x33,x34,x35,x36,x37,x38,x39,x40,x41,x42,x43,x44,x45,x46,x47,x48,x49,x50,x51,x52,x53,x54,x55,x56,x57,x58,x59,x60,x61,x62,x63,x64,x65,x66,x67,x68,x69,x70,x71,x72,x73,x74,x75,x76,x77,x78,x79,x80,x81],defers := [] } w := by
  refine wp_region_quiet (C := fun W => Below w.heap.size w W) (by kernel_rfl) gl_lex (Below.refl _ _).drew ?_
  change wpQuiet _ _ _ _ [gl0, gl1, gl2, gl3, gl4, gl5, gl6, gl7, gl8, gl9, gl10, gl11, gl12, gl13, gl14, gl15, gl16, gl17, gl18, gl19, gl20, gl21, gl22, gl23] _
  refine qs_val (.int .i64 0) { tmps := #[x0,x1,.int .i64 0,x3,.pointer (some ⟨lb,0,none⟩),.slice (some ⟨ob,off,none⟩) 1 cp,x6,x7,x8,x9,x10,x11,x12,x13,x14,x15,x16,x17,x18,x19,x20,x21,x22,x23,x24,x25,x26,x27,x28,x29,x30,x31,x32,x33,x34,x35,x36,x37,x38,x39,x40,x41,x42,x43,x44,x45,x46,x47,x48,x49,x50,x51,x52,x53,x54,x55,x56,x57,x58,.int .i64 0,x60,x61,x62,x63,x64,x65,x66,x67,x68,x69,x70,x71,x72,x73,x74,x75,x76,x77,x78,x79,x80,x81],defers := [] } (by kernel_rfl) (fun W hW => by kernel_rfl) (by kernel_rfl) ?_
  refine qs_val (.bool true) { tmps := #[x0,x1,.int .i64 0,x3,.pointer (some ⟨lb,0,none⟩),.slice (some ⟨ob,off,none⟩) 1 cp,x6,x7,x8,x9,x10,x11,x12,x13,x14,x15,x16,x17,x18,x19,x20,x21,x22,x23,x24,x25,x26,x27,x28,x29,x30,x31,x32,x33,x34,x35,x36,x37,x38,x39,x40,x41,x42,x43,x44,x45,x46,x47,x48,x49,x50,x51,x52,x53,x54,x55,x56,x57,x58,.int .i64 0,.bool true,x61,x62,x63,x64,x65,x66,x67,x68,x69,x70,x71,x72,x73,x74,x75,x76,x77,x78,x79,x80,x81],defers := [] } (by kernel_rfl) (fun W hW => by kernel_rfl) (by kernel_rfl) ?_
  refine qs_val (.bool true) { tmps := #[x0,x1,.int .i64 0,x3,.pointer (some ⟨lb,0,none⟩),.slice (some ⟨ob,off,none⟩) 1 cp,x6,x7,x8,x9,x10,x11,x12,x13,x14,x15,x16,x17,x18,x19,x20,x21,x22,x23,x24,x25,x26,x27,x28,x29,x30,x31,x32,x33,x34,x35,x36,x37,x38,x39,x40,x41,x42,x43,x44,x45,x46,x47,x48,x49,x50,x51,x52,x53,x54,x55,x56,x57,x58,.int .i64 0,.bool true,.bool true,x62,x63,x64,x65,x66,x67,x68,x69,x70,x71,x72,x73,x74,x75,x76,x77,x78,x79,x80,x81],defers := [] } (by kernel_rfl) (fun W hW => by kernel_rfl) (by kernel_rfl) ?_
  refine qs_val (.pointer (some ⟨lb,0,none⟩)) { tmps := #[x0,x1,.int .i64 0,x3,.pointer (some ⟨lb,0,none⟩),.slice (some ⟨ob,off,none⟩) 1 cp,x6,x7,x8,x9,x10,x11,x12,x13,x14,x15,x16,x17,x18,x19,x20,x21,x22,x23,x24,x25,x26,x27,x28,x29,x30,x31,x32,x33,x34,x35,x36,x37,x38,x39,x40,x41,x42,x43,x44,x45,x46,x47,x48,x49,x50,x51,x52,x53,x54,x55,x56,x57,x58,.int .i64 0,.bool true,.bool true,.pointer (some ⟨lb,0,none⟩),x63,x64,x65,x66,x67,x68,x69,x70,x71,x72,x73,x74,x75,x76,x77,x78,x79,x80,x81],defers := [] } (by kernel_rfl) (fun W hW => by kernel_rfl) (by kernel_rfl) ?_
  refine qs_val (.bool true) { tmps := #[x0,x1,.int .i64 0,x3,.pointer (some ⟨lb,0,none⟩),.slice (some ⟨ob,off,none⟩) 1 cp,x6,x7,x8,x9,x10,x11,x12,x13,x14,x15,x16,x17,x18,x19,x20,x21,x22,x23,x24,x25,x26,x27,x28,x29,x30,x31,x32,x33,x34,x35,x36,x37,x38,x39,x40,x41,x42,x43,x44,x45,x46,x47,x48,x49,x50,x51,x52,x53,x54,x55,x56,x57,x58,.int .i64 0,.bool true,.bool true,.pointer (some ⟨lb,0,none⟩),.bool true,x64,x65,x66,x67,x68,x69,x70,x71,x72,x73,x74,x75,x76,x77,x78,x79,x80,x81],defers := [] } (by kernel_rfl) (fun W hW => by kernel_rfl) (by kernel_rfl) ?_
  refine qs_val (.bool true) { tmps := #[x0,x1,.int .i64 0,x3,.pointer (some ⟨lb,0,none⟩),.slice (some ⟨ob,off,none⟩) 1 cp,x6,x7,x8,x9,x10,x11,x12,x13,x14,x15,x16,x17,x18,x19,x20,x21,x22,x23,x24,x25,x26,x27,x28,x29,x30,x31,x32,x33,x34,x35,x36,x37,x38,x39,x40,x41,x42,x43,x44,x45,x46,x47,x48,x49,x50,x51,x52,x53,x54,x55,x56,x57,x58,.int .i64 0,.bool true,.bool true,.pointer (some ⟨lb,0,none⟩),.bool true,.bool true,x65,x66,x67,x68,x69,x70,x71,x72,x73,x74,x75,x76,x77,x78,x79,x80,x81],defers := [] } (by kernel_rfl) (fun W hW => by kernel_rfl) (by kernel_rfl) ?_
  refine qs_val (.bool true) { tmps := #[x0,x1,.int .i64 0,x3,.pointer (some ⟨lb,0,none⟩),.slice (some ⟨ob,off,none⟩) 1 cp,x6,x7,x8,x9,x10,x11,x12,x13,x14,x15,x16,x17,x18,x19,x20,x21,x22,x23,x24,x25,x26,x27,x28,x29,x30,x31,x32,x33,x34,x35,x36,x37,x38,x39,x40,x41,x42,x43,x44,x45,x46,x47,x48,x49,x50,x51,x52,x53,x54,x55,x56,x57,x58,.int .i64 0,.bool true,.bool true,.pointer (some ⟨lb,0,none⟩),.bool true,.bool true,.bool true,x66,x67,x68,x69,x70,x71,x72,x73,x74,x75,x76,x77,x78,x79,x80,x81],defers := [] } (by kernel_rfl) (fun W hW => by kernel_rfl) (by kernel_rfl) ?_
  refine qs_val (.slice (some ⟨ob,off,none⟩) 1 cp) { tmps := #[x0,x1,.int .i64 0,x3,.pointer (some ⟨lb,0,none⟩),.slice (some ⟨ob,off,none⟩) 1 cp,x6,x7,x8,x9,x10,x11,x12,x13,x14,x15,x16,x17,x18,x19,x20,x21,x22,x23,x24,x25,x26,x27,x28,x29,x30,x31,x32,x33,x34,x35,x36,x37,x38,x39,x40,x41,x42,x43,x44,x45,x46,x47,x48,x49,x50,x51,x52,x53,x54,x55,x56,x57,x58,.int .i64 0,.bool true,.bool true,.pointer (some ⟨lb,0,none⟩),.bool true,.bool true,.bool true,.slice (some ⟨ob,off,none⟩) 1 cp,x67,x68,x69,x70,x71,x72,x73,x74,x75,x76,x77,x78,x79,x80,x81],defers := [] } (by kernel_rfl) (fun W hW => by kernel_rfl) (by kernel_rfl) ?_
  refine qs_val (.int .i64 1) { tmps := #[x0,x1,.int .i64 0,x3,.pointer (some ⟨lb,0,none⟩),.slice (some ⟨ob,off,none⟩) 1 cp,x6,x7,x8,x9,x10,x11,x12,x13,x14,x15,x16,x17,x18,x19,x20,x21,x22,x23,x24,x25,x26,x27,x28,x29,x30,x31,x32,x33,x34,x35,x36,x37,x38,x39,x40,x41,x42,x43,x44,x45,x46,x47,x48,x49,x50,x51,x52,x53,x54,x55,x56,x57,x58,.int .i64 0,.bool true,.bool true,.pointer (some ⟨lb,0,none⟩),.bool true,.bool true,.bool true,.slice (some ⟨ob,off,none⟩) 1 cp,.int .i64 1,x68,x69,x70,x71,x72,x73,x74,x75,x76,x77,x78,x79,x80,x81],defers := [] } (by kernel_rfl) (fun W hW => by kernel_rfl) (by kernel_rfl) ?_
  refine qs_val (.bool true) { tmps := #[x0,x1,.int .i64 0,x3,.pointer (some ⟨lb,0,none⟩),.slice (some ⟨ob,off,none⟩) 1 cp,x6,x7,x8,x9,x10,x11,x12,x13,x14,x15,x16,x17,x18,x19,x20,x21,x22,x23,x24,x25,x26,x27,x28,x29,x30,x31,x32,x33,x34,x35,x36,x37,x38,x39,x40,x41,x42,x43,x44,x45,x46,x47,x48,x49,x50,x51,x52,x53,x54,x55,x56,x57,x58,.int .i64 0,.bool true,.bool true,.pointer (some ⟨lb,0,none⟩),.bool true,.bool true,.bool true,.slice (some ⟨ob,off,none⟩) 1 cp,.int .i64 1,.bool true,x69,x70,x71,x72,x73,x74,x75,x76,x77,x78,x79,x80,x81],defers := [] } (by kernel_rfl) (fun W hW => by kernel_rfl) (by kernel_rfl) ?_
  refine qs_val (.bool true) { tmps := #[x0,x1,.int .i64 0,x3,.pointer (some ⟨lb,0,none⟩),.slice (some ⟨ob,off,none⟩) 1 cp,x6,x7,x8,x9,x10,x11,x12,x13,x14,x15,x16,x17,x18,x19,x20,x21,x22,x23,x24,x25,x26,x27,x28,x29,x30,x31,x32,x33,x34,x35,x36,x37,x38,x39,x40,x41,x42,x43,x44,x45,x46,x47,x48,x49,x50,x51,x52,x53,x54,x55,x56,x57,x58,.int .i64 0,.bool true,.bool true,.pointer (some ⟨lb,0,none⟩),.bool true,.bool true,.bool true,.slice (some ⟨ob,off,none⟩) 1 cp,.int .i64 1,.bool true,.bool true,x70,x71,x72,x73,x74,x75,x76,x77,x78,x79,x80,x81],defers := [] } (by kernel_rfl) (fun W hW => by kernel_rfl) (by kernel_rfl) ?_
  refine qs_val (.bool true) { tmps := #[x0,x1,.int .i64 0,x3,.pointer (some ⟨lb,0,none⟩),.slice (some ⟨ob,off,none⟩) 1 cp,x6,x7,x8,x9,x10,x11,x12,x13,x14,x15,x16,x17,x18,x19,x20,x21,x22,x23,x24,x25,x26,x27,x28,x29,x30,x31,x32,x33,x34,x35,x36,x37,x38,x39,x40,x41,x42,x43,x44,x45,x46,x47,x48,x49,x50,x51,x52,x53,x54,x55,x56,x57,x58,.int .i64 0,.bool true,.bool true,.pointer (some ⟨lb,0,none⟩),.bool true,.bool true,.bool true,.slice (some ⟨ob,off,none⟩) 1 cp,.int .i64 1,.bool true,.bool true,.bool true,x71,x72,x73,x74,x75,x76,x77,x78,x79,x80,x81],defers := [] } (by kernel_rfl) (fun W hW => by kernel_rfl) (by kernel_rfl) ?_
  refine qs_val (.slice (some ⟨ob,off,none⟩) 1 cp) { tmps := #[x0,x1,.int .i64 0,x3,.pointer (some ⟨lb,0,none⟩),.slice (some ⟨ob,off,none⟩) 1 cp,x6,x7,x8,x9,x10,x11,x12,x13,x14,x15,x16,x17,x18,x19,x20,x21,x22,x23,x24,x25,x26,x27,x28,x29,x30,x31,x32,x33,x34,x35,x36,x37,x38,x39,x40,x41,x42,x43,x44,x45,x46,x47,x48,x49,x50,x51,x52,x53,x54,x55,x56,x57,x58,.int .i64 0,.bool true,.bool true,.pointer (some ⟨lb,0,none⟩),.bool true,.bool true,.bool true,.slice (some ⟨ob,off,none⟩) 1 cp,.int .i64 1,.bool true,.bool true,.bool true,.slice (some ⟨ob,off,none⟩) 1 cp,x72,x73,x74,x75,x76,x77,x78,x79,x80,x81],defers := [] } (by kernel_rfl) (fun W hW => by kernel_rfl) (by kernel_rfl) ?_
  refine qs_val (.pointer (some ⟨ob,off,none⟩)) { tmps := #[x0,x1,.int .i64 0,x3,.pointer (some ⟨lb,0,none⟩),.slice (some ⟨ob,off,none⟩) 1 cp,x6,x7,x8,x9,x10,x11,x12,x13,x14,x15,x16,x17,x18,x19,x20,x21,x22,x23,x24,x25,x26,x27,x28,x29,x30,x31,x32,x33,x34,x35,x36,x37,x38,x39,x40,x41,x42,x43,x44,x45,x46,x47,x48,x49,x50,x51,x52,x53,x54,x55,x56,x57,x58,.int .i64 0,.bool true,.bool true,.pointer (some ⟨lb,0,none⟩),.bool true,.bool true,.bool true,.slice (some ⟨ob,off,none⟩) 1 cp,.int .i64 1,.bool true,.bool true,.bool true,.slice (some ⟨ob,off,none⟩) 1 cp,.pointer (some ⟨ob,off,none⟩),x73,x74,x75,x76,x77,x78,x79,x80,x81],defers := [] } (by kernel_rfl) (fun W hW => by kernel_rfl) (by kernel_rfl) ?_
  refine qs_val (F1) { tmps := #[x0,x1,.int .i64 0,x3,.pointer (some ⟨lb,0,none⟩),.slice (some ⟨ob,off,none⟩) 1 cp,x6,x7,x8,x9,x10,x11,x12,x13,x14,x15,x16,x17,x18,x19,x20,x21,x22,x23,x24,x25,x26,x27,x28,x29,x30,x31,x32,x33,x34,x35,x36,x37,x38,x39,x40,x41,x42,x43,x44,x45,x46,x47,x48,x49,x50,x51,x52,x53,x54,x55,x56,x57,x58,.int .i64 0,.bool true,.bool true,.pointer (some ⟨lb,0,none⟩),.bool true,.bool true,.bool true,.slice (some ⟨ob,off,none⟩) 1 cp,.int .i64 1,.bool true,.bool true,.bool true,.slice (some ⟨ob,off,none⟩) 1 cp,.pointer (some ⟨ob,off,none⟩),F1,x74,x75,x76,x77,x78,x79,x80,x81],defers := [] } (by kernel_rfl) (fun W hW => hO W hW rfl rfl) (by kernel_rfl) ?_
  refine qs_call (f := 39) (args := #[.int .i64 1]) (F0) { tmps := #[x0,x1,.int .i64 0,x3,.pointer (some ⟨lb,0,none⟩),.slice (some ⟨ob,off,none⟩) 1 cp,x6,x7,x8,x9,x10,x11,x12,x13,x14,x15,x16,x17,x18,x19,x20,x21,x22,x23,x24,x25,x26,x27,x28,x29,x30,x31,x32,x33,x34,x35,x36,x37,x38,x39,x40,x41,x42,x43,x44,x45,x46,x47,x48,x49,x50,x51,x52,x53,x54,x55,x56,x57,x58,.int .i64 0,.bool true,.bool true,.pointer (some ⟨lb,0,none⟩),.bool true,.bool true,.bool true,.slice (some ⟨ob,off,none⟩) 1 cp,.int .i64 1,.bool true,.bool true,.bool true,.slice (some ⟨ob,off,none⟩) 1 cp,.pointer (some ⟨ob,off,none⟩),F1,F0,x75,x76,x77,x78,x79,x80,x81],defers := [] } (by kernel_rfl) (fun W => by kernel_rfl) (fun W hW => (hFO W).mono fun _ _ h => ⟨h.1,bt hW h.2⟩) (by kernel_rfl) ?_
  refine qs_call (f := 40) (args := #[F1,F0]) (.bool true) { tmps := #[x0,x1,.int .i64 0,x3,.pointer (some ⟨lb,0,none⟩),.slice (some ⟨ob,off,none⟩) 1 cp,x6,x7,x8,x9,x10,x11,x12,x13,x14,x15,x16,x17,x18,x19,x20,x21,x22,x23,x24,x25,x26,x27,x28,x29,x30,x31,x32,x33,x34,x35,x36,x37,x38,x39,x40,x41,x42,x43,x44,x45,x46,x47,x48,x49,x50,x51,x52,x53,x54,x55,x56,x57,x58,.int .i64 0,.bool true,.bool true,.pointer (some ⟨lb,0,none⟩),.bool true,.bool true,.bool true,.slice (some ⟨ob,off,none⟩) 1 cp,.int .i64 1,.bool true,.bool true,.bool true,.slice (some ⟨ob,off,none⟩) 1 cp,.pointer (some ⟨ob,off,none⟩),F1,F0,.bool true,x76,x77,x78,x79,x80,x81],defers := [] } (by kernel_rfl) (fun W => by kernel_rfl) (fun W hW => (hSO W hW).mono fun _ _ h => ⟨h.1,bt hW h.2⟩) (by kernel_rfl) ?_
  refine qs_val (.bool true) { tmps := #[x0,x1,.int .i64 0,x3,.pointer (some ⟨lb,0,none⟩),.slice (some ⟨ob,off,none⟩) 1 cp,x6,x7,x8,x9,x10,x11,x12,x13,x14,x15,x16,x17,x18,x19,x20,x21,x22,x23,x24,x25,x26,x27,x28,x29,x30,x31,x32,x33,x34,x35,x36,x37,x38,x39,x40,x41,x42,x43,x44,x45,x46,x47,x48,x49,x50,x51,x52,x53,x54,x55,x56,x57,x58,.int .i64 0,.bool true,.bool true,.pointer (some ⟨lb,0,none⟩),.bool true,.bool true,.bool true,.slice (some ⟨ob,off,none⟩) 1 cp,.int .i64 1,.bool true,.bool true,.bool true,.slice (some ⟨ob,off,none⟩) 1 cp,.pointer (some ⟨ob,off,none⟩),F1,F0,.bool true,.bool true,x77,x78,x79,x80,x81],defers := [] } (by kernel_rfl) (fun W hW => by kernel_rfl) (by kernel_rfl) ?_
  refine qs_val (.bool true) { tmps := #[x0,x1,.int .i64 0,x3,.pointer (some ⟨lb,0,none⟩),.slice (some ⟨ob,off,none⟩) 1 cp,x6,x7,x8,x9,x10,x11,x12,x13,x14,x15,x16,x17,x18,x19,x20,x21,x22,x23,x24,x25,x26,x27,x28,x29,x30,x31,x32,x33,x34,x35,x36,x37,x38,x39,x40,x41,x42,x43,x44,x45,x46,x47,x48,x49,x50,x51,x52,x53,x54,x55,x56,x57,x58,.int .i64 0,.bool true,.bool true,.pointer (some ⟨lb,0,none⟩),.bool true,.bool true,.bool true,.slice (some ⟨ob,off,none⟩) 1 cp,.int .i64 1,.bool true,.bool true,.bool true,.slice (some ⟨ob,off,none⟩) 1 cp,.pointer (some ⟨ob,off,none⟩),F1,F0,.bool true,.bool true,.bool true,x78,x79,x80,x81],defers := [] } (by kernel_rfl) (fun W hW => by kernel_rfl) (by kernel_rfl) ?_
  refine qs_val (.pointer (some ⟨lb,0,none⟩)) { tmps := #[x0,x1,.int .i64 0,x3,.pointer (some ⟨lb,0,none⟩),.slice (some ⟨ob,off,none⟩) 1 cp,x6,x7,x8,x9,x10,x11,x12,x13,x14,x15,x16,x17,x18,x19,x20,x21,x22,x23,x24,x25,x26,x27,x28,x29,x30,x31,x32,x33,x34,x35,x36,x37,x38,x39,x40,x41,x42,x43,x44,x45,x46,x47,x48,x49,x50,x51,x52,x53,x54,x55,x56,x57,x58,.int .i64 0,.bool true,.bool true,.pointer (some ⟨lb,0,none⟩),.bool true,.bool true,.bool true,.slice (some ⟨ob,off,none⟩) 1 cp,.int .i64 1,.bool true,.bool true,.bool true,.slice (some ⟨ob,off,none⟩) 1 cp,.pointer (some ⟨ob,off,none⟩),F1,F0,.bool true,.bool true,.bool true,.pointer (some ⟨lb,0,none⟩),x79,x80,x81],defers := [] } (by kernel_rfl) (fun W hW => by kernel_rfl) (by kernel_rfl) ?_
  refine qs_call (f := 33) (args := #[.pointer (some ⟨lb,0,none⟩)]) (.int .i64 3) { tmps := #[x0,x1,.int .i64 0,x3,.pointer (some ⟨lb,0,none⟩),.slice (some ⟨ob,off,none⟩) 1 cp,x6,x7,x8,x9,x10,x11,x12,x13,x14,x15,x16,x17,x18,x19,x20,x21,x22,x23,x24,x25,x26,x27,x28,x29,x30,x31,x32,x33,x34,x35,x36,x37,x38,x39,x40,x41,x42,x43,x44,x45,x46,x47,x48,x49,x50,x51,x52,x53,x54,x55,x56,x57,x58,.int .i64 0,.bool true,.bool true,.pointer (some ⟨lb,0,none⟩),.bool true,.bool true,.bool true,.slice (some ⟨ob,off,none⟩) 1 cp,.int .i64 1,.bool true,.bool true,.bool true,.slice (some ⟨ob,off,none⟩) 1 cp,.pointer (some ⟨ob,off,none⟩),F1,F0,.bool true,.bool true,.bool true,.pointer (some ⟨lb,0,none⟩),.int .i64 3,x80,x81],defers := [] } (by kernel_rfl) (fun W => by kernel_rfl) (fun W hW => (hR W hW).mono fun _ _ h => ⟨h.1,by rw [← h.2]; exact hW⟩) (by kernel_rfl) ?_
  refine qs_val (.bool true) { tmps := #[x0,x1,.int .i64 0,x3,.pointer (some ⟨lb,0,none⟩),.slice (some ⟨ob,off,none⟩) 1 cp,x6,x7,x8,x9,x10,x11,x12,x13,x14,x15,x16,x17,x18,x19,x20,x21,x22,x23,x24,x25,x26,x27,x28,x29,x30,x31,x32,x33,x34,x35,x36,x37,x38,x39,x40,x41,x42,x43,x44,x45,x46,x47,x48,x49,x50,x51,x52,x53,x54,x55,x56,x57,x58,.int .i64 0,.bool true,.bool true,.pointer (some ⟨lb,0,none⟩),.bool true,.bool true,.bool true,.slice (some ⟨ob,off,none⟩) 1 cp,.int .i64 1,.bool true,.bool true,.bool true,.slice (some ⟨ob,off,none⟩) 1 cp,.pointer (some ⟨ob,off,none⟩),F1,F0,.bool true,.bool true,.bool true,.pointer (some ⟨lb,0,none⟩),.int .i64 3,.bool true,x81],defers := [] } (by kernel_rfl) (fun W hW => by kernel_rfl) (by kernel_rfl) ?_
  refine qs_val (.bool true) { tmps := #[x0,x1,.int .i64 0,x3,.pointer (some ⟨lb,0,none⟩),.slice (some ⟨ob,off,none⟩) 1 cp,x6,x7,x8,x9,x10,x11,x12,x13,x14,x15,x16,x17,x18,x19,x20,x21,x22,x23,x24,x25,x26,x27,x28,x29,x30,x31,x32,x33,x34,x35,x36,x37,x38,x39,x40,x41,x42,x43,x44,x45,x46,x47,x48,x49,x50,x51,x52,x53,x54,x55,x56,x57,x58,.int .i64 0,.bool true,.bool true,.pointer (some ⟨lb,0,none⟩),.bool true,.bool true,.bool true,.slice (some ⟨ob,off,none⟩) 1 cp,.int .i64 1,.bool true,.bool true,.bool true,.slice (some ⟨ob,off,none⟩) 1 cp,.pointer (some ⟨ob,off,none⟩),F1,F0,.bool true,.bool true,.bool true,.pointer (some ⟨lb,0,none⟩),.int .i64 3,.bool true,.bool true],defers := [] } (by kernel_rfl) (fun W hW => by kernel_rfl) (by kernel_rfl) ?_
  refine qs_val (.bool true) { tmps := #[.bool true,x1,.int .i64 0,x3,.pointer (some ⟨lb,0,none⟩),.slice (some ⟨ob,off,none⟩) 1 cp,x6,x7,x8,x9,x10,x11,x12,x13,x14,x15,x16,x17,x18,x19,x20,x21,x22,x23,x24,x25,x26,x27,x28,x29,x30,x31,x32,x33,x34,x35,x36,x37,x38,x39,x40,x41,x42,x43,x44,x45,x46,x47,x48,x49,x50,x51,x52,x53,x54,x55,x56,x57,x58,.int .i64 0,.bool true,.bool true,.pointer (some ⟨lb,0,none⟩),.bool true,.bool true,.bool true,.slice (some ⟨ob,off,none⟩) 1 cp,.int .i64 1,.bool true,.bool true,.bool true,.slice (some ⟨ob,off,none⟩) 1 cp,.pointer (some ⟨ob,off,none⟩),F1,F0,.bool true,.bool true,.bool true,.pointer (some ⟨lb,0,none⟩),.int .i64 3,.bool true,.bool true],defers := [] } (by kernel_rfl) (fun W hW => by kernel_rfl) (by kernel_rfl) ?_
  exact hQ

theorem Os.later {w w' : World} {v : Value} {l : List (Opn × Value)} (h : Os w v l) (hb : Below w.heap.size w w') : Os w' v l := ⟨Sl.below h.1 hb, fun p hp => (h.2 p hp).below hb⟩
/-- How many ops are synced, where the bytes that are synced end with a frame. -/
theorem syF_at {Fs : List (List Opn)} (k : Nat) (hk : k ≤ Fs.length) (h : Good Fs) : syF Fs (10 + szF (Fs.take k)) = (Fs.take k).flatten.length := by
  unfold syF
  rw [inF_ends Fs k _ hk (Nat.le_refl _) (fun hlt => ?_), opsAt_ends Fs k hk]
  rw [List.take_succ_eq_append_getElem hlt, szF_append, szF_one]
  omega
theorem lo_crash {B lb fb : Nat} {fv vo ve : Value} {r : Int} {Fs : List (List Opn)} {n R : Nat} {w : World} {l : List (Opn × Value)} (h : Lo B w lb fb fv vo ve r Fs n R l) (keep : Int) :
    Calls Tryz.prog 22 #[.pointer (some ⟨fb, 0, none⟩), .int .i64 keep] w fun e w' => e = .returned (.tuple #[]) ∧ ∃ fv', Fi B w' fb fv' ((lby r Fs).take (left keep (lby r Fs) n)) (left keep (lby r Fs) n) R ∧ Lx (Fb fb fv) (Fb fb fv') w w' :=
  (fcrash_any h.lg.fi h.ns keep).mono fun e w' ⟨h1, h2⟩ => by
    obtain ⟨fv', h3, h4⟩ := h2.out (xs := (lby r Fs).take (left keep (lby r Fs) n)) (n := left keep (lby r Fs) n) (z := 0) rfl
    exact ⟨h1, fv', h3, lx_file (B := B) h4⟩
theorem one_of {q : List (Opn × Value)} {o : Opn} (h : fsts q = [[o]].flatten) : ∃ u, q = [(o, u)] := by
  unfold fsts at h
  obtain ⟨a, ha, _⟩ : ∃ a, q = [a] ∧ a.1 = o := by
    rcases q with _ | ⟨a, _ | ⟨b, q⟩⟩
    · simp at h
    · exact ⟨a, rfl, by simpa using h⟩
    · simp at h
  subst ha
  exact ⟨a.2, by simp at h; rw [← h]⟩

set_option maxHeartbeats 8000000 in
theorem galive_any (w : World) (hL : Lay w) : Calls Tryz.prog 5 #[] w fun e w' => e = .returned (.bool true) ∧ Below w.heap.size w w' := by
  have HL := hid hL
  have H2 := hid hL.two
  have ap1 : apE 500 [] [foldN 1] = 0 := by unfold apE; rw [foldN_fr1, szF_nil, foldN_len1]; decide
  have af1 : apF 500 [] [foldN 1] = [[foldN 1]] := by unfold apF; rw [if_pos ap1]; rfl
  have sz1 : szF [[foldN 1]] = 17 := by rw [szF_one, foldN_len1]
  have ap2 : apE 500 [[foldN 1]] [foldN 2] = 0 := by unfold apE; rw [foldN_fr2, sz1, foldN_len2]; decide
  have af2 : apF 500 [[foldN 1]] [foldN 2] = [[foldN 1], [foldN 2]] := by unfold apF; rw [if_pos ap2]; rfl
  have sz2 : szF [[foldN 1], [foldN 2]] = 34 := by rw [szF_cons, szF_one, foldN_len1, foldN_len2]
  have AP1 := hid ap1
  have AF1 := hid af1
  have AP2 := hid ap2
  have AF2 := hid af2
  have SZ1 := hid sz1
  have SZ2 := hid sz2
  clear hL ap1 af1 sz1 ap2 af2 sz2
  go_enter Tryz.func5, Tryz.ntmps5
  go_wp2_with fail
  refine (new_ok 500 (by decide)).mono ?_
  rintro e w1 ⟨rfl, b1, v1, hf1⟩
  obtain ⟨B, hB⟩ : ∃ B, w.heap.size = B := ⟨_, rfl⟩
  have HB := hid hB
  rw [hB] at b1 hf1 ⊢
  have B1 := hid b1
  have F1 := hid hf1
  have S1 : Hid (B ≤ w1.heap.size) := hid (by have := hf1.lt; omega)
  clear b1 hf1 hB
  go_wp2_with fail
  refine (format_any F1.out (HL.out.low B1.out (by have := H2.out; have := HB.out; omega)) S1.out 3 (by decide) (by decide)).mono ?_
  rintro e w2 h2
  rcases h2 with ⟨hbad, _⟩ | ⟨_, lb, fv2, rfl, hlo2, hx2⟩
  · exact absurd hbad (by decide)
  have L2 := hid hlo2
  have B2 : Hid (Below B w w2) := hid (B1.out.trans (hx2.below (fun k hk => by
    rcases hk with rfl | hk
    · exact F1.out.2.1
    · exact (F1.out.own.lt k hk).1) S1.out))
  have S2 : Hid (B ≤ w2.heap.size) := hid (Nat.le_trans S1.out hx2.size)
  clear hlo2 hx2
  go_wp2_with fail
  refine (foldn_any 1 w2).mono ?_
  rintro e w3 ⟨rfl, b3⟩
  have L3 := hid (L2.out.below b3)
  have B3 := hid (B2.out.trans (b3.mono S2.out))
  have S3 : Hid (B ≤ w3.heap.size) := hid (Nat.le_trans S2.out b3.size)
  clear b3
  have HA3 := hid (ba w3 (opo (foldN 1) (.slice none 0 0)))
  have Q3 := hid (Oq.one L3.out.lg (foldN 1) (.slice none 0 0) rfl (Cs.nil _))
  have S3' : Hid (B ≤ (w3.alloc (opo (foldN 1) (.slice none 0 0))).heap.size) := hid (Nat.le_trans S3.out HA3.out.size)
  have B3' := hid (B3.out.trans (HA3.out.mono S3.out))
  go_wp2_with (first | (refine wpList_ops1 rfl _ rfl (foldN 1) (.slice none 0 0) rfl ?_) | fail)
  refine (lappend_any (L3.out.below HA3.out) (HL.out.low B3'.out (by have := H2.out; have := HB.out; omega)) S3'.out Q3.out (fun p hp => by rw [List.mem_singleton.1 hp]; exact foldN_fine 1) (by show 1 ≤ _; decide)).mono ?_
  rintro e w4 ⟨rfl, fv4, vo4, ve4, l4, hlo4, hx4, _⟩
  rw [show fsts [(foldN 1, Value.slice none 0 0)] = [foldN 1] from rfl, AF1.out] at hlo4
  rw [show fsts [(foldN 1, Value.slice none 0 0)] = [foldN 1] from rfl, AP1.out]
  have L4 := hid hlo4
  have B4 := hid (B3'.out.trans ((L3.out.below HA3.out).lg.fr hx4 S3'.out))
  have S4 : Hid (B ≤ w4.heap.size) := hid (Nat.le_trans S3'.out hx4.size)
  clear hlo4 hx4
  go_wp2_with fail
  refine (lo_sync L4.out).mono ?_
  rintro e w5 ⟨rfl, fv5, vo5, ve5, l5, hlo5, hx5, _⟩
  have L5 := hid hlo5
  have B5 := hid (B4.out.trans (L4.out.lg.fr hx5 S4.out))
  have S5 : Hid (B ≤ w5.heap.size) := hid (Nat.le_trans S4.out hx5.size)
  clear hlo5 hx5
  go_wp2_with fail
  refine (foldn_any 2 w5).mono ?_
  rintro e w6 ⟨rfl, b6⟩
  have L6 := hid (L5.out.below b6)
  have B6 := hid (B5.out.trans (b6.mono S5.out))
  have S6 : Hid (B ≤ w6.heap.size) := hid (Nat.le_trans S5.out b6.size)
  clear b6
  have HA6 := hid (ba w6 (opo (foldN 2) (.slice none 0 0)))
  have Q6 := hid (Oq.one L6.out.lg (foldN 2) (.slice none 0 0) rfl (Cs.nil _))
  have S6' : Hid (B ≤ (w6.alloc (opo (foldN 2) (.slice none 0 0))).heap.size) := hid (Nat.le_trans S6.out HA6.out.size)
  have B6' := hid (B6.out.trans (HA6.out.mono S6.out))
  go_wp2_with (first | (refine wpList_ops1 rfl _ rfl (foldN 2) (.slice none 0 0) rfl ?_) | fail)
  refine (lappend_any (L6.out.below HA6.out) (HL.out.low B6'.out (by have := H2.out; have := HB.out; omega)) S6'.out Q6.out (fun p hp => by rw [List.mem_singleton.1 hp]; exact foldN_fine 2) (by show 1 ≤ _; decide)).mono ?_
  rintro e w7 ⟨rfl, fv7, vo7, ve7, l7, hlo7, hx7, _⟩
  rw [show fsts [(foldN 2, Value.slice none 0 0)] = [foldN 2] from rfl, AF2.out] at hlo7
  rw [show fsts [(foldN 2, Value.slice none 0 0)] = [foldN 2] from rfl, AP2.out]
  have hn27 : (lby 3 [[foldN 1]]).length = 27 := by rw [lby_len (by decide) (by decide), SZ1.out]
  rw [hn27] at hlo7
  have L7 := hid hlo7
  have B7 := hid (B6'.out.trans ((L6.out.below HA6.out).lg.fr hx7 S6'.out))
  have S7 : Hid (B ≤ w7.heap.size) := hid (Nat.le_trans S6'.out hx7.size)
  clear hlo7 hx7 hn27
  go_wp2_with fail
  refine (lo_count L7.out).mono ?_
  rintro e w8 ⟨rfl, b8⟩
  rw [show (([[foldN 1], [foldN 2]].flatten.length : Nat) : Int) = 2 from rfl]
  have L8 := hid (L7.out.below b8)
  have B8 := hid (B7.out.trans (b8.mono S7.out))
  have S8 : Hid (B ≤ w8.heap.size) := hid (Nat.le_trans S7.out b8.size)
  clear b8
  go_wp2_with fail
  refine (lo_synced L8.out).mono ?_
  rintro e w9 ⟨rfl, b9⟩
  have hsy : syF [[foldN 1], [foldN 2]] 27 = 1 := by
    have := syF_at (Fs := [[foldN 1], [foldN 2]]) 1 (by decide) L8.out.good
    rw [show [[foldN 1], [foldN 2]].take 1 = [[foldN 1]] from rfl, SZ1.out] at this
    exact this
  rw [hsy]
  have L9 := hid (L8.out.below b9)
  have B9 := hid (B8.out.trans (b9.mono S8.out))
  have S9 : Hid (B ≤ w9.heap.size) := hid (Nat.le_trans S8.out b9.size)
  clear b9 hsy
  go_wp2_with fail
  refine (lo_crash L9.out 5).mono ?_
  rintro e w10 ⟨rfl, fv10, hf10, hx10⟩
  have hall : (lby 3 [[foldN 1], [foldN 2]]).length = 44 := by rw [lby_len (by decide) (by decide), SZ2.out]
  have hlf : left 5 (lby 3 [[foldN 1], [foldN 2]]) 27 = 32 := by unfold left; rw [hall]; rfl
  rw [hlf] at hf10
  obtain ⟨k, ys, hk, hk1, hk2, _, _, htl⟩ := Tl.cut L9.out.good (r := 3) (by decide) (by decide) 32 (by decide) (by rw [hall]; decide)
  have hk1' : k = 1 := by
    have : k = 0 ∨ k = 1 ∨ k = 2 := by simp at hk; omega
    rcases this with rfl | rfl | rfl
    · have := hk2 (by decide)
      rw [show [[foldN 1], [foldN 2]].take (0 + 1) = [[foldN 1]] from rfl, SZ1.out] at this
      omega
    · rfl
    · rw [show [[foldN 1], [foldN 2]].take 2 = [[foldN 1], [foldN 2]] from rfl, SZ2.out] at hk1
      omega
  subst hk1'
  rw [show [[foldN 1], [foldN 2]].take 1 = [[foldN 1]] from rfl] at htl
  have TL := hid htl
  have F10 := hid hf10
  have B10 : Hid (Below B w w10) := hid (B9.out.trans (hx10.below (fun k hk => by
    rcases hk with rfl | hk
    · exact L9.out.lg.fi.2.1
    · exact (L9.out.lg.fi.own.lt k hk).1) S9.out))
  have S10 : Hid (B ≤ w10.heap.size) := hid (Nat.le_trans S9.out hx10.size)
  clear hf10 hx10 hall hlf hk hk1 hk2 htl
  go_wp2_with fail
  refine (open_any F10.out (HL.out.low B10.out (by have := H2.out; have := HB.out; omega)) S10.out (by have := H2.out; have := HB.out; omega)).mono ?_
  rintro e w11 h11
  rcases h11 with ⟨hbad, _⟩ | ⟨r, Fs, lb11, vo11, ve11, fv11, l11, v11, q11, htl, rfl, hlo11, hq11, hfs11, hn11, hx11⟩
  · have := Tl.det hbad TL.out; cases this
  have hsome := Tl.det htl TL.out
  simp only [Option.some.injEq, Prod.mk.injEq] at hsome
  obtain ⟨rfl, rfl⟩ := hsome
  obtain ⟨u, rfl⟩ := one_of hfs11
  have Q11 := hid hq11.os
  obtain ⟨ob, off, cp, rfl, hcp, hcm, hob, hcell⟩ := hq11.os.inv (Nat.succ_pos _)
  have HC : Hid (∀ j, j < 20 → w11.cell? ⟨ob, off + 0 * 20 + j, none⟩ = (opl (foldN 1) u)[j]?) := hid (fun j hj => hcell 0 (Nat.succ_pos _) j hj)
  have HOB := hid hob
  have L11 := hid hlo11
  have B11 : Hid (Below B w w11) := hid (B10.out.trans (hx11.below (fun k hk => by
    rcases hk with rfl | hk
    · exact F10.out.2.1
    · exact (F10.out.own.lt k hk).1) S10.out))
  have CU : Hid (Cs w11 u []) := hid (hq11.os.2 (foldN 1, u) (by simp))
  have S11 : Hid (B ≤ w11.heap.size) := hid (Nat.le_trans S10.out hx11.size)
  clear htl hlo11 hq11 hfs11 hn11 hx11 hcell hob
  go_wp2_with fail
  refine galive_last w11 lb11 ob off cp (opv (foldN 1) (.slice none 0 0)) (opv (foldN 1) u) (fun W hW _ _ _ h1 h2 => run_load_opat h1 h2 (fun i hi => by have h := HC.out i hi; rw [Nat.zero_mul, Nat.add_zero] at h; exact (hW.cell HOB.out).trans h)) (foldn_any 1)
    (fun W hW => (sameop_any (foldN 1) (foldN 1) u (.slice none 0 0) W (CU.out.below hW) (Cs.nil _)).mono fun _ _ ⟨r, h1, h2, h3⟩ => ⟨by rw [h1, h2.2 rfl], h3⟩)
    (fun W hW => replica_any (L11.out.below hW).lg) (fun W hW => ?_)
  have HB12 := hid (B11.out.trans (hW.mono S11.out))
  go_wp2_with fail
  go_ret
  exact ⟨rfl, by rw [HB.out]; exact HB12.out⟩
end Go.Proofs.YteckjkblngmenaaGreatDoor

/-
  Lists of lists of ops that came in ('Oss'); what Long answers for any list; a row of ops, and one of numbers, that a law itself gathers beside a log ('Al', 'Zl').
-/
namespace Go.Proofs.YteckjkblngmenaaGreatDoor
open Go.RowKit
set_option linter.unusedVariables false
set_option maxRecDepth 100000

def Oss (w : World) (v : Value) (ls : List (List (Opn × Value))) : Prop := ∃ us : List Value, us.length = ls.length ∧ Sl 1 w v ls.length us ∧ ∀ i (h : i < ls.length) (k : i < us.length), Os w (us[i]) (ls[i])
theorem Oss.form {w : World} {v : Value} {ls : List (List (Opn × Value))} (h : Oss w v ls) : ∃ a c, v = .slice a ls.length c ∧ ls.length ≤ c ∧ c ≤ maxLen := by
  obtain ⟨us, h1, h2, h3⟩ := h
  exact h2.form
/-- The list at a place. -/
theorem Oss.at {w : World} {v : Value} {ls : List (List (Opn × Value))} (h : Oss w v ls) {i : Nat} (hi : i < ls.length) : ∃ b off c u, v = .slice (some ⟨b, off, none⟩) ls.length c ∧ b < w.heap.size ∧ w.cell? ⟨b, off + i, none⟩ = some u ∧ Os w u (ls[i]) := by
  obtain ⟨us, h1, h2, h3⟩ := h
  obtain ⟨b, off, c, e, _, _, hb, hc⟩ := h2.inv (by omega) (by decide)
  have hk : i < us.length := by omega
  exact ⟨b, off, c, us[i], e, hb, hc i _ (List.getElem?_eq_getElem hk), h3 i hi hk⟩
/-- A row of numbers of the call's own. -/
abbrev Zl (B : Nat) (w : World) (v : Value) (zs : List Nat) : Prop := w.ownsRow B 3 1 v zs.length (zs.map fun (z : Nat) => Value.int .i64 (z : Int))
end Go.Proofs.YteckjkblngmenaaGreatDoor

/-
  Small ops' bytes; a log's bytes of which one is another, in plain mathematics.
-/
namespace Go.Proofs.YteckjkblngmenaaGreatDoor
open Go.RowKit
set_option linter.unusedVariables false
set_option maxRecDepth 100000

end Go.Proofs.YteckjkblngmenaaGreatDoor

/-
  What oplog's textSize, countSize and parts return is proved here, for right ops.
-/
namespace Go.Proofs.YteckjkblngmenaaGreatDoor
open Go.RowKit
set_option linter.unusedVariables false
set_option maxRecDepth 100000

theorem info_ops : (Tryz.prog.info? 38).map (fun i => (i.zero, i.size, i.bytes)) = some (some (.slice none 0 0), 1, 24) := by kernel_rfl
/-- A row of slices that a call makes. -/
abbrev Pl (B : Nat) (w : World) (v : Value) (us : List Value) : Prop := w.ownsRow B 38 1 v us.length us
end Go.Proofs.YteckjkblngmenaaGreatDoor

/-
  What the reference's Read tells, in memory: while it is gathered ('Td'), and as it is answered ('To').
-/
namespace Go.Proofs.YteckjkblngmenaaGreatDoor
open Go.RowKit
set_option linter.unusedVariables false
set_option maxRecDepth 100000

/-- The blocks that are changed while it is gathered. -/
def Tb (b : Nat) (vf ve : Value) (k : Nat) : Prop := k = b ∨ vf.ownBlock = some k ∨ ve.ownBlock = some k
/-- Lists of ops above a place, outside S. -/
def Uq (B : Nat) (S : Nat → Prop) (w : World) (us : List Value) (lls : List (List (Opn × Value))) : Prop := us.length = lls.length ∧ ∀ i (h : i < lls.length) (k : i < us.length), Oq S w (us[i]) (lls[i]) ∧ Nn B (us[i]) (lls[i])
theorem Uq.nil (B : Nat) (S : Nat → Prop) (w : World) : Uq B S w [] [] := ⟨rfl, fun i h => absurd h (Nat.not_lt_zero _)⟩
theorem Uq.step {B : Nat} {S S' : Nat → Prop} {w w' : World} {us : List Value} {lls : List (List (Opn × Value))} (h : Uq B S w us lls) (x : Lx S S' w w') : Uq B S' w' us lls := ⟨h.1, fun i hi hk => ⟨(h.2 i hi hk).1.step x, (h.2 i hi hk).2⟩⟩
theorem Uq.snoc {B : Nat} {S : Nat → Prop} {w : World} {us : List Value} {lls : List (List (Opn × Value))} {u : Value} {l : List (Opn × Value)} (h : Uq B S w us lls) (hu : Oq S w u l) (hn : Nn B u l) : Uq B S w (us ++ [u]) (lls ++ [l]) := by
  refine ⟨by simp [h.1], fun i hi hk => ?_⟩
  have h1 := h.1
  by_cases hlt : i < lls.length
  · have hlt' : i < us.length := by omega
    rw [List.getElem_append_left hlt, List.getElem_append_left hlt']
    exact h.2 i hlt hlt'
  · have e : i = lls.length := by simp at hi; omega
    subst e
    have e1 : (lls ++ [l])[lls.length] = l := by simp
    have e2 : (us ++ [u])[lls.length] = u := by simp [← h1]
    rw [e1, e2]
    exact ⟨hu, hn⟩
structure Td (B : Nat) (w : World) (b : Nat) (r : Int) (vf ve : Value) (us : List Value) (lls : List (List (Opn × Value))) (zs : List Nat) : Prop where
  blk : w.heap[b]? = some (.cells #[.int .i64 r, vf, ve] 55 (0, 0))
  base : B ≤ b
  rf : Pl B w vf us
  re : Zl B w ve zs
  uq : Uq B (Tb b vf ve) w us lls
section
variable {B : Nat} {w w' : World} {b : Nat} {r : Int} {vf ve : Value} {us : List Value} {lls : List (List (Opn × Value))} {zs : List Nat}
theorem Td.lt (h : Td B w b r vf ve us lls zs) : b < w.heap.size := (Array.getElem?_eq_some_iff.1 h.blk).1
theorem Td.nf (h : Td B w b r vf ve us lls zs) : vf.ownBlock ≠ some b := own_far h.rf h.blk (by decide)
theorem Td.ne (h : Td B w b r vf ve us lls zs) : ve.ownBlock ≠ some b := own_far h.re h.blk (by decide)
theorem Td.inside (h : Td B w b r vf ve us lls zs) {k : Nat} (hk : Tb b vf ve k) : B ≤ k ∧ k < w.heap.size := by
  rcases hk with rfl | hk | hk
  · exact ⟨h.base, h.lt⟩
  · exact h.rf.lt k hk
  · exact h.re.lt k hk
theorem Td.below (h : Td B w b r vf ve us lls zs) (hb : Below w.heap.size w w') : Td B w' b r vf ve us lls zs := by
  have hF : Fr (fun _ => False) w w' := Fr.of_below hb
  exact ⟨(hb.block b h.lt).trans h.blk, h.base, own_fr h.rf hF (fun _ _ e => e), own_fr h.re hF (fun _ _ e => e), h.uq.step (Lx.of_below hb)⟩
theorem Td.of_blk {b : Nat} {r : Int} (hb : w.heap[b]? = some (.cells #[.int .i64 r, .slice none 0 0, .slice none 0 0] 55 (0, 0))) (hB : B ≤ b) : Td B w b r (.slice none 0 0) (.slice none 0 0) [] [] [] :=
  ⟨hb, hB, ⟨rfl, .inl ⟨rfl, rfl⟩⟩, ⟨rfl, .inl ⟨rfl, rfl⟩⟩, Uq.nil _ _ _⟩
/-- A store of the row of lists, in a world in which that row was changed alone. -/
theorem Td.frames {vf' : Value} {us' : List Value} {lls' : List (List (Opn × Value))} (h : Td B w b r vf ve us lls zs) (hown : Pl B w' vf' us') (hfr : Fr (fun k => vf.ownBlock = some k) w w')
    (hv : ∀ k, vf'.ownBlock = some k → vf.ownBlock = some k ∨ w.heap.size ≤ k) (hq : Uq B (Tb b vf ve) w us' lls') :
    Td B (w'.setCell ⟨b, 1, none⟩ vf') b r vf' ve us' lls' zs ∧ Lx (Tb b vf ve) (Tb b vf' ve) w (w'.setCell ⟨b, 1, none⟩ vf') := by
  have hb' : w'.heap[b]? = some (.cells #[.int .i64 r, vf, ve] 55 (0, 0)) := by rw [hfr.block b h.lt h.nf]; exact h.blk
  have hne' : vf'.ownBlock ≠ some b := fun e => by
    rcases hv b e with e | e
    · exact h.nf e
    · have := h.lt; omega
  have hx : Fr (fun k => k = b ∨ vf.ownBlock = some k) w (w'.setCell ⟨b, 1, none⟩ vf') := (hfr.mono (fun k e => .inr e)).trans ((Fr.of_set w' b 1 vf').mono (fun k e => .inl e)) (fun _ _ h => h)
  have x : Lx (Tb b vf ve) (Tb b vf' ve) w (w'.setCell ⟨b, 1, none⟩ vf') := by
    refine ⟨hx.mono (fun k hk => ?_), fun k hk => ?_⟩
    · rcases hk with rfl | hk
      · exact .inl rfl
      · exact .inr (.inl hk)
    · rcases hk with rfl | hk | hk
      · exact .inl (.inl rfl)
      · exact (hv k hk).imp (fun e => .inr (.inl e)) id
      · exact .inl (.inr (.inr hk))
  refine ⟨⟨by rw [heap_setCell_same w' b 1 _ _ vf' hb']; simp, h.base, ownsRow_setCell_other hown hne' _, ?_, hq.step x⟩, x⟩
  refine own_fr h.re hx (fun k hk e => ?_)
  rcases e with rfl | e
  · exact h.ne hk
  · exact own_two h.rf h.re (by decide) e hk
/-- A store of the row of ends. -/
theorem Td.ends {ve' : Value} {zs' : List Nat} (h : Td B w b r vf ve us lls zs) (hown : Zl B w' ve' zs') (hfr : Fr (fun k => ve.ownBlock = some k) w w')
    (hv : ∀ k, ve'.ownBlock = some k → ve.ownBlock = some k ∨ w.heap.size ≤ k) :
    Td B (w'.setCell ⟨b, 2, none⟩ ve') b r vf ve' us lls zs' ∧ Lx (Tb b vf ve) (Tb b vf ve') w (w'.setCell ⟨b, 2, none⟩ ve') := by
  have hb' : w'.heap[b]? = some (.cells #[.int .i64 r, vf, ve] 55 (0, 0)) := by rw [hfr.block b h.lt h.ne]; exact h.blk
  have hne' : ve'.ownBlock ≠ some b := fun e => by
    rcases hv b e with e | e
    · exact h.ne e
    · have := h.lt; omega
  have hx : Fr (fun k => k = b ∨ ve.ownBlock = some k) w (w'.setCell ⟨b, 2, none⟩ ve') := (hfr.mono (fun k e => .inr e)).trans ((Fr.of_set w' b 2 ve').mono (fun k e => .inl e)) (fun _ _ h => h)
  have x : Lx (Tb b vf ve) (Tb b vf ve') w (w'.setCell ⟨b, 2, none⟩ ve') := by
    refine ⟨hx.mono (fun k hk => ?_), fun k hk => ?_⟩
    · rcases hk with rfl | hk
      · exact .inl rfl
      · exact .inr (.inr hk)
    · rcases hk with rfl | hk | hk
      · exact .inl (.inl rfl)
      · exact .inl (.inr (.inl hk))
      · exact (hv k hk).imp (fun e => .inr (.inr e)) id
  refine ⟨⟨by rw [heap_setCell_same w' b 2 _ _ ve' hb']; simp, h.base, ?_, ownsRow_setCell_other hown hne' _, h.uq.step x⟩, x⟩
  refine own_fr h.rf hx (fun k hk e => ?_)
  rcases e with rfl | e
  · exact h.nf hk
  · exact own_two h.rf h.re (by decide) hk e
/-- What the walk reads. -/
theorem Td.cells (h : Td B w b r vf ve us lls zs) : w.cell? ⟨b, 0, none⟩ = some (.int .i64 r) ∧ w.cell? ⟨b, 1, none⟩ = some vf ∧ w.cell? ⟨b, 2, none⟩ = some ve ∧ w.frozen? ⟨b, 0, none⟩ = false ∧ w.frozen? ⟨b, 1, none⟩ = false ∧ w.frozen? ⟨b, 2, none⟩ = false := by
  refine ⟨?_, ?_, ?_, frozen_of_row w b 0 _ _ h.blk, frozen_of_row w b 1 _ _ h.blk, frozen_of_row w b 2 _ _ h.blk⟩
  · rw [cell_of_row w b 0 _ _ _ h.blk]; rfl
  · rw [cell_of_row w b 1 _ _ _ h.blk]; rfl
  · rw [cell_of_row w b 2 _ _ _ h.blk]; rfl
end

/-- What is told, as it is answered: the lists, and where their frames end; all of it new. -/
structure To (B : Nat) (w : World) (vf ve : Value) (Fs : List (List Opn)) (lls : List (List (Opn × Value))) : Prop where
  us : ∃ us : List Value, us.length = lls.length ∧ Sl 1 w vf lls.length us ∧ ∀ i (h : i < lls.length) (k : i < us.length), Os w (us[i]) (lls[i]) ∧ Nn B (us[i]) (lls[i])
  fb : ∀ k, vf.ownBlock = some k → B ≤ k
  ends : Sl 1 w ve Fs.length ((endsF Fs).map fun p => Value.int .i64 (p.1 : Nat))
  eb : ∀ k, ve.ownBlock = some k → B ≤ k
  fl : lls.map fsts = Fs
theorem To.oss {B : Nat} {w : World} {vf ve : Value} {Fs : List (List Opn)} {lls : List (List (Opn × Value))} (h : To B w vf ve Fs lls) : Oss w vf lls := by
  obtain ⟨us, h1, h2, h3⟩ := h.us
  exact ⟨us, h1, h2, fun i hi hk => (h3 i hi hk).1⟩
theorem Os.kept {B : Nat} {S : Nat → Prop} {w w' : World} {v : Value} {l : List (Opn × Value)} (h : Os w v l) (hn : Nn B v l) (hf : Fr S w w') (hs : ∀ k, S k → k < B) : Os w' v l :=
  ⟨Sl.kept h.1 (fun k hk hlt => hf.block k hlt (fun e => by have h1 := hs k e; have h2 := hn.1 k hk; omega)), fun p hp => Sl.kept (h.2 p hp) (fun k hk hlt => hf.block k hlt (fun e => by have h1 := hs k e; have h2 := hn.2 p hp k hk; omega))⟩
/-- Where only what is older is changed. -/
theorem To.kept {B : Nat} {S : Nat → Prop} {w w' : World} {vf ve : Value} {Fs : List (List Opn)} {lls : List (List (Opn × Value))} (h : To B w vf ve Fs lls) (hf : Fr S w w') (hs : ∀ k, S k → k < B) : To B w' vf ve Fs lls := by
  obtain ⟨us, h1, h2, h3⟩ := h.us
  exact ⟨⟨us, h1, Sl.kept h2 (fun k hk hlt => hf.block k hlt (fun e => by have h1 := hs k e; have h2 := h.fb k hk; omega)), fun i hi hk => ⟨(h3 i hi hk).1.kept (h3 i hi hk).2 hf hs, (h3 i hi hk).2⟩⟩, h.fb,
    Sl.kept h.ends (fun k hk hlt => hf.block k hlt (fun e => by have h1 := hs k e; have h2 := h.eb k hk; omega)), h.eb, h.fl⟩
theorem To.base {B C : Nat} {w : World} {vf ve : Value} {Fs : List (List Opn)} {lls : List (List (Opn × Value))} (h : To B w vf ve Fs lls) (hC : C ≤ B) : To C w vf ve Fs lls := by
  obtain ⟨us, h1, h2, h3⟩ := h.us
  exact ⟨⟨us, h1, h2, fun i hi hk => ⟨(h3 i hi hk).1, (h3 i hi hk).2.mono hC⟩⟩, fun k hk => Nat.le_trans hC (h.fb k hk), h.ends, fun k hk => Nat.le_trans hC (h.eb k hk), h.fl⟩
theorem To.below {B : Nat} {w w' : World} {vf ve : Value} {Fs : List (List Opn)} {lls : List (List (Opn × Value))} (h : To B w vf ve Fs lls) (hb : Below w.heap.size w w') : To B w' vf ve Fs lls :=
  h.kept (Fr.of_below (S := fun _ => False) hb) (fun _ e => e.elim)
theorem To.of {B : Nat} {w : World} {b : Nat} {r : Int} {vf ve : Value} {us : List Value} {lls : List (List (Opn × Value))} {Fs : List (List Opn)} (h : Td B w b r vf ve us lls ((endsF Fs).map Prod.fst)) (hl : lls.map fsts = Fs) : To B w vf ve Fs lls := by
  have hlen : Fs.length = lls.length := by rw [← hl]; simp
  have e : (endsF Fs).length = Fs.length := endsF_len Fs
  refine ⟨⟨us, h.uq.1, ?_, fun i hi hk => ⟨(h.uq.2 i hi hk).1.os, (h.uq.2 i hi hk).2⟩⟩, fun k hk => (h.rf.lt k hk).1, ?_, fun k hk => (h.re.lt k hk).1, hl⟩
  · have := Sl.of_own h.rf
    rw [h.uq.1] at this
    exact this
  · have := Sl.of_own h.re
    rw [List.length_map, e, List.map_map] at this
    exact this
end Go.Proofs.YteckjkblngmenaaGreatDoor

/-
  What oplog's parts returns is proved here, for right ops: the ops, cut into those of one frame each.
-/
namespace Go.Proofs.YteckjkblngmenaaGreatDoor
open Go.RowKit
set_option linter.unusedVariables false
set_option maxRecDepth 100000

end Go.Proofs.YteckjkblngmenaaGreatDoor

/-
  What oplog's Compact does is proved here: the file has the ops anew, in parts, or is left.
-/
namespace Go.Proofs.YteckjkblngmenaaGreatDoor
open Go.RowKit
set_option linter.unusedVariables false
set_option maxRecDepth 100000

/-- An operation that makes memory; one that leaves no value. -/
theorem wpList_new {P : Program} {ops : Array Oper} {rest : List Oper} {o : Oper} {a : Act} {w w' : World} {v : Value} {Q : Exit → Act → World → Prop} (hgd : o.guard = none) (hrun : (execOp a.eval o).run P w = .ok (.value v) w') (hk : wpList P ops Q rest (a.put o.dst v) w') : wpList P ops Q (o :: rest) a w :=
  wpList_plain hgd fun K hK => by unfold Oper.wp; rw [hrun]; exact hK _ _ hk
theorem wpList_none {P : Program} {ops : Array Oper} {rest : List Oper} {o : Oper} {a : Act} {w w' : World} {Q : Exit → Act → World → Prop} (hgd : o.guard = none) (hrun : (execOp a.eval o).run P w = .ok .skip w') (hk : wpList P ops Q rest (a.put o.dst undef) w') : wpList P ops Q (o :: rest) a w :=
  wpList_plain hgd fun K hK => by unfold Oper.wp; rw [hrun]; exact hK _ _ hk

end Go.Proofs.YteckjkblngmenaaGreatDoor
