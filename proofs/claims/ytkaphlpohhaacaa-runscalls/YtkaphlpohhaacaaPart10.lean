/-
  Parts of the proof, one behind the other; what each proves stands at its head.
-/
import Derived.Test.YtkaphlpohhaacaaPart9
import Derived.Laws.CopyRow
import Derived.Lib.AppendZeros
import Derived.Lib.Overlaps

/-
  What Find answers of a row is proved here. Printed by genufind.py.
-/
namespace Go.Proofs.Ytkaphlpohhaacaa
open Go.RowKit
set_option linter.unusedVariables false
set_option linter.unusedSimpArgs false
set_option maxRecDepth 100000

structure Rf (W : World) (p q : Nat) (A : Option Addr) (n c : Nat) (b off k : Nat) (x : Un) (r m i : Int) : Prop where
  w : Wb W p (.slice A n c)
  q : Hb W q r m i
  x : Uc W b (off + k * 13) x
theorem Rf.below {W W' : World} {p q : Nat} {A : Option Addr} {n c : Nat} {b off k : Nat} {x : Un} {r m i : Int} (h : Rf W p q A n c b off k x r m i) (hb : Below W.heap.size W W') : Rf W' p q A n c b off k x r m i := ⟨h.w.below hb, h.q.below hb, h.x.below hb⟩

def uf0 : Oper := { dst := some 17, op := Op.move (Operand.tmp 0), type := 29, pos := "runs.go:160", after := #[], guard := none }
def uf1 : Oper := { dst := some 18, op := Op.nilCheck (Operand.tmp 17), type := 0, pos := "runs.go:160", after := #[{ on := 0, ground := Ground.data }], guard := none }
def uf2 : Oper := { dst := some 19, op := Op.fieldAddr 57 (Operand.tmp 18) 0, type := 0, pos := "runs.go:160", after := #[{ on := 1, ground := Ground.data }], guard := none }
def uf3 : Oper := { dst := some 20, op := Op.load 55 (Operand.tmp 19), type := 55, pos := "runs.go:160", after := #[{ on := 2, ground := Ground.data }], guard := none }
def uf4 : Oper := { dst := some 21, op := Op.move (Operand.tmp 7), type := 3, pos := "runs.go:160", after := #[], guard := none }
def uf5 : Oper := { dst := some 22, op := Op.slice 55 (Operand.tmp 20) none (some (Operand.tmp 21)) none, type := 55, pos := "runs.go:160", after := #[{ on := 3, ground := Ground.data }, { on := 4, ground := Ground.data }], guard := none }
def uf6 : Oper := { dst := some 23, op := Op.call { callee := Callee.value (Operand.func 35), args := #[Operand.tmp 22], argTypes := #[55] }, type := 3, pos := "runs.go:160", after := #[{ on := 5, ground := Ground.data }], guard := none }
def uf7 : Oper := { dst := some 24, op := Op.fieldAddr 26 (Operand.tmp 3) 1, type := 0, pos := "runs.go:160", after := #[], guard := none }
def uf8 : Oper := { dst := some 25, op := Op.load 3 (Operand.tmp 24), type := 3, pos := "runs.go:160", after := #[{ on := 7, ground := Ground.data }], guard := none }
def uf9 : Oper := { dst := some 26, op := Op.binOp BinOp.add 3 (Operand.tmp 23) (Operand.tmp 25) 3, type := 3, pos := "runs.go:160", after := #[{ on := 6, ground := Ground.data }, { on := 8, ground := Ground.data }], guard := none }
def uf10 : Oper := { dst := some 27, op := Op.move (Operand.tmp 0), type := 29, pos := "runs.go:160", after := #[], guard := none }
def uf11 : Oper := { dst := some 28, op := Op.nilCheck (Operand.tmp 27), type := 0, pos := "runs.go:160", after := #[{ on := 10, ground := Ground.data }], guard := none }
def uf12 : Oper := { dst := some 29, op := Op.fieldAddr 57 (Operand.tmp 28) 0, type := 0, pos := "runs.go:160", after := #[{ on := 11, ground := Ground.data }], guard := none }
def uf13 : Oper := { dst := some 30, op := Op.load 55 (Operand.tmp 29), type := 55, pos := "runs.go:160", after := #[{ on := 12, ground := Ground.data }], guard := none }
def uf14 : Oper := { dst := some 31, op := Op.move (Operand.tmp 7), type := 3, pos := "runs.go:160", after := #[], guard := none }
def uf15 : Oper := { dst := some 32, op := Op.indexAddr 55 (Operand.tmp 30) (Operand.tmp 31), type := 0, pos := "runs.go:160", after := #[{ on := 13, ground := Ground.data }, { on := 14, ground := Ground.data }], guard := none }
def uf16 : Oper := { dst := some 33, op := Op.fieldAddr 59 (Operand.tmp 32) 0, type := 0, pos := "runs.go:160", after := #[{ on := 15, ground := Ground.data }], guard := none }
def uf17 : Oper := { dst := some 34, op := Op.fieldAddr 36 (Operand.tmp 33) 1, type := 0, pos := "runs.go:160", after := #[{ on := 16, ground := Ground.data }], guard := none }
def uf18 : Oper := { dst := some 35, op := Op.load 3 (Operand.tmp 34), type := 3, pos := "runs.go:160", after := #[{ on := 17, ground := Ground.data }], guard := none }
def uf19 : Oper := { dst := some 36, op := Op.binOp BinOp.sub 3 (Operand.tmp 26) (Operand.tmp 35) 3, type := 3, pos := "runs.go:160", after := #[{ on := 9, ground := Ground.data }, { on := 18, ground := Ground.data }], guard := none }
def uf20 : Oper := { dst := some 4,op := Op.assign (Operand.tmp 36),type := 3,pos := "runs.go:160",after := #[{ on := 19,ground := Ground.data },{ on := 6,ground := Ground.chain },{ on := 0,ground := Ground.phase },{ on := 1,ground := Ground.phase },{ on := 2,ground := Ground.phase },{ on := 3,ground := Ground.phase },{ on := 4,ground := Ground.phase },{ on := 5,ground := Ground.phase },{ on := 6,ground := Ground.phase },{ on := 7,ground := Ground.phase },{ on := 8,ground := Ground.phase },{ on := 9,ground := Ground.phase },{ on := 10,ground := Ground.phase },{ on := 11,ground := Ground.phase },{ on := 12,ground := Ground.phase },{ on := 13,ground := Ground.phase },{ on := 14,ground := Ground.phase },{ on := 15,ground := Ground.phase },{ on := 16,ground := Ground.phase },{ on := 17,ground := Ground.phase },{ on := 18,ground := Ground.phase },{ on := 19,ground := Ground.phase }],guard := none }
def uf21 : Oper := { dst := some 5,op := Op.assign (Operand.const (Value.bool true)),type := 4,pos := "runs.go:160",after := #[{ on := 20,ground := Ground.chain },{ on := 0,ground := Ground.phase },{ on := 1,ground := Ground.phase },{ on := 2,ground := Ground.phase },{ on := 3,ground := Ground.phase },{ on := 4,ground := Ground.phase },{ on := 5,ground := Ground.phase },{ on := 6,ground := Ground.phase },{ on := 7,ground := Ground.phase },{ on := 8,ground := Ground.phase },{ on := 9,ground := Ground.phase },{ on := 10,ground := Ground.phase },{ on := 11,ground := Ground.phase },{ on := 12,ground := Ground.phase },{ on := 13,ground := Ground.phase },{ on := 14,ground := Ground.phase },{ on := 15,ground := Ground.phase },{ on := 16,ground := Ground.phase },{ on := 17,ground := Ground.phase },{ on := 18,ground := Ground.phase },{ on := 19,ground := Ground.phase },{ on := 20,ground := Ground.phase }],guard := none }
def ufs : Array Oper := #[uf0, uf1, uf2, uf3, uf4, uf5, uf6, uf7, uf8, uf9, uf10, uf11, uf12, uf13, uf14, uf15, uf16, uf17, uf18, uf19, uf20, uf21]
theorem uf_lit : Region.noSelect ufs = true := by kernel_rfl

set_option maxHeartbeats 8000000 in
theorem find_reg {p q n c b off k : Nat} {x : Un} {r m i z : Int} {xs : List Un} {w : World} (h : Rf w p q (some ⟨b,off,none⟩) n c b off k x r m i) (hkn : k < n) (hkc : k ≤ c) (hu : Us w (.slice (some ⟨b,off,none⟩) k c) (xs.take k)) (hf : Fis (xs.take k)) (hl : (xs.take k).length ≤ 1000000) (hz : cntU (xs.take k) = z) (h1 : -9223372036854775808 ≤ z + i) (h2 : z + i ≤ 9223372036854775807) (h3 : -9223372036854775808 ≤ z + i - x.f) (h4 : z + i - x.f ≤ 9223372036854775807) {x1 x2 x4 x5 x6 x8 x9 ab ad ae af ah ai aj x17 x18 x19 x20 x21 x22 ap x24 x25 am x27 x28 x29 x30 x31 aw av au aq ak : Value} {Q : Exit → Act → World → Prop}
    (hP : ∀ c t t' d W, Q (.panic c) { tmps := t, defers := d } W → Q (.panic c) { tmps := t', defers := d } W)
    (hQ : ∀ W,Below w.heap.size w W → Q .normal { tmps := #[.pointer (some ⟨p,0,none⟩),x1,x2,.pointer (some ⟨q,0,none⟩),.int .i64 ((z + i) - x.f),.bool true,x6,.int .i64 (k : Int),x8,x9,ab,ad,ae,af,ah,ai,aj,.pointer (some ⟨p,0,none⟩),.pointer (some ⟨p,0,none⟩),.pointer (some ⟨p,0,none⟩),.slice (some ⟨b,off,none⟩) n c,.int .i64 (k : Int),.slice (some ⟨b,off,none⟩) k c,.int .i64 z,.pointer (some ⟨q,2,none⟩),.int .i64 i,.int .i64 (z + i),.pointer (some ⟨p,0,none⟩),.pointer (some ⟨p,0,none⟩),.pointer (some ⟨p,0,none⟩),.slice (some ⟨b,off,none⟩) n c,.int .i64 (k : Int),.pointer (some ⟨b,off + k * 13,none⟩),.pointer (some ⟨b,off + k * 13,none⟩),.pointer (some ⟨b,off + k * 13 + 2,none⟩),.int .i64 x.f,.int .i64 ((z + i) - x.f)],defers := [] } W) : (Code.region 5 ufs true).wp Try.prog Q { tmps := #[.pointer (some ⟨p,0,none⟩),x1,x2,.pointer (some ⟨q,0,none⟩),x4,x5,x6,.int .i64 (k : Int),x8,x9,ab,ad,ae,af,ah,ai,aj,x17,x18,x19,x20,x21,x22,ap,x24,x25,am,x27,x28,x29,x30,x31,aw,av,au,aq,ak],defers := [] } w := by
  refine wp_region_held (S := fun W => Rf W p q (some ⟨b, off, none⟩) n c b off k x r m i) (by kernel_rfl) ?_
  change wpAnyH _ _ _ _ _ 22 _ _ (World.drew _)
  have S0 : Rf (World.drew w) p q (some ⟨b, off, none⟩) n c b off k x r m i := h.below (bd w 1)
  clear h
  obtain ⟨W0, hW⟩ : ∃ W, World.drew w = W := ⟨_, rfl⟩
  rw [hW] at S0 ⊢
  have BW0 : Below w.heap.size w W0 := by rw [← hW]; exact (Below.refl _ _).drew
  clear hW
  refine wpAnyH_take (i := 0) (oi := uf0) (v := .pointer (some ⟨p, 0, none⟩)) (by kernel_rfl) uf_lit (by kernel_rfl) (by kernel_rfl) (fun c a W h => hP c _ _ _ W h) (Or.inl ⟨by kernel_rfl, fun W hW => by kernel_rfl⟩) S0 ?_
  rw [show Act.put _ uf0.dst _ = { tmps := #[.pointer (some ⟨p,0,none⟩),x1,x2,.pointer (some ⟨q,0,none⟩),x4,x5,x6,.int .i64 (k : Int),x8,x9,ab,ad,ae,af,ah,ai,aj,.pointer (some ⟨p,0,none⟩),x18,x19,x20,x21,x22,ap,x24,x25,am,x27,x28,x29,x30,x31,aw,av,au,aq,ak],defers := [] } from by kernel_rfl]
  refine wpAnyH_take (i := 1) (oi := uf1) (v := .pointer (some ⟨p, 0, none⟩)) (by kernel_rfl) uf_lit (by kernel_rfl) (by kernel_rfl) (fun c a W h => hP c _ _ _ W h) (Or.inl ⟨by kernel_rfl, fun W hW => by kernel_rfl⟩) S0 ?_
  rw [show Act.put _ uf1.dst _ = { tmps := #[.pointer (some ⟨p,0,none⟩),x1,x2,.pointer (some ⟨q,0,none⟩),x4,x5,x6,.int .i64 (k : Int),x8,x9,ab,ad,ae,af,ah,ai,aj,.pointer (some ⟨p,0,none⟩),.pointer (some ⟨p,0,none⟩),x19,x20,x21,x22,ap,x24,x25,am,x27,x28,x29,x30,x31,aw,av,au,aq,ak],defers := [] } from by kernel_rfl]
  refine wpAnyH_take (i := 2) (oi := uf2) (v := .pointer (some ⟨p, 0, none⟩)) (by kernel_rfl) uf_lit (by kernel_rfl) (by kernel_rfl) (fun c a W h => hP c _ _ _ W h) (Or.inl ⟨by kernel_rfl, fun W hW => by kernel_rfl⟩) S0 ?_
  rw [show Act.put _ uf2.dst _ = { tmps := #[.pointer (some ⟨p,0,none⟩),x1,x2,.pointer (some ⟨q,0,none⟩),x4,x5,x6,.int .i64 (k : Int),x8,x9,ab,ad,ae,af,ah,ai,aj,.pointer (some ⟨p,0,none⟩),.pointer (some ⟨p,0,none⟩),.pointer (some ⟨p,0,none⟩),x20,x21,x22,ap,x24,x25,am,x27,x28,x29,x30,x31,aw,av,au,aq,ak],defers := [] } from by kernel_rfl]
  refine wpAnyH_take (i := 3) (oi := uf3) (v := .slice (some ⟨b, off, none⟩) n c) (by kernel_rfl) uf_lit (by kernel_rfl) (by kernel_rfl) (fun c a W h => hP c _ _ _ W h) (Or.inl ⟨by kernel_rfl, fun W hW => runU_runs rfl rfl hW.w.cell⟩) S0 ?_
  rw [show Act.put _ uf3.dst _ = { tmps := #[.pointer (some ⟨p,0,none⟩),x1,x2,.pointer (some ⟨q,0,none⟩),x4,x5,x6,.int .i64 (k : Int),x8,x9,ab,ad,ae,af,ah,ai,aj,.pointer (some ⟨p,0,none⟩),.pointer (some ⟨p,0,none⟩),.pointer (some ⟨p,0,none⟩),.slice (some ⟨b,off,none⟩) n c,x21,x22,ap,x24,x25,am,x27,x28,x29,x30,x31,aw,av,au,aq,ak],defers := [] } from by kernel_rfl]
  refine wpAnyH_take (i := 4) (oi := uf4) (v := .int .i64 (k : Int)) (by kernel_rfl) uf_lit (by kernel_rfl) (by kernel_rfl) (fun c a W h => hP c _ _ _ W h) (Or.inl ⟨by kernel_rfl, fun W hW => by kernel_rfl⟩) S0 ?_
  rw [show Act.put _ uf4.dst _ = { tmps := #[.pointer (some ⟨p,0,none⟩),x1,x2,.pointer (some ⟨q,0,none⟩),x4,x5,x6,.int .i64 (k : Int),x8,x9,ab,ad,ae,af,ah,ai,aj,.pointer (some ⟨p,0,none⟩),.pointer (some ⟨p,0,none⟩),.pointer (some ⟨p,0,none⟩),.slice (some ⟨b,off,none⟩) n c,.int .i64 (k : Int),x22,ap,x24,x25,am,x27,x28,x29,x30,x31,aw,av,au,aq,ak],defers := [] } from by kernel_rfl]
  refine wpAnyH_take (i := 5) (oi := uf5) (v := .slice (some ⟨b, off, none⟩) k c) (by kernel_rfl) uf_lit (by kernel_rfl) (by kernel_rfl) (fun c a W h => hP c _ _ _ W h) (Or.inl ⟨by kernel_rfl, fun W hW => runU_slt rfl rfl rfl (by omega)⟩) S0 ?_
  rw [show Act.put _ uf5.dst _ = { tmps := #[.pointer (some ⟨p,0,none⟩),x1,x2,.pointer (some ⟨q,0,none⟩),x4,x5,x6,.int .i64 (k : Int),x8,x9,ab,ad,ae,af,ah,ai,aj,.pointer (some ⟨p,0,none⟩),.pointer (some ⟨p,0,none⟩),.pointer (some ⟨p,0,none⟩),.slice (some ⟨b,off,none⟩) n c,.int .i64 (k : Int),.slice (some ⟨b,off,none⟩) k c,ap,x24,x25,am,x27,x28,x29,x30,x31,aw,av,au,aq,ak],defers := [] } from by kernel_rfl]
  refine wpAnyH_take (i := 7) (oi := uf7) (v := .pointer (some ⟨q, 2, none⟩)) (by kernel_rfl) uf_lit (by kernel_rfl) (by kernel_rfl) (fun c a W h => hP c _ _ _ W h) (Or.inl ⟨by kernel_rfl, fun W hW => by kernel_rfl⟩) S0 ?_
  rw [show Act.put _ uf7.dst _ = { tmps := #[.pointer (some ⟨p,0,none⟩),x1,x2,.pointer (some ⟨q,0,none⟩),x4,x5,x6,.int .i64 (k : Int),x8,x9,ab,ad,ae,af,ah,ai,aj,.pointer (some ⟨p,0,none⟩),.pointer (some ⟨p,0,none⟩),.pointer (some ⟨p,0,none⟩),.slice (some ⟨b,off,none⟩) n c,.int .i64 (k : Int),.slice (some ⟨b,off,none⟩) k c,ap,.pointer (some ⟨q,2,none⟩),x25,am,x27,x28,x29,x30,x31,aw,av,au,aq,ak],defers := [] } from by kernel_rfl]
  refine wpAnyH_take (i := 8) (oi := uf8) (v := .int .i64 i) (by kernel_rfl) uf_lit (by kernel_rfl) (by kernel_rfl) (fun c a W h => hP c _ _ _ W h) (Or.inl ⟨by kernel_rfl, fun W hW => runU_int rfl rfl hW.q.cells.c2⟩) S0 ?_
  rw [show Act.put _ uf8.dst _ = { tmps := #[.pointer (some ⟨p,0,none⟩),x1,x2,.pointer (some ⟨q,0,none⟩),x4,x5,x6,.int .i64 (k : Int),x8,x9,ab,ad,ae,af,ah,ai,aj,.pointer (some ⟨p,0,none⟩),.pointer (some ⟨p,0,none⟩),.pointer (some ⟨p,0,none⟩),.slice (some ⟨b,off,none⟩) n c,.int .i64 (k : Int),.slice (some ⟨b,off,none⟩) k c,ap,.pointer (some ⟨q,2,none⟩),.int .i64 i,am,x27,x28,x29,x30,x31,aw,av,au,aq,ak],defers := [] } from by kernel_rfl]
  refine wpAnyH_take (i := 10) (oi := uf10) (v := .pointer (some ⟨p, 0, none⟩)) (by kernel_rfl) uf_lit (by kernel_rfl) (by kernel_rfl) (fun c a W h => hP c _ _ _ W h) (Or.inl ⟨by kernel_rfl, fun W hW => by kernel_rfl⟩) S0 ?_
  rw [show Act.put _ uf10.dst _ = { tmps := #[.pointer (some ⟨p,0,none⟩),x1,x2,.pointer (some ⟨q,0,none⟩),x4,x5,x6,.int .i64 (k : Int),x8,x9,ab,ad,ae,af,ah,ai,aj,.pointer (some ⟨p,0,none⟩),.pointer (some ⟨p,0,none⟩),.pointer (some ⟨p,0,none⟩),.slice (some ⟨b,off,none⟩) n c,.int .i64 (k : Int),.slice (some ⟨b,off,none⟩) k c,ap,.pointer (some ⟨q,2,none⟩),.int .i64 i,am,.pointer (some ⟨p,0,none⟩),x28,x29,x30,x31,aw,av,au,aq,ak],defers := [] } from by kernel_rfl]
  refine wpAnyH_take (i := 11) (oi := uf11) (v := .pointer (some ⟨p, 0, none⟩)) (by kernel_rfl) uf_lit (by kernel_rfl) (by kernel_rfl) (fun c a W h => hP c _ _ _ W h) (Or.inl ⟨by kernel_rfl, fun W hW => by kernel_rfl⟩) S0 ?_
  rw [show Act.put _ uf11.dst _ = { tmps := #[.pointer (some ⟨p,0,none⟩),x1,x2,.pointer (some ⟨q,0,none⟩),x4,x5,x6,.int .i64 (k : Int),x8,x9,ab,ad,ae,af,ah,ai,aj,.pointer (some ⟨p,0,none⟩),.pointer (some ⟨p,0,none⟩),.pointer (some ⟨p,0,none⟩),.slice (some ⟨b,off,none⟩) n c,.int .i64 (k : Int),.slice (some ⟨b,off,none⟩) k c,ap,.pointer (some ⟨q,2,none⟩),.int .i64 i,am,.pointer (some ⟨p,0,none⟩),.pointer (some ⟨p,0,none⟩),x29,x30,x31,aw,av,au,aq,ak],defers := [] } from by kernel_rfl]
  refine wpAnyH_take (i := 12) (oi := uf12) (v := .pointer (some ⟨p, 0, none⟩)) (by kernel_rfl) uf_lit (by kernel_rfl) (by kernel_rfl) (fun c a W h => hP c _ _ _ W h) (Or.inl ⟨by kernel_rfl, fun W hW => by kernel_rfl⟩) S0 ?_
  rw [show Act.put _ uf12.dst _ = { tmps := #[.pointer (some ⟨p,0,none⟩),x1,x2,.pointer (some ⟨q,0,none⟩),x4,x5,x6,.int .i64 (k : Int),x8,x9,ab,ad,ae,af,ah,ai,aj,.pointer (some ⟨p,0,none⟩),.pointer (some ⟨p,0,none⟩),.pointer (some ⟨p,0,none⟩),.slice (some ⟨b,off,none⟩) n c,.int .i64 (k : Int),.slice (some ⟨b,off,none⟩) k c,ap,.pointer (some ⟨q,2,none⟩),.int .i64 i,am,.pointer (some ⟨p,0,none⟩),.pointer (some ⟨p,0,none⟩),.pointer (some ⟨p,0,none⟩),x30,x31,aw,av,au,aq,ak],defers := [] } from by kernel_rfl]
  refine wpAnyH_take (i := 13) (oi := uf13) (v := .slice (some ⟨b, off, none⟩) n c) (by kernel_rfl) uf_lit (by kernel_rfl) (by kernel_rfl) (fun c a W h => hP c _ _ _ W h) (Or.inl ⟨by kernel_rfl, fun W hW => runU_runs rfl rfl hW.w.cell⟩) S0 ?_
  rw [show Act.put _ uf13.dst _ = { tmps := #[.pointer (some ⟨p,0,none⟩),x1,x2,.pointer (some ⟨q,0,none⟩),x4,x5,x6,.int .i64 (k : Int),x8,x9,ab,ad,ae,af,ah,ai,aj,.pointer (some ⟨p,0,none⟩),.pointer (some ⟨p,0,none⟩),.pointer (some ⟨p,0,none⟩),.slice (some ⟨b,off,none⟩) n c,.int .i64 (k : Int),.slice (some ⟨b,off,none⟩) k c,ap,.pointer (some ⟨q,2,none⟩),.int .i64 i,am,.pointer (some ⟨p,0,none⟩),.pointer (some ⟨p,0,none⟩),.pointer (some ⟨p,0,none⟩),.slice (some ⟨b,off,none⟩) n c,x31,aw,av,au,aq,ak],defers := [] } from by kernel_rfl]
  refine wpAnyH_take (i := 14) (oi := uf14) (v := .int .i64 (k : Int)) (by kernel_rfl) uf_lit (by kernel_rfl) (by kernel_rfl) (fun c a W h => hP c _ _ _ W h) (Or.inl ⟨by kernel_rfl, fun W hW => by kernel_rfl⟩) S0 ?_
  rw [show Act.put _ uf14.dst _ = { tmps := #[.pointer (some ⟨p,0,none⟩),x1,x2,.pointer (some ⟨q,0,none⟩),x4,x5,x6,.int .i64 (k : Int),x8,x9,ab,ad,ae,af,ah,ai,aj,.pointer (some ⟨p,0,none⟩),.pointer (some ⟨p,0,none⟩),.pointer (some ⟨p,0,none⟩),.slice (some ⟨b,off,none⟩) n c,.int .i64 (k : Int),.slice (some ⟨b,off,none⟩) k c,ap,.pointer (some ⟨q,2,none⟩),.int .i64 i,am,.pointer (some ⟨p,0,none⟩),.pointer (some ⟨p,0,none⟩),.pointer (some ⟨p,0,none⟩),.slice (some ⟨b,off,none⟩) n c,.int .i64 (k : Int),aw,av,au,aq,ak],defers := [] } from by kernel_rfl]
  refine wpAnyH_take (i := 15) (oi := uf15) (v := .pointer (some ⟨b, off + k * 13, none⟩)) (by kernel_rfl) uf_lit (by kernel_rfl) (by kernel_rfl) (fun c a W h => hP c _ _ _ W h) (Or.inl ⟨by kernel_rfl, fun W hW => runU_ix (T := 0) rfl rfl rfl (by omega)⟩) S0 ?_
  rw [show Act.put _ uf15.dst _ = { tmps := #[.pointer (some ⟨p,0,none⟩),x1,x2,.pointer (some ⟨q,0,none⟩),x4,x5,x6,.int .i64 (k : Int),x8,x9,ab,ad,ae,af,ah,ai,aj,.pointer (some ⟨p,0,none⟩),.pointer (some ⟨p,0,none⟩),.pointer (some ⟨p,0,none⟩),.slice (some ⟨b,off,none⟩) n c,.int .i64 (k : Int),.slice (some ⟨b,off,none⟩) k c,ap,.pointer (some ⟨q,2,none⟩),.int .i64 i,am,.pointer (some ⟨p,0,none⟩),.pointer (some ⟨p,0,none⟩),.pointer (some ⟨p,0,none⟩),.slice (some ⟨b,off,none⟩) n c,.int .i64 (k : Int),.pointer (some ⟨b,off + k * 13,none⟩),av,au,aq,ak],defers := [] } from by kernel_rfl]
  refine wpAnyH_take (i := 16) (oi := uf16) (v := .pointer (some ⟨b, off + k * 13, none⟩)) (by kernel_rfl) uf_lit (by kernel_rfl) (by kernel_rfl) (fun c a W h => hP c _ _ _ W h) (Or.inl ⟨by kernel_rfl, fun W hW => by kernel_rfl⟩) S0 ?_
  rw [show Act.put _ uf16.dst _ = { tmps := #[.pointer (some ⟨p,0,none⟩),x1,x2,.pointer (some ⟨q,0,none⟩),x4,x5,x6,.int .i64 (k : Int),x8,x9,ab,ad,ae,af,ah,ai,aj,.pointer (some ⟨p,0,none⟩),.pointer (some ⟨p,0,none⟩),.pointer (some ⟨p,0,none⟩),.slice (some ⟨b,off,none⟩) n c,.int .i64 (k : Int),.slice (some ⟨b,off,none⟩) k c,ap,.pointer (some ⟨q,2,none⟩),.int .i64 i,am,.pointer (some ⟨p,0,none⟩),.pointer (some ⟨p,0,none⟩),.pointer (some ⟨p,0,none⟩),.slice (some ⟨b,off,none⟩) n c,.int .i64 (k : Int),.pointer (some ⟨b,off + k * 13,none⟩),.pointer (some ⟨b,off + k * 13,none⟩),au,aq,ak],defers := [] } from by kernel_rfl]
  refine wpAnyH_take (i := 17) (oi := uf17) (v := .pointer (some ⟨b, off + k * 13 + 2, none⟩)) (by kernel_rfl) uf_lit (by kernel_rfl) (by kernel_rfl) (fun c a W h => hP c _ _ _ W h) (Or.inl ⟨by kernel_rfl, fun W hW => by kernel_rfl⟩) S0 ?_
  rw [show Act.put _ uf17.dst _ = { tmps := #[.pointer (some ⟨p,0,none⟩),x1,x2,.pointer (some ⟨q,0,none⟩),x4,x5,x6,.int .i64 (k : Int),x8,x9,ab,ad,ae,af,ah,ai,aj,.pointer (some ⟨p,0,none⟩),.pointer (some ⟨p,0,none⟩),.pointer (some ⟨p,0,none⟩),.slice (some ⟨b,off,none⟩) n c,.int .i64 (k : Int),.slice (some ⟨b,off,none⟩) k c,ap,.pointer (some ⟨q,2,none⟩),.int .i64 i,am,.pointer (some ⟨p,0,none⟩),.pointer (some ⟨p,0,none⟩),.pointer (some ⟨p,0,none⟩),.slice (some ⟨b,off,none⟩) n c,.int .i64 (k : Int),.pointer (some ⟨b,off + k * 13,none⟩),.pointer (some ⟨b,off + k * 13,none⟩),.pointer (some ⟨b,off + k * 13 + 2,none⟩),aq,ak],defers := [] } from by kernel_rfl]
  refine wpAnyH_take (i := 18) (oi := uf18) (v := .int .i64 x.f) (by kernel_rfl) uf_lit (by kernel_rfl) (by kernel_rfl) (fun c a W h => hP c _ _ _ W h) (Or.inl ⟨by kernel_rfl, fun W hW => runU_int rfl rfl hW.x.c2⟩) S0 ?_
  rw [show Act.put _ uf18.dst _ = { tmps := #[.pointer (some ⟨p,0,none⟩),x1,x2,.pointer (some ⟨q,0,none⟩),x4,x5,x6,.int .i64 (k : Int),x8,x9,ab,ad,ae,af,ah,ai,aj,.pointer (some ⟨p,0,none⟩),.pointer (some ⟨p,0,none⟩),.pointer (some ⟨p,0,none⟩),.slice (some ⟨b,off,none⟩) n c,.int .i64 (k : Int),.slice (some ⟨b,off,none⟩) k c,ap,.pointer (some ⟨q,2,none⟩),.int .i64 i,am,.pointer (some ⟨p,0,none⟩),.pointer (some ⟨p,0,none⟩),.pointer (some ⟨p,0,none⟩),.slice (some ⟨b,off,none⟩) n c,.int .i64 (k : Int),.pointer (some ⟨b,off + k * 13,none⟩),.pointer (some ⟨b,off + k * 13,none⟩),.pointer (some ⟨b,off + k * 13 + 2,none⟩),.int .i64 x.f,ak],defers := [] } from by kernel_rfl]
  refine wpAnyH_all (rs := [6]) (by kernel_rfl) (by simp) (fun i hi => ?_)
  obtain rfl := List.mem_singleton.1 hi
  refine hb_callx (o := uf6) (f := 35) (args := #[.slice (some ⟨b, off, none⟩) k c]) (D := fun u V => u = .int .i64 z ∧ Below W0.heap.size W0 V) (by kernel_rfl) (by kernel_rfl) (by kernel_rfl) ((count_any _ (xs.take k) _ (hu.below BW0) hf hl).mono fun e V ⟨h1, h2⟩ => ⟨_, h1, by rw [hz], h2⟩) ?_
  rintro _ W1 ⟨rfl, b⟩
  have S1 := S0.below b
  have BW1 := bt BW0 b
  clear b
  rw [show Act.put _ uf6.dst _ = { tmps := #[.pointer (some ⟨p,0,none⟩),x1,x2,.pointer (some ⟨q,0,none⟩),x4,x5,x6,.int .i64 (k : Int),x8,x9,ab,ad,ae,af,ah,ai,aj,.pointer (some ⟨p,0,none⟩),.pointer (some ⟨p,0,none⟩),.pointer (some ⟨p,0,none⟩),.slice (some ⟨b,off,none⟩) n c,.int .i64 (k : Int),.slice (some ⟨b,off,none⟩) k c,.int .i64 z,.pointer (some ⟨q,2,none⟩),.int .i64 i,am,.pointer (some ⟨p,0,none⟩),.pointer (some ⟨p,0,none⟩),.pointer (some ⟨p,0,none⟩),.slice (some ⟨b,off,none⟩) n c,.int .i64 (k : Int),.pointer (some ⟨b,off + k * 13,none⟩),.pointer (some ⟨b,off + k * 13,none⟩),.pointer (some ⟨b,off + k * 13 + 2,none⟩),.int .i64 x.f,ak],defers := [] } from by kernel_rfl]
  refine ⟨S1, ?_⟩
  refine wpAnyH_take (i := 9) (oi := uf9) (v := .int .i64 (z + i)) (by kernel_rfl) uf_lit (by kernel_rfl) (by kernel_rfl) (fun c a W h => hP c _ _ _ W h) (Or.inl ⟨by kernel_rfl, fun W hW => runU_add rfl rfl rfl (by omega) (by omega)⟩) S1 ?_
  rw [show Act.put _ uf9.dst _ = { tmps := #[.pointer (some ⟨p,0,none⟩),x1,x2,.pointer (some ⟨q,0,none⟩),x4,x5,x6,.int .i64 (k : Int),x8,x9,ab,ad,ae,af,ah,ai,aj,.pointer (some ⟨p,0,none⟩),.pointer (some ⟨p,0,none⟩),.pointer (some ⟨p,0,none⟩),.slice (some ⟨b,off,none⟩) n c,.int .i64 (k : Int),.slice (some ⟨b,off,none⟩) k c,.int .i64 z,.pointer (some ⟨q,2,none⟩),.int .i64 i,.int .i64 (z + i),.pointer (some ⟨p,0,none⟩),.pointer (some ⟨p,0,none⟩),.pointer (some ⟨p,0,none⟩),.slice (some ⟨b,off,none⟩) n c,.int .i64 (k : Int),.pointer (some ⟨b,off + k * 13,none⟩),.pointer (some ⟨b,off + k * 13,none⟩),.pointer (some ⟨b,off + k * 13 + 2,none⟩),.int .i64 x.f,ak],defers := [] } from by kernel_rfl]
  refine wpAnyH_take (i := 19) (oi := uf19) (v := .int .i64 ((z + i) - x.f)) (by kernel_rfl) uf_lit (by kernel_rfl) (by kernel_rfl) (fun c a W h => hP c _ _ _ W h) (Or.inl ⟨by kernel_rfl, fun W hW => runU_sub rfl rfl rfl (by omega) (by omega)⟩) S1 ?_
  rw [show Act.put _ uf19.dst _ = { tmps := #[.pointer (some ⟨p,0,none⟩),x1,x2,.pointer (some ⟨q,0,none⟩),x4,x5,x6,.int .i64 (k : Int),x8,x9,ab,ad,ae,af,ah,ai,aj,.pointer (some ⟨p,0,none⟩),.pointer (some ⟨p,0,none⟩),.pointer (some ⟨p,0,none⟩),.slice (some ⟨b,off,none⟩) n c,.int .i64 (k : Int),.slice (some ⟨b,off,none⟩) k c,.int .i64 z,.pointer (some ⟨q,2,none⟩),.int .i64 i,.int .i64 (z + i),.pointer (some ⟨p,0,none⟩),.pointer (some ⟨p,0,none⟩),.pointer (some ⟨p,0,none⟩),.slice (some ⟨b,off,none⟩) n c,.int .i64 (k : Int),.pointer (some ⟨b,off + k * 13,none⟩),.pointer (some ⟨b,off + k * 13,none⟩),.pointer (some ⟨b,off + k * 13 + 2,none⟩),.int .i64 x.f,.int .i64 ((z + i) - x.f)],defers := [] } from by kernel_rfl]
  refine wpAnyH_take (i := 20) (oi := uf20) (v := .int .i64 ((z + i) - x.f)) (by kernel_rfl) uf_lit (by kernel_rfl) (by kernel_rfl) (fun c a W h => hP c _ _ _ W h) (Or.inl ⟨by kernel_rfl, fun W hW => by kernel_rfl⟩) S1 ?_
  rw [show Act.put _ uf20.dst _ = { tmps := #[.pointer (some ⟨p,0,none⟩),x1,x2,.pointer (some ⟨q,0,none⟩),.int .i64 ((z + i) - x.f),x5,x6,.int .i64 (k : Int),x8,x9,ab,ad,ae,af,ah,ai,aj,.pointer (some ⟨p,0,none⟩),.pointer (some ⟨p,0,none⟩),.pointer (some ⟨p,0,none⟩),.slice (some ⟨b,off,none⟩) n c,.int .i64 (k : Int),.slice (some ⟨b,off,none⟩) k c,.int .i64 z,.pointer (some ⟨q,2,none⟩),.int .i64 i,.int .i64 (z + i),.pointer (some ⟨p,0,none⟩),.pointer (some ⟨p,0,none⟩),.pointer (some ⟨p,0,none⟩),.slice (some ⟨b,off,none⟩) n c,.int .i64 (k : Int),.pointer (some ⟨b,off + k * 13,none⟩),.pointer (some ⟨b,off + k * 13,none⟩),.pointer (some ⟨b,off + k * 13 + 2,none⟩),.int .i64 x.f,.int .i64 ((z + i) - x.f)],defers := [] } from by kernel_rfl]
  refine wpAnyH_take (i := 21) (oi := uf21) (v := .bool true) (by kernel_rfl) uf_lit (by kernel_rfl) (by kernel_rfl) (fun c a W h => hP c _ _ _ W h) (Or.inl ⟨by kernel_rfl, fun W hW => by kernel_rfl⟩) S1 ?_
  rw [show Act.put _ uf21.dst _ = { tmps := #[.pointer (some ⟨p,0,none⟩),x1,x2,.pointer (some ⟨q,0,none⟩),.int .i64 ((z + i) - x.f),.bool true,x6,.int .i64 (k : Int),x8,x9,ab,ad,ae,af,ah,ai,aj,.pointer (some ⟨p,0,none⟩),.pointer (some ⟨p,0,none⟩),.pointer (some ⟨p,0,none⟩),.slice (some ⟨b,off,none⟩) n c,.int .i64 (k : Int),.slice (some ⟨b,off,none⟩) k c,.int .i64 z,.pointer (some ⟨q,2,none⟩),.int .i64 i,.int .i64 (z + i),.pointer (some ⟨p,0,none⟩),.pointer (some ⟨p,0,none⟩),.pointer (some ⟨p,0,none⟩),.slice (some ⟨b,off,none⟩) n c,.int .i64 (k : Int),.pointer (some ⟨b,off + k * 13,none⟩),.pointer (some ⟨b,off + k * 13,none⟩),.pointer (some ⟨b,off + k * 13 + 2,none⟩),.int .i64 x.f,.int .i64 ((z + i) - x.f)],defers := [] } from by kernel_rfl]
  exact wpAnyH_done (by kernel_rfl) (hQ _ BW1) _

set_option maxHeartbeats 4000000 in
theorem find_no (rb : Nat) (v : Value) (xs : List Un) (r m i : Int) (w : World) (hw : Wb w rb v) (h : Us w v xs) (hf : Fis xs) (hn : xs.length ≤ 1000000) (hi : idxU (fun x => holdB x r m i) xs < 0) :
    Calls Try.prog 15 #[.pointer (some ⟨rb, 0, none⟩), chu r m i] w fun e w' => e = .returned (.tuple #[.int .i64 0, .bool false]) ∧ Below w.heap.size w w' := by
  have HI : Hid (∀ W q,Below w.heap.size w W → Hb W q r m i → Calls Try.prog 37 #[v,.func (.func 36) #[] #[.pointer (some ⟨q,0,none⟩)]] W fun e w' => e = .returned (.int .i64 (idxU (fun x => holdB x r m i) xs)) ∧ Below W.heap.size W w') := hid (fun W q hW hq => hold_index q r m i v xs W (h.below hW) hf hn hq)
  obtain ⟨z, hz⟩ : ∃ z, idxU (fun x => holdB x r m i) xs = z := ⟨_, rfl⟩
  rw [hz] at HI hi
  have HW := hid hw
  obtain ⟨a, c, rfl, hc0, hc1⟩ := h.form
  clear h hf hz hw
  go_enter Try.func15, Try.ntmps15
  go_wp2_with (first
    | (refine wl_boxH (r := r) (n := m) (i := i) rfl rfl rfl ?_; intro W2 b2 e2 hnb hb2; have HQ := hid hnb; have HB2 := hid hb2; have c0 := (HW.out.below hb2).cell; clear e2 hnb hb2)
    | fail)
  refine (HI.out _ _ HB2.out HQ.out).mono ?_
  rintro e W3 ⟨rfl, b3⟩
  have HB3 := hid (bt HB2.out b3)
  clear b3 c0
  go_wp2_with fail
  go_ret2
  exact ⟨rfl, HB3.out⟩

set_option maxHeartbeats 4000000 in
theorem find_yes (rb : Nat) (v : Value) (xs : List Un) (r m i : Int) (w : World) (hw : Wb w rb v) (h : Us w v xs) (hf : Fis xs) (hn : xs.length ≤ 1000000) (k : Nat) (hk : k < xs.length) (hi : idxU (fun x => holdB x r m i) xs = k) (hh : holdB (xs[k]) r m i = true) :
    Calls Try.prog 15 #[.pointer (some ⟨rb, 0, none⟩), chu r m i] w fun e w' => e = .returned (.tuple #[.int .i64 (cntU (xs.take k) + i - (xs[k]).f), .bool true]) ∧ Below w.heap.size w w' := by
  have HI : Hid (∀ W q, Below w.heap.size w W → Hb W q r m i → Calls Try.prog 37 #[v, .func (.func 36) #[] #[.pointer (some ⟨q, 0, none⟩)]] W fun e w' => e = .returned (.int .i64 (k : Int)) ∧ Below W.heap.size W w') := hid (fun W q hW hq => by
    have := hold_index q r m i v xs W (h.below hW) hf hn hq
    rw [hi] at this
    exact this)
  have HW := hid hw
  obtain ⟨b, off, c, rfl, hc0, hc1, hbl, hcc⟩ := h.inv (by omega)
  obtain ⟨x, hxx⟩ : ∃ x, xs[k] = x := ⟨_, rfl⟩
  have HC := hid (hcc k hk)
  have hfx := hf x (by rw [← hxx]; exact List.getElem_mem hk)
  rw [hxx] at HC hh ⊢
  have hcn := (hf.take k).cnt
  have hlk : (xs.take k).length = k := by rw [List.length_take]; omega
  have hu : Us w (.slice (some ⟨b, off, none⟩) k c) (xs.take k) := by
    have := Us.part h (f := 0) (e := k) (Nat.zero_le _) (by omega)
    by_cases h0 : c = 0
    · omega
    · simpa [bkA, h0, Addr.add_lit] using this
  have hb : x.f ≤ i ∧ i < x.f + x.l := by
    unfold holdB at hh
    simp at hh
    exact hh.2
  have hf0 := hfx.f
  have hl0 := hfx.l
  have hs0 := hfx.s
  obtain ⟨n, hln⟩ : ∃ n, xs.length = n := ⟨_, rfl⟩
  obtain ⟨z, hz⟩ : ∃ z, cntU (xs.take k) = z := ⟨_, rfl⟩
  rw [hln] at HW HI hk hn hc0
  rw [hz] at hcn ⊢
  have HU := hid hu
  have HZ := hid hz
  have HFT := hid (hf.take k)
  have HLK := hid hlk
  have hb0 : (0 : Int) ≤ z := hcn.1
  have hb1 : z ≤ 64000000 := by have := hcn.2; rw [hlk] at this; omega
  have hi0 : 0 ≤ i := by omega
  have hi1 : i ≤ 64 := by omega
  have hlen : (xs.take k).length ≤ 1000000 := by omega
  have HLEN := hid hlen
  have HR : Hid (-9223372036854775808 ≤ z + i ∧ z + i ≤ 9223372036854775807 ∧ -9223372036854775808 ≤ z + i - x.f ∧ z + i - x.f ≤ 9223372036854775807) := hid (by omega)
  have hkn : (k : Int) < (n : Int) := by omega
  have hnk : ¬ (k : Int) < 0 := by omega
  clear hw h hf hcc hfx hu hz hlk hlen hxx hln hcn hi hh hb hf0 hl0 hs0 hb0 hb1 hi0 hi1
  go_enter Try.func15, Try.ntmps15
  go_wp2_with (first
    | (refine wl_boxH (r := r) (n := m) (i := i) rfl rfl rfl ?_; intro W2 b2 e2 hnb hb2; have HQ := hid hnb; have HB2 := hid hb2; have c0 := (HW.out.below hb2).cell; clear e2 hnb hb2)
    | fail)
  refine (HI.out _ _ HB2.out HQ.out).mono ?_
  rintro e W3 ⟨rfl, b3⟩
  have HB3 := hid (bt HB2.out b3)
  have HG := hid (show Rf W3 rb b2 (some ⟨b, off, none⟩) n c b off k x r m i from ⟨HW.out.below HB3.out, HQ.out.below b3, HC.out.below HB3.out⟩)
  clear b3 c0
  go_upto_region 5 with fail
  refine find_reg (p := rb) (q := b2) (n := n) (c := c) (b := b) (off := off) (k := k) (x := x) (r := r) (m := m) (i := i) (z := z) (xs := xs) HG.out hk (by omega) (HU.out.below HB3.out) HFT.out HLEN.out HZ.out HR.out.1 HR.out.2.1 HR.out.2.2.1 HR.out.2.2.2 (fun _ _ _ _ _ h => h) ?_
  intro W4 hb4
  go_wp2_with fail
  go_ret2
  exact ⟨rfl, bt HB3.out hb4⟩

end Go.Proofs.Ytkaphlpohhaacaa

/-
  What append, copy and clear do to a block of runs, cell by cell.
-/
namespace Go.Proofs.Ytkaphlpohhaacaa
open Go.RowKit
set_option linter.unusedVariables false
set_option linter.unusedSimpArgs false
set_option maxRecDepth 100000

/-- Block g holds the cells l (of runs). -/
def Rb (w : World) (g : Nat) (l : List Value) : Prop := w.heap[g]? = some (.cells l.toArray RU (0, 0))
theorem Rb.lt {w : World} {g : Nat} {l : List Value} (h : Rb w g l) : g < w.heap.size := (Array.getElem?_eq_some_iff.1 h).1
theorem Rb.cell {w : World} {g : Nat} {l : List Value} (h : Rb w g l) (j : Nat) : w.cell? ⟨g, j, none⟩ = l[j]? := by
  rw [cell_of_row w g j _ _ _ h, List.getElem?_toArray]
theorem Rb.set {w : World} {g : Nat} {l : List Value} (h : Rb w g l) (l' : List Value) : Rb (w.setRow g l'.toArray) g l' := setRow_heap w g _ _ _ _ h
theorem Rb.fr {S : Nat → Prop} {w w' : World} {g : Nat} {l : List Value} (h : Rb w g l) (hf : Fr S w w') (hs : ¬ S g) : Rb w' g l := by unfold Rb; rw [hf.block g h.lt hs]; exact h
/-- Cells laid over others from o on. -/
def over (l : List Value) (o : Nat) (cs : List Value) : List Value := l.take o ++ cs ++ l.drop (o + cs.length)
theorem over_len {l : List Value} {o : Nat} {cs : List Value} (h : o + cs.length ≤ l.length) : (over l o cs).length = l.length := by
  unfold over; simp; omega
theorem over_low {l : List Value} {o : Nat} {cs : List Value} {k : Nat} (h : k ≤ o) (h2 : o ≤ l.length) : (over l o cs).take k = l.take k := by
  unfold over
  rw [List.append_assoc, List.take_append_of_le_length (by rw [List.length_take]; omega), List.take_take, Nat.min_eq_left h]
theorem over_mid {l : List Value} {o : Nat} {cs : List Value} (h2 : o ≤ l.length) : (over l o cs).take (o + cs.length) = l.take o ++ cs := by
  unfold over
  have : (l.take o ++ cs).length = o + cs.length := by simp; omega
  rw [← this, List.take_left]
theorem over_high {l : List Value} {o : Nat} {cs : List Value} {k : Nat} (h : o + cs.length ≤ k) (h2 : o + cs.length ≤ l.length) : (over l o cs)[k]? = l[k]? := by
  unfold over
  rw [List.getElem?_append_right (by simp; omega), List.getElem?_drop]
  congr 1
  simp
  omega
theorem over_drop {l : List Value} {o : Nat} {cs : List Value} {k : Nat} (h : o + cs.length ≤ k) (h2 : o + cs.length ≤ l.length) : (over l o cs).drop k = l.drop k := by
  apply List.ext_getElem?
  intro j
  rw [List.getElem?_drop, List.getElem?_drop]
  exact over_high (by omega) h2

/-- An own row's block. -/
theorem Ur.open {B : Nat} {w : World} {v : Value} {xs : List Un} (h : Ur RU B w v xs) (hn : 0 < xs.length) : ∃ g cap l, v = .slice (some ⟨g, 0, none⟩) xs.length cap ∧ B ≤ g ∧ Rb w g l ∧ xs.length ≤ cap ∧ cap ≤ maxLen ∧ l.length = cap * 13 ∧ l.take (xs.length * 13) = xs.flatMap unc := by
  rcases h.2 with ⟨_, h0⟩ | ⟨g, cap, cur, h1, h2, h3, h4, h5, h6, h7⟩
  · omega
  · exact ⟨g, cap, cur.toList, h1, h2, by unfold Rb; simpa using h3, h4, h5, by simpa using h6, h7⟩
theorem Ur.close {B : Nat} {w : World} {g n cap : Nat} {l : List Value} {xs : List Un} (hg : B ≤ g) (h : Rb w g l) (hn : n = xs.length) (hc : n ≤ cap) (hm : cap ≤ maxLen) (hl : l.length = cap * 13) (ht : l.take (n * 13) = xs.flatMap unc) : Ur RU B w (.slice (some ⟨g, 0, none⟩) n cap) xs := by
  subst hn
  exact ⟨flat_length unc 13 unc_len xs, .inr ⟨g, cap, l.toArray, rfl, hg, h, hc, hm, by simpa using hl, ht⟩⟩
theorem Ur.take {B : Nat} {w : World} {g n cap : Nat} {xs : List Un} (h : Ur RU B w (.slice (some ⟨g, 0, none⟩) n cap) xs) (hn : n = xs.length) (i : Nat) (hi : i ≤ n) : Ur RU B w (.slice (some ⟨g, 0, none⟩) i cap) (xs.take i) := by
  subst hn
  rcases h.2 with ⟨h1, _⟩ | ⟨g', cap', cur, h1, h2, h3, h4, h5, h6, h7⟩
  · cases h1
  · simp only [Value.slice.injEq, Option.some.injEq, Addr.mk.injEq, and_true, true_and] at h1
    obtain ⟨rfl, rfl⟩ := h1
    have hl : (xs.take i).length = i := by rw [List.length_take]; omega
    refine ⟨flat_length unc 13 unc_len _, .inr ⟨g, cap, cur, by rw [hl], h2, h3, by rw [hl]; omega, h5, h6, ?_⟩⟩
    have e : xs.flatMap unc = (xs.take i).flatMap unc ++ (xs.drop i).flatMap unc := by rw [← List.flatMap_append, List.take_append_drop]
    have hi13 : ((xs.take i).flatMap unc).length = i * 13 := by rw [flat_length unc 13 unc_len, hl]
    rw [hl, show cur.toList.take (i * 13) = (cur.toList.take (xs.length * 13)).take (i * 13) by rw [List.take_take, Nat.min_eq_left (Nat.mul_le_mul_right 13 hi)], h7, e, ← hi13, List.take_left]
theorem flat_takeU (xs : List Un) (k : Nat) (hk : k ≤ xs.length) : (xs.take k).flatMap unc = (xs.flatMap unc).take (k * 13) := by
  have e : xs.flatMap unc = (xs.take k).flatMap unc ++ (xs.drop k).flatMap unc := by rw [← List.flatMap_append, List.take_append_drop]
  have hl : ((xs.take k).flatMap unc).length = k * 13 := by rw [flat_length unc 13 unc_len, List.length_take, Nat.min_eq_left hk]
  rw [e, ← hl, List.take_left]
theorem flat_dropU (xs : List Un) (k : Nat) (hk : k ≤ xs.length) : (xs.drop k).flatMap unc = (xs.flatMap unc).drop (k * 13) := by
  have e : xs.flatMap unc = (xs.take k).flatMap unc ++ (xs.drop k).flatMap unc := by rw [← List.flatMap_append, List.take_append_drop]
  have hl : ((xs.take k).flatMap unc).length = k * 13 := by rw [flat_length unc 13 unc_len, List.length_take, Nat.min_eq_left hk]
  rw [e, ← hl, List.drop_left]

theorem sizeRU : (Try.prog.info? RU).map (·.size) = some 13 := by kernel_rfl
theorem undRU : Try.prog.underlying 55 = some (.slice RU) := Try.underlying55
/-- copy: what the source holds, over the target's cells. -/
theorem run_copyU (w : World) (ty : TypeId) {g o dLen dCap : Nat} {A : Addr} {sLen sCap : Nat} {l cs : List Value} (hg : Rb w g l) (hn : cs.length = (Nat.min sLen dLen) * 13) (hsrc : ∀ j v,cs[j]? = some v → w.cell? (A.add j) = some v) (hfit : o + cs.length ≤ l.length) (h1 : ∀ v ∈ cs,v.oneCell' = true) :
    (Builtin.copy_ #[55, 55] ty #[.slice (some ⟨g, o, none⟩) dLen dCap, .slice (some A) sLen sCap]).run Try.prog w = .ok (goInt (Nat.min sLen dLen)) (w.setRow g (over l o cs).toArray) := by
  have hl := run_loadCells_list (P := Try.prog) w A cs hsrc
  have hst := run_storeCells_at Try.prog g o RU cs 0 l.toArray w hg (by simpa using hfit) h1
  rw [hn] at hl
  cases hq : Try.prog.info? RU with
  | none => have := sizeRU; rw [hq] at this; cases this
  | some i =>
    have hi : i.size = 13 := by have := sizeRU; rw [hq] at this; simpa using this
    have hst2 : (storeCells ⟨g, o, none⟩ cs 0).run Try.prog w = .ok () (w.setRow g (over l o cs).toArray) := by rw [hst]; simp [over]
    simp [Builtin.copy_, run_underlying undRU, Builtin.lenOf, Builtin.firstCells, sizeOf, typeInfo, hq, hi, hl, hst2]
/-- clear of some elements. -/
theorem run_clearU (w : World) (ty : TypeId) {g o n c : Nat} {l : List Value} (hg : Rb w g l) (hn : 0 < n) (hfit : o + n * 13 ≤ l.length) :
    ∃ cs, cs.length = n * 13 ∧ (Builtin.clear_ #[55] ty #[.slice (some ⟨g, o, none⟩) n c]).run Try.prog w = .ok (.tuple #[]) (w.setRow g (over l o cs).toArray) := by
  have hz : ∀ w, (zeroValue RU).run Try.prog w = .ok (unv Un.zero) w := fun w => Try.zeroValue59 w
  obtain ⟨cs, hcs⟩ : ∃ cs, (Builtin.zeroCells (unv Un.zero).cells n).toList = cs := ⟨_, rfl⟩
  have hlen : cs.length = n * 13 := by rw [← hcs]; simp [Builtin.zeroCells, Value.cells]
  have h1 : ∀ v ∈ cs, v.oneCell' = true := by
    intro v hv
    rw [← hcs] at hv
    simp only [Builtin.zeroCells, Array.toList_map, List.mem_map] at hv
    obtain ⟨i, _, rfl⟩ := hv
    have hi : i % (unv Un.zero).cells.size < 13 := Nat.mod_lt _ (by decide)
    generalize i % (unv Un.zero).cells.size = j at hi
    match j, hi with
    | 0, _ => rfl
    | 1, _ => rfl
    | 2, _ => rfl
    | 3, _ => rfl
    | 4, _ => rfl
    | 5, _ => rfl
    | 6, _ => rfl
    | 7, _ => rfl
    | 8, _ => rfl
    | 9, _ => rfl
    | 10, _ => rfl
    | 11, _ => rfl
    | 12, _ => rfl
  have hst := run_storeCells_at Try.prog g o RU cs 0 l.toArray w hg (by rw [hlen]; simpa using hfit) h1
  have hst2 : (storeCells ⟨g, o, none⟩ cs 0).run Try.prog w = .ok () (w.setRow g (over l o cs).toArray) := by rw [hst]; simp [over]
  refine ⟨cs, hlen, ?_⟩
  obtain ⟨m, rfl⟩ : ∃ m, n = m + 1 := ⟨n - 1, by omega⟩
  simp [Builtin.clear_, run_underlying undRU, hz, hcs, hst2]
theorem run_clear0 (w : World) (ty : TypeId) (A : Option Addr) (c : Nat) : (Builtin.clear_ #[55] ty #[.slice A 0 c]).run Try.prog w = .ok (.tuple #[]) w := by
  cases A <;> simp [Builtin.clear_, run_underlying undRU]
/-- append where there is room. -/
theorem run_appU (w : World) (ty : TypeId) {g i cap : Nat} {A : Addr} {m mc : Nat} {l : List Value} {fs : List Un} (hg : Rb w g l) (hl : l.length = cap * 13) (hm : fs.length = m) (hu : Us w (.slice (some A) m mc) fs) (hroom : i + m ≤ cap) (hm0 : 0 < m) :
    (Builtin.append_ #[55, 55] ty #[.slice (some ⟨g, 0, none⟩) i cap, .slice (some A) m mc]).run Try.prog w = .ok (.slice (some ⟨g, 0, none⟩) (i + m) cap) (w.setRow g (over l (i * 13) (fs.flatMap unc)).toArray) := by
  have hfl : (fs.flatMap unc).length = m * 13 := by rw [flat_length unc 13 unc_len, hm]
  have hld := run_loadCells_list (P := Try.prog) w A (fs.flatMap unc) (by subst hm; exact Sl.cells_at hu)
  rw [hfl] at hld
  have hst := run_storeCells_at Try.prog g (i * 13) RU (fs.flatMap unc) 0 l.toArray w hg (by rw [hfl]; simp; omega) (flat_one fs)
  have hst2 : (storeCells ⟨g, i * 13, none⟩ (fs.flatMap unc) 0).run Try.prog w = .ok () (w.setRow g (over l (i * 13) (fs.flatMap unc)).toArray) := by rw [hst]; simp [over]
  cases hq : Try.prog.info? RU with
  | none => have := sizeRU; rw [hq] at this; cases this
  | some inf =>
    have hi : inf.size = 13 := by have := sizeRU; rw [hq] at this; simpa using this
    simp [Builtin.append_, run_underlying undRU, Builtin.lenOf, Builtin.firstCells, sizeOf, typeInfo, hq, hi, hld, hroom, Addr.add_lit, hst2]
/-- append of zeros where there is none. -/
theorem run_growU (w : World) (ty : TypeId) {g i m cap : Nat} {l : List Value} (hg : Rb w g l) (hl : l.length = cap * 13) (hi : i ≤ cap) (hroom : cap < i + m) (hb : i + m ≤ 1000000) :
    ∃ (nc : Nat) (l' : List Value),(Builtin.append_ #[55,3] ty #[.slice (some ⟨g,0,none⟩) i cap,.int .i64 (m : Int)]).run Try.prog w = .ok (.slice (some ⟨w.heap.size,0,none⟩) (i + m) nc) (w.drew.alloc (.cells l'.toArray RU)) ∧ i + m ≤ nc ∧ nc ≤ maxLen ∧ l'.length = nc * 13 ∧ l'.take (i * 13) = l.take (i * 13) := by
  obtain ⟨inf, hi0, hz0, hsz, hby⟩ := info_parts infoR
  have tn : Try.prog.underlying 3 = some (.int .i64) := Try.underlying3
  have hw : IntKind.i64.wrap (m : Int) = m := by rw [IntKind.wrap_i64]; omega
  have hneg : ¬ ((m : Int) < 0) := by omega
  have h48i : ¬ (281474976710656 < (m : Int) * (104 : Int)) := by omega
  have h63' : ¬ (9223372036854775807 < ((i : Int) + (m : Int))) := by omega
  have h48' : ¬ (281474976710656 < Builtin.nextslicecap (i + m) cap * 104) := by have := growslice_fits (bytes := 104) (show cap < i + m by omega) (by omega); omega
  have hroom' : ¬ i + m ≤ cap := by omega
  have hm : m ≠ 0 := by omega
  have hm13 : ¬ m * 13 = 0 := by omega
  have hfl : (l.take (i * 13)).length = i * 13 := by rw [List.length_take, hl]; omega
  have hfo := run_firstCells_some (P := Try.prog) w.drew 13 i ⟨g, 0, none⟩ i cap (l.take (i * 13)) hfl (fun j u hj => by
    have hj' : j < i * 13 := by have := (List.getElem?_eq_some_iff.1 hj).1; rw [hfl] at this; exact this
    rw [List.getElem?_take_of_lt hj'] at hj
    show w.cell? _ = _
    rw [Addr.add_lit, Nat.zero_add, hg.cell j]
    exact hj)
  have hge := grownCap_ge w (i + m) cap RU
  have hcm : grownCap w (i + m) cap RU ≤ maxLen := grownCap_le_maxLen w (i + m) cap RU (by unfold maxLen; omega)
  refine ⟨grownCap w (i + m) cap RU, l.take (i * 13) ++ (Builtin.zeroCells (unv Un.zero).cells m).toList ++ (Builtin.zeroCells (unv Un.zero).cells (grownCap w (i + m) cap RU - (i + m))).toList, ?_, hge, hcm, ?_, ?_⟩
  · have e : (l.take (i * 13) ++ (Builtin.zeroCells (unv Un.zero).cells m).toList ++ (Builtin.zeroCells (unv Un.zero).cells (grownCap w (i + m) cap RU - (i + m))).toList).toArray = (l.take (i * 13)).toArray ++ Builtin.zeroCells (unv Un.zero).cells m ++ Builtin.zeroCells (unv Un.zero).cells (grownCap w (i + m) cap RU - (i + m)) := by simp
    rw [e]
    simp [Builtin.append_, run_underlying undRU, run_underlying tn, sizeOf, typeInfo, zeroValue, hi0, hz0, hsz, hby, asInt, asIntOf, hw, hneg, h48i, hm, hroom', h63', h48', Question.forced, hfo, newRow, grownCap]
    exact fun h => absurd h hm13
  · rw [List.length_append, List.length_append, hfl, Array.length_toList, Array.length_toList, size_zeroCells, size_zeroCells]
    simp only [Value.cells]
    simp
    omega
  · have e : ∀ (a b : List Value), a.length = i * 13 → (a ++ b).take (i * 13) = a := fun a b h => by rw [← h, List.take_left]
    rw [List.append_assoc]
    exact e _ _ hfl

end Go.Proofs.Ytkaphlpohhaacaa

/-
  What slices.Grow, Concat and Insert (at no element) answer of runs is proved here.
-/
namespace Go.Proofs.Ytkaphlpohhaacaa
open Go.RowKit
set_option linter.unusedVariables false
set_option linter.unusedSimpArgs false
set_option maxRecDepth 100000

section
variable {o : Oper} {a : Act} {W : World} {ops : Array Oper} {rest : List Oper} {Q : Exit → Act → World → Prop}
theorem wl_val' (v : Value) (W' : World) (hgd : Region.wanted o (yielded ops a.tmps) = true) (h : (execOp a.eval o).run Try.prog W = .ok (.value v) W') (hk : wpList Try.prog ops Q rest (a.put o.dst v) W') : wpList Try.prog ops Q (o :: rest) a W :=
  BigFrame.wpList_want hgd fun K hK => by unfold Oper.wp; rw [h]; exact hK _ _ hk
theorem wl_nil' (W' : World) (hgd : Region.wanted o (yielded ops a.tmps) = true) (h : (execOp a.eval o).run Try.prog W = .ok .skip W') (hk : wpList Try.prog ops Q rest (a.put o.dst undef) W') : wpList Try.prog ops Q (o :: rest) a W :=
  BigFrame.wpList_want hgd fun K hK => by unfold Oper.wp; rw [h]; exact hK _ _ hk
theorem wl_call2 {b : Builtin} {t u : TypeId} {x y : Operand} {v : Value} {W' : World} {vx vy : Value} (hb : b = .append ∨ b = .copy) (hgd : Region.wanted o (yielded ops a.tmps) = true) (ho : o.op = .call { callee := .builtin b,args := #[x,y],argTypes := #[t,u] }) (hx : a.eval x = vx) (hy : a.eval y = vy)
    (hr : ((match b with | .append => Builtin.append_ | _ => Builtin.copy_) #[t, u] o.type #[vx, vy]).run Try.prog W = .ok v W') (hk : wpList Try.prog ops Q rest (a.put o.dst v) W') : wpList Try.prog ops Q (o :: rest) a W := by
  refine wl_val' v W' hgd ?_ hk
  unfold execOp
  rcases hb with rfl | rfl <;> simp only [ho, resolve, invoke, builtin, Sem.run_bind, Sem.run_pure, Result.andThen_ok, List.map_toArray, List.map_cons, List.map_nil, hx, hy, hr]
theorem wl_clear {x : Operand} {vx v : Value} {W' : World} (hgd : Region.wanted o (yielded ops a.tmps) = true) (ho : o.op = .call { callee := .builtin .clear, args := #[x], argTypes := #[55] }) (hx : a.eval x = vx)
    (hr : (Builtin.clear_ #[55] o.type #[vx]).run Try.prog W = .ok v W') (hk : wpList Try.prog ops Q rest (a.put o.dst v) W') : wpList Try.prog ops Q (o :: rest) a W := by
  refine wl_val' v W' hgd ?_ hk
  unfold execOp
  simp only [ho, resolve, invoke, builtin, Sem.run_bind, Sem.run_pure, Result.andThen_ok, List.map_toArray, List.map_cons, List.map_nil, hx, hr]
end

theorem Ur.made {T : TypeId} {B : Nat} {w : World} (hB : B ≤ w.heap.size) (c : Nat) (hc : c ≤ maxLen) (cells : Array Value) (hs : cells.size = c * 13) : Ur T B (w.alloc (.cells cells T)) (.slice (some ⟨w.heap.size, 0, none⟩) 0 c) [] :=
  ⟨rfl, .inr ⟨w.heap.size, c, cells, rfl, hB, heap_alloc_new w _, Nat.zero_le _, hc, hs, by simp⟩⟩
set_option maxHeartbeats 2000000 in
theorem grow_any (n : Nat) (w : World) (h0 : 0 < n) (hn : n ≤ 1000000) :
    Calls Try.prog 49 #[.slice none 0 0, .int .i64 (n : Nat)] w fun e w' => ∃ u, e = .returned u ∧ Ur RU w.heap.size w' u [] ∧ Below w.heap.size w w' := by
  obtain ⟨i0, hi, hz0, hz1, hz2⟩ := info_parts infoR
  have hap : ∀ ty, (Builtin.append_ #[55, 3] ty #[.slice none 0 0, .int .i64 (n : Nat)]).run Try.prog w = _ := fun ty =>
    Lib.run_append_nil_zeros (P := Try.prog) w 55 3 ty RU i0 (unv Un.zero) .i64 .i64 undRU Try.underlying3 hi hz0 n h0 (by omega) (by omega) (by rw [hz2]; omega)
  have hge := grownCap_ge w n 0 RU
  have hcm : grownCap w n 0 RU ≤ maxLen := grownCap_le_maxLen w n 0 RU (by unfold maxLen; omega)
  have HU : Hid (Ur RU w.heap.size (w.drew.alloc (.cells (Builtin.zeroCells (unv Un.zero).cells n ++ Builtin.zeroCells (unv Un.zero).cells (grownCap w n 0 RU - n)) RU)) (.slice (some ⟨w.heap.size, 0, none⟩) 0 (grownCap w n 0 RU)) []) :=
    hid (Ur.made (w := w.drew) (Nat.le_refl _) _ hcm _ (by rw [Array.size_append, size_zeroCells, size_zeroCells]; simp [Value.cells]; omega))
  have HB : Hid (Below w.heap.size w (w.drew.alloc (.cells (Builtin.zeroCells (unv Un.zero).cells n ++ Builtin.zeroCells (unv Un.zero).cells (grownCap w n 0 RU - n)) RU))) := hid ((Below.refl _ _).drew.alloc (Nat.le_refl _) _)
  have HAP := hid hap
  obtain ⟨G, hG⟩ : ∃ G, grownCap w n 0 RU = G := ⟨_, rfl⟩
  obtain ⟨W2, hW2⟩ : ∃ W2, w.drew.alloc (.cells (Builtin.zeroCells (unv Un.zero).cells n ++ Builtin.zeroCells (unv Un.zero).cells (G - n)) RU) = W2 := ⟨_, rfl⟩
  rw [hG, hW2] at HU HB HAP
  rw [hG] at hge hcm
  clear hap hi hz0 hz1 hz2 hG hW2
  have hn1 : (0 : Int) < (n : Int) := by omega
  go_enter Try.func49, Try.ntmps49
  go_wp2_with (first | (refine wl_call2 (b := .append) (.inl rfl) rfl rfl rfl rfl (HAP.out _) ?_) | fail)
  go_ret
  exact ⟨_, rfl, HU.out, HB.out⟩

set_option maxHeartbeats 4000000 in
theorem concat_any (g : Nat) (v1 v2 v3 : Value) (xs ys zs : List Un) (w : World) (hg : w.heap[g]? = some (.cells #[v1, v2, v3] 55 (0, 0))) (h1 : Us w v1 xs) (h2 : Us w v2 ys) (h3 : Us w v3 zs) (hp : 0 < xs.length + ys.length + zs.length) (hn : xs.length + ys.length + zs.length ≤ 1000000) :
    Calls Try.prog 43 #[.slice (some ⟨g, 0, none⟩) 3 3] w fun e w' => ∃ u, e = .returned u ∧ Ur RU w.heap.size w' u (xs ++ ys ++ zs) ∧ Below w.heap.size w w' := by
  have hc0 : w.cell? ⟨g, 0, none⟩ = some v1 := cell_of_row w g 0 _ _ _ hg
  have hc1 : w.cell? ⟨g, 1, none⟩ = some v2 := cell_of_row w g 1 _ _ _ hg
  have hc2 : w.cell? ⟨g, 2, none⟩ = some v3 := cell_of_row w g 2 _ _ _ hg
  have hgl : g < w.heap.size := (Array.getElem?_eq_some_iff.1 hg).1
  obtain ⟨a1, c1, rfl, _, _⟩ := h1.form
  obtain ⟨a2, c2, rfl, _, _⟩ := h2.form
  obtain ⟨a3, c3, rfl, _, _⟩ := h3.form
  have HG := hid (show ∀ W,Below w.heap.size w W → W.cell? ⟨g,0,none⟩ = some (.slice a1 xs.length c1) ∧ W.cell? ⟨g,1,none⟩ = some (.slice a2 ys.length c2) ∧ W.cell? ⟨g,2,none⟩ = some (.slice a3 zs.length c3) from fun W hW => ⟨(hW.cell (p := ⟨g,0,none⟩) hgl).trans hc0,(hW.cell (p := ⟨g,1,none⟩) hgl).trans hc1,(hW.cell (p := ⟨g,2,none⟩) hgl).trans hc2⟩)
  have HX := hid h1
  have HY := hid h2
  have HZ := hid h3
  obtain ⟨n1, hn1⟩ : ∃ n, xs.length = n := ⟨_, rfl⟩
  obtain ⟨n2, hn2⟩ : ∃ n, ys.length = n := ⟨_, rfl⟩
  obtain ⟨n3, hn3⟩ : ∃ n, zs.length = n := ⟨_, rfl⟩
  have HL := hid (⟨hn1, hn2, hn3⟩ : xs.length = n1 ∧ ys.length = n2 ∧ zs.length = n3)
  rw [hn1] at HX HG hc0 hp hn
  rw [hn2] at HY HG hc1 hp hn
  rw [hn3] at HZ HG hc2 hp hn
  have HGR := hid (grow_any (n1 + n2 + n3) w hp hn)
  rw [show ((n1 + n2 + n3 : Nat) : Int) = (n1 : Int) + (n2 : Int) + (n3 : Int) by omega] at HGR
  have k0 : (0 : Int) ≤ (n1 : Int) + (n2 : Int) := by omega
  have k1 : (0 : Int) ≤ (n1 : Int) + (n2 : Int) + (n3 : Int) := by omega
  have k2 : (n1 : Int) + (n2 : Int) ≤ 1000000 := by omega
  have k3 : (n1 : Int) + (n2 : Int) + (n3 : Int) ≤ 1000000 := by omega
  clear hg h1 h2 h3 hn1 hn2 hn3
  go_enter Try.func43, Try.ntmps43
  have k4 : ¬ ((n1 : Int) < 0) := by omega
  have k5 : ¬ ((n1 : Int) + (n2 : Int) < 0) := by omega
  have k6 : ¬ ((n1 : Int) + (n2 : Int) + (n3 : Int) < 0) := by omega
  go_wp2_with fail
  refine wp_loop_rounds 4 ?_
  rw [rounds_succ]
  go_wp2_with fail
  rw [rounds_succ]
  go_wp2_with fail
  rw [rounds_succ]
  go_wp2_with fail
  rw [rounds_succ]
  go_wp2_with fail
  refine HGR.out.mono ?_
  rintro e W2 ⟨u, rfl, hu, hb⟩
  obtain ⟨ua, uc, rfl, _⟩ := hu.us.form
  have UR := hid hu
  have HB := hid hb
  have d0 := (HG.out W2 hb).1
  clear hu hb hc0 hc1 hc2 HGR
  go_wp2_with fail
  refine wp_loop_rounds 4 ?_
  rw [rounds_succ]
  go_wp2_with (first
    | (refine wl_appR rfl _ _ rfl w.heap.size _ [] xs rfl UR.out _ rfl (HX.out.below HB.out) (by have := HL.out; simp; omega) HB.out.size ?_; intro v6 W6 hu6 hf6 ho6; obtain ⟨va6,vc6,hv6,_⟩ := hu6.us.form; obtain ⟨m6,hm6⟩ : ∃ m,([] ++ xs : List Un).length = m := ⟨_,rfl⟩; rw [hm6] at hv6; subst hv6; have UR6 := hid hu6; have HB6 := hid (((Fr.of_below HB.out : Fr (fun k => (Value.slice ua ([] : List Un).length uc).ownBlock = some k) _ _).trans' hf6).below (fun j hj e => Nat.lt_irrefl _ (Nat.lt_of_lt_of_le hj (UR.out.lt j e).1)) (Nat.le_refl _)); have d1 := (HG.out W6 HB6.out).2.1; clear d0 hu6 hf6 ho6 hm6)
    | fail)
  rw [rounds_succ]
  go_wp2_with (first
    | (refine wl_appR rfl _ _ rfl w.heap.size _ ([] ++ xs) ys rfl UR6.out _ rfl (HY.out.below HB6.out) (by have := HL.out; simp; omega) HB6.out.size ?_; intro v7 W7 hu7 hf7 ho7; obtain ⟨va7,vc7,hv7,_⟩ := hu7.us.form; obtain ⟨m7,hm7⟩ : ∃ m,([] ++ xs ++ ys : List Un).length = m := ⟨_,rfl⟩; rw [hm7] at hv7; subst hv7; have UR7 := hid hu7; have HB7 := hid (((Fr.of_below HB6.out : Fr (fun k => (Value.slice va6 m6 vc6).ownBlock = some k) _ _).trans' hf7).below (fun j hj e => Nat.lt_irrefl _ (Nat.lt_of_lt_of_le hj (UR6.out.lt j e).1)) (Nat.le_refl _)); have d2 := (HG.out W7 HB7.out).2.2; clear d1 hu7 hf7 ho7 hm7)
    | fail)
  rw [rounds_succ]
  go_wp2_with (first
    | (refine wl_appR rfl _ _ rfl w.heap.size _ ([] ++ xs ++ ys) zs rfl UR7.out _ rfl (HZ.out.below HB7.out) (by have := HL.out; simp; omega) HB7.out.size ?_; intro v8 W8 hu8 hf8 ho8; obtain ⟨va8,vc8,hv8,_⟩ := hu8.us.form; obtain ⟨m8,hm8⟩ : ∃ m,([] ++ xs ++ ys ++ zs : List Un).length = m := ⟨_,rfl⟩; rw [hm8] at hv8; subst hv8; have UR8 := hid hu8; have HB8 := hid (((Fr.of_below HB7.out : Fr (fun k => (Value.slice va7 m7 vc7).ownBlock = some k) _ _).trans' hf8).below (fun j hj e => Nat.lt_irrefl _ (Nat.lt_of_lt_of_le hj (UR7.out.lt j e).1)) (Nat.le_refl _)); clear d2 hu8 hf8 ho8 hm8)
    | fail)
  rw [rounds_succ]
  go_wp2_with fail
  go_ret
  exact ⟨_, rfl, UR8.out, HB8.out⟩

/-- What slices.Insert and Replace leave. -/
def RpX (B : Nat) (v : Value) (ys : List Un) (w : World) (e : Ending) (w' : World) : Prop :=
  ∃ v', e = .returned v' ∧ Ur RU B w' v' ys ∧ Fr (fun k => v.ownBlock = some k) w w' ∧ ∀ k, v'.ownBlock = some k → v.ownBlock = some k ∨ w.heap.size ≤ k
set_option maxHeartbeats 2000000 in
theorem insert_none (B : Nat) (v u : Value) (fs : List Un) (w : World) (h : Ur RU B w v []) (hu : Us w u fs) (hm : 0 < fs.length) (hn : fs.length ≤ 100000) (hB : B ≤ w.heap.size) :
    Calls Try.prog 50 #[v, .int .i64 0, u] w fun e w' => RpX B v fs w e w' := by
  obtain ⟨a, c, rfl, hc0, hc1⟩ := h.us.form
  obtain ⟨b, d, rfl, hd0, hd1⟩ := hu.form
  obtain ⟨m, hm'⟩ : ∃ m, fs.length = m := ⟨_, rfl⟩
  have HU := hid h
  have HV := hid hu
  have HM := hid hm'
  rw [hm'] at hm HV
  clear h hu hm'
  have hmi : ((m : Int) == 0) = false := by simp; omega
  go_enter Try.func50, Try.ntmps50
  rw [HM.out]
  by_cases hcz : c = 0
  all_goals
    go_wp2_with (first
      | (refine wl_appR rfl _ _ rfl B _ [] fs rfl HU.out _ rfl HV.out (by have := HM.out; simp; omega) hB ?_; intro v8 W8 hu8 hf8 ho8; obtain ⟨va8,vc8,hv8,_⟩ := hu8.us.form; obtain ⟨m8,hm8⟩ : ∃ m,([] ++ fs : List Un).length = m := ⟨_,rfl⟩; rw [hm8] at hv8; subst hv8; have UR8 := hid hu8; have HF8 := hid hf8; have HO8 := hid ho8; clear hu8 hf8 ho8 hm8)
      | fail)
    go_ret
    exact ⟨_, rfl, UR8.out, HF8.out, fun k hk => HO8.out.elim (fun e => .inl (e.symm.trans hk)) (fun e => .inr (Nat.le_of_eq (Option.some.inj (e.symm.trans hk))))⟩

end Go.Proofs.Ytkaphlpohhaacaa
