/-
  What the reference's Find answers of a row is proved here. Printed by genuxfind.py.
-/
import Derived.Test.YtkaphlpohhaacaaPart19
namespace Go.Proofs.Ytkaphlpohhaacaa
open Go.RowKit
set_option linter.unusedVariables false
set_option linter.unusedSimpArgs false
set_option maxRecDepth 100000

structure Rxf (W : World) (r hb b off k n c : Nat) (cr cn ci : Int) (x : Un) : Prop where
  c : Xb W r (.slice (some ⟨b, off, none⟩) n c)
  x : Uc W b (off + k * 13) x
  h : Hb W hb cr cn ci
theorem Rxf.below {W W' : World} {r hb b off k n c : Nat} {cr cn ci : Int} {x : Un} (h : Rxf W r hb b off k n c cr cn ci x) (hb' : Below W.heap.size W W') : Rxf W' r hb b off k n c cr cn ci x := ⟨h.c.below hb', h.x.below hb', h.h.below hb'⟩

def wx0 : Oper := { dst := some 16, op := Op.move (Operand.tmp 0), type := 31, pos := "ref.go:15", after := #[], guard := none }
def wx1 : Oper := { dst := some 17, op := Op.nilCheck (Operand.tmp 16), type := 0, pos := "ref.go:15", after := #[{ on := 0, ground := Ground.data }], guard := none }
def wx2 : Oper := { dst := some 18, op := Op.fieldAddr 34 (Operand.tmp 17) 0, type := 0, pos := "ref.go:15", after := #[{ on := 1, ground := Ground.data }], guard := none }
def wx3 : Oper := { dst := some 19, op := Op.load 32 (Operand.tmp 18), type := 32, pos := "ref.go:15", after := #[{ on := 2, ground := Ground.data }], guard := none }
def wx4 : Oper := { dst := some 20, op := Op.move (Operand.tmp 6), type := 3, pos := "ref.go:15", after := #[], guard := none }
def wx5 : Oper := { dst := some 21, op := Op.indexAddr 32 (Operand.tmp 19) (Operand.tmp 20), type := 0, pos := "ref.go:15", after := #[{ on := 3, ground := Ground.data }, { on := 4, ground := Ground.data }], guard := none }
def wx6 : Oper := { dst := some 22, op := Op.fieldAddr 36 (Operand.tmp 21) 0, type := 0, pos := "ref.go:15", after := #[{ on := 5, ground := Ground.data }], guard := none }
def wx7 : Oper := { dst := some 23, op := Op.load 24 (Operand.tmp 22), type := 24, pos := "ref.go:15", after := #[{ on := 6, ground := Ground.data }], guard := none }
def wx8 : Oper := { dst := some 24, op := Op.fieldAddr 26 (Operand.tmp 3) 0, type := 0, pos := "ref.go:15", after := #[], guard := none }
def wx9 : Oper := { dst := some 25, op := Op.load 24 (Operand.tmp 24), type := 24, pos := "ref.go:15", after := #[{ on := 8, ground := Ground.data }], guard := none }
def wx10 : Oper := { dst := some 26, op := Op.binOp BinOp.eql 24 (Operand.tmp 23) (Operand.tmp 25) 24, type := 4, pos := "ref.go:15", after := #[{ on := 7, ground := Ground.data }, { on := 9, ground := Ground.data }], guard := none }
def wx11 : Oper := { dst := some 27, op := Op.move (Operand.tmp 26), type := 4, pos := "ref.go:15", after := #[{ on := 10, ground := Ground.data }], guard := none }
def wx12 : Oper := { dst := some 28, op := Op.move (Operand.tmp 0), type := 31, pos := "ref.go:15", after := #[{ on := 11, ground := Ground.guard }], guard := some (11, true) }
def wx13 : Oper := { dst := some 29, op := Op.nilCheck (Operand.tmp 28), type := 0, pos := "ref.go:15", after := #[{ on := 12, ground := Ground.data }, { on := 11, ground := Ground.guard }], guard := some (11, true) }
def wx14 : Oper := { dst := some 30, op := Op.fieldAddr 34 (Operand.tmp 29) 0, type := 0, pos := "ref.go:15", after := #[{ on := 13, ground := Ground.data }, { on := 11, ground := Ground.guard }], guard := some (11, true) }
def wx15 : Oper := { dst := some 31, op := Op.load 32 (Operand.tmp 30), type := 32, pos := "ref.go:15", after := #[{ on := 14, ground := Ground.data }, { on := 11, ground := Ground.guard }], guard := some (11, true) }
def wx16 : Oper := { dst := some 32, op := Op.move (Operand.tmp 6), type := 3, pos := "ref.go:15", after := #[{ on := 11, ground := Ground.guard }], guard := some (11, true) }
def wx17 : Oper := { dst := some 33, op := Op.indexAddr 32 (Operand.tmp 31) (Operand.tmp 32), type := 0, pos := "ref.go:15", after := #[{ on := 15, ground := Ground.data }, { on := 16, ground := Ground.data }, { on := 11, ground := Ground.guard }], guard := some (11, true) }
def wx18 : Oper := { dst := some 34, op := Op.fieldAddr 36 (Operand.tmp 33) 1, type := 0, pos := "ref.go:15", after := #[{ on := 17, ground := Ground.data }, { on := 11, ground := Ground.guard }], guard := some (11, true) }
def wx19 : Oper := { dst := some 35, op := Op.load 3 (Operand.tmp 34), type := 3, pos := "ref.go:15", after := #[{ on := 18, ground := Ground.data }, { on := 11, ground := Ground.guard }], guard := some (11, true) }
def wx20 : Oper := { dst := some 36, op := Op.fieldAddr 26 (Operand.tmp 3) 1, type := 0, pos := "ref.go:15", after := #[{ on := 11, ground := Ground.guard }], guard := some (11, true) }
def wx21 : Oper := { dst := some 37, op := Op.load 3 (Operand.tmp 36), type := 3, pos := "ref.go:15", after := #[{ on := 20, ground := Ground.data }, { on := 11, ground := Ground.guard }], guard := some (11, true) }
def wx22 : Oper := { dst := some 38, op := Op.binOp BinOp.eql 3 (Operand.tmp 35) (Operand.tmp 37) 3, type := 4, pos := "ref.go:15", after := #[{ on := 19, ground := Ground.data }, { on := 21, ground := Ground.data }, { on := 11, ground := Ground.guard }], guard := some (11, true) }
def wx23 : Oper := { dst := some 39, op := Op.pick (Operand.tmp 27) (Operand.tmp 38) (Operand.const (Value.bool false)), type := 4, pos := "ref.go:15", after := #[{ on := 11, ground := Ground.data }, { on := 22, ground := Ground.data }], guard := none }
def wxs : Array Oper := #[wx0, wx1, wx2, wx3, wx4, wx5, wx6, wx7, wx8, wx9, wx10, wx11, wx12, wx13, wx14, wx15, wx16, wx17, wx18, wx19, wx20, wx21, wx22, wx23]
theorem wx_lit : Region.noSelect wxs = true := by kernel_rfl

set_option maxHeartbeats 8000000 in
theorem xf_reg0 {r hb b off k n c : Nat} {cr cn ci : Int} {x : Un} {w : World} (h : Rxf w r hb b off k n c cr cn ci x) (hk : k < n) (h1 : sameI x.r x.n cr cn = false) {x1 x2 x4 x5 x7 x8 x9 ab ad ae af ah ai x16 x17 x18 x19 x20 x21 aH aG aF aE aD aC aB aA az ay ax aw av au aq ap am ak aj : Value} {Q : Exit → Act → World → Prop}
    (hP : ∀ c t t' d W, Q (.panic c) { tmps := t, defers := d } W → Q (.panic c) { tmps := t', defers := d } W)
    (hQ : ∀ W,Below w.heap.size w W → Q .normal { tmps := #[.pointer (some ⟨r,0,none⟩),x1,x2,.pointer (some ⟨hb,0,none⟩),x4,x5,.int .i64 (k : Int),x7,x8,x9,ab,ad,ae,af,ah,ai,.pointer (some ⟨r,0,none⟩),.pointer (some ⟨r,0,none⟩),.pointer (some ⟨r,0,none⟩),.slice (some ⟨b,off,none⟩) n c,.int .i64 (k : Int),.pointer (some ⟨b,off + k * 13,none⟩),.pointer (some ⟨b,off + k * 13,none⟩),idv x.r x.n,.pointer (some ⟨hb,0,none⟩),idv cr cn,.bool false,.bool false,undef,undef,undef,undef,undef,undef,undef,undef,undef,undef,undef,.bool false,aj],defers := [] } W) : (Code.region 4 wxs true).wp Try.prog Q { tmps := #[.pointer (some ⟨r,0,none⟩),x1,x2,.pointer (some ⟨hb,0,none⟩),x4,x5,.int .i64 (k : Int),x7,x8,x9,ab,ad,ae,af,ah,ai,x16,x17,x18,x19,x20,x21,aH,aG,aF,aE,aD,aC,aB,aA,az,ay,ax,aw,av,au,aq,ap,am,ak,aj],defers := [] } w := by
  refine wp_region_held (S := fun W => Rxf W r hb b off k n c cr cn ci x) (by kernel_rfl) ?_
  change wpAnyH _ _ _ _ _ 24 _ _ (World.drew _)
  have S0 : Rxf (World.drew w) r hb b off k n c cr cn ci x := h.below (bd w 1)
  clear h
  obtain ⟨W0, hW⟩ : ∃ W, World.drew w = W := ⟨_, rfl⟩
  rw [hW] at S0 ⊢
  have BW0 : Below w.heap.size w W0 := by rw [← hW]; exact (Below.refl _ _).drew
  clear hW
  refine wpAnyH_take (i := 0) (oi := wx0) (v := .pointer (some ⟨r, 0, none⟩)) (by kernel_rfl) wx_lit (by kernel_rfl) (by kernel_rfl) (fun c a W h => hP c _ _ _ W h) (Or.inl ⟨by kernel_rfl, fun W hW => by kernel_rfl⟩) S0 ?_
  rw [show Act.put _ wx0.dst _ = { tmps := #[.pointer (some ⟨r,0,none⟩),x1,x2,.pointer (some ⟨hb,0,none⟩),x4,x5,.int .i64 (k : Int),x7,x8,x9,ab,ad,ae,af,ah,ai,.pointer (some ⟨r,0,none⟩),x17,x18,x19,x20,x21,aH,aG,aF,aE,aD,aC,aB,aA,az,ay,ax,aw,av,au,aq,ap,am,ak,aj],defers := [] } from by kernel_rfl]
  refine wpAnyH_take (i := 1) (oi := wx1) (v := .pointer (some ⟨r, 0, none⟩)) (by kernel_rfl) wx_lit (by kernel_rfl) (by kernel_rfl) (fun c a W h => hP c _ _ _ W h) (Or.inl ⟨by kernel_rfl, fun W hW => by kernel_rfl⟩) S0 ?_
  rw [show Act.put _ wx1.dst _ = { tmps := #[.pointer (some ⟨r,0,none⟩),x1,x2,.pointer (some ⟨hb,0,none⟩),x4,x5,.int .i64 (k : Int),x7,x8,x9,ab,ad,ae,af,ah,ai,.pointer (some ⟨r,0,none⟩),.pointer (some ⟨r,0,none⟩),x18,x19,x20,x21,aH,aG,aF,aE,aD,aC,aB,aA,az,ay,ax,aw,av,au,aq,ap,am,ak,aj],defers := [] } from by kernel_rfl]
  refine wpAnyH_take (i := 2) (oi := wx2) (v := .pointer (some ⟨r, 0, none⟩)) (by kernel_rfl) wx_lit (by kernel_rfl) (by kernel_rfl) (fun c a W h => hP c _ _ _ W h) (Or.inl ⟨by kernel_rfl, fun W hW => by kernel_rfl⟩) S0 ?_
  rw [show Act.put _ wx2.dst _ = { tmps := #[.pointer (some ⟨r,0,none⟩),x1,x2,.pointer (some ⟨hb,0,none⟩),x4,x5,.int .i64 (k : Int),x7,x8,x9,ab,ad,ae,af,ah,ai,.pointer (some ⟨r,0,none⟩),.pointer (some ⟨r,0,none⟩),.pointer (some ⟨r,0,none⟩),x19,x20,x21,aH,aG,aF,aE,aD,aC,aB,aA,az,ay,ax,aw,av,au,aq,ap,am,ak,aj],defers := [] } from by kernel_rfl]
  refine wpAnyH_take (i := 3) (oi := wx3) (v := .slice (some ⟨b, off, none⟩) n c) (by kernel_rfl) wx_lit (by kernel_rfl) (by kernel_rfl) (fun c a W h => hP c _ _ _ W h) (Or.inl ⟨by kernel_rfl, fun W hW => runU_items rfl rfl hW.c.cell⟩) S0 ?_
  rw [show Act.put _ wx3.dst _ = { tmps := #[.pointer (some ⟨r,0,none⟩),x1,x2,.pointer (some ⟨hb,0,none⟩),x4,x5,.int .i64 (k : Int),x7,x8,x9,ab,ad,ae,af,ah,ai,.pointer (some ⟨r,0,none⟩),.pointer (some ⟨r,0,none⟩),.pointer (some ⟨r,0,none⟩),.slice (some ⟨b,off,none⟩) n c,x20,x21,aH,aG,aF,aE,aD,aC,aB,aA,az,ay,ax,aw,av,au,aq,ap,am,ak,aj],defers := [] } from by kernel_rfl]
  refine wpAnyH_take (i := 4) (oi := wx4) (v := .int .i64 (k : Int)) (by kernel_rfl) wx_lit (by kernel_rfl) (by kernel_rfl) (fun c a W h => hP c _ _ _ W h) (Or.inl ⟨by kernel_rfl, fun W hW => by kernel_rfl⟩) S0 ?_
  rw [show Act.put _ wx4.dst _ = { tmps := #[.pointer (some ⟨r,0,none⟩),x1,x2,.pointer (some ⟨hb,0,none⟩),x4,x5,.int .i64 (k : Int),x7,x8,x9,ab,ad,ae,af,ah,ai,.pointer (some ⟨r,0,none⟩),.pointer (some ⟨r,0,none⟩),.pointer (some ⟨r,0,none⟩),.slice (some ⟨b,off,none⟩) n c,.int .i64 (k : Int),x21,aH,aG,aF,aE,aD,aC,aB,aA,az,ay,ax,aw,av,au,aq,ap,am,ak,aj],defers := [] } from by kernel_rfl]
  refine wpAnyH_take (i := 5) (oi := wx5) (v := .pointer (some ⟨b, off + k * 13, none⟩)) (by kernel_rfl) wx_lit (by kernel_rfl) (by kernel_rfl) (fun c a W h => hP c _ _ _ W h) (Or.inl ⟨by kernel_rfl, fun W hW => runU_ixI rfl rfl rfl (by omega)⟩) S0 ?_
  rw [show Act.put _ wx5.dst _ = { tmps := #[.pointer (some ⟨r,0,none⟩),x1,x2,.pointer (some ⟨hb,0,none⟩),x4,x5,.int .i64 (k : Int),x7,x8,x9,ab,ad,ae,af,ah,ai,.pointer (some ⟨r,0,none⟩),.pointer (some ⟨r,0,none⟩),.pointer (some ⟨r,0,none⟩),.slice (some ⟨b,off,none⟩) n c,.int .i64 (k : Int),.pointer (some ⟨b,off + k * 13,none⟩),aH,aG,aF,aE,aD,aC,aB,aA,az,ay,ax,aw,av,au,aq,ap,am,ak,aj],defers := [] } from by kernel_rfl]
  refine wpAnyH_take (i := 6) (oi := wx6) (v := .pointer (some ⟨b, off + k * 13, none⟩)) (by kernel_rfl) wx_lit (by kernel_rfl) (by kernel_rfl) (fun c a W h => hP c _ _ _ W h) (Or.inl ⟨by kernel_rfl, fun W hW => by kernel_rfl⟩) S0 ?_
  rw [show Act.put _ wx6.dst _ = { tmps := #[.pointer (some ⟨r,0,none⟩),x1,x2,.pointer (some ⟨hb,0,none⟩),x4,x5,.int .i64 (k : Int),x7,x8,x9,ab,ad,ae,af,ah,ai,.pointer (some ⟨r,0,none⟩),.pointer (some ⟨r,0,none⟩),.pointer (some ⟨r,0,none⟩),.slice (some ⟨b,off,none⟩) n c,.int .i64 (k : Int),.pointer (some ⟨b,off + k * 13,none⟩),.pointer (some ⟨b,off + k * 13,none⟩),aG,aF,aE,aD,aC,aB,aA,az,ay,ax,aw,av,au,aq,ap,am,ak,aj],defers := [] } from by kernel_rfl]
  refine wpAnyH_take (i := 7) (oi := wx7) (v := idv x.r x.n) (by kernel_rfl) wx_lit (by kernel_rfl) (by kernel_rfl) (fun c a W h => hP c _ _ _ W h) (Or.inl ⟨by kernel_rfl, fun W hW => runU_id rfl rfl hW.x.c0 hW.x.c1⟩) S0 ?_
  rw [show Act.put _ wx7.dst _ = { tmps := #[.pointer (some ⟨r,0,none⟩),x1,x2,.pointer (some ⟨hb,0,none⟩),x4,x5,.int .i64 (k : Int),x7,x8,x9,ab,ad,ae,af,ah,ai,.pointer (some ⟨r,0,none⟩),.pointer (some ⟨r,0,none⟩),.pointer (some ⟨r,0,none⟩),.slice (some ⟨b,off,none⟩) n c,.int .i64 (k : Int),.pointer (some ⟨b,off + k * 13,none⟩),.pointer (some ⟨b,off + k * 13,none⟩),idv x.r x.n,aF,aE,aD,aC,aB,aA,az,ay,ax,aw,av,au,aq,ap,am,ak,aj],defers := [] } from by kernel_rfl]
  refine wpAnyH_take (i := 8) (oi := wx8) (v := .pointer (some ⟨hb, 0, none⟩)) (by kernel_rfl) wx_lit (by kernel_rfl) (by kernel_rfl) (fun c a W h => hP c _ _ _ W h) (Or.inl ⟨by kernel_rfl, fun W hW => by kernel_rfl⟩) S0 ?_
  rw [show Act.put _ wx8.dst _ = { tmps := #[.pointer (some ⟨r,0,none⟩),x1,x2,.pointer (some ⟨hb,0,none⟩),x4,x5,.int .i64 (k : Int),x7,x8,x9,ab,ad,ae,af,ah,ai,.pointer (some ⟨r,0,none⟩),.pointer (some ⟨r,0,none⟩),.pointer (some ⟨r,0,none⟩),.slice (some ⟨b,off,none⟩) n c,.int .i64 (k : Int),.pointer (some ⟨b,off + k * 13,none⟩),.pointer (some ⟨b,off + k * 13,none⟩),idv x.r x.n,.pointer (some ⟨hb,0,none⟩),aE,aD,aC,aB,aA,az,ay,ax,aw,av,au,aq,ap,am,ak,aj],defers := [] } from by kernel_rfl]
  refine wpAnyH_take (i := 9) (oi := wx9) (v := idv cr cn) (by kernel_rfl) wx_lit (by kernel_rfl) (by kernel_rfl) (fun c a W h => hP c _ _ _ W h) (Or.inl ⟨by kernel_rfl, fun W hW => runU_id rfl rfl hW.h.cells.c0 hW.h.cells.c1⟩) S0 ?_
  rw [show Act.put _ wx9.dst _ = { tmps := #[.pointer (some ⟨r,0,none⟩),x1,x2,.pointer (some ⟨hb,0,none⟩),x4,x5,.int .i64 (k : Int),x7,x8,x9,ab,ad,ae,af,ah,ai,.pointer (some ⟨r,0,none⟩),.pointer (some ⟨r,0,none⟩),.pointer (some ⟨r,0,none⟩),.slice (some ⟨b,off,none⟩) n c,.int .i64 (k : Int),.pointer (some ⟨b,off + k * 13,none⟩),.pointer (some ⟨b,off + k * 13,none⟩),idv x.r x.n,.pointer (some ⟨hb,0,none⟩),idv cr cn,aD,aC,aB,aA,az,ay,ax,aw,av,au,aq,ap,am,ak,aj],defers := [] } from by kernel_rfl]
  refine wpAnyH_take (i := 10) (oi := wx10) (v := .bool false) (by kernel_rfl) wx_lit (by kernel_rfl) (by kernel_rfl) (fun c a W h => hP c _ _ _ W h) (Or.inl ⟨by kernel_rfl, fun W hW => runU_eqid rfl rfl rfl h1⟩) S0 ?_
  rw [show Act.put _ wx10.dst _ = { tmps := #[.pointer (some ⟨r,0,none⟩),x1,x2,.pointer (some ⟨hb,0,none⟩),x4,x5,.int .i64 (k : Int),x7,x8,x9,ab,ad,ae,af,ah,ai,.pointer (some ⟨r,0,none⟩),.pointer (some ⟨r,0,none⟩),.pointer (some ⟨r,0,none⟩),.slice (some ⟨b,off,none⟩) n c,.int .i64 (k : Int),.pointer (some ⟨b,off + k * 13,none⟩),.pointer (some ⟨b,off + k * 13,none⟩),idv x.r x.n,.pointer (some ⟨hb,0,none⟩),idv cr cn,.bool false,aC,aB,aA,az,ay,ax,aw,av,au,aq,ap,am,ak,aj],defers := [] } from by kernel_rfl]
  refine wpAnyH_take (i := 11) (oi := wx11) (v := .bool false) (by kernel_rfl) wx_lit (by kernel_rfl) (by kernel_rfl) (fun c a W h => hP c _ _ _ W h) (Or.inl ⟨by kernel_rfl, fun W hW => by kernel_rfl⟩) S0 ?_
  rw [show Act.put _ wx11.dst _ = { tmps := #[.pointer (some ⟨r,0,none⟩),x1,x2,.pointer (some ⟨hb,0,none⟩),x4,x5,.int .i64 (k : Int),x7,x8,x9,ab,ad,ae,af,ah,ai,.pointer (some ⟨r,0,none⟩),.pointer (some ⟨r,0,none⟩),.pointer (some ⟨r,0,none⟩),.slice (some ⟨b,off,none⟩) n c,.int .i64 (k : Int),.pointer (some ⟨b,off + k * 13,none⟩),.pointer (some ⟨b,off + k * 13,none⟩),idv x.r x.n,.pointer (some ⟨hb,0,none⟩),idv cr cn,.bool false,.bool false,aB,aA,az,ay,ax,aw,av,au,aq,ap,am,ak,aj],defers := [] } from by kernel_rfl]
  refine wpAnyH_take (i := 12) (oi := wx12) (v := undef) (by kernel_rfl) wx_lit (by kernel_rfl) (by kernel_rfl) (fun c a W h => hP c _ _ _ W h) (Or.inr ⟨by kernel_rfl, rfl⟩) S0 ?_
  rw [show Act.put _ wx12.dst _ = { tmps := #[.pointer (some ⟨r,0,none⟩),x1,x2,.pointer (some ⟨hb,0,none⟩),x4,x5,.int .i64 (k : Int),x7,x8,x9,ab,ad,ae,af,ah,ai,.pointer (some ⟨r,0,none⟩),.pointer (some ⟨r,0,none⟩),.pointer (some ⟨r,0,none⟩),.slice (some ⟨b,off,none⟩) n c,.int .i64 (k : Int),.pointer (some ⟨b,off + k * 13,none⟩),.pointer (some ⟨b,off + k * 13,none⟩),idv x.r x.n,.pointer (some ⟨hb,0,none⟩),idv cr cn,.bool false,.bool false,undef,aA,az,ay,ax,aw,av,au,aq,ap,am,ak,aj],defers := [] } from by kernel_rfl]
  refine wpAnyH_take (i := 13) (oi := wx13) (v := undef) (by kernel_rfl) wx_lit (by kernel_rfl) (by kernel_rfl) (fun c a W h => hP c _ _ _ W h) (Or.inr ⟨by kernel_rfl, rfl⟩) S0 ?_
  rw [show Act.put _ wx13.dst _ = { tmps := #[.pointer (some ⟨r,0,none⟩),x1,x2,.pointer (some ⟨hb,0,none⟩),x4,x5,.int .i64 (k : Int),x7,x8,x9,ab,ad,ae,af,ah,ai,.pointer (some ⟨r,0,none⟩),.pointer (some ⟨r,0,none⟩),.pointer (some ⟨r,0,none⟩),.slice (some ⟨b,off,none⟩) n c,.int .i64 (k : Int),.pointer (some ⟨b,off + k * 13,none⟩),.pointer (some ⟨b,off + k * 13,none⟩),idv x.r x.n,.pointer (some ⟨hb,0,none⟩),idv cr cn,.bool false,.bool false,undef,undef,az,ay,ax,aw,av,au,aq,ap,am,ak,aj],defers := [] } from by kernel_rfl]
  refine wpAnyH_take (i := 14) (oi := wx14) (v := undef) (by kernel_rfl) wx_lit (by kernel_rfl) (by kernel_rfl) (fun c a W h => hP c _ _ _ W h) (Or.inr ⟨by kernel_rfl, rfl⟩) S0 ?_
  rw [show Act.put _ wx14.dst _ = { tmps := #[.pointer (some ⟨r,0,none⟩),x1,x2,.pointer (some ⟨hb,0,none⟩),x4,x5,.int .i64 (k : Int),x7,x8,x9,ab,ad,ae,af,ah,ai,.pointer (some ⟨r,0,none⟩),.pointer (some ⟨r,0,none⟩),.pointer (some ⟨r,0,none⟩),.slice (some ⟨b,off,none⟩) n c,.int .i64 (k : Int),.pointer (some ⟨b,off + k * 13,none⟩),.pointer (some ⟨b,off + k * 13,none⟩),idv x.r x.n,.pointer (some ⟨hb,0,none⟩),idv cr cn,.bool false,.bool false,undef,undef,undef,ay,ax,aw,av,au,aq,ap,am,ak,aj],defers := [] } from by kernel_rfl]
  refine wpAnyH_take (i := 15) (oi := wx15) (v := undef) (by kernel_rfl) wx_lit (by kernel_rfl) (by kernel_rfl) (fun c a W h => hP c _ _ _ W h) (Or.inr ⟨by kernel_rfl, rfl⟩) S0 ?_
  rw [show Act.put _ wx15.dst _ = { tmps := #[.pointer (some ⟨r,0,none⟩),x1,x2,.pointer (some ⟨hb,0,none⟩),x4,x5,.int .i64 (k : Int),x7,x8,x9,ab,ad,ae,af,ah,ai,.pointer (some ⟨r,0,none⟩),.pointer (some ⟨r,0,none⟩),.pointer (some ⟨r,0,none⟩),.slice (some ⟨b,off,none⟩) n c,.int .i64 (k : Int),.pointer (some ⟨b,off + k * 13,none⟩),.pointer (some ⟨b,off + k * 13,none⟩),idv x.r x.n,.pointer (some ⟨hb,0,none⟩),idv cr cn,.bool false,.bool false,undef,undef,undef,undef,ax,aw,av,au,aq,ap,am,ak,aj],defers := [] } from by kernel_rfl]
  refine wpAnyH_take (i := 16) (oi := wx16) (v := undef) (by kernel_rfl) wx_lit (by kernel_rfl) (by kernel_rfl) (fun c a W h => hP c _ _ _ W h) (Or.inr ⟨by kernel_rfl, rfl⟩) S0 ?_
  rw [show Act.put _ wx16.dst _ = { tmps := #[.pointer (some ⟨r,0,none⟩),x1,x2,.pointer (some ⟨hb,0,none⟩),x4,x5,.int .i64 (k : Int),x7,x8,x9,ab,ad,ae,af,ah,ai,.pointer (some ⟨r,0,none⟩),.pointer (some ⟨r,0,none⟩),.pointer (some ⟨r,0,none⟩),.slice (some ⟨b,off,none⟩) n c,.int .i64 (k : Int),.pointer (some ⟨b,off + k * 13,none⟩),.pointer (some ⟨b,off + k * 13,none⟩),idv x.r x.n,.pointer (some ⟨hb,0,none⟩),idv cr cn,.bool false,.bool false,undef,undef,undef,undef,undef,aw,av,au,aq,ap,am,ak,aj],defers := [] } from by kernel_rfl]
  refine wpAnyH_take (i := 17) (oi := wx17) (v := undef) (by kernel_rfl) wx_lit (by kernel_rfl) (by kernel_rfl) (fun c a W h => hP c _ _ _ W h) (Or.inr ⟨by kernel_rfl, rfl⟩) S0 ?_
  rw [show Act.put _ wx17.dst _ = { tmps := #[.pointer (some ⟨r,0,none⟩),x1,x2,.pointer (some ⟨hb,0,none⟩),x4,x5,.int .i64 (k : Int),x7,x8,x9,ab,ad,ae,af,ah,ai,.pointer (some ⟨r,0,none⟩),.pointer (some ⟨r,0,none⟩),.pointer (some ⟨r,0,none⟩),.slice (some ⟨b,off,none⟩) n c,.int .i64 (k : Int),.pointer (some ⟨b,off + k * 13,none⟩),.pointer (some ⟨b,off + k * 13,none⟩),idv x.r x.n,.pointer (some ⟨hb,0,none⟩),idv cr cn,.bool false,.bool false,undef,undef,undef,undef,undef,undef,av,au,aq,ap,am,ak,aj],defers := [] } from by kernel_rfl]
  refine wpAnyH_take (i := 18) (oi := wx18) (v := undef) (by kernel_rfl) wx_lit (by kernel_rfl) (by kernel_rfl) (fun c a W h => hP c _ _ _ W h) (Or.inr ⟨by kernel_rfl, rfl⟩) S0 ?_
  rw [show Act.put _ wx18.dst _ = { tmps := #[.pointer (some ⟨r,0,none⟩),x1,x2,.pointer (some ⟨hb,0,none⟩),x4,x5,.int .i64 (k : Int),x7,x8,x9,ab,ad,ae,af,ah,ai,.pointer (some ⟨r,0,none⟩),.pointer (some ⟨r,0,none⟩),.pointer (some ⟨r,0,none⟩),.slice (some ⟨b,off,none⟩) n c,.int .i64 (k : Int),.pointer (some ⟨b,off + k * 13,none⟩),.pointer (some ⟨b,off + k * 13,none⟩),idv x.r x.n,.pointer (some ⟨hb,0,none⟩),idv cr cn,.bool false,.bool false,undef,undef,undef,undef,undef,undef,undef,au,aq,ap,am,ak,aj],defers := [] } from by kernel_rfl]
  refine wpAnyH_take (i := 19) (oi := wx19) (v := undef) (by kernel_rfl) wx_lit (by kernel_rfl) (by kernel_rfl) (fun c a W h => hP c _ _ _ W h) (Or.inr ⟨by kernel_rfl, rfl⟩) S0 ?_
  rw [show Act.put _ wx19.dst _ = { tmps := #[.pointer (some ⟨r,0,none⟩),x1,x2,.pointer (some ⟨hb,0,none⟩),x4,x5,.int .i64 (k : Int),x7,x8,x9,ab,ad,ae,af,ah,ai,.pointer (some ⟨r,0,none⟩),.pointer (some ⟨r,0,none⟩),.pointer (some ⟨r,0,none⟩),.slice (some ⟨b,off,none⟩) n c,.int .i64 (k : Int),.pointer (some ⟨b,off + k * 13,none⟩),.pointer (some ⟨b,off + k * 13,none⟩),idv x.r x.n,.pointer (some ⟨hb,0,none⟩),idv cr cn,.bool false,.bool false,undef,undef,undef,undef,undef,undef,undef,undef,aq,ap,am,ak,aj],defers := [] } from by kernel_rfl]
  refine wpAnyH_take (i := 20) (oi := wx20) (v := undef) (by kernel_rfl) wx_lit (by kernel_rfl) (by kernel_rfl) (fun c a W h => hP c _ _ _ W h) (Or.inr ⟨by kernel_rfl, rfl⟩) S0 ?_
  rw [show Act.put _ wx20.dst _ = { tmps := #[.pointer (some ⟨r,0,none⟩),x1,x2,.pointer (some ⟨hb,0,none⟩),x4,x5,.int .i64 (k : Int),x7,x8,x9,ab,ad,ae,af,ah,ai,.pointer (some ⟨r,0,none⟩),.pointer (some ⟨r,0,none⟩),.pointer (some ⟨r,0,none⟩),.slice (some ⟨b,off,none⟩) n c,.int .i64 (k : Int),.pointer (some ⟨b,off + k * 13,none⟩),.pointer (some ⟨b,off + k * 13,none⟩),idv x.r x.n,.pointer (some ⟨hb,0,none⟩),idv cr cn,.bool false,.bool false,undef,undef,undef,undef,undef,undef,undef,undef,undef,ap,am,ak,aj],defers := [] } from by kernel_rfl]
  refine wpAnyH_take (i := 21) (oi := wx21) (v := undef) (by kernel_rfl) wx_lit (by kernel_rfl) (by kernel_rfl) (fun c a W h => hP c _ _ _ W h) (Or.inr ⟨by kernel_rfl, rfl⟩) S0 ?_
  rw [show Act.put _ wx21.dst _ = { tmps := #[.pointer (some ⟨r,0,none⟩),x1,x2,.pointer (some ⟨hb,0,none⟩),x4,x5,.int .i64 (k : Int),x7,x8,x9,ab,ad,ae,af,ah,ai,.pointer (some ⟨r,0,none⟩),.pointer (some ⟨r,0,none⟩),.pointer (some ⟨r,0,none⟩),.slice (some ⟨b,off,none⟩) n c,.int .i64 (k : Int),.pointer (some ⟨b,off + k * 13,none⟩),.pointer (some ⟨b,off + k * 13,none⟩),idv x.r x.n,.pointer (some ⟨hb,0,none⟩),idv cr cn,.bool false,.bool false,undef,undef,undef,undef,undef,undef,undef,undef,undef,undef,am,ak,aj],defers := [] } from by kernel_rfl]
  refine wpAnyH_take (i := 22) (oi := wx22) (v := undef) (by kernel_rfl) wx_lit (by kernel_rfl) (by kernel_rfl) (fun c a W h => hP c _ _ _ W h) (Or.inr ⟨by kernel_rfl, rfl⟩) S0 ?_
  rw [show Act.put _ wx22.dst _ = { tmps := #[.pointer (some ⟨r,0,none⟩),x1,x2,.pointer (some ⟨hb,0,none⟩),x4,x5,.int .i64 (k : Int),x7,x8,x9,ab,ad,ae,af,ah,ai,.pointer (some ⟨r,0,none⟩),.pointer (some ⟨r,0,none⟩),.pointer (some ⟨r,0,none⟩),.slice (some ⟨b,off,none⟩) n c,.int .i64 (k : Int),.pointer (some ⟨b,off + k * 13,none⟩),.pointer (some ⟨b,off + k * 13,none⟩),idv x.r x.n,.pointer (some ⟨hb,0,none⟩),idv cr cn,.bool false,.bool false,undef,undef,undef,undef,undef,undef,undef,undef,undef,undef,undef,ak,aj],defers := [] } from by kernel_rfl]
  refine wpAnyH_take (i := 23) (oi := wx23) (v := .bool false) (by kernel_rfl) wx_lit (by kernel_rfl) (by kernel_rfl) (fun c a W h => hP c _ _ _ W h) (Or.inl ⟨by kernel_rfl, fun W hW => by kernel_rfl⟩) S0 ?_
  rw [show Act.put _ wx23.dst _ = { tmps := #[.pointer (some ⟨r,0,none⟩),x1,x2,.pointer (some ⟨hb,0,none⟩),x4,x5,.int .i64 (k : Int),x7,x8,x9,ab,ad,ae,af,ah,ai,.pointer (some ⟨r,0,none⟩),.pointer (some ⟨r,0,none⟩),.pointer (some ⟨r,0,none⟩),.slice (some ⟨b,off,none⟩) n c,.int .i64 (k : Int),.pointer (some ⟨b,off + k * 13,none⟩),.pointer (some ⟨b,off + k * 13,none⟩),idv x.r x.n,.pointer (some ⟨hb,0,none⟩),idv cr cn,.bool false,.bool false,undef,undef,undef,undef,undef,undef,undef,undef,undef,undef,undef,.bool false,aj],defers := [] } from by kernel_rfl]
  exact wpAnyH_done (by kernel_rfl) (hQ _ BW0) _

set_option maxHeartbeats 8000000 in
theorem xf_reg1 {r hb b off k n c : Nat} {cr cn ci : Int} {x : Un} {w : World} (h : Rxf w r hb b off k n c cr cn ci x) (hk : k < n) {z : Bool} (h1 : sameI x.r x.n cr cn = true) (h2 : decide (x.f = ci) = z) {x1 x2 x4 x5 x7 x8 x9 ab ad ae af ah ai x16 x17 x18 x19 x20 x21 aH aG aF aE aD aC aB aA az ay ax aw av au aq ap am ak aj : Value} {Q : Exit → Act → World → Prop}
    (hP : ∀ c t t' d W, Q (.panic c) { tmps := t, defers := d } W → Q (.panic c) { tmps := t', defers := d } W)
    (hQ : ∀ W,Below w.heap.size w W → Q .normal { tmps := #[.pointer (some ⟨r,0,none⟩),x1,x2,.pointer (some ⟨hb,0,none⟩),x4,x5,.int .i64 (k : Int),x7,x8,x9,ab,ad,ae,af,ah,ai,.pointer (some ⟨r,0,none⟩),.pointer (some ⟨r,0,none⟩),.pointer (some ⟨r,0,none⟩),.slice (some ⟨b,off,none⟩) n c,.int .i64 (k : Int),.pointer (some ⟨b,off + k * 13,none⟩),.pointer (some ⟨b,off + k * 13,none⟩),idv x.r x.n,.pointer (some ⟨hb,0,none⟩),idv cr cn,.bool true,.bool true,.pointer (some ⟨r,0,none⟩),.pointer (some ⟨r,0,none⟩),.pointer (some ⟨r,0,none⟩),.slice (some ⟨b,off,none⟩) n c,.int .i64 (k : Int),.pointer (some ⟨b,off + k * 13,none⟩),.pointer (some ⟨b,off + k * 13 + 2,none⟩),.int .i64 x.f,.pointer (some ⟨hb,2,none⟩),.int .i64 ci,.bool z,.bool z,aj],defers := [] } W) : (Code.region 4 wxs true).wp Try.prog Q { tmps := #[.pointer (some ⟨r,0,none⟩),x1,x2,.pointer (some ⟨hb,0,none⟩),x4,x5,.int .i64 (k : Int),x7,x8,x9,ab,ad,ae,af,ah,ai,x16,x17,x18,x19,x20,x21,aH,aG,aF,aE,aD,aC,aB,aA,az,ay,ax,aw,av,au,aq,ap,am,ak,aj],defers := [] } w := by
  refine wp_region_held (S := fun W => Rxf W r hb b off k n c cr cn ci x) (by kernel_rfl) ?_
  change wpAnyH _ _ _ _ _ 24 _ _ (World.drew _)
  have S0 : Rxf (World.drew w) r hb b off k n c cr cn ci x := h.below (bd w 1)
  clear h
  obtain ⟨W0, hW⟩ : ∃ W, World.drew w = W := ⟨_, rfl⟩
  rw [hW] at S0 ⊢
  have BW0 : Below w.heap.size w W0 := by rw [← hW]; exact (Below.refl _ _).drew
  clear hW
  refine wpAnyH_take (i := 0) (oi := wx0) (v := .pointer (some ⟨r, 0, none⟩)) (by kernel_rfl) wx_lit (by kernel_rfl) (by kernel_rfl) (fun c a W h => hP c _ _ _ W h) (Or.inl ⟨by kernel_rfl, fun W hW => by kernel_rfl⟩) S0 ?_
  rw [show Act.put _ wx0.dst _ = { tmps := #[.pointer (some ⟨r,0,none⟩),x1,x2,.pointer (some ⟨hb,0,none⟩),x4,x5,.int .i64 (k : Int),x7,x8,x9,ab,ad,ae,af,ah,ai,.pointer (some ⟨r,0,none⟩),x17,x18,x19,x20,x21,aH,aG,aF,aE,aD,aC,aB,aA,az,ay,ax,aw,av,au,aq,ap,am,ak,aj],defers := [] } from by kernel_rfl]
  refine wpAnyH_take (i := 1) (oi := wx1) (v := .pointer (some ⟨r, 0, none⟩)) (by kernel_rfl) wx_lit (by kernel_rfl) (by kernel_rfl) (fun c a W h => hP c _ _ _ W h) (Or.inl ⟨by kernel_rfl, fun W hW => by kernel_rfl⟩) S0 ?_
  rw [show Act.put _ wx1.dst _ = { tmps := #[.pointer (some ⟨r,0,none⟩),x1,x2,.pointer (some ⟨hb,0,none⟩),x4,x5,.int .i64 (k : Int),x7,x8,x9,ab,ad,ae,af,ah,ai,.pointer (some ⟨r,0,none⟩),.pointer (some ⟨r,0,none⟩),x18,x19,x20,x21,aH,aG,aF,aE,aD,aC,aB,aA,az,ay,ax,aw,av,au,aq,ap,am,ak,aj],defers := [] } from by kernel_rfl]
  refine wpAnyH_take (i := 2) (oi := wx2) (v := .pointer (some ⟨r, 0, none⟩)) (by kernel_rfl) wx_lit (by kernel_rfl) (by kernel_rfl) (fun c a W h => hP c _ _ _ W h) (Or.inl ⟨by kernel_rfl, fun W hW => by kernel_rfl⟩) S0 ?_
  rw [show Act.put _ wx2.dst _ = { tmps := #[.pointer (some ⟨r,0,none⟩),x1,x2,.pointer (some ⟨hb,0,none⟩),x4,x5,.int .i64 (k : Int),x7,x8,x9,ab,ad,ae,af,ah,ai,.pointer (some ⟨r,0,none⟩),.pointer (some ⟨r,0,none⟩),.pointer (some ⟨r,0,none⟩),x19,x20,x21,aH,aG,aF,aE,aD,aC,aB,aA,az,ay,ax,aw,av,au,aq,ap,am,ak,aj],defers := [] } from by kernel_rfl]
  refine wpAnyH_take (i := 3) (oi := wx3) (v := .slice (some ⟨b, off, none⟩) n c) (by kernel_rfl) wx_lit (by kernel_rfl) (by kernel_rfl) (fun c a W h => hP c _ _ _ W h) (Or.inl ⟨by kernel_rfl, fun W hW => runU_items rfl rfl hW.c.cell⟩) S0 ?_
  rw [show Act.put _ wx3.dst _ = { tmps := #[.pointer (some ⟨r,0,none⟩),x1,x2,.pointer (some ⟨hb,0,none⟩),x4,x5,.int .i64 (k : Int),x7,x8,x9,ab,ad,ae,af,ah,ai,.pointer (some ⟨r,0,none⟩),.pointer (some ⟨r,0,none⟩),.pointer (some ⟨r,0,none⟩),.slice (some ⟨b,off,none⟩) n c,x20,x21,aH,aG,aF,aE,aD,aC,aB,aA,az,ay,ax,aw,av,au,aq,ap,am,ak,aj],defers := [] } from by kernel_rfl]
  refine wpAnyH_take (i := 4) (oi := wx4) (v := .int .i64 (k : Int)) (by kernel_rfl) wx_lit (by kernel_rfl) (by kernel_rfl) (fun c a W h => hP c _ _ _ W h) (Or.inl ⟨by kernel_rfl, fun W hW => by kernel_rfl⟩) S0 ?_
  rw [show Act.put _ wx4.dst _ = { tmps := #[.pointer (some ⟨r,0,none⟩),x1,x2,.pointer (some ⟨hb,0,none⟩),x4,x5,.int .i64 (k : Int),x7,x8,x9,ab,ad,ae,af,ah,ai,.pointer (some ⟨r,0,none⟩),.pointer (some ⟨r,0,none⟩),.pointer (some ⟨r,0,none⟩),.slice (some ⟨b,off,none⟩) n c,.int .i64 (k : Int),x21,aH,aG,aF,aE,aD,aC,aB,aA,az,ay,ax,aw,av,au,aq,ap,am,ak,aj],defers := [] } from by kernel_rfl]
  refine wpAnyH_take (i := 5) (oi := wx5) (v := .pointer (some ⟨b, off + k * 13, none⟩)) (by kernel_rfl) wx_lit (by kernel_rfl) (by kernel_rfl) (fun c a W h => hP c _ _ _ W h) (Or.inl ⟨by kernel_rfl, fun W hW => runU_ixI rfl rfl rfl (by omega)⟩) S0 ?_
  rw [show Act.put _ wx5.dst _ = { tmps := #[.pointer (some ⟨r,0,none⟩),x1,x2,.pointer (some ⟨hb,0,none⟩),x4,x5,.int .i64 (k : Int),x7,x8,x9,ab,ad,ae,af,ah,ai,.pointer (some ⟨r,0,none⟩),.pointer (some ⟨r,0,none⟩),.pointer (some ⟨r,0,none⟩),.slice (some ⟨b,off,none⟩) n c,.int .i64 (k : Int),.pointer (some ⟨b,off + k * 13,none⟩),aH,aG,aF,aE,aD,aC,aB,aA,az,ay,ax,aw,av,au,aq,ap,am,ak,aj],defers := [] } from by kernel_rfl]
  refine wpAnyH_take (i := 6) (oi := wx6) (v := .pointer (some ⟨b, off + k * 13, none⟩)) (by kernel_rfl) wx_lit (by kernel_rfl) (by kernel_rfl) (fun c a W h => hP c _ _ _ W h) (Or.inl ⟨by kernel_rfl, fun W hW => by kernel_rfl⟩) S0 ?_
  rw [show Act.put _ wx6.dst _ = { tmps := #[.pointer (some ⟨r,0,none⟩),x1,x2,.pointer (some ⟨hb,0,none⟩),x4,x5,.int .i64 (k : Int),x7,x8,x9,ab,ad,ae,af,ah,ai,.pointer (some ⟨r,0,none⟩),.pointer (some ⟨r,0,none⟩),.pointer (some ⟨r,0,none⟩),.slice (some ⟨b,off,none⟩) n c,.int .i64 (k : Int),.pointer (some ⟨b,off + k * 13,none⟩),.pointer (some ⟨b,off + k * 13,none⟩),aG,aF,aE,aD,aC,aB,aA,az,ay,ax,aw,av,au,aq,ap,am,ak,aj],defers := [] } from by kernel_rfl]
  refine wpAnyH_take (i := 7) (oi := wx7) (v := idv x.r x.n) (by kernel_rfl) wx_lit (by kernel_rfl) (by kernel_rfl) (fun c a W h => hP c _ _ _ W h) (Or.inl ⟨by kernel_rfl, fun W hW => runU_id rfl rfl hW.x.c0 hW.x.c1⟩) S0 ?_
  rw [show Act.put _ wx7.dst _ = { tmps := #[.pointer (some ⟨r,0,none⟩),x1,x2,.pointer (some ⟨hb,0,none⟩),x4,x5,.int .i64 (k : Int),x7,x8,x9,ab,ad,ae,af,ah,ai,.pointer (some ⟨r,0,none⟩),.pointer (some ⟨r,0,none⟩),.pointer (some ⟨r,0,none⟩),.slice (some ⟨b,off,none⟩) n c,.int .i64 (k : Int),.pointer (some ⟨b,off + k * 13,none⟩),.pointer (some ⟨b,off + k * 13,none⟩),idv x.r x.n,aF,aE,aD,aC,aB,aA,az,ay,ax,aw,av,au,aq,ap,am,ak,aj],defers := [] } from by kernel_rfl]
  refine wpAnyH_take (i := 8) (oi := wx8) (v := .pointer (some ⟨hb, 0, none⟩)) (by kernel_rfl) wx_lit (by kernel_rfl) (by kernel_rfl) (fun c a W h => hP c _ _ _ W h) (Or.inl ⟨by kernel_rfl, fun W hW => by kernel_rfl⟩) S0 ?_
  rw [show Act.put _ wx8.dst _ = { tmps := #[.pointer (some ⟨r,0,none⟩),x1,x2,.pointer (some ⟨hb,0,none⟩),x4,x5,.int .i64 (k : Int),x7,x8,x9,ab,ad,ae,af,ah,ai,.pointer (some ⟨r,0,none⟩),.pointer (some ⟨r,0,none⟩),.pointer (some ⟨r,0,none⟩),.slice (some ⟨b,off,none⟩) n c,.int .i64 (k : Int),.pointer (some ⟨b,off + k * 13,none⟩),.pointer (some ⟨b,off + k * 13,none⟩),idv x.r x.n,.pointer (some ⟨hb,0,none⟩),aE,aD,aC,aB,aA,az,ay,ax,aw,av,au,aq,ap,am,ak,aj],defers := [] } from by kernel_rfl]
  refine wpAnyH_take (i := 9) (oi := wx9) (v := idv cr cn) (by kernel_rfl) wx_lit (by kernel_rfl) (by kernel_rfl) (fun c a W h => hP c _ _ _ W h) (Or.inl ⟨by kernel_rfl, fun W hW => runU_id rfl rfl hW.h.cells.c0 hW.h.cells.c1⟩) S0 ?_
  rw [show Act.put _ wx9.dst _ = { tmps := #[.pointer (some ⟨r,0,none⟩),x1,x2,.pointer (some ⟨hb,0,none⟩),x4,x5,.int .i64 (k : Int),x7,x8,x9,ab,ad,ae,af,ah,ai,.pointer (some ⟨r,0,none⟩),.pointer (some ⟨r,0,none⟩),.pointer (some ⟨r,0,none⟩),.slice (some ⟨b,off,none⟩) n c,.int .i64 (k : Int),.pointer (some ⟨b,off + k * 13,none⟩),.pointer (some ⟨b,off + k * 13,none⟩),idv x.r x.n,.pointer (some ⟨hb,0,none⟩),idv cr cn,aD,aC,aB,aA,az,ay,ax,aw,av,au,aq,ap,am,ak,aj],defers := [] } from by kernel_rfl]
  refine wpAnyH_take (i := 10) (oi := wx10) (v := .bool true) (by kernel_rfl) wx_lit (by kernel_rfl) (by kernel_rfl) (fun c a W h => hP c _ _ _ W h) (Or.inl ⟨by kernel_rfl, fun W hW => runU_eqid rfl rfl rfl h1⟩) S0 ?_
  rw [show Act.put _ wx10.dst _ = { tmps := #[.pointer (some ⟨r,0,none⟩),x1,x2,.pointer (some ⟨hb,0,none⟩),x4,x5,.int .i64 (k : Int),x7,x8,x9,ab,ad,ae,af,ah,ai,.pointer (some ⟨r,0,none⟩),.pointer (some ⟨r,0,none⟩),.pointer (some ⟨r,0,none⟩),.slice (some ⟨b,off,none⟩) n c,.int .i64 (k : Int),.pointer (some ⟨b,off + k * 13,none⟩),.pointer (some ⟨b,off + k * 13,none⟩),idv x.r x.n,.pointer (some ⟨hb,0,none⟩),idv cr cn,.bool true,aC,aB,aA,az,ay,ax,aw,av,au,aq,ap,am,ak,aj],defers := [] } from by kernel_rfl]
  refine wpAnyH_take (i := 11) (oi := wx11) (v := .bool true) (by kernel_rfl) wx_lit (by kernel_rfl) (by kernel_rfl) (fun c a W h => hP c _ _ _ W h) (Or.inl ⟨by kernel_rfl, fun W hW => by kernel_rfl⟩) S0 ?_
  rw [show Act.put _ wx11.dst _ = { tmps := #[.pointer (some ⟨r,0,none⟩),x1,x2,.pointer (some ⟨hb,0,none⟩),x4,x5,.int .i64 (k : Int),x7,x8,x9,ab,ad,ae,af,ah,ai,.pointer (some ⟨r,0,none⟩),.pointer (some ⟨r,0,none⟩),.pointer (some ⟨r,0,none⟩),.slice (some ⟨b,off,none⟩) n c,.int .i64 (k : Int),.pointer (some ⟨b,off + k * 13,none⟩),.pointer (some ⟨b,off + k * 13,none⟩),idv x.r x.n,.pointer (some ⟨hb,0,none⟩),idv cr cn,.bool true,.bool true,aB,aA,az,ay,ax,aw,av,au,aq,ap,am,ak,aj],defers := [] } from by kernel_rfl]
  refine wpAnyH_take (i := 12) (oi := wx12) (v := .pointer (some ⟨r, 0, none⟩)) (by kernel_rfl) wx_lit (by kernel_rfl) (by kernel_rfl) (fun c a W h => hP c _ _ _ W h) (Or.inl ⟨by kernel_rfl, fun W hW => by kernel_rfl⟩) S0 ?_
  rw [show Act.put _ wx12.dst _ = { tmps := #[.pointer (some ⟨r,0,none⟩),x1,x2,.pointer (some ⟨hb,0,none⟩),x4,x5,.int .i64 (k : Int),x7,x8,x9,ab,ad,ae,af,ah,ai,.pointer (some ⟨r,0,none⟩),.pointer (some ⟨r,0,none⟩),.pointer (some ⟨r,0,none⟩),.slice (some ⟨b,off,none⟩) n c,.int .i64 (k : Int),.pointer (some ⟨b,off + k * 13,none⟩),.pointer (some ⟨b,off + k * 13,none⟩),idv x.r x.n,.pointer (some ⟨hb,0,none⟩),idv cr cn,.bool true,.bool true,.pointer (some ⟨r,0,none⟩),aA,az,ay,ax,aw,av,au,aq,ap,am,ak,aj],defers := [] } from by kernel_rfl]
  refine wpAnyH_take (i := 13) (oi := wx13) (v := .pointer (some ⟨r, 0, none⟩)) (by kernel_rfl) wx_lit (by kernel_rfl) (by kernel_rfl) (fun c a W h => hP c _ _ _ W h) (Or.inl ⟨by kernel_rfl, fun W hW => by kernel_rfl⟩) S0 ?_
  rw [show Act.put _ wx13.dst _ = { tmps := #[.pointer (some ⟨r,0,none⟩),x1,x2,.pointer (some ⟨hb,0,none⟩),x4,x5,.int .i64 (k : Int),x7,x8,x9,ab,ad,ae,af,ah,ai,.pointer (some ⟨r,0,none⟩),.pointer (some ⟨r,0,none⟩),.pointer (some ⟨r,0,none⟩),.slice (some ⟨b,off,none⟩) n c,.int .i64 (k : Int),.pointer (some ⟨b,off + k * 13,none⟩),.pointer (some ⟨b,off + k * 13,none⟩),idv x.r x.n,.pointer (some ⟨hb,0,none⟩),idv cr cn,.bool true,.bool true,.pointer (some ⟨r,0,none⟩),.pointer (some ⟨r,0,none⟩),az,ay,ax,aw,av,au,aq,ap,am,ak,aj],defers := [] } from by kernel_rfl]
  refine wpAnyH_take (i := 14) (oi := wx14) (v := .pointer (some ⟨r, 0, none⟩)) (by kernel_rfl) wx_lit (by kernel_rfl) (by kernel_rfl) (fun c a W h => hP c _ _ _ W h) (Or.inl ⟨by kernel_rfl, fun W hW => by kernel_rfl⟩) S0 ?_
  rw [show Act.put _ wx14.dst _ = { tmps := #[.pointer (some ⟨r,0,none⟩),x1,x2,.pointer (some ⟨hb,0,none⟩),x4,x5,.int .i64 (k : Int),x7,x8,x9,ab,ad,ae,af,ah,ai,.pointer (some ⟨r,0,none⟩),.pointer (some ⟨r,0,none⟩),.pointer (some ⟨r,0,none⟩),.slice (some ⟨b,off,none⟩) n c,.int .i64 (k : Int),.pointer (some ⟨b,off + k * 13,none⟩),.pointer (some ⟨b,off + k * 13,none⟩),idv x.r x.n,.pointer (some ⟨hb,0,none⟩),idv cr cn,.bool true,.bool true,.pointer (some ⟨r,0,none⟩),.pointer (some ⟨r,0,none⟩),.pointer (some ⟨r,0,none⟩),ay,ax,aw,av,au,aq,ap,am,ak,aj],defers := [] } from by kernel_rfl]
  refine wpAnyH_take (i := 15) (oi := wx15) (v := .slice (some ⟨b, off, none⟩) n c) (by kernel_rfl) wx_lit (by kernel_rfl) (by kernel_rfl) (fun c a W h => hP c _ _ _ W h) (Or.inl ⟨by kernel_rfl, fun W hW => runU_items rfl rfl hW.c.cell⟩) S0 ?_
  rw [show Act.put _ wx15.dst _ = { tmps := #[.pointer (some ⟨r,0,none⟩),x1,x2,.pointer (some ⟨hb,0,none⟩),x4,x5,.int .i64 (k : Int),x7,x8,x9,ab,ad,ae,af,ah,ai,.pointer (some ⟨r,0,none⟩),.pointer (some ⟨r,0,none⟩),.pointer (some ⟨r,0,none⟩),.slice (some ⟨b,off,none⟩) n c,.int .i64 (k : Int),.pointer (some ⟨b,off + k * 13,none⟩),.pointer (some ⟨b,off + k * 13,none⟩),idv x.r x.n,.pointer (some ⟨hb,0,none⟩),idv cr cn,.bool true,.bool true,.pointer (some ⟨r,0,none⟩),.pointer (some ⟨r,0,none⟩),.pointer (some ⟨r,0,none⟩),.slice (some ⟨b,off,none⟩) n c,ax,aw,av,au,aq,ap,am,ak,aj],defers := [] } from by kernel_rfl]
  refine wpAnyH_take (i := 16) (oi := wx16) (v := .int .i64 (k : Int)) (by kernel_rfl) wx_lit (by kernel_rfl) (by kernel_rfl) (fun c a W h => hP c _ _ _ W h) (Or.inl ⟨by kernel_rfl, fun W hW => by kernel_rfl⟩) S0 ?_
  rw [show Act.put _ wx16.dst _ = { tmps := #[.pointer (some ⟨r,0,none⟩),x1,x2,.pointer (some ⟨hb,0,none⟩),x4,x5,.int .i64 (k : Int),x7,x8,x9,ab,ad,ae,af,ah,ai,.pointer (some ⟨r,0,none⟩),.pointer (some ⟨r,0,none⟩),.pointer (some ⟨r,0,none⟩),.slice (some ⟨b,off,none⟩) n c,.int .i64 (k : Int),.pointer (some ⟨b,off + k * 13,none⟩),.pointer (some ⟨b,off + k * 13,none⟩),idv x.r x.n,.pointer (some ⟨hb,0,none⟩),idv cr cn,.bool true,.bool true,.pointer (some ⟨r,0,none⟩),.pointer (some ⟨r,0,none⟩),.pointer (some ⟨r,0,none⟩),.slice (some ⟨b,off,none⟩) n c,.int .i64 (k : Int),aw,av,au,aq,ap,am,ak,aj],defers := [] } from by kernel_rfl]
  refine wpAnyH_take (i := 17) (oi := wx17) (v := .pointer (some ⟨b, off + k * 13, none⟩)) (by kernel_rfl) wx_lit (by kernel_rfl) (by kernel_rfl) (fun c a W h => hP c _ _ _ W h) (Or.inl ⟨by kernel_rfl, fun W hW => runU_ixI rfl rfl rfl (by omega)⟩) S0 ?_
  rw [show Act.put _ wx17.dst _ = { tmps := #[.pointer (some ⟨r,0,none⟩),x1,x2,.pointer (some ⟨hb,0,none⟩),x4,x5,.int .i64 (k : Int),x7,x8,x9,ab,ad,ae,af,ah,ai,.pointer (some ⟨r,0,none⟩),.pointer (some ⟨r,0,none⟩),.pointer (some ⟨r,0,none⟩),.slice (some ⟨b,off,none⟩) n c,.int .i64 (k : Int),.pointer (some ⟨b,off + k * 13,none⟩),.pointer (some ⟨b,off + k * 13,none⟩),idv x.r x.n,.pointer (some ⟨hb,0,none⟩),idv cr cn,.bool true,.bool true,.pointer (some ⟨r,0,none⟩),.pointer (some ⟨r,0,none⟩),.pointer (some ⟨r,0,none⟩),.slice (some ⟨b,off,none⟩) n c,.int .i64 (k : Int),.pointer (some ⟨b,off + k * 13,none⟩),av,au,aq,ap,am,ak,aj],defers := [] } from by kernel_rfl]
  refine wpAnyH_take (i := 18) (oi := wx18) (v := .pointer (some ⟨b, off + k * 13 + 2, none⟩)) (by kernel_rfl) wx_lit (by kernel_rfl) (by kernel_rfl) (fun c a W h => hP c _ _ _ W h) (Or.inl ⟨by kernel_rfl, fun W hW => by kernel_rfl⟩) S0 ?_
  rw [show Act.put _ wx18.dst _ = { tmps := #[.pointer (some ⟨r,0,none⟩),x1,x2,.pointer (some ⟨hb,0,none⟩),x4,x5,.int .i64 (k : Int),x7,x8,x9,ab,ad,ae,af,ah,ai,.pointer (some ⟨r,0,none⟩),.pointer (some ⟨r,0,none⟩),.pointer (some ⟨r,0,none⟩),.slice (some ⟨b,off,none⟩) n c,.int .i64 (k : Int),.pointer (some ⟨b,off + k * 13,none⟩),.pointer (some ⟨b,off + k * 13,none⟩),idv x.r x.n,.pointer (some ⟨hb,0,none⟩),idv cr cn,.bool true,.bool true,.pointer (some ⟨r,0,none⟩),.pointer (some ⟨r,0,none⟩),.pointer (some ⟨r,0,none⟩),.slice (some ⟨b,off,none⟩) n c,.int .i64 (k : Int),.pointer (some ⟨b,off + k * 13,none⟩),.pointer (some ⟨b,off + k * 13 + 2,none⟩),au,aq,ap,am,ak,aj],defers := [] } from by kernel_rfl]
  refine wpAnyH_take (i := 19) (oi := wx19) (v := .int .i64 x.f) (by kernel_rfl) wx_lit (by kernel_rfl) (by kernel_rfl) (fun c a W h => hP c _ _ _ W h) (Or.inl ⟨by kernel_rfl, fun W hW => runU_int rfl rfl hW.x.c2⟩) S0 ?_
  rw [show Act.put _ wx19.dst _ = { tmps := #[.pointer (some ⟨r,0,none⟩),x1,x2,.pointer (some ⟨hb,0,none⟩),x4,x5,.int .i64 (k : Int),x7,x8,x9,ab,ad,ae,af,ah,ai,.pointer (some ⟨r,0,none⟩),.pointer (some ⟨r,0,none⟩),.pointer (some ⟨r,0,none⟩),.slice (some ⟨b,off,none⟩) n c,.int .i64 (k : Int),.pointer (some ⟨b,off + k * 13,none⟩),.pointer (some ⟨b,off + k * 13,none⟩),idv x.r x.n,.pointer (some ⟨hb,0,none⟩),idv cr cn,.bool true,.bool true,.pointer (some ⟨r,0,none⟩),.pointer (some ⟨r,0,none⟩),.pointer (some ⟨r,0,none⟩),.slice (some ⟨b,off,none⟩) n c,.int .i64 (k : Int),.pointer (some ⟨b,off + k * 13,none⟩),.pointer (some ⟨b,off + k * 13 + 2,none⟩),.int .i64 x.f,aq,ap,am,ak,aj],defers := [] } from by kernel_rfl]
  refine wpAnyH_take (i := 20) (oi := wx20) (v := .pointer (some ⟨hb, 2, none⟩)) (by kernel_rfl) wx_lit (by kernel_rfl) (by kernel_rfl) (fun c a W h => hP c _ _ _ W h) (Or.inl ⟨by kernel_rfl, fun W hW => by kernel_rfl⟩) S0 ?_
  rw [show Act.put _ wx20.dst _ = { tmps := #[.pointer (some ⟨r,0,none⟩),x1,x2,.pointer (some ⟨hb,0,none⟩),x4,x5,.int .i64 (k : Int),x7,x8,x9,ab,ad,ae,af,ah,ai,.pointer (some ⟨r,0,none⟩),.pointer (some ⟨r,0,none⟩),.pointer (some ⟨r,0,none⟩),.slice (some ⟨b,off,none⟩) n c,.int .i64 (k : Int),.pointer (some ⟨b,off + k * 13,none⟩),.pointer (some ⟨b,off + k * 13,none⟩),idv x.r x.n,.pointer (some ⟨hb,0,none⟩),idv cr cn,.bool true,.bool true,.pointer (some ⟨r,0,none⟩),.pointer (some ⟨r,0,none⟩),.pointer (some ⟨r,0,none⟩),.slice (some ⟨b,off,none⟩) n c,.int .i64 (k : Int),.pointer (some ⟨b,off + k * 13,none⟩),.pointer (some ⟨b,off + k * 13 + 2,none⟩),.int .i64 x.f,.pointer (some ⟨hb,2,none⟩),ap,am,ak,aj],defers := [] } from by kernel_rfl]
  refine wpAnyH_take (i := 21) (oi := wx21) (v := .int .i64 ci) (by kernel_rfl) wx_lit (by kernel_rfl) (by kernel_rfl) (fun c a W h => hP c _ _ _ W h) (Or.inl ⟨by kernel_rfl, fun W hW => runU_int rfl rfl hW.h.cells.c2⟩) S0 ?_
  rw [show Act.put _ wx21.dst _ = { tmps := #[.pointer (some ⟨r,0,none⟩),x1,x2,.pointer (some ⟨hb,0,none⟩),x4,x5,.int .i64 (k : Int),x7,x8,x9,ab,ad,ae,af,ah,ai,.pointer (some ⟨r,0,none⟩),.pointer (some ⟨r,0,none⟩),.pointer (some ⟨r,0,none⟩),.slice (some ⟨b,off,none⟩) n c,.int .i64 (k : Int),.pointer (some ⟨b,off + k * 13,none⟩),.pointer (some ⟨b,off + k * 13,none⟩),idv x.r x.n,.pointer (some ⟨hb,0,none⟩),idv cr cn,.bool true,.bool true,.pointer (some ⟨r,0,none⟩),.pointer (some ⟨r,0,none⟩),.pointer (some ⟨r,0,none⟩),.slice (some ⟨b,off,none⟩) n c,.int .i64 (k : Int),.pointer (some ⟨b,off + k * 13,none⟩),.pointer (some ⟨b,off + k * 13 + 2,none⟩),.int .i64 x.f,.pointer (some ⟨hb,2,none⟩),.int .i64 ci,am,ak,aj],defers := [] } from by kernel_rfl]
  refine wpAnyH_take (i := 22) (oi := wx22) (v := .bool z) (by kernel_rfl) wx_lit (by kernel_rfl) (by kernel_rfl) (fun c a W h => hP c _ _ _ W h) (Or.inl ⟨by kernel_rfl, fun W hW => runU_eq rfl rfl rfl h2⟩) S0 ?_
  rw [show Act.put _ wx22.dst _ = { tmps := #[.pointer (some ⟨r,0,none⟩),x1,x2,.pointer (some ⟨hb,0,none⟩),x4,x5,.int .i64 (k : Int),x7,x8,x9,ab,ad,ae,af,ah,ai,.pointer (some ⟨r,0,none⟩),.pointer (some ⟨r,0,none⟩),.pointer (some ⟨r,0,none⟩),.slice (some ⟨b,off,none⟩) n c,.int .i64 (k : Int),.pointer (some ⟨b,off + k * 13,none⟩),.pointer (some ⟨b,off + k * 13,none⟩),idv x.r x.n,.pointer (some ⟨hb,0,none⟩),idv cr cn,.bool true,.bool true,.pointer (some ⟨r,0,none⟩),.pointer (some ⟨r,0,none⟩),.pointer (some ⟨r,0,none⟩),.slice (some ⟨b,off,none⟩) n c,.int .i64 (k : Int),.pointer (some ⟨b,off + k * 13,none⟩),.pointer (some ⟨b,off + k * 13 + 2,none⟩),.int .i64 x.f,.pointer (some ⟨hb,2,none⟩),.int .i64 ci,.bool z,ak,aj],defers := [] } from by kernel_rfl]
  refine wpAnyH_take (i := 23) (oi := wx23) (v := .bool z) (by kernel_rfl) wx_lit (by kernel_rfl) (by kernel_rfl) (fun c a W h => hP c _ _ _ W h) (Or.inl ⟨by kernel_rfl, fun W hW => by kernel_rfl⟩) S0 ?_
  rw [show Act.put _ wx23.dst _ = { tmps := #[.pointer (some ⟨r,0,none⟩),x1,x2,.pointer (some ⟨hb,0,none⟩),x4,x5,.int .i64 (k : Int),x7,x8,x9,ab,ad,ae,af,ah,ai,.pointer (some ⟨r,0,none⟩),.pointer (some ⟨r,0,none⟩),.pointer (some ⟨r,0,none⟩),.slice (some ⟨b,off,none⟩) n c,.int .i64 (k : Int),.pointer (some ⟨b,off + k * 13,none⟩),.pointer (some ⟨b,off + k * 13,none⟩),idv x.r x.n,.pointer (some ⟨hb,0,none⟩),idv cr cn,.bool true,.bool true,.pointer (some ⟨r,0,none⟩),.pointer (some ⟨r,0,none⟩),.pointer (some ⟨r,0,none⟩),.slice (some ⟨b,off,none⟩) n c,.int .i64 (k : Int),.pointer (some ⟨b,off + k * 13,none⟩),.pointer (some ⟨b,off + k * 13 + 2,none⟩),.int .i64 x.f,.pointer (some ⟨hb,2,none⟩),.int .i64 ci,.bool z,.bool z,aj],defers := [] } from by kernel_rfl]
  exact wpAnyH_done (by kernel_rfl) (hQ _ BW0) _

/-- A place as Find tells it. -/
def posX (z : Int) : Int := if z < 0 then 0 else z
theorem xf_ways {cr cn ci : Int} {x : Un} {X : Prop} (h0 : sameI x.r x.n cr cn = false → isC cr cn ci x = false → X) (h1 : sameI x.r x.n cr cn = true → decide (x.f = ci) = false → isC cr cn ci x = false → X) (h2 : sameI x.r x.n cr cn = true → decide (x.f = ci) = true → isC cr cn ci x = true → X) : X := by
  unfold isC at h0 h1 h2
  cases e1 : sameI x.r x.n cr cn
  · exact h0 e1 (by rw [e1]; rfl)
  · cases e2 : decide (x.f = ci)
    · exact h1 e1 e2 (by rw [e1, e2]; rfl)
    · exact h2 e1 e2 (by rw [e1, e2]; rfl)
set_option maxHeartbeats 4000000 in
theorem xfind_any (N r : Nat) (v : Value) (xs : List Un) (cr cn ci : Int) (w : World) (h : Xl N w r v xs) (hn : xs.length ≤ 1000000) :
    Calls Try.prog 16 #[.pointer (some ⟨r, 0, none⟩), chu cr cn ci] w fun e w' => e = .returned (.tuple #[.int .i64 (posX (idxU (isC cr cn ci) xs)), .bool (decide (0 ≤ idxU (isC cr cn ci) xs))]) ∧ Below w.heap.size w w' := by
  obtain ⟨a, c, rfl, hc0, hc1⟩ := h.u.us.form
  obtain ⟨n, hln⟩ : ∃ n, xs.length = n := ⟨_, rfl⟩
  have HN := hid hln
  have HX := hid h
  rw [hln] at hn hc0 HX
  clear h hln
  go_enter Try.func16, Try.ntmps16
  go_wp2_with (first
    | (refine wl_boxH (r := cr) (n := cn) (i := ci) rfl rfl rfl ?_; intro W2 b2 e2 hnb hb2; have HQ := hid hnb; have HB2 := hid hb2; clear e2 hnb hb2)
    | fail)
  go_loopw [6] (fun i wr => ∃ k : Nat, k ≤ n ∧ i = .int .i64 (k : Int) ∧ (∀ y ∈ xs.take k, isC cr cn ci y = false) ∧ Below W2.heap.size W2 wr) (fun i _ => n - (intOf i).toNat)
  case atStart => exact ⟨0, Nat.zero_le _, rfl, fun y hy => by simp at hy, Below.refl _ _⟩
  case round =>
    obtain ⟨k, hk, rfl, hno, hb⟩ := hrel
    have HNO := hid hno
    have HB := hid (bt HB2.out hb)
    have HBX := hid hb
    have HQR := hid (HQ.out.below hb)
    have HXR := hid (HX.out.below HB.out)
    have c0 := HXR.out.b.cell
    clear hno hb
    by_cases hlt : k < n
    · have hlt' : (k : Int) < (n : Int) := by omega
      have hx : k < xs.length := by rw [HN.out]; exact hlt
      obtain ⟨b, off, c', e1, _, _, hbl, hcc⟩ := HXR.out.u.us.inv (by rw [HN.out]; omega)
      rw [HN.out] at e1
      simp only [Value.slice.injEq] at e1
      obtain ⟨rfl, -, rfl⟩ := e1
      obtain ⟨x, hxx⟩ : ∃ x, xs[k] = x := ⟨_, rfl⟩
      have hC := hcc k hx
      rw [hxx] at hC
      have HR := hid (show Rxf wr r b2 b off k n c cr cn ci x from ⟨HXR.out.b, hC, HQR.out⟩)
      have HXX : Hid (∃ h : k < xs.length, xs[k] = x) := hid ⟨hx, hxx⟩
      clear hcc hC hxx hx hbl
      go_upto_region 4 with fail
      clear c0
      refine xf_ways (cr := cr) (cn := cn) (ci := ci) (x := x) (fun h1 hh => xf_reg0 HR.out hlt h1 (fun _ _ _ _ _ h => h) ?_) (fun h1 h2 hh => xf_reg1 HR.out hlt h1 h2 (fun _ _ _ _ _ h => h) ?_) (fun h1 h2 hh => xf_reg1 HR.out hlt h1 h2 (fun _ _ _ _ _ h => h) ?_)
      · have HH := hid hh
        clear h1 hh
        intro W3 hb3
        have HB3 := hid (bt (Below.refl _ _) hb3)
        have HBR := hid (bt HB.out hb3)
        clear hb3
        go_wp2_with fail
        go_roundw
        case rel => exact ⟨k + 1, hlt, by go_num, fun y hy => by
          obtain ⟨hx, hxx⟩ := HXX.out
          rw [List.take_succ_eq_append_getElem hx, hxx] at hy
          rcases List.mem_append.1 hy with hy | hy
          · exact HNO.out y hy
          · rw [List.mem_singleton.1 hy]; exact HH.out, bt HBX.out HB3.out⟩
        case measure => simp [intOf]; omega
      · have HH := hid hh
        clear h1 h2 hh
        intro W3 hb3
        have HB3 := hid (bt (Below.refl _ _) hb3)
        have HBR := hid (bt HB.out hb3)
        clear hb3
        go_wp2_with fail
        go_roundw
        case rel => exact ⟨k + 1, hlt, by go_num, fun y hy => by
          obtain ⟨hx, hxx⟩ := HXX.out
          rw [List.take_succ_eq_append_getElem hx, hxx] at hy
          rcases List.mem_append.1 hy with hy | hy
          · exact HNO.out y hy
          · rw [List.mem_singleton.1 hy]; exact HH.out, bt HBX.out HB3.out⟩
        case measure => simp [intOf]; omega
      · have HIX : Hid (idxU (isC cr cn ci) xs = (k : Int)) := hid (by
          obtain ⟨hx, hxx⟩ := HXX.out
          exact idxU_at hx HNO.out (by rw [hxx]; exact hh))
        clear h1 h2 hh
        intro W3 hb3
        have HB3 := hid (bt HB.out hb3)
        clear hb3
        go_wp2_with fail
        go_ret2
        rw [HIX.out]
        rw [show posX (k : Int) = k by unfold posX; rw [if_neg (by omega)], decide_eq_true (by omega : (0 : Int) ≤ (k : Int))]
        exact ⟨rfl, HB3.out⟩
    · obtain rfl : k = n := by omega
      have hnl : ¬ (k : Int) < (k : Int) := by omega
      have HIX : Hid (idxU (isC cr cn ci) xs = -1) := hid (idxU_none (fun y hy => HNO.out y (by rw [List.take_of_length_le (by rw [HN.out]; exact Nat.le_refl _)]; exact hy)))
      go_wp2
      go_ret2
      rw [HIX.out]
      exact ⟨rfl, HB.out⟩

end Go.Proofs.Ytkaphlpohhaacaa
