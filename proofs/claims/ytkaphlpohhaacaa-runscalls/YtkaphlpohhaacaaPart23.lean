/-
  Parts of the proof, one behind the other; what each proves stands at its head.
-/
import Derived.Test.YtkaphlpohhaacaaPart22
import Derived.StillTailTactics
import Derived.Test.YtkaphlpohhaacaaPart19

/-
  What the reference's Runs answers of a row is proved here: the fewest runs ('J'). Printed by genuxruns.py.
-/
namespace Go.Proofs.Ytkaphlpohhaacaa
open Go.RowKit
set_option linter.unusedVariables false
set_option linter.unusedSimpArgs false
set_option maxRecDepth 100000

structure Rxr (W : World) (p b off k : Nat) (l : List Value) (y x : Un) : Prop where
  r : Ri W b l
  y : Uc W b (off + k * 13) y
  x : Ub 36 W p x
theorem Rxr.below {W W' : World} {p b off k : Nat} {l : List Value} {y x : Un} (h : Rxr W p b off k l y x) (hb : Below W.heap.size W W') : Rxr W' p b off k l y x := ⟨h.r.below hb, h.y.below hb, h.x.below hb⟩

def wy0 : Oper := { dst := some 75, op := Op.move (Operand.tmp 3), type := 32, pos := "ref.go:67", after := #[], guard := none }
def wy1 : Oper := { dst := some 76, op := Op.move (Operand.tmp 3), type := 32, pos := "ref.go:67", after := #[], guard := none }
def wy2 : Oper := { dst := some 77, op := Op.call { callee := Callee.builtin Builtin.len, args := #[Operand.tmp 76], argTypes := #[32] }, type := 3, pos := "ref.go:67", after := #[{ on := 1, ground := Ground.data }], guard := none }
def wy3 : Oper := { dst := some 78, op := Op.binOp BinOp.sub 3 (Operand.tmp 77) (Operand.const (Value.int IntKind.i64 1)) 3, type := 3, pos := "ref.go:67", after := #[{ on := 2, ground := Ground.data }], guard := none }
def wy4 : Oper := { dst := some 79, op := Op.indexAddr 32 (Operand.tmp 75) (Operand.tmp 78), type := 0, pos := "ref.go:67", after := #[{ on := 0, ground := Ground.data }, { on := 3, ground := Ground.data }], guard := none }
def wy5 : Oper := { dst := some 80, op := Op.fieldAddr 36 (Operand.tmp 79) 7, type := 0, pos := "ref.go:67", after := #[{ on := 4, ground := Ground.data }], guard := none }
def wy6 : Oper := { dst := some 81, op := Op.load 9 (Operand.tmp 80), type := 9, pos := "ref.go:67", after := #[{ on := 5, ground := Ground.data }], guard := none }
def wy7 : Oper := { dst := some 82, op := Op.fieldAddr 36 (Operand.tmp 5) 7, type := 0, pos := "ref.go:67", after := #[], guard := none }
def wy8 : Oper := { dst := some 83, op := Op.load 9 (Operand.tmp 82), type := 9, pos := "ref.go:67", after := #[{ on := 7, ground := Ground.data }], guard := none }
def wy9 : Oper := { dst := some 84, op := Op.binOp BinOp.add 9 (Operand.tmp 81) (Operand.tmp 83) 9, type := 9, pos := "ref.go:67", after := #[{ on := 6, ground := Ground.data }, { on := 8, ground := Ground.data }], guard := none }
def wy10 : Oper := { dst := some 85,op := Op.indexAddr 32 (Operand.tmp 75) (Operand.tmp 78),type := 0,pos := "ref.go:67",after := #[{ on := 0,ground := Ground.data },{ on := 3,ground := Ground.data },{ on := 0,ground := Ground.phase },{ on := 1,ground := Ground.phase },{ on := 2,ground := Ground.phase },{ on := 3,ground := Ground.phase },{ on := 4,ground := Ground.phase },{ on := 5,ground := Ground.phase },{ on := 6,ground := Ground.phase },{ on := 7,ground := Ground.phase },{ on := 8,ground := Ground.phase },{ on := 9,ground := Ground.phase }],guard := none }
def wy11 : Oper := { dst := some 86,op := Op.fieldAddr 36 (Operand.tmp 85) 7,type := 0,pos := "ref.go:67",after := #[{ on := 10,ground := Ground.data },{ on := 0,ground := Ground.phase },{ on := 1,ground := Ground.phase },{ on := 2,ground := Ground.phase },{ on := 3,ground := Ground.phase },{ on := 4,ground := Ground.phase },{ on := 5,ground := Ground.phase },{ on := 6,ground := Ground.phase },{ on := 7,ground := Ground.phase },{ on := 8,ground := Ground.phase },{ on := 9,ground := Ground.phase }],guard := none }
def wy12 : Oper := { dst := none,op := Op.store 9 (Operand.tmp 86) (Operand.tmp 84),type := 0,pos := "ref.go:67",after := #[{ on := 11,ground := Ground.data },{ on := 9,ground := Ground.data },{ on := 0,ground := Ground.phase },{ on := 1,ground := Ground.phase },{ on := 2,ground := Ground.phase },{ on := 3,ground := Ground.phase },{ on := 4,ground := Ground.phase },{ on := 5,ground := Ground.phase },{ on := 6,ground := Ground.phase },{ on := 7,ground := Ground.phase },{ on := 8,ground := Ground.phase },{ on := 9,ground := Ground.phase }],guard := none }
def wys : Array Oper := #[wy0, wy1, wy2, wy3, wy4, wy5, wy6, wy7, wy8, wy9, wy10, wy11, wy12]
set_option maxHeartbeats 4000000 in
theorem xr_r10 {p b off n c k : Nat} {l : List Value} {y x : Un} {w : World} (h : Rxr w p b off k l y x) (hn : n = k + 1) (hk2 : k ≤ 100000) (hl : off + k * 13 + 12 < l.length) (hs : y.t.size + x.t.size ≤ 1000000) {x0 x1 x2 x4 x6 x7 x8 x9 ab ad ae af ah ai aj ak am ap aq au av aw ax ay az aA aB aC aD aE aF aG aH aI aJ aK aL aM aN aO aP aQ aR aS aT aU aV aW aX aY aZ bf bg bh bi bj bk bl bm bn bp bq br bu bv bw bx bz bA bB bC bD bE x75 x76 x77 x78 x79 x80 x81 x82 x83 x84 x85 x86 bF bG bH bI bJ : Value} {Q : Exit → Act → World → Prop} (hQ : ∀ W,Ri W b (l.set (off + k * 13 + 12) (.string (y.t ++ x.t))) → Fr (fun j => j = b) w W → Q .normal { tmps := #[x0,x1,x2,.slice (some ⟨b,off,none⟩) n c,x4,.pointer (some ⟨p,0,none⟩),x6,x7,x8,x9,ab,ad,ae,af,ah,ai,aj,ak,am,ap,aq,au,av,aw,ax,ay,az,aA,aB,aC,aD,aE,aF,aG,aH,aI,aJ,aK,aL,aM,aN,aO,aP,aQ,aR,aS,aT,aU,aV,aW,aX,aY,aZ,bf,bg,bh,bi,bj,bk,bl,bm,bn,bp,bq,br,bu,bv,bw,bx,bz,bA,bB,bC,bD,bE,.slice (some ⟨b,off,none⟩) n c,.slice (some ⟨b,off,none⟩) n c,.int .i64 (n : Int),.int .i64 (k : Int),.pointer (some ⟨b,off + k * 13,none⟩),.pointer (some ⟨b,off + k * 13 + 12,none⟩),.string y.t,.pointer (some ⟨p,12,none⟩),.string x.t,.string (y.t ++ x.t),.pointer (some ⟨b,off + k * 13,none⟩),.pointer (some ⟨b,off + k * 13 + 12,none⟩),bF,bG,bH,bI,bJ],defers := [] } W) : (Code.region 10 wys true).wp Try.prog Q { tmps := #[x0,x1,x2,.slice (some ⟨b,off,none⟩) n c,x4,.pointer (some ⟨p,0,none⟩),x6,x7,x8,x9,ab,ad,ae,af,ah,ai,aj,ak,am,ap,aq,au,av,aw,ax,ay,az,aA,aB,aC,aD,aE,aF,aG,aH,aI,aJ,aK,aL,aM,aN,aO,aP,aQ,aR,aS,aT,aU,aV,aW,aX,aY,aZ,bf,bg,bh,bi,bj,bk,bl,bm,bn,bp,bq,br,bu,bv,bw,bx,bz,bA,bB,bC,bD,bE,x75,x76,x77,x78,x79,x80,x81,x82,x83,x84,x85,x86,bF,bG,bH,bI,bJ],defers := [] } w := by
  refine wp_region_still_tail (l := [wy0, wy1, wy2, wy3, wy4, wy5, wy6, wy7, wy8, wy9, wy10, wy11, wy12]) 12 (by kernel_rfl) (by kernel_rfl) ?_
  change wpStill _ _ (World.drew w) (fun a' => wpList _ _ Q [wy12] a' (World.drew w)) [wy0, wy1, wy2, wy3, wy4, wy5, wy6, wy7, wy8, wy9, wy10, wy11] _
  obtain ⟨W0, hW⟩ : ∃ W, World.drew w = W := ⟨_, rfl⟩
  rw [hW]
  have BW0 : Below w.heap.size w W0 := by rw [← hW]; exact (Below.refl _ _).drew
  have S0 := h.below BW0
  clear hW
  refine st_val (.slice (some ⟨b,off,none⟩) n c) { tmps := #[x0,x1,x2,.slice (some ⟨b,off,none⟩) n c,x4,.pointer (some ⟨p,0,none⟩),x6,x7,x8,x9,ab,ad,ae,af,ah,ai,aj,ak,am,ap,aq,au,av,aw,ax,ay,az,aA,aB,aC,aD,aE,aF,aG,aH,aI,aJ,aK,aL,aM,aN,aO,aP,aQ,aR,aS,aT,aU,aV,aW,aX,aY,aZ,bf,bg,bh,bi,bj,bk,bl,bm,bn,bp,bq,br,bu,bv,bw,bx,bz,bA,bB,bC,bD,bE,.slice (some ⟨b,off,none⟩) n c,x76,x77,x78,x79,x80,x81,x82,x83,x84,x85,x86,bF,bG,bH,bI,bJ],defers := [] } (by kernel_rfl) (by kernel_rfl) (by kernel_rfl) ?_
  refine st_val (.slice (some ⟨b,off,none⟩) n c) { tmps := #[x0,x1,x2,.slice (some ⟨b,off,none⟩) n c,x4,.pointer (some ⟨p,0,none⟩),x6,x7,x8,x9,ab,ad,ae,af,ah,ai,aj,ak,am,ap,aq,au,av,aw,ax,ay,az,aA,aB,aC,aD,aE,aF,aG,aH,aI,aJ,aK,aL,aM,aN,aO,aP,aQ,aR,aS,aT,aU,aV,aW,aX,aY,aZ,bf,bg,bh,bi,bj,bk,bl,bm,bn,bp,bq,br,bu,bv,bw,bx,bz,bA,bB,bC,bD,bE,.slice (some ⟨b,off,none⟩) n c,.slice (some ⟨b,off,none⟩) n c,x77,x78,x79,x80,x81,x82,x83,x84,x85,x86,bF,bG,bH,bI,bJ],defers := [] } (by kernel_rfl) (by kernel_rfl) (by kernel_rfl) ?_
  refine st_val (.int .i64 (n : Int)) { tmps := #[x0,x1,x2,.slice (some ⟨b,off,none⟩) n c,x4,.pointer (some ⟨p,0,none⟩),x6,x7,x8,x9,ab,ad,ae,af,ah,ai,aj,ak,am,ap,aq,au,av,aw,ax,ay,az,aA,aB,aC,aD,aE,aF,aG,aH,aI,aJ,aK,aL,aM,aN,aO,aP,aQ,aR,aS,aT,aU,aV,aW,aX,aY,aZ,bf,bg,bh,bi,bj,bk,bl,bm,bn,bp,bq,br,bu,bv,bw,bx,bz,bA,bB,bC,bD,bE,.slice (some ⟨b,off,none⟩) n c,.slice (some ⟨b,off,none⟩) n c,.int .i64 (n : Int),x78,x79,x80,x81,x82,x83,x84,x85,x86,bF,bG,bH,bI,bJ],defers := [] } (by kernel_rfl) (runU_lenI rfl rfl) (by kernel_rfl) ?_
  refine st_val (.int .i64 (k : Int)) { tmps := #[x0,x1,x2,.slice (some ⟨b,off,none⟩) n c,x4,.pointer (some ⟨p,0,none⟩),x6,x7,x8,x9,ab,ad,ae,af,ah,ai,aj,ak,am,ap,aq,au,av,aw,ax,ay,az,aA,aB,aC,aD,aE,aF,aG,aH,aI,aJ,aK,aL,aM,aN,aO,aP,aQ,aR,aS,aT,aU,aV,aW,aX,aY,aZ,bf,bg,bh,bi,bj,bk,bl,bm,bn,bp,bq,br,bu,bv,bw,bx,bz,bA,bB,bC,bD,bE,.slice (some ⟨b,off,none⟩) n c,.slice (some ⟨b,off,none⟩) n c,.int .i64 (n : Int),.int .i64 (k : Int),x79,x80,x81,x82,x83,x84,x85,x86,bF,bG,bH,bI,bJ],defers := [] } (by kernel_rfl) (runU_subq rfl rfl rfl (by omega) (by omega)) (by kernel_rfl) ?_
  refine st_val (.pointer (some ⟨b,off + k * 13,none⟩)) { tmps := #[x0,x1,x2,.slice (some ⟨b,off,none⟩) n c,x4,.pointer (some ⟨p,0,none⟩),x6,x7,x8,x9,ab,ad,ae,af,ah,ai,aj,ak,am,ap,aq,au,av,aw,ax,ay,az,aA,aB,aC,aD,aE,aF,aG,aH,aI,aJ,aK,aL,aM,aN,aO,aP,aQ,aR,aS,aT,aU,aV,aW,aX,aY,aZ,bf,bg,bh,bi,bj,bk,bl,bm,bn,bp,bq,br,bu,bv,bw,bx,bz,bA,bB,bC,bD,bE,.slice (some ⟨b,off,none⟩) n c,.slice (some ⟨b,off,none⟩) n c,.int .i64 (n : Int),.int .i64 (k : Int),.pointer (some ⟨b,off + k * 13,none⟩),x80,x81,x82,x83,x84,x85,x86,bF,bG,bH,bI,bJ],defers := [] } (by kernel_rfl) (runU_ixI rfl rfl rfl (by omega)) (by kernel_rfl) ?_
  refine st_val (.pointer (some ⟨b,off + k * 13 + 12,none⟩)) { tmps := #[x0,x1,x2,.slice (some ⟨b,off,none⟩) n c,x4,.pointer (some ⟨p,0,none⟩),x6,x7,x8,x9,ab,ad,ae,af,ah,ai,aj,ak,am,ap,aq,au,av,aw,ax,ay,az,aA,aB,aC,aD,aE,aF,aG,aH,aI,aJ,aK,aL,aM,aN,aO,aP,aQ,aR,aS,aT,aU,aV,aW,aX,aY,aZ,bf,bg,bh,bi,bj,bk,bl,bm,bn,bp,bq,br,bu,bv,bw,bx,bz,bA,bB,bC,bD,bE,.slice (some ⟨b,off,none⟩) n c,.slice (some ⟨b,off,none⟩) n c,.int .i64 (n : Int),.int .i64 (k : Int),.pointer (some ⟨b,off + k * 13,none⟩),.pointer (some ⟨b,off + k * 13 + 12,none⟩),x81,x82,x83,x84,x85,x86,bF,bG,bH,bI,bJ],defers := [] } (by kernel_rfl) (by kernel_rfl) (by kernel_rfl) ?_
  refine st_val (.string y.t) { tmps := #[x0,x1,x2,.slice (some ⟨b,off,none⟩) n c,x4,.pointer (some ⟨p,0,none⟩),x6,x7,x8,x9,ab,ad,ae,af,ah,ai,aj,ak,am,ap,aq,au,av,aw,ax,ay,az,aA,aB,aC,aD,aE,aF,aG,aH,aI,aJ,aK,aL,aM,aN,aO,aP,aQ,aR,aS,aT,aU,aV,aW,aX,aY,aZ,bf,bg,bh,bi,bj,bk,bl,bm,bn,bp,bq,br,bu,bv,bw,bx,bz,bA,bB,bC,bD,bE,.slice (some ⟨b,off,none⟩) n c,.slice (some ⟨b,off,none⟩) n c,.int .i64 (n : Int),.int .i64 (k : Int),.pointer (some ⟨b,off + k * 13,none⟩),.pointer (some ⟨b,off + k * 13 + 12,none⟩),.string y.t,x82,x83,x84,x85,x86,bF,bG,bH,bI,bJ],defers := [] } (by kernel_rfl) (runU_str rfl rfl S0.y.c12) (by kernel_rfl) ?_
  refine st_val (.pointer (some ⟨p,12,none⟩)) { tmps := #[x0,x1,x2,.slice (some ⟨b,off,none⟩) n c,x4,.pointer (some ⟨p,0,none⟩),x6,x7,x8,x9,ab,ad,ae,af,ah,ai,aj,ak,am,ap,aq,au,av,aw,ax,ay,az,aA,aB,aC,aD,aE,aF,aG,aH,aI,aJ,aK,aL,aM,aN,aO,aP,aQ,aR,aS,aT,aU,aV,aW,aX,aY,aZ,bf,bg,bh,bi,bj,bk,bl,bm,bn,bp,bq,br,bu,bv,bw,bx,bz,bA,bB,bC,bD,bE,.slice (some ⟨b,off,none⟩) n c,.slice (some ⟨b,off,none⟩) n c,.int .i64 (n : Int),.int .i64 (k : Int),.pointer (some ⟨b,off + k * 13,none⟩),.pointer (some ⟨b,off + k * 13 + 12,none⟩),.string y.t,.pointer (some ⟨p,12,none⟩),x83,x84,x85,x86,bF,bG,bH,bI,bJ],defers := [] } (by kernel_rfl) (by kernel_rfl) (by kernel_rfl) ?_
  refine st_val (.string x.t) { tmps := #[x0,x1,x2,.slice (some ⟨b,off,none⟩) n c,x4,.pointer (some ⟨p,0,none⟩),x6,x7,x8,x9,ab,ad,ae,af,ah,ai,aj,ak,am,ap,aq,au,av,aw,ax,ay,az,aA,aB,aC,aD,aE,aF,aG,aH,aI,aJ,aK,aL,aM,aN,aO,aP,aQ,aR,aS,aT,aU,aV,aW,aX,aY,aZ,bf,bg,bh,bi,bj,bk,bl,bm,bn,bp,bq,br,bu,bv,bw,bx,bz,bA,bB,bC,bD,bE,.slice (some ⟨b,off,none⟩) n c,.slice (some ⟨b,off,none⟩) n c,.int .i64 (n : Int),.int .i64 (k : Int),.pointer (some ⟨b,off + k * 13,none⟩),.pointer (some ⟨b,off + k * 13 + 12,none⟩),.string y.t,.pointer (some ⟨p,12,none⟩),.string x.t,x84,x85,x86,bF,bG,bH,bI,bJ],defers := [] } (by kernel_rfl) (runU_str rfl rfl S0.x.cells.c12) (by kernel_rfl) ?_
  refine st_val (.string (y.t ++ x.t)) { tmps := #[x0,x1,x2,.slice (some ⟨b,off,none⟩) n c,x4,.pointer (some ⟨p,0,none⟩),x6,x7,x8,x9,ab,ad,ae,af,ah,ai,aj,ak,am,ap,aq,au,av,aw,ax,ay,az,aA,aB,aC,aD,aE,aF,aG,aH,aI,aJ,aK,aL,aM,aN,aO,aP,aQ,aR,aS,aT,aU,aV,aW,aX,aY,aZ,bf,bg,bh,bi,bj,bk,bl,bm,bn,bp,bq,br,bu,bv,bw,bx,bz,bA,bB,bC,bD,bE,.slice (some ⟨b,off,none⟩) n c,.slice (some ⟨b,off,none⟩) n c,.int .i64 (n : Int),.int .i64 (k : Int),.pointer (some ⟨b,off + k * 13,none⟩),.pointer (some ⟨b,off + k * 13 + 12,none⟩),.string y.t,.pointer (some ⟨p,12,none⟩),.string x.t,.string (y.t ++ x.t),x85,x86,bF,bG,bH,bI,bJ],defers := [] } (by kernel_rfl) (runU_cat rfl rfl rfl hs) (by kernel_rfl) ?_
  refine st_val (.pointer (some ⟨b,off + k * 13,none⟩)) { tmps := #[x0,x1,x2,.slice (some ⟨b,off,none⟩) n c,x4,.pointer (some ⟨p,0,none⟩),x6,x7,x8,x9,ab,ad,ae,af,ah,ai,aj,ak,am,ap,aq,au,av,aw,ax,ay,az,aA,aB,aC,aD,aE,aF,aG,aH,aI,aJ,aK,aL,aM,aN,aO,aP,aQ,aR,aS,aT,aU,aV,aW,aX,aY,aZ,bf,bg,bh,bi,bj,bk,bl,bm,bn,bp,bq,br,bu,bv,bw,bx,bz,bA,bB,bC,bD,bE,.slice (some ⟨b,off,none⟩) n c,.slice (some ⟨b,off,none⟩) n c,.int .i64 (n : Int),.int .i64 (k : Int),.pointer (some ⟨b,off + k * 13,none⟩),.pointer (some ⟨b,off + k * 13 + 12,none⟩),.string y.t,.pointer (some ⟨p,12,none⟩),.string x.t,.string (y.t ++ x.t),.pointer (some ⟨b,off + k * 13,none⟩),x86,bF,bG,bH,bI,bJ],defers := [] } (by kernel_rfl) (runU_ixI rfl rfl rfl (by omega)) (by kernel_rfl) ?_
  refine st_val (.pointer (some ⟨b,off + k * 13 + 12,none⟩)) { tmps := #[x0,x1,x2,.slice (some ⟨b,off,none⟩) n c,x4,.pointer (some ⟨p,0,none⟩),x6,x7,x8,x9,ab,ad,ae,af,ah,ai,aj,ak,am,ap,aq,au,av,aw,ax,ay,az,aA,aB,aC,aD,aE,aF,aG,aH,aI,aJ,aK,aL,aM,aN,aO,aP,aQ,aR,aS,aT,aU,aV,aW,aX,aY,aZ,bf,bg,bh,bi,bj,bk,bl,bm,bn,bp,bq,br,bu,bv,bw,bx,bz,bA,bB,bC,bD,bE,.slice (some ⟨b,off,none⟩) n c,.slice (some ⟨b,off,none⟩) n c,.int .i64 (n : Int),.int .i64 (k : Int),.pointer (some ⟨b,off + k * 13,none⟩),.pointer (some ⟨b,off + k * 13 + 12,none⟩),.string y.t,.pointer (some ⟨p,12,none⟩),.string x.t,.string (y.t ++ x.t),.pointer (some ⟨b,off + k * 13,none⟩),.pointer (some ⟨b,off + k * 13 + 12,none⟩),bF,bG,bH,bI,bJ],defers := [] } (by kernel_rfl) (by kernel_rfl) (by kernel_rfl) ?_
  refine wpStill_nil ?_
  refine wl_nil' (W0.setCell ⟨b, off + k * 13 + 12, none⟩ (.string (y.t ++ x.t))) (by kernel_rfl) (runS_str rfl rfl rfl S0.r (by simpa using hl)) ?_
  exact hQ _ (S0.r.cellset _) ((Fr.of_below BW0 : Fr (fun j => j = b) w W0).trans' (Fr.of_set W0 b _ _))

section
variable {ops : Array Oper} {o : Oper} {rest : List Oper} {a : Act} {W : World} {Q : Exit → Act → World → Prop}
theorem run_nilJ (w : World) : (Instr.buildSlice 32 0 #[]).run Try.prog w = .ok (.slice (some ⟨w.heap.size, 0, none⟩) 0 0) (w.alloc (.cells #[] 36)) := by kernel_rfl
theorem wl_nilJ (hgd : o.guard = none) (ho : o.op = .buildSlice 32 0 #[]) (hk : ∀ W' v, Ur 36 W.heap.size W' v [] → Below W.heap.size W W' → wpList Try.prog ops Q rest (a.put o.dst v) W') : wpList Try.prog ops Q (o :: rest) a W := by
  have hr : (execOp a.eval o).run Try.prog W = .ok (.value (.slice (some ⟨W.heap.size, 0, none⟩) 0 0)) (W.alloc (.cells #[] 36)) := by
    unfold execOp
    simp only [ho, Array.map_empty, Sem.run_bind, run_nilJ, Result.andThen_ok, Sem.run_pure]
  refine wl_val' _ _ ?_ hr (hk _ _ (Ur.made (Nat.le_refl _) 0 (by unfold maxLen; omega) #[] rfl) (ba W _))
  unfold Region.wanted
  rw [hgd]
end
theorem j_ways (y x : Un) {X : Prop}
    (h0 : ¬ y.r = x.r → joinsB y x = false → X)
    (h1 : y.r = x.r → ¬ y.n = x.n → joinsB y x = false → X)
    (h2 : y.r = x.r → y.n = x.n → (y.f + y.l == x.f) = false → joinsB y x = false → X)
    (h3 : y.r = x.r → y.n = x.n → (y.f + y.l == x.f) = true → ∀ a, y.g = a → x.g = !a → joinsB y x = false → X)
    (h4 : y.r = x.r → y.n = x.n → (y.f + y.l == x.f) = true → ∀ a, y.g = a → x.g = a → y.m = true → joinsB y x = false → X)
    (h5 : y.r = x.r → y.n = x.n → (y.f + y.l == x.f) = true → ∀ a, y.g = a → x.g = a → y.m = false → x.m = true → joinsB y x = false → X)
    (h6 : y.r = x.r → y.n = x.n → (y.f + y.l == x.f) = true → ∀ a, y.g = a → x.g = a → y.m = false → x.m = false → joinsB y x = true → X) : X := by
  unfold joinsB sameI at h0 h1 h2 h3 h4 h5 h6
  by_cases e0 : y.r = x.r
  · by_cases e1 : y.n = x.n
    · cases e2 : (y.f + y.l == x.f)
      · have e2' : ¬ y.f + y.l = x.f := by simpa using e2
        exact h2 e0 e1 e2 (by simp [e2'])
      · have e2' : y.f + y.l = x.f := by simpa using e2
        by_cases e3 : x.g = y.g
        · cases e4 : y.m
          · cases e5 : x.m
            · exact h6 e0 e1 e2 _ rfl e3 e4 e5 (by simp [e0, e1, e2', e3, e4, e5])
            · exact h5 e0 e1 e2 _ rfl e3 e4 e5 (by simp [e5])
          · exact h4 e0 e1 e2 _ rfl e3 e4 (by simp [e4])
        · have e3' : x.g = !y.g := by revert e3; cases x.g <;> cases y.g <;> simp
          exact h3 e0 e1 e2 _ rfl e3' (by simp [e3'])
    · exact h1 e0 e1 (by simp [e1])
  · exact h0 e0 (by simp [e0])

set_option maxHeartbeats 16000000 in
theorem xruns_any (N r : Nat) (v : Value) (T : List Un) (w : World) (h : Xl N w r v T) (hf : Fis T) (h1 : ∀ y ∈ T, y.l = 1) (hn : T.length ≤ 100000) :
    Calls Try.prog 20 #[.pointer (some ⟨r, 0, none⟩)] w fun e w' => ∃ u, e = .returned u ∧ Ur 36 w.heap.size w' u (J T) ∧ Below w.heap.size w w' := by
  obtain ⟨a, c, rfl, hc0, hc1⟩ := h.u.us.form
  obtain ⟨n, hln⟩ : ∃ n, T.length = n := ⟨_, rfl⟩
  have HN := hid hln
  have HX := hid h
  have HF := hid hf
  have H1 := hid h1
  rw [hln] at hn hc0 HX
  clear h hln hf h1
  go_enter Try.func20, Try.ntmps20
  go_wp2_with (first
    | (refine wl_nilJ rfl rfl ?_; intro W4 v4 hu4 hb4; have HU4 := hid hu4; have HB4 := hid hb4; clear hu4 hb4)
    | fail)
  go_loopw [3, 4] (fun s i wr => ∃ (k m : Nat) (sa : Option Addr) (sc : Nat), k ≤ n ∧ i = .int .i64 k ∧ s = .slice sa m sc ∧ (J (T.take k)).length = m ∧ Ur 36 w.heap.size wr (.slice sa m sc) (J (T.take k)) ∧ Below w.heap.size w wr) (fun s i _ => n - (intOf i).toNat)
  case atStart => obtain ⟨a0, c0, e0, _⟩ := HU4.out.us.form; exact ⟨0, 0, a0, c0, Nat.zero_le _, rfl, e0, rfl, by rw [← show v4 = .slice a0 0 c0 from e0]; exact HU4.out, HB4.out⟩
  case round =>
    obtain ⟨k, m, sa, sc, hk, rfl, rfl, hm, hu, hb⟩ := hrel
    have B := hid hb
    have UR := hid hu
    have HM := hid hm
    have HXR := hid (HX.out.below hb)
    have c0 := HXR.out.b.cell
    clear hb hu hm HU4 HB4
    by_cases hlt : k < n
    · have hlt' : (k : Int) < (n : Int) := by omega
      have hx : k < T.length := by rw [HN.out]; exact hlt
      obtain ⟨b, off, c', e1, _, _, hbl, hcc⟩ := HXR.out.u.us.inv (by rw [HN.out]; omega)
      rw [HN.out] at e1
      simp only [Value.slice.injEq] at e1
      obtain ⟨rfl, -, rfl⟩ := e1
      have hC := hcc k hx
      obtain ⟨x, hxx⟩ : ∃ x, T[k] = x := ⟨_, rfl⟩
      have hfx := HF.out x (by rw [← hxx]; exact List.getElem_mem hx)
      have hx1 := H1.out x (by rw [← hxx]; exact List.getElem_mem hx)
      rw [hxx] at hC
      have HC := hid hC
      obtain ⟨hja, hjl⟩ := J_fis_len HF.out k (by omega)
      have hjt := J_take hx
      rw [hxx] at hjt
      obtain ⟨acc, hacc⟩ : ∃ acc, J (T.take k) = acc := ⟨_, rfl⟩
      rw [hacc] at UR HM hja hjl hjt
      have HJT := hid hjt
      have HJA := hid hja
      have hmn : m ≤ 100000 := by have := HM.out; omega
      have HFX := hid hfx
      have HX1 := hid hx1
      have hz : ¬ x.l = 0 := by omega
      have HZ := hid hz
      clear hcc hC hfx hxx hjt hja hjl hacc hx1 hbl hx hz
      rcases List.eq_nil_or_concat acc with rfl | ⟨ac, y, rfl⟩
      · have HJ : Hid (J (T.take (k + 1)) = [] ++ [x]) := hid (by rw [HJT.out, stepJ_nil HZ.out]; rfl)
        obtain rfl : m = 0 := by have := HM.out; simpa using this.symm
        clear HJT
        go_wp2_with (first
          | (refine wl_ldI rfl rfl rfl HC.out ?_)
          | (refine wl_alI rfl rfl ?_; intro W2 b2 e2 hub2 hb2; have HV2 := hid hub2; have HK2 := hid hb2; have HG2 := hid (by omega : wr.heap.size ≤ b2); clear e2 hub2 hb2)
          | (refine wl_stI rfl rfl rfl rfl HV2.out ?_; intro W3 hu3 hf3; have HU3 := hid hu3; have HK3 := hid (below_fr HK2.out hf3 HG2.out); have UR4 := hid (UR.out.below HK3.out); have HB4 := hid (bt B.out HK3.out); clear hu3 hf3)
          | (refine wl_ldI rfl rfl rfl HU3.out.cells ?_)
          | (refine wl_oneI (u := x) rfl rfl rfl ?_; intro W5 v5 hu5 ho5 hb5; have HB5 := hid (bt HB4.out hb5); have UR5 := hid (UR4.out.below hb5); have HU5 := hid hu5; obtain ⟨va, vc, hv5, _⟩ := hu5.form; have HV5 := hid hv5; clear hu5 ho5 hb5 hv5)
          | (refine wl_appI rfl _ _ rfl w.heap.size _ [] [x] rfl UR5.out _ rfl HU5.out (by simp) HB5.out.size ?_; intro v6 W6 hu6 hf6 ho6; obtain ⟨va6,vc6,hv6,_⟩ := hu6.us.form; obtain ⟨m6,hm6⟩ : ∃ m,([] ++ [x] : List Un).length = m := ⟨_,rfl⟩; rw [hm6] at hv6; have HM6 := hid hm6; clear hm6; subst hv6; have UR6 := hid hu6; have HB6 := hid ((Fr.of_below HB5.out : Fr (fun k => (Value.slice sa 0 sc).ownBlock = some k) _ _).trans' hf6); clear hu6 hf6 ho6)
          | fail)
        go_roundw
        case rel => exact ⟨k + 1, m6, _, _, hlt, by go_num, rfl, by rw [HJ.out]; exact HM6.out, by rw [HJ.out]; exact UR6.out, HB6.out.below (fun j hj e => Nat.lt_irrefl _ (Nat.lt_of_lt_of_le hj (UR.out.lt j e).1)) (Nat.le_refl _)⟩
        case measure => simp [intOf]; omega
      · rw [List.concat_eq_append] at HM UR HJT HJA
        obtain ⟨q, hq⟩ : ∃ q, ac.length = q := ⟨_, rfl⟩
        have HQ := hid hq
        obtain rfl : m = q + 1 := by have := HM.out; rw [List.length_append] at this; simp at this; omega
        have hml : (ac ++ [y]).length = q + 1 := HM.out
        obtain ⟨g, og, cg, ev, _, _, _, hyc0⟩ := UR.out.us.inv (by rw [hml]; omega)
        rw [hml] at ev
        simp only [Value.slice.injEq] at ev
        obtain ⟨rfl, -, rfl⟩ := ev
        have hyc := hyc0 q (by rw [hml]; omega)
        rw [show (ac ++ [y])[q]'(by rw [hml]; omega) = y by simp [← hq]] at hyc
        obtain ⟨ho, hB, hnc, hcm, l, hri, hll, htk⟩ := UR.out.openJ hml.symm (by omega)
        rw [hml] at htk
        have HYC := hid hyc
        have HRI := hid hri
        have HTK := hid htk
        have HLL := hid hll
        have HGB := hid hB
        have HCM := hid hcm
        have HNC := hid hnc
        have HOF := hid ho
        have hL3 : Hid (og + q * 13 + 3 < l.length) := hid (by rw [hll, ho]; omega)
        have hL12 : Hid (og + q * 13 + 12 < l.length) := hid (by rw [hll, ho]; omega)
        have HFY := hid (HJA.out y (by simp))
        have hq5 : q ≤ 100000 := by omega
        have hq6 : (q : Int) < (q : Int) + 1 := by omega
        have hyf0 := HFY.out.f
        have hyl0 := HFY.out.l
        have hys0 := HFY.out.s
        clear hq hml hB hnc hcm hri hll htk ho hyc0 hyc HJA
        go_upto_region 8 with (first
          | (refine wl_ldI rfl rfl rfl HC.out ?_)
          | (refine wl_ldI rfl rfl rfl HYC3.out ?_)
          | (refine wl_alI rfl rfl ?_; intro W2 b2 e2 hub2 hb2; have HV2 := hid hub2; have HK2 := hid hb2; have HG2 := hid (by omega : wr.heap.size ≤ b2); clear e2 hub2 hb2)
          | (refine wl_stI rfl rfl rfl rfl HV2.out ?_; intro W3 hu3 hf3; have HU3 := hid hu3; have HK3 := hid (below_fr HK2.out hf3 HG2.out); have HYC3 := hid (HYC.out.below HK3.out); clear HV2 HK2 hu3 hf3)
          | (refine wl_alI rfl rfl ?_; intro W4 b4 e4 hub4 hb4; have HV4 := hid hub4; have HK4 := hid (bt HK3.out hb4); have HG4 := hid (by have := HK3.out.size; omega : wr.heap.size ≤ b4); have HE4 := hid (HU3.out.below hb4); have HD4 := hid (by have := HU3.out.lt; omega : b2 ≠ b4); clear e4 hub4 hb4)
          | (refine wl_stI rfl rfl rfl rfl HV4.out ?_; intro W5 hu5 hf5; have HU5 := hid hu5; have HK5 := hid (below_fr HK4.out hf5 HG4.out); have HE5 := hid (HE4.out.fr hf5 HD4.out); clear hu5 hf5))
        have a0 : W5.cell? ⟨b4, 0, none⟩ = some (.int .i64 y.r) := HU5.out.cells.c0
        have a1 : W5.cell? ⟨b4, 1, none⟩ = some (.int .i64 y.n) := HU5.out.cells.c1
        have a2 : W5.cell? ⟨b4, 2, none⟩ = some (.int .i64 y.f) := HU5.out.cells.c2
        have a3 : W5.cell? ⟨b4, 3, none⟩ = some (.int .i64 y.l) := HU5.out.cells.c3
        have a10 : W5.cell? ⟨b4, 10, none⟩ = some (.bool y.g) := HU5.out.cells.c10
        have a11 : W5.cell? ⟨b4, 11, none⟩ = some (.bool y.m) := HU5.out.cells.c11
        have d0 : W5.cell? ⟨b2, 0, none⟩ = some (.int .i64 x.r) := HE5.out.cells.c0
        have d1 : W5.cell? ⟨b2, 1, none⟩ = some (.int .i64 x.n) := HE5.out.cells.c1
        have d2 : W5.cell? ⟨b2, 2, none⟩ = some (.int .i64 x.f) := HE5.out.cells.c2
        have d10 : W5.cell? ⟨b2, 10, none⟩ = some (.bool x.g) := HE5.out.cells.c10
        have d11 : W5.cell? ⟨b2, 11, none⟩ = some (.bool x.m) := HE5.out.cells.c11
        have g3 : W5.cell? ⟨g, og + q * 13 + 3, none⟩ = some (.int .i64 y.l) := (HYC.out.below HK5.out).c3
        have HLEN : Hid ((ac ++ [y]).length + [x].length ≤ 1048576) := hid (by rw [HM.out]; simp; omega)
        have UR5 := hid (UR.out.below HK5.out)
        have HB5 := hid (bt B.out HK5.out)
        clear c0
        refine j_ways y x ?_ ?_ ?_ ?_ ?_ ?_ ?_
        · intro e1 hj
          have HJ : Hid (J (T.take (k + 1)) = ac ++ [y] ++ [x]) := hid (by rw [HJT.out, stepJ_add HZ.out hj])
          clear hj HJT
          skip
          all_goals
            go_upto_region 11 with fail
            go_wp2_with (first
              | (refine wl_ldI rfl rfl rfl HE5.out.cells ?_)
              | (refine wl_oneI (u := x) rfl rfl rfl ?_; intro W6 v6 hu6 ho6 hb6; have HB6 := hid (bt HB5.out hb6); have UR6 := hid (UR5.out.below hb6); have HU6 := hid hu6; obtain ⟨va, vc, hv6, _⟩ := hu6.form; have HV6 := hid hv6; clear hu6 ho6 hb6 hv6)
              | (refine wl_appI rfl _ _ rfl w.heap.size _ (ac ++ [y]) [x] rfl UR6.out _ rfl HU6.out HLEN.out HB6.out.size ?_; intro v7 W7 hu7 hf7 ho7; obtain ⟨va7,vc7,hv7,_⟩ := hu7.us.form; obtain ⟨m7,hm7⟩ : ∃ m,(ac ++ [y] ++ [x] : List Un).length = m := ⟨_,rfl⟩; rw [hm7] at hv7; have HM7 := hid hm7; clear hm7; subst hv7; have UR7 := hid hu7; have HB7 := hid ((Fr.of_below HB6.out : Fr (fun k => (Value.slice (some ⟨g,og,none⟩) (q + 1) sc).ownBlock = some k) _ _).trans' hf7); clear hu7 hf7 ho7)
              | fail)
            go_roundw
            case rel => exact ⟨k + 1, m7, _, _, hlt, by go_num, rfl, by rw [HJ.out]; exact HM7.out, by rw [HJ.out]; exact UR7.out, HB7.out.below (fun j hj e => Nat.lt_irrefl _ (Nat.lt_of_lt_of_le hj (UR.out.lt j e).1)) (Nat.le_refl _)⟩
            case measure => simp [intOf]; omega
        · intro e1 e2 hj
          have HJ : Hid (J (T.take (k + 1)) = ac ++ [y] ++ [x]) := hid (by rw [HJT.out, stepJ_add HZ.out hj])
          clear hj HJT
          skip
          all_goals
            go_upto_region 11 with fail
            go_wp2_with (first
              | (refine wl_ldI rfl rfl rfl HE5.out.cells ?_)
              | (refine wl_oneI (u := x) rfl rfl rfl ?_; intro W6 v6 hu6 ho6 hb6; have HB6 := hid (bt HB5.out hb6); have UR6 := hid (UR5.out.below hb6); have HU6 := hid hu6; obtain ⟨va, vc, hv6, _⟩ := hu6.form; have HV6 := hid hv6; clear hu6 ho6 hb6 hv6)
              | (refine wl_appI rfl _ _ rfl w.heap.size _ (ac ++ [y]) [x] rfl UR6.out _ rfl HU6.out HLEN.out HB6.out.size ?_; intro v7 W7 hu7 hf7 ho7; obtain ⟨va7,vc7,hv7,_⟩ := hu7.us.form; obtain ⟨m7,hm7⟩ : ∃ m,(ac ++ [y] ++ [x] : List Un).length = m := ⟨_,rfl⟩; rw [hm7] at hv7; have HM7 := hid hm7; clear hm7; subst hv7; have UR7 := hid hu7; have HB7 := hid ((Fr.of_below HB6.out : Fr (fun k => (Value.slice (some ⟨g,og,none⟩) (q + 1) sc).ownBlock = some k) _ _).trans' hf7); clear hu7 hf7 ho7)
              | fail)
            go_roundw
            case rel => exact ⟨k + 1, m7, _, _, hlt, by go_num, rfl, by rw [HJ.out]; exact HM7.out, by rw [HJ.out]; exact UR7.out, HB7.out.below (fun j hj e => Nat.lt_irrefl _ (Nat.lt_of_lt_of_le hj (UR.out.lt j e).1)) (Nat.le_refl _)⟩
            case measure => simp [intOf]; omega
        · intro e1 e2 e3 hj
          have HJ : Hid (J (T.take (k + 1)) = ac ++ [y] ++ [x]) := hid (by rw [HJT.out, stepJ_add HZ.out hj])
          clear hj HJT
          skip
          all_goals
            go_upto_region 11 with fail
            go_wp2_with (first
              | (refine wl_ldI rfl rfl rfl HE5.out.cells ?_)
              | (refine wl_oneI (u := x) rfl rfl rfl ?_; intro W6 v6 hu6 ho6 hb6; have HB6 := hid (bt HB5.out hb6); have UR6 := hid (UR5.out.below hb6); have HU6 := hid hu6; obtain ⟨va, vc, hv6, _⟩ := hu6.form; have HV6 := hid hv6; clear hu6 ho6 hb6 hv6)
              | (refine wl_appI rfl _ _ rfl w.heap.size _ (ac ++ [y]) [x] rfl UR6.out _ rfl HU6.out HLEN.out HB6.out.size ?_; intro v7 W7 hu7 hf7 ho7; obtain ⟨va7,vc7,hv7,_⟩ := hu7.us.form; obtain ⟨m7,hm7⟩ : ∃ m,(ac ++ [y] ++ [x] : List Un).length = m := ⟨_,rfl⟩; rw [hm7] at hv7; have HM7 := hid hm7; clear hm7; subst hv7; have UR7 := hid hu7; have HB7 := hid ((Fr.of_below HB6.out : Fr (fun k => (Value.slice (some ⟨g,og,none⟩) (q + 1) sc).ownBlock = some k) _ _).trans' hf7); clear hu7 hf7 ho7)
              | fail)
            go_roundw
            case rel => exact ⟨k + 1, m7, _, _, hlt, by go_num, rfl, by rw [HJ.out]; exact HM7.out, by rw [HJ.out]; exact UR7.out, HB7.out.below (fun j hj e => Nat.lt_irrefl _ (Nat.lt_of_lt_of_le hj (UR.out.lt j e).1)) (Nat.le_refl _)⟩
            case measure => simp [intOf]; omega
        · intro e1 e2 e3 ag e4 e5 hj
          rw [e4] at a10
          rw [e5] at d10
          have HJ : Hid (J (T.take (k + 1)) = ac ++ [y] ++ [x]) := hid (by rw [HJT.out, stepJ_add HZ.out hj])
          clear hj HJT e4 e5
          cases ag
          all_goals
            go_upto_region 11 with fail
            go_wp2_with (first
              | (refine wl_ldI rfl rfl rfl HE5.out.cells ?_)
              | (refine wl_oneI (u := x) rfl rfl rfl ?_; intro W6 v6 hu6 ho6 hb6; have HB6 := hid (bt HB5.out hb6); have UR6 := hid (UR5.out.below hb6); have HU6 := hid hu6; obtain ⟨va, vc, hv6, _⟩ := hu6.form; have HV6 := hid hv6; clear hu6 ho6 hb6 hv6)
              | (refine wl_appI rfl _ _ rfl w.heap.size _ (ac ++ [y]) [x] rfl UR6.out _ rfl HU6.out HLEN.out HB6.out.size ?_; intro v7 W7 hu7 hf7 ho7; obtain ⟨va7,vc7,hv7,_⟩ := hu7.us.form; obtain ⟨m7,hm7⟩ : ∃ m,(ac ++ [y] ++ [x] : List Un).length = m := ⟨_,rfl⟩; rw [hm7] at hv7; have HM7 := hid hm7; clear hm7; subst hv7; have UR7 := hid hu7; have HB7 := hid ((Fr.of_below HB6.out : Fr (fun k => (Value.slice (some ⟨g,og,none⟩) (q + 1) sc).ownBlock = some k) _ _).trans' hf7); clear hu7 hf7 ho7)
              | fail)
            go_roundw
            case rel => exact ⟨k + 1, m7, _, _, hlt, by go_num, rfl, by rw [HJ.out]; exact HM7.out, by rw [HJ.out]; exact UR7.out, HB7.out.below (fun j hj e => Nat.lt_irrefl _ (Nat.lt_of_lt_of_le hj (UR.out.lt j e).1)) (Nat.le_refl _)⟩
            case measure => simp [intOf]; omega
        · intro e1 e2 e3 ag e4 e5 e6 hj
          rw [e4] at a10
          rw [e5] at d10
          rw [e6] at a11
          have HJ : Hid (J (T.take (k + 1)) = ac ++ [y] ++ [x]) := hid (by rw [HJT.out, stepJ_add HZ.out hj])
          clear hj HJT e4 e5 e6
          cases ag
          all_goals
            go_upto_region 11 with fail
            go_wp2_with (first
              | (refine wl_ldI rfl rfl rfl HE5.out.cells ?_)
              | (refine wl_oneI (u := x) rfl rfl rfl ?_; intro W6 v6 hu6 ho6 hb6; have HB6 := hid (bt HB5.out hb6); have UR6 := hid (UR5.out.below hb6); have HU6 := hid hu6; obtain ⟨va, vc, hv6, _⟩ := hu6.form; have HV6 := hid hv6; clear hu6 ho6 hb6 hv6)
              | (refine wl_appI rfl _ _ rfl w.heap.size _ (ac ++ [y]) [x] rfl UR6.out _ rfl HU6.out HLEN.out HB6.out.size ?_; intro v7 W7 hu7 hf7 ho7; obtain ⟨va7,vc7,hv7,_⟩ := hu7.us.form; obtain ⟨m7,hm7⟩ : ∃ m,(ac ++ [y] ++ [x] : List Un).length = m := ⟨_,rfl⟩; rw [hm7] at hv7; have HM7 := hid hm7; clear hm7; subst hv7; have UR7 := hid hu7; have HB7 := hid ((Fr.of_below HB6.out : Fr (fun k => (Value.slice (some ⟨g,og,none⟩) (q + 1) sc).ownBlock = some k) _ _).trans' hf7); clear hu7 hf7 ho7)
              | fail)
            go_roundw
            case rel => exact ⟨k + 1, m7, _, _, hlt, by go_num, rfl, by rw [HJ.out]; exact HM7.out, by rw [HJ.out]; exact UR7.out, HB7.out.below (fun j hj e => Nat.lt_irrefl _ (Nat.lt_of_lt_of_le hj (UR.out.lt j e).1)) (Nat.le_refl _)⟩
            case measure => simp [intOf]; omega
        · intro e1 e2 e3 ag e4 e5 e6 e7 hj
          rw [e4] at a10
          rw [e5] at d10
          rw [e6] at a11
          rw [e7] at d11
          have HJ : Hid (J (T.take (k + 1)) = ac ++ [y] ++ [x]) := hid (by rw [HJT.out, stepJ_add HZ.out hj])
          clear hj HJT e4 e5 e6 e7
          cases ag
          all_goals
            go_upto_region 11 with fail
            go_wp2_with (first
              | (refine wl_ldI rfl rfl rfl HE5.out.cells ?_)
              | (refine wl_oneI (u := x) rfl rfl rfl ?_; intro W6 v6 hu6 ho6 hb6; have HB6 := hid (bt HB5.out hb6); have UR6 := hid (UR5.out.below hb6); have HU6 := hid hu6; obtain ⟨va, vc, hv6, _⟩ := hu6.form; have HV6 := hid hv6; clear hu6 ho6 hb6 hv6)
              | (refine wl_appI rfl _ _ rfl w.heap.size _ (ac ++ [y]) [x] rfl UR6.out _ rfl HU6.out HLEN.out HB6.out.size ?_; intro v7 W7 hu7 hf7 ho7; obtain ⟨va7,vc7,hv7,_⟩ := hu7.us.form; obtain ⟨m7,hm7⟩ : ∃ m,(ac ++ [y] ++ [x] : List Un).length = m := ⟨_,rfl⟩; rw [hm7] at hv7; have HM7 := hid hm7; clear hm7; subst hv7; have UR7 := hid hu7; have HB7 := hid ((Fr.of_below HB6.out : Fr (fun k => (Value.slice (some ⟨g,og,none⟩) (q + 1) sc).ownBlock = some k) _ _).trans' hf7); clear hu7 hf7 ho7)
              | fail)
            go_roundw
            case rel => exact ⟨k + 1, m7, _, _, hlt, by go_num, rfl, by rw [HJ.out]; exact HM7.out, by rw [HJ.out]; exact UR7.out, HB7.out.below (fun j hj e => Nat.lt_irrefl _ (Nat.lt_of_lt_of_le hj (UR.out.lt j e).1)) (Nat.le_refl _)⟩
            case measure => simp [intOf]; omega
        · intro e1 e2 e3 ag e4 e5 e6 e7 hj
          rw [e4] at a10
          rw [e5] at d10
          rw [e6] at a11
          rw [e7] at d11
          have HJ : Hid (J (T.take (k + 1)) = ac ++ [glueU y x]) := hid (by rw [HJT.out, stepJ_glue HZ.out hj])
          have HRI5 := hid (HRI.out.below HK5.out)
          clear hj HJT e4 e5 e6 e7
          cases ag
          all_goals
            go_upto_region 9 with fail
            go_upto_region 10 with (first
              | (refine wl_st_intI rfl rfl rfl rfl HRI5.out hL3.out ?_; intro W6 hri6 hf6; have HRI6 := hid hri6; have HF6 := hid hf6; clear hri6 hf6))
            have HNG : Hid (¬ b2 = g) := hid (fun e => by have := HYC.out.lt; have := HG2.out; omega)
            have HT1 : Hid ((l.set (og + q * 13 + 3) (.int .i64 (y.l + 1))).take ((q + 1) * 13) = (ac ++ [{ y with l := y.l + 1 }]).flatMap unc) := hid (by rw [HOF.out]; exact set_flat HQ.out HTK.out (by omega) rfl)
            have HRX : Hid (Rxr W6 b2 g og q (l.set (og + q * 13 + 3) (.int .i64 (y.l + 1))) { y with l := y.l + 1 } x) := hid ⟨HRI6.out, by
              have e := HOF.out
              subst e
              refine Uc.of (fun j hj => ?_)
              have hl : (ac.flatMap unc).length = q * 13 := by rw [flat_length unc 13 unc_len, HQ.out]
              have e : ((l.set (0 + q * 13 + 3) (.int .i64 (y.l + 1))).take ((q + 1) * 13))[q * 13 + j]? = (unc { y with l := y.l + 1 })[j]? := by
                rw [HT1.out, List.flatMap_append, List.getElem?_append_right (by omega), hl, Nat.add_sub_cancel_left]
                simp
              rw [List.getElem?_take_of_lt (by omega)] at e
              rw [HRI6.out.cell, Nat.zero_add]
              rw [Nat.zero_add] at e
              exact e, HE5.out.fr HF6.out HNG.out⟩
            refine xr_r10 (x := x) HRX.out rfl hq5 (by rw [List.length_set]; exact hL12.out) (by show y.t.size + x.t.size ≤ 1000000; have h1 := HFY.out.t; have h2 := HFX.out.t; have h3 := HFX.out.s; have h4 := HFX.out.f; omega) ?_
            intro W7 hri7 hf7
            have HRI7 := hid hri7
            have HF7 := hid (HF6.out.trans' hf7)
            clear hri7 hf7 a0 a1 a2 a3 a10 a11 d0 d1 d2 d10 d11 g3
            go_wp2_with fail
            go_roundw
            case rel => exact ⟨k + 1, q + 1, _, _, hlt, by go_num, rfl, by rw [HJ.out, List.length_append, HQ.out]; rfl, by
              rw [HJ.out]
              have e := HOF.out
              subst e
              refine Ur.closeI HGB.out HRI7.out (by rw [List.length_append, HQ.out]; rfl) HNC.out HCM.out (by rw [List.length_set, List.length_set]; exact HLL.out) ?_
              refine set_flat HQ.out HT1.out (by omega) ?_
              show _ = unc { y with l := y.l + x.l, t := y.t ++ x.t }
              rw [HX1.out]
              rfl, ((Fr.of_below HB5.out : Fr (fun j => j = g) _ _).trans' HF7.out).below (fun j hj e => by have := HGB.out; omega) (Nat.le_refl _)⟩
            case measure => simp [intOf]; omega
    · obtain rfl : k = n := by omega
      have hnl : ¬ (k : Int) < (k : Int) := by omega
      have e : T.take k = T := List.take_of_length_le (by rw [HN.out]; exact Nat.le_refl _)
      rw [e] at UR
      go_wp2
      go_ret
      exact ⟨_, rfl, UR.out, B.out⟩

end Go.Proofs.Ytkaphlpohhaacaa

/-
  Where a run's characters stand in a row of characters; the bytes of the first runs.
-/
namespace Go.Proofs.Ytkaphlpohhaacaa
open Go.RowKit
set_option linter.unusedVariables false
set_option linter.unusedSimpArgs false
set_option maxRecDepth 100000

theorem textU_take1 {xs : List Un} {k : Nat} (hk : k < xs.length) (h : liveB (xs[k]) = true) : textU (xs.take (k + 1)) = textU (xs.take k) ++ (xs[k]).t := by
  apply ba_ext
  rw [ba_app]
  show ((textL (xs.take (k + 1))).toArray).toList = ((textL (xs.take k)).toArray).toList ++ _
  rw [List.toList_toArray, List.toList_toArray]
  unfold textL
  rw [livesU_take hk, h, List.flatMap_append]
  simp
theorem textU_take0 {xs : List Un} {k : Nat} (hk : k < xs.length) (h : liveB (xs[k]) = false) : textU (xs.take (k + 1)) = textU (xs.take k) := by
  unfold textU textL
  rw [livesU_take hk, h]
  simp
theorem textU_len (xs : List Un) : (textU xs).size = (textL xs).length := rfl
theorem textU_le {xs : List Un} (h : Fis xs) : (textU xs).size ≤ (flat xs).length := by
  rw [textU_len]
  induction xs with
  | nil => exact Nat.zero_le _
  | cons x xs ih =>
    have h1 := (h x (List.mem_cons_self ..)).t
    have h2 := ih (fun z hz => h z (List.mem_cons_of_mem _ hz))
    rw [flat_cons, List.length_append, chs_len]
    unfold textL livesU at h2 ⊢
    rw [List.filter_cons]
    split
    · rw [List.flatMap_cons, List.length_append, ← ba_size]; omega
    · omega
end Go.Proofs.Ytkaphlpohhaacaa

/-
  What the reference's Text answers of a row is proved here.
-/
namespace Go.Proofs.Ytkaphlpohhaacaa
open Go.RowKit
set_option linter.unusedVariables false
set_option linter.unusedSimpArgs false
set_option maxRecDepth 100000

theorem chU_fi {x : Un} (h : Fi x) {k : Nat} (hk : (k : Int) < x.l) : Fi (chU x k) := by
  have h0 := h.f
  have h2 := h.s
  have h3 := h.t
  refine ⟨by show 0 ≤ x.f + k; omega, by show (0 : Int) ≤ 1; omega, by show x.f + k + 1 ≤ 64; omega, ?_⟩
  show ((x.t.extract k (k + 1)).size : Int) = 1
  rw [ba_cut_size (by omega)]
  omega
theorem Fis.flat {xs : List Un} (h : Fis xs) : Fis (flat xs) := by
  intro y hy
  unfold Proofs.Ytkaphlpohhaacaa.flat at hy
  rw [List.mem_flatMap] at hy
  obtain ⟨x, hx, hy⟩ := hy
  obtain ⟨k, hk, rfl⟩ := mem_chs hy
  exact chU_fi (h x hx) hk
theorem flat_one_l {xs : List Un} : ∀ y ∈ flat xs, y.l = 1 := by
  intro y hy
  unfold flat at hy
  rw [List.mem_flatMap] at hy
  obtain ⟨x, hx, hy⟩ := hy
  obtain ⟨k, hk, rfl⟩ := mem_chs hy
  rfl
set_option maxHeartbeats 8000000 in
theorem xtext_any (N r : Nat) (v : Value) (xs : List Un) (w : World) (h : Xl N w r v xs) (hf : Fis xs) (h1 : ∀ y ∈ xs, y.l = 1) (hn : xs.length ≤ 100000) :
    Calls Try.prog 22 #[.pointer (some ⟨r, 0, none⟩)] w fun e w' => e = .returned (.string (textU xs)) ∧ Below w.heap.size w w' := by
  obtain ⟨a, c, rfl, hc0, hc1⟩ := h.u.us.form
  obtain ⟨n, hln⟩ : ∃ n, xs.length = n := ⟨_, rfl⟩
  have HN := hid hln
  have HX := hid h
  have HF := hid hf
  have H1 := hid h1
  rw [hln] at hn hc0 HX
  clear h hln hf h1
  go_enter Try.func22, Try.ntmps22
  go_wp2_with fail
  go_loopw [3, 4] (fun s i wr => ∃ (k : Nat) (S : ByteArray), k ≤ n ∧ i = .int .i64 (k : Int) ∧ S = textU (xs.take k) ∧ s = .string S ∧ Below w.heap.size w wr) (fun _ i _ => n - (intOf i).toNat)
  case atStart => exact ⟨0, _, Nat.zero_le _, rfl, rfl, rfl, Below.refl _ _⟩
  case round =>
    obtain ⟨k, S, hk, rfl, hS, rfl, hb⟩ := hrel
    have HS := hid hS
    have HB := hid hb
    have HXR := hid (HX.out.below HB.out)
    have c0 := HXR.out.b.cell
    clear hS hb
    by_cases hlt : k < n
    · have hlt' : (k : Int) < (n : Int) := by omega
      have hx : k < xs.length := by rw [HN.out]; exact hlt
      obtain ⟨b, off, c', e1, _, _, hbl, hcc⟩ := HXR.out.u.us.inv (by rw [HN.out]; omega)
      rw [HN.out] at e1
      simp only [Value.slice.injEq] at e1
      obtain ⟨rfl, -, rfl⟩ := e1
      obtain ⟨x, hxx⟩ : ∃ x, xs[k] = x := ⟨_, rfl⟩
      have hC := hcc k hx
      rw [hxx] at hC
      have a10 : wr.cell? ⟨b, off + k * 13 + 10, none⟩ = some (.bool x.g) := hC.c10
      have a11 : wr.cell? ⟨b, off + k * 13 + 11, none⟩ = some (.bool x.m) := hC.c11
      have a12 : wr.cell? ⟨b, off + k * 13 + 12, none⟩ = some (.string x.t) := hC.c12
      have HSZ : Hid (S.size + x.t.size ≤ 1000000) := hid (by
        have e1 := textU_le (HF.out.take k)
        have e2 := (HF.out x (by rw [← hxx]; exact List.getElem_mem hx)).t
        have e3 := (HF.out x (by rw [← hxx]; exact List.getElem_mem hx)).s
        have e4 := (HF.out x (by rw [← hxx]; exact List.getElem_mem hx)).f
        have e5 : ((flat (xs.take k)).length : Int) = cntU (xs.take k) := flat_len (HF.out.take k)
        have e6 : cntU (xs.take k) = ((xs.take k).length : Int) := by
          have key : ∀ l : List Un, (∀ y ∈ l, y.l = 1) → cntU l = (l.length : Int) := by
            intro l
            induction l with
            | nil => intro _; rfl
            | cons y l ih =>
              intro h
              rw [cntU_cons, ih (fun z hz => h z (List.mem_cons_of_mem _ hz)), h y (List.mem_cons_self ..), List.length_cons]
              omega
          exact key _ (fun y hy => H1.out y (List.mem_of_mem_take hy))
        rw [List.length_take] at e6
        rw [← HS.out] at e1
        omega)
      have HST1 : Hid (liveB x = true → S ++ x.t = textU (xs.take (k + 1))) := hid (fun hl => by rw [textU_take1 hx (by rw [hxx]; exact hl), hxx, HS.out])
      have HST0 : Hid (liveB x = false → S = textU (xs.take (k + 1))) := hid (fun hl => by rw [textU_take0 hx (by rw [hxx]; exact hl), HS.out])
      clear hcc hC hxx hx hbl
      obtain ⟨xg, hxg⟩ : ∃ g, x.g = g := ⟨_, rfl⟩
      obtain ⟨xm, hxm⟩ : ∃ g, x.m = g := ⟨_, rfl⟩
      have HXG := hid hxg
      have HXM := hid hxm
      rw [hxg] at a10
      rw [hxm] at a11
      clear hxg hxm
      cases xg <;> cases xm
      · have HST : Hid (S ++ x.t = textU (xs.take (k + 1))) := hid (HST1.out (by unfold liveB; rw [HXG.out, HXM.out]; rfl))
        go_wp2_with (first | (refine wl_val3 (runU_cat rfl rfl rfl HSZ.out) rfl ?_) | fail)
        go_roundw
        case rel => exact ⟨k + 1, _, hlt, by go_num, HST.out, rfl, HB.out⟩
        case measure => simp [intOf]; omega
      all_goals
        have HST : Hid (S = textU (xs.take (k + 1))) := hid (HST0.out (by unfold liveB; rw [HXG.out, HXM.out]; rfl))
        go_wp2_with fail
        go_roundw
        case rel => exact ⟨k + 1, _, hlt, by go_num, HST.out, rfl, HB.out⟩
        case measure => simp [intOf]; omega
    · obtain rfl : k = n := by omega
      have hnl : ¬ (k : Int) < (k : Int) := by omega
      have e : xs.take k = xs := List.take_of_length_le (by rw [HN.out]; exact Nat.le_refl _)
      rw [e] at HS
      go_wp2
      go_ret
      rw [← HS.out]
      exact ⟨rfl, HB.out⟩

/-- A run's bytes are those of its characters. -/
theorem textL_chs {x : Un} (h : Fi x) : textL (chs x) = if liveB x = true then x.t.data.toList else [] := by
  unfold textL livesU
  cases hl : liveB x
  · have : (chs x).filter liveB = [] := by
      rw [List.filter_eq_nil_iff]
      intro y hy
      obtain ⟨k, hk, rfl⟩ := mem_chs hy
      have e : liveB (chU x k) = liveB x := rfl
      rw [e, hl]
      exact Bool.false_ne_true
    rw [this]
    simp
  · have : (chs x).filter liveB = chs x := by
      rw [List.filter_eq_self]
      intro y hy
      obtain ⟨k, hk, rfl⟩ := mem_chs hy
      exact hl
    rw [this, if_pos rfl]
    unfold chs
    rw [List.flatMap_map]
    have key : ∀ n : Nat, n ≤ x.t.size → (List.range n).flatMap (fun k => (chU x k).t.data.toList) = x.t.data.toList.take n := by
      intro n
      induction n with
      | zero => intro _; simp
      | succ n ih =>
        intro hn
        rw [List.range_succ, List.flatMap_append, ih (by omega)]
        have e : (chU x n).t.data.toList = (x.t.data.toList.drop n).take 1 := by
          show (x.t.extract n (n + 1)).data.toList = _
          rw [ba_cut, Nat.add_sub_cancel_left]
        have hl : n < x.t.data.toList.length := by rw [ba_size] at hn; omega
        rw [List.flatMap_cons, List.flatMap_nil, List.append_nil, e, List.take_succ_eq_append_getElem hl, List.drop_eq_getElem_cons hl]
        rfl
    have h1 := h.t
    rw [key _ (by omega), List.take_of_length_le (by rw [← ba_size]; omega)]
theorem textU_flat {xs : List Un} (h : Fis xs) : textU (flat xs) = textU xs := by
  have key : textL (flat xs) = textL xs := by
    induction xs with
    | nil => rfl
    | cons x xs ih =>
      have h2 := ih (fun z hz => h z (List.mem_cons_of_mem _ hz))
      have e1 : ∀ l m : List Un, textL (l ++ m) = textL l ++ textL m := fun l m => by unfold textL livesU; rw [List.filter_append, List.flatMap_append]
      rw [flat_cons, e1, h2, textL_chs (h x (List.mem_cons_self ..)), show x :: xs = [x] ++ xs from rfl, e1]
      congr 1
      unfold textL livesU
      cases hl : liveB x <;> simp [hl]
  unfold textU
  rw [key]

end Go.Proofs.Ytkaphlpohhaacaa

/-
  The drawn region of the laws' calls of Put is walked here, law by law. Printed by genulaw.py.
-/
namespace Go.Proofs.Ytkaphlpohhaacaa
open Go.RowKit
set_option linter.unusedVariables false
set_option linter.unusedSimpArgs false
set_option maxRecDepth 100000

end Go.Proofs.Ytkaphlpohhaacaa
