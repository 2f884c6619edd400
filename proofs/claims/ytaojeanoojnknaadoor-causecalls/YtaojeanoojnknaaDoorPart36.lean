/-
  Parts of the proof, one behind the other; what each proves stands at its head.
-/
import Derived.Test.YtaojeanoojnknaaDoorPart35
import Derived.Test.YtaojeanoojnknaaDoorPart25

/-
  The last region of the law's alive, whose order is drawn, is walked here.
-/
namespace Go.Proofs.YtaojeanoojnknaaDoor
open Go.RowKit
set_option linter.unusedVariables false
set_option maxRecDepth 100000

structure Al (w0 : World) (N bb mb vb : Nat) (W : World) (X : List Int) (p6 p8 : Nat) (u1 u2 : Value) : Prop where
  sx : Sx w0 N bb mb vb W X []
  o1 : Ob W p6 (blockO 1) u1
  o2 : Ob W p8 (blockO 2) u2
  c1 : Cs W u1 (blockO 1).cuts
  c2 : Cs W u2 (blockO 2).cuts
theorem Al.below {w0 : World} {N bb mb vb : Nat} {W W' : World} {X : List Int} {p6 p8 : Nat} {u1 u2 : Value} (h : Al w0 N bb mb vb W X p6 p8 u1 u2) (hb : Below W.heap.size W W') : Al w0 N bb mb vb W' X p6 p8 u1 u2 :=
  ⟨h.sx.below hb, h.o1.below hb, h.o2.below hb, h.c1.below hb, h.c2.below hb⟩
theorem Al.drew {w0 : World} {N bb mb vb : Nat} {W : World} {X : List Int} {p6 p8 : Nat} {u1 u2 : Value} (h : Al w0 N bb mb vb W X p6 p8 u1 u2) : Al w0 N bb mb vb (World.drew W) X p6 p8 u1 u2 := h.below (bd W 1)

def ka0 : Oper := { dst := some 51, op := Op.move (Operand.tmp 4), type := 4, pos := "law.go:36", after := #[], guard := none }
def ka1 : Oper := { dst := some 52, op := Op.unOp UnOp.not 4 (Operand.tmp 51), type := 4, pos := "law.go:36", after := #[{ on := 0, ground := Ground.data }], guard := none }
def ka2 : Oper := { dst := some 53, op := Op.move (Operand.tmp 52), type := 4, pos := "law.go:36", after := #[{ on := 1, ground := Ground.data }], guard := none }
def ka3 : Oper := { dst := some 54, op := Op.move (Operand.tmp 5), type := 49, pos := "law.go:36", after := #[{ on := 2, ground := Ground.guard }], guard := some (2, true) }
def ka4 : Oper := { dst := some 55, op := Op.binOp BinOp.eql 49 (Operand.tmp 54) (Operand.const (Value.int IntKind.i64 0)) 49, type := 4, pos := "law.go:36", after := #[{ on := 3, ground := Ground.data }, { on := 2, ground := Ground.guard }], guard := some (2, true) }
def ka5 : Oper := { dst := some 56, op := Op.pick (Operand.tmp 53) (Operand.tmp 55) (Operand.const (Value.bool false)), type := 4, pos := "law.go:36", after := #[{ on := 2, ground := Ground.data }, { on := 4, ground := Ground.data }], guard := none }
def ka6 : Oper := { dst := some 57, op := Op.move (Operand.tmp 56), type := 4, pos := "law.go:36", after := #[{ on := 5, ground := Ground.data }, { on := 2, ground := Ground.chain }], guard := none }
def ka7 : Oper := { dst := some 58, op := Op.move (Operand.tmp 7), type := 4, pos := "law.go:36", after := #[{ on := 6, ground := Ground.guard }], guard := some (6, true) }
def ka8 : Oper := { dst := some 59, op := Op.pick (Operand.tmp 57) (Operand.tmp 58) (Operand.const (Value.bool false)), type := 4, pos := "law.go:36", after := #[{ on := 6, ground := Ground.data }, { on := 7, ground := Ground.data }], guard := none }
def ka9 : Oper := { dst := some 60, op := Op.move (Operand.tmp 59), type := 4, pos := "law.go:36", after := #[{ on := 8, ground := Ground.data }, { on := 6, ground := Ground.chain }], guard := none }
def ka10 : Oper := { dst := some 61, op := Op.move (Operand.tmp 9), type := 4, pos := "law.go:36", after := #[{ on := 9, ground := Ground.guard }], guard := some (9, true) }
def ka11 : Oper := { dst := some 62, op := Op.pick (Operand.tmp 60) (Operand.tmp 61) (Operand.const (Value.bool false)), type := 4, pos := "law.go:36", after := #[{ on := 9, ground := Ground.data }, { on := 10, ground := Ground.data }], guard := none }
def ka12 : Oper := { dst := some 63, op := Op.move (Operand.tmp 62), type := 4, pos := "law.go:36", after := #[{ on := 11, ground := Ground.data }, { on := 9, ground := Ground.chain }], guard := none }
def ka13 : Oper := { dst := some 64, op := Op.load 43 (Operand.tmp 6), type := 43, pos := "law.go:36", after := #[{ on := 12, ground := Ground.guard }], guard := some (12, true) }
def ka14 : Oper := { dst := some 65,op := Op.call { callee := Callee.value (Operand.func 36),args := #[Operand.const (Value.int IntKind.i64 1)],argTypes := #[3] },type := 43,pos := "law.go:36",after := #[{ on := 12,ground := Ground.chain },{ on := 12,ground := Ground.guard }],guard := some (12,true) }
def ka15 : Oper := { dst := some 66,op := Op.call { callee := Callee.value (Operand.func 16),args := #[Operand.tmp 64,Operand.tmp 65],argTypes := #[43,43] },type := 4,pos := "law.go:36",after := #[{ on := 13,ground := Ground.data },{ on := 14,ground := Ground.data },{ on := 14,ground := Ground.chain },{ on := 12,ground := Ground.guard }],guard := some (12,true) }
def ka16 : Oper := { dst := some 67, op := Op.pick (Operand.tmp 63) (Operand.tmp 66) (Operand.const (Value.bool false)), type := 4, pos := "law.go:36", after := #[{ on := 12, ground := Ground.data }, { on := 15, ground := Ground.data }], guard := none }
def ka17 : Oper := { dst := some 68, op := Op.move (Operand.tmp 67), type := 4, pos := "law.go:36", after := #[{ on := 16, ground := Ground.data }, { on := 15, ground := Ground.chain }], guard := none }
def ka18 : Oper := { dst := some 69, op := Op.load 43 (Operand.tmp 8), type := 43, pos := "law.go:36", after := #[{ on := 17, ground := Ground.guard }], guard := some (17, true) }
def ka19 : Oper := { dst := some 70,op := Op.call { callee := Callee.value (Operand.func 36),args := #[Operand.const (Value.int IntKind.i64 2)],argTypes := #[3] },type := 43,pos := "law.go:36",after := #[{ on := 17,ground := Ground.chain },{ on := 17,ground := Ground.guard }],guard := some (17,true) }
def ka20 : Oper := { dst := some 71,op := Op.call { callee := Callee.value (Operand.func 16),args := #[Operand.tmp 69,Operand.tmp 70],argTypes := #[43,43] },type := 4,pos := "law.go:36",after := #[{ on := 18,ground := Ground.data },{ on := 19,ground := Ground.data },{ on := 19,ground := Ground.chain },{ on := 17,ground := Ground.guard }],guard := some (17,true) }
def ka21 : Oper := { dst := some 72, op := Op.pick (Operand.tmp 68) (Operand.tmp 71) (Operand.const (Value.bool false)), type := 4, pos := "law.go:36", after := #[{ on := 17, ground := Ground.data }, { on := 20, ground := Ground.data }], guard := none }
def ka22 : Oper := { dst := some 73, op := Op.move (Operand.tmp 72), type := 4, pos := "law.go:36", after := #[{ on := 21, ground := Ground.data }, { on := 20, ground := Ground.chain }], guard := none }
def ka23 : Oper := { dst := some 74, op := Op.move (Operand.tmp 1), type := 25, pos := "law.go:36", after := #[{ on := 22, ground := Ground.guard }], guard := some (22, true) }
def ka24 : Oper := { dst := some 75,op := Op.call { callee := Callee.value (Operand.func 23),args := #[Operand.tmp 74],argTypes := #[25] },type := 3,pos := "law.go:36",after := #[{ on := 23,ground := Ground.data },{ on := 22,ground := Ground.chain },{ on := 22,ground := Ground.guard }],guard := some (22,true) }
def ka25 : Oper := { dst := some 76, op := Op.binOp BinOp.eql 3 (Operand.tmp 75) (Operand.const (Value.int IntKind.i64 0)) 3, type := 4, pos := "law.go:36", after := #[{ on := 24, ground := Ground.data }, { on := 22, ground := Ground.guard }], guard := some (22, true) }
def ka26 : Oper := { dst := some 77, op := Op.pick (Operand.tmp 73) (Operand.tmp 76) (Operand.const (Value.bool false)), type := 4, pos := "law.go:36", after := #[{ on := 22, ground := Ground.data }, { on := 25, ground := Ground.data }], guard := none }
def ka27 : Oper := { dst := some 78, op := Op.move (Operand.tmp 77), type := 4, pos := "law.go:36", after := #[{ on := 26, ground := Ground.data }, { on := 24, ground := Ground.chain }], guard := none }
def ka28 : Oper := { dst := some 79, op := Op.move (Operand.tmp 2), type := 31, pos := "law.go:36", after := #[{ on := 27, ground := Ground.guard }], guard := some (27, true) }
def ka29 : Oper := { dst := some 80,op := Op.call { callee := Callee.value (Operand.func 36),args := #[Operand.const (Value.int IntKind.i64 3)],argTypes := #[3] },type := 43,pos := "law.go:36",after := #[{ on := 27,ground := Ground.chain },{ on := 27,ground := Ground.guard }],guard := some (27,true) }
def ka30 : Oper := { dst := some 81,op := Op.call { callee := Callee.value (Operand.func 12),args := #[Operand.tmp 79,Operand.tmp 80],argTypes := #[31,43] },type := 4,pos := "law.go:36",after := #[{ on := 28,ground := Ground.data },{ on := 29,ground := Ground.data },{ on := 29,ground := Ground.chain },{ on := 27,ground := Ground.guard }],guard := some (27,true) }
def ka31 : Oper := { dst := some 82, op := Op.unOp UnOp.not 4 (Operand.tmp 81), type := 4, pos := "law.go:36", after := #[{ on := 30, ground := Ground.data }, { on := 27, ground := Ground.guard }], guard := some (27, true) }
def ka32 : Oper := { dst := some 83, op := Op.pick (Operand.tmp 78) (Operand.tmp 82) (Operand.const (Value.bool false)), type := 4, pos := "law.go:36", after := #[{ on := 27, ground := Ground.data }, { on := 31, ground := Ground.data }], guard := none }
def ka33 : Oper := { dst := some 0,op := Op.assign (Operand.tmp 83),type := 4,pos := "law.go:36",after := #[{ on := 32,ground := Ground.data },{ on := 30,ground := Ground.chain },{ on := 0,ground := Ground.phase },{ on := 1,ground := Ground.phase },{ on := 2,ground := Ground.phase },{ on := 3,ground := Ground.phase },{ on := 4,ground := Ground.phase },{ on := 5,ground := Ground.phase },{ on := 6,ground := Ground.phase },{ on := 7,ground := Ground.phase },{ on := 8,ground := Ground.phase },{ on := 9,ground := Ground.phase },{ on := 10,ground := Ground.phase },{ on := 11,ground := Ground.phase },{ on := 12,ground := Ground.phase },{ on := 13,ground := Ground.phase },{ on := 14,ground := Ground.phase },{ on := 15,ground := Ground.phase },{ on := 16,ground := Ground.phase },{ on := 17,ground := Ground.phase },{ on := 18,ground := Ground.phase },{ on := 19,ground := Ground.phase },{ on := 20,ground := Ground.phase },{ on := 21,ground := Ground.phase },{ on := 22,ground := Ground.phase },{ on := 23,ground := Ground.phase },{ on := 24,ground := Ground.phase },{ on := 25,ground := Ground.phase },{ on := 26,ground := Ground.phase },{ on := 27,ground := Ground.phase },{ on := 28,ground := Ground.phase },{ on := 29,ground := Ground.phase },{ on := 30,ground := Ground.phase },{ on := 31,ground := Ground.phase },{ on := 32,ground := Ground.phase }],guard := none }
def kas : Array Oper := #[ka0, ka1, ka2, ka3, ka4, ka5, ka6, ka7, ka8, ka9, ka10, ka11, ka12, ka13, ka14, ka15, ka16, ka17, ka18, ka19, ka20, ka21, ka22, ka23, ka24, ka25, ka26, ka27, ka28, ka29, ka30, ka31, ka32, ka33]
theorem ka_lit : Region.noSelect kas = true := by kernel_rfl

set_option maxHeartbeats 8000000 in
theorem alive_r {w0 : World} {N bb mb vb p6 p8 : Nat} {X : List Int} {u1 u2 : Value} {w : World} (h : Al w0 N bb mb vb w X p6 p8 u1 u2) (h3 : readyO X (blockO 3) = false) {x3 aa ab ad ae af ag ah ai aj ak al am ao ap aq ar au av ax ay az aA aB aC aD aE aF aG aH aI aJ aK aL aM aN aO aP aQ aR aS aT x51 x52 x53 x54 x55 x56 x57 x58 x59 x60 x61 x62 x63 bz bx bs bq bp bo bn bk bj bi bh bg bf bc aZ aY aX aW aV aU : Value} {Q : Exit → Act → World → Prop}
    (hP : ∀ c t t' d W, Q (.panic c) { tmps := t, defers := d } W → Q (.panic c) { tmps := t', defers := d } W)
    (hQ : ∀ W,Below w.heap.size w W → Q .normal { tmps := #[.bool true,.pointer (some ⟨bb,0,none⟩),.pointer (some ⟨vb,0,none⟩),x3,.bool false,.int .i64 0,.pointer (some ⟨p6,0,none⟩),.bool true,.pointer (some ⟨p8,0,none⟩),.bool true,aa,ab,ad,ae,af,ag,ah,ai,aj,ak,al,am,ao,ap,aq,ar,au,av,ax,ay,az,aA,aB,aC,aD,aE,aF,aG,aH,aI,aJ,aK,aL,aM,aN,aO,aP,aQ,aR,aS,aT,.bool false,.bool true,.bool true,.int .i64 0,.bool true,.bool true,.bool true,.bool true,.bool true,.bool true,.bool true,.bool true,.bool true,opv (blockO 1) u1,opv (blockO 1) (.slice none 0 0),.bool true,.bool true,.bool true,opv (blockO 2) u2,opv (blockO 2) (.slice none 0 0),.bool true,.bool true,.bool true,.pointer (some ⟨bb,0,none⟩),.int .i64 0,.bool true,.bool true,.bool true,.pointer (some ⟨vb,0,none⟩),opv (blockO 3) (.slice none 0 0),.bool false,.bool true,.bool true],defers := [] } W) : (Code.region 10 kas true).wp Tryd.prog Q { tmps := #[.bool false,.pointer (some ⟨bb,0,none⟩),.pointer (some ⟨vb,0,none⟩),x3,.bool false,.int .i64 0,.pointer (some ⟨p6,0,none⟩),.bool true,.pointer (some ⟨p8,0,none⟩),.bool true,aa,ab,ad,ae,af,ag,ah,ai,aj,ak,al,am,ao,ap,aq,ar,au,av,ax,ay,az,aA,aB,aC,aD,aE,aF,aG,aH,aI,aJ,aK,aL,aM,aN,aO,aP,aQ,aR,aS,aT,x51,x52,x53,x54,x55,x56,x57,x58,x59,x60,x61,x62,x63,bz,bx,bs,bq,bp,bo,bn,bk,bj,bi,bh,bg,bf,bc,aZ,aY,aX,aW,aV,aU],defers := [] } w := by
  refine wp_region_held (S := fun W => Al w0 N bb mb vb W X p6 p8 u1 u2) (by kernel_rfl) ?_
  change wpAnyH _ _ _ _ _ 34 _ _ (World.drew _)
  have S0 : Al w0 N bb mb vb (World.drew w) X p6 p8 u1 u2 := h.drew
  clear h
  obtain ⟨W0, hW⟩ : ∃ W, World.drew w = W := ⟨_, rfl⟩
  rw [hW] at S0 ⊢
  have BW0 : Below w.heap.size w W0 := by rw [← hW]; exact (Below.refl _ _).drew
  clear hW
  refine wpAnyH_take (i := 0) (oi := ka0) (v := .bool false) (by kernel_rfl) ka_lit (by kernel_rfl) (by kernel_rfl) (fun c a W h => hP c _ _ _ W h) (Or.inl ⟨by kernel_rfl, fun W hW => by kernel_rfl⟩) S0 ?_
  rw [show Act.put _ ka0.dst _ = { tmps := #[.bool false,.pointer (some ⟨bb,0,none⟩),.pointer (some ⟨vb,0,none⟩),x3,.bool false,.int .i64 0,.pointer (some ⟨p6,0,none⟩),.bool true,.pointer (some ⟨p8,0,none⟩),.bool true,aa,ab,ad,ae,af,ag,ah,ai,aj,ak,al,am,ao,ap,aq,ar,au,av,ax,ay,az,aA,aB,aC,aD,aE,aF,aG,aH,aI,aJ,aK,aL,aM,aN,aO,aP,aQ,aR,aS,aT,.bool false,x52,x53,x54,x55,x56,x57,x58,x59,x60,x61,x62,x63,bz,bx,bs,bq,bp,bo,bn,bk,bj,bi,bh,bg,bf,bc,aZ,aY,aX,aW,aV,aU],defers := [] } from by kernel_rfl]
  refine wpAnyH_take (i := 1) (oi := ka1) (v := .bool true) (by kernel_rfl) ka_lit (by kernel_rfl) (by kernel_rfl) (fun c a W h => hP c _ _ _ W h) (Or.inl ⟨by kernel_rfl, fun W hW => by kernel_rfl⟩) S0 ?_
  rw [show Act.put _ ka1.dst _ = { tmps := #[.bool false,.pointer (some ⟨bb,0,none⟩),.pointer (some ⟨vb,0,none⟩),x3,.bool false,.int .i64 0,.pointer (some ⟨p6,0,none⟩),.bool true,.pointer (some ⟨p8,0,none⟩),.bool true,aa,ab,ad,ae,af,ag,ah,ai,aj,ak,al,am,ao,ap,aq,ar,au,av,ax,ay,az,aA,aB,aC,aD,aE,aF,aG,aH,aI,aJ,aK,aL,aM,aN,aO,aP,aQ,aR,aS,aT,.bool false,.bool true,x53,x54,x55,x56,x57,x58,x59,x60,x61,x62,x63,bz,bx,bs,bq,bp,bo,bn,bk,bj,bi,bh,bg,bf,bc,aZ,aY,aX,aW,aV,aU],defers := [] } from by kernel_rfl]
  refine wpAnyH_take (i := 2) (oi := ka2) (v := .bool true) (by kernel_rfl) ka_lit (by kernel_rfl) (by kernel_rfl) (fun c a W h => hP c _ _ _ W h) (Or.inl ⟨by kernel_rfl, fun W hW => by kernel_rfl⟩) S0 ?_
  rw [show Act.put _ ka2.dst _ = { tmps := #[.bool false,.pointer (some ⟨bb,0,none⟩),.pointer (some ⟨vb,0,none⟩),x3,.bool false,.int .i64 0,.pointer (some ⟨p6,0,none⟩),.bool true,.pointer (some ⟨p8,0,none⟩),.bool true,aa,ab,ad,ae,af,ag,ah,ai,aj,ak,al,am,ao,ap,aq,ar,au,av,ax,ay,az,aA,aB,aC,aD,aE,aF,aG,aH,aI,aJ,aK,aL,aM,aN,aO,aP,aQ,aR,aS,aT,.bool false,.bool true,.bool true,x54,x55,x56,x57,x58,x59,x60,x61,x62,x63,bz,bx,bs,bq,bp,bo,bn,bk,bj,bi,bh,bg,bf,bc,aZ,aY,aX,aW,aV,aU],defers := [] } from by kernel_rfl]
  refine wpAnyH_take (i := 3) (oi := ka3) (v := .int .i64 0) (by kernel_rfl) ka_lit (by kernel_rfl) (by kernel_rfl) (fun c a W h => hP c _ _ _ W h) (Or.inl ⟨by kernel_rfl, fun W hW => by kernel_rfl⟩) S0 ?_
  rw [show Act.put _ ka3.dst _ = { tmps := #[.bool false,.pointer (some ⟨bb,0,none⟩),.pointer (some ⟨vb,0,none⟩),x3,.bool false,.int .i64 0,.pointer (some ⟨p6,0,none⟩),.bool true,.pointer (some ⟨p8,0,none⟩),.bool true,aa,ab,ad,ae,af,ag,ah,ai,aj,ak,al,am,ao,ap,aq,ar,au,av,ax,ay,az,aA,aB,aC,aD,aE,aF,aG,aH,aI,aJ,aK,aL,aM,aN,aO,aP,aQ,aR,aS,aT,.bool false,.bool true,.bool true,.int .i64 0,x55,x56,x57,x58,x59,x60,x61,x62,x63,bz,bx,bs,bq,bp,bo,bn,bk,bj,bi,bh,bg,bf,bc,aZ,aY,aX,aW,aV,aU],defers := [] } from by kernel_rfl]
  refine wpAnyH_take (i := 4) (oi := ka4) (v := .bool true) (by kernel_rfl) ka_lit (by kernel_rfl) (by kernel_rfl) (fun c a W h => hP c _ _ _ W h) (Or.inl ⟨by kernel_rfl, fun W hW => by kernel_rfl⟩) S0 ?_
  rw [show Act.put _ ka4.dst _ = { tmps := #[.bool false,.pointer (some ⟨bb,0,none⟩),.pointer (some ⟨vb,0,none⟩),x3,.bool false,.int .i64 0,.pointer (some ⟨p6,0,none⟩),.bool true,.pointer (some ⟨p8,0,none⟩),.bool true,aa,ab,ad,ae,af,ag,ah,ai,aj,ak,al,am,ao,ap,aq,ar,au,av,ax,ay,az,aA,aB,aC,aD,aE,aF,aG,aH,aI,aJ,aK,aL,aM,aN,aO,aP,aQ,aR,aS,aT,.bool false,.bool true,.bool true,.int .i64 0,.bool true,x56,x57,x58,x59,x60,x61,x62,x63,bz,bx,bs,bq,bp,bo,bn,bk,bj,bi,bh,bg,bf,bc,aZ,aY,aX,aW,aV,aU],defers := [] } from by kernel_rfl]
  refine wpAnyH_take (i := 5) (oi := ka5) (v := .bool true) (by kernel_rfl) ka_lit (by kernel_rfl) (by kernel_rfl) (fun c a W h => hP c _ _ _ W h) (Or.inl ⟨by kernel_rfl, fun W hW => by kernel_rfl⟩) S0 ?_
  rw [show Act.put _ ka5.dst _ = { tmps := #[.bool false,.pointer (some ⟨bb,0,none⟩),.pointer (some ⟨vb,0,none⟩),x3,.bool false,.int .i64 0,.pointer (some ⟨p6,0,none⟩),.bool true,.pointer (some ⟨p8,0,none⟩),.bool true,aa,ab,ad,ae,af,ag,ah,ai,aj,ak,al,am,ao,ap,aq,ar,au,av,ax,ay,az,aA,aB,aC,aD,aE,aF,aG,aH,aI,aJ,aK,aL,aM,aN,aO,aP,aQ,aR,aS,aT,.bool false,.bool true,.bool true,.int .i64 0,.bool true,.bool true,x57,x58,x59,x60,x61,x62,x63,bz,bx,bs,bq,bp,bo,bn,bk,bj,bi,bh,bg,bf,bc,aZ,aY,aX,aW,aV,aU],defers := [] } from by kernel_rfl]
  refine wpAnyH_take (i := 6) (oi := ka6) (v := .bool true) (by kernel_rfl) ka_lit (by kernel_rfl) (by kernel_rfl) (fun c a W h => hP c _ _ _ W h) (Or.inl ⟨by kernel_rfl, fun W hW => by kernel_rfl⟩) S0 ?_
  rw [show Act.put _ ka6.dst _ = { tmps := #[.bool false,.pointer (some ⟨bb,0,none⟩),.pointer (some ⟨vb,0,none⟩),x3,.bool false,.int .i64 0,.pointer (some ⟨p6,0,none⟩),.bool true,.pointer (some ⟨p8,0,none⟩),.bool true,aa,ab,ad,ae,af,ag,ah,ai,aj,ak,al,am,ao,ap,aq,ar,au,av,ax,ay,az,aA,aB,aC,aD,aE,aF,aG,aH,aI,aJ,aK,aL,aM,aN,aO,aP,aQ,aR,aS,aT,.bool false,.bool true,.bool true,.int .i64 0,.bool true,.bool true,.bool true,x58,x59,x60,x61,x62,x63,bz,bx,bs,bq,bp,bo,bn,bk,bj,bi,bh,bg,bf,bc,aZ,aY,aX,aW,aV,aU],defers := [] } from by kernel_rfl]
  refine wpAnyH_take (i := 7) (oi := ka7) (v := .bool true) (by kernel_rfl) ka_lit (by kernel_rfl) (by kernel_rfl) (fun c a W h => hP c _ _ _ W h) (Or.inl ⟨by kernel_rfl, fun W hW => by kernel_rfl⟩) S0 ?_
  rw [show Act.put _ ka7.dst _ = { tmps := #[.bool false,.pointer (some ⟨bb,0,none⟩),.pointer (some ⟨vb,0,none⟩),x3,.bool false,.int .i64 0,.pointer (some ⟨p6,0,none⟩),.bool true,.pointer (some ⟨p8,0,none⟩),.bool true,aa,ab,ad,ae,af,ag,ah,ai,aj,ak,al,am,ao,ap,aq,ar,au,av,ax,ay,az,aA,aB,aC,aD,aE,aF,aG,aH,aI,aJ,aK,aL,aM,aN,aO,aP,aQ,aR,aS,aT,.bool false,.bool true,.bool true,.int .i64 0,.bool true,.bool true,.bool true,.bool true,x59,x60,x61,x62,x63,bz,bx,bs,bq,bp,bo,bn,bk,bj,bi,bh,bg,bf,bc,aZ,aY,aX,aW,aV,aU],defers := [] } from by kernel_rfl]
  refine wpAnyH_take (i := 8) (oi := ka8) (v := .bool true) (by kernel_rfl) ka_lit (by kernel_rfl) (by kernel_rfl) (fun c a W h => hP c _ _ _ W h) (Or.inl ⟨by kernel_rfl, fun W hW => by kernel_rfl⟩) S0 ?_
  rw [show Act.put _ ka8.dst _ = { tmps := #[.bool false,.pointer (some ⟨bb,0,none⟩),.pointer (some ⟨vb,0,none⟩),x3,.bool false,.int .i64 0,.pointer (some ⟨p6,0,none⟩),.bool true,.pointer (some ⟨p8,0,none⟩),.bool true,aa,ab,ad,ae,af,ag,ah,ai,aj,ak,al,am,ao,ap,aq,ar,au,av,ax,ay,az,aA,aB,aC,aD,aE,aF,aG,aH,aI,aJ,aK,aL,aM,aN,aO,aP,aQ,aR,aS,aT,.bool false,.bool true,.bool true,.int .i64 0,.bool true,.bool true,.bool true,.bool true,.bool true,x60,x61,x62,x63,bz,bx,bs,bq,bp,bo,bn,bk,bj,bi,bh,bg,bf,bc,aZ,aY,aX,aW,aV,aU],defers := [] } from by kernel_rfl]
  refine wpAnyH_take (i := 9) (oi := ka9) (v := .bool true) (by kernel_rfl) ka_lit (by kernel_rfl) (by kernel_rfl) (fun c a W h => hP c _ _ _ W h) (Or.inl ⟨by kernel_rfl, fun W hW => by kernel_rfl⟩) S0 ?_
  rw [show Act.put _ ka9.dst _ = { tmps := #[.bool false,.pointer (some ⟨bb,0,none⟩),.pointer (some ⟨vb,0,none⟩),x3,.bool false,.int .i64 0,.pointer (some ⟨p6,0,none⟩),.bool true,.pointer (some ⟨p8,0,none⟩),.bool true,aa,ab,ad,ae,af,ag,ah,ai,aj,ak,al,am,ao,ap,aq,ar,au,av,ax,ay,az,aA,aB,aC,aD,aE,aF,aG,aH,aI,aJ,aK,aL,aM,aN,aO,aP,aQ,aR,aS,aT,.bool false,.bool true,.bool true,.int .i64 0,.bool true,.bool true,.bool true,.bool true,.bool true,.bool true,x61,x62,x63,bz,bx,bs,bq,bp,bo,bn,bk,bj,bi,bh,bg,bf,bc,aZ,aY,aX,aW,aV,aU],defers := [] } from by kernel_rfl]
  refine wpAnyH_take (i := 10) (oi := ka10) (v := .bool true) (by kernel_rfl) ka_lit (by kernel_rfl) (by kernel_rfl) (fun c a W h => hP c _ _ _ W h) (Or.inl ⟨by kernel_rfl, fun W hW => by kernel_rfl⟩) S0 ?_
  rw [show Act.put _ ka10.dst _ = { tmps := #[.bool false,.pointer (some ⟨bb,0,none⟩),.pointer (some ⟨vb,0,none⟩),x3,.bool false,.int .i64 0,.pointer (some ⟨p6,0,none⟩),.bool true,.pointer (some ⟨p8,0,none⟩),.bool true,aa,ab,ad,ae,af,ag,ah,ai,aj,ak,al,am,ao,ap,aq,ar,au,av,ax,ay,az,aA,aB,aC,aD,aE,aF,aG,aH,aI,aJ,aK,aL,aM,aN,aO,aP,aQ,aR,aS,aT,.bool false,.bool true,.bool true,.int .i64 0,.bool true,.bool true,.bool true,.bool true,.bool true,.bool true,.bool true,x62,x63,bz,bx,bs,bq,bp,bo,bn,bk,bj,bi,bh,bg,bf,bc,aZ,aY,aX,aW,aV,aU],defers := [] } from by kernel_rfl]
  refine wpAnyH_take (i := 11) (oi := ka11) (v := .bool true) (by kernel_rfl) ka_lit (by kernel_rfl) (by kernel_rfl) (fun c a W h => hP c _ _ _ W h) (Or.inl ⟨by kernel_rfl, fun W hW => by kernel_rfl⟩) S0 ?_
  rw [show Act.put _ ka11.dst _ = { tmps := #[.bool false,.pointer (some ⟨bb,0,none⟩),.pointer (some ⟨vb,0,none⟩),x3,.bool false,.int .i64 0,.pointer (some ⟨p6,0,none⟩),.bool true,.pointer (some ⟨p8,0,none⟩),.bool true,aa,ab,ad,ae,af,ag,ah,ai,aj,ak,al,am,ao,ap,aq,ar,au,av,ax,ay,az,aA,aB,aC,aD,aE,aF,aG,aH,aI,aJ,aK,aL,aM,aN,aO,aP,aQ,aR,aS,aT,.bool false,.bool true,.bool true,.int .i64 0,.bool true,.bool true,.bool true,.bool true,.bool true,.bool true,.bool true,.bool true,x63,bz,bx,bs,bq,bp,bo,bn,bk,bj,bi,bh,bg,bf,bc,aZ,aY,aX,aW,aV,aU],defers := [] } from by kernel_rfl]
  refine wpAnyH_take (i := 12) (oi := ka12) (v := .bool true) (by kernel_rfl) ka_lit (by kernel_rfl) (by kernel_rfl) (fun c a W h => hP c _ _ _ W h) (Or.inl ⟨by kernel_rfl, fun W hW => by kernel_rfl⟩) S0 ?_
  rw [show Act.put _ ka12.dst _ = { tmps := #[.bool false,.pointer (some ⟨bb,0,none⟩),.pointer (some ⟨vb,0,none⟩),x3,.bool false,.int .i64 0,.pointer (some ⟨p6,0,none⟩),.bool true,.pointer (some ⟨p8,0,none⟩),.bool true,aa,ab,ad,ae,af,ag,ah,ai,aj,ak,al,am,ao,ap,aq,ar,au,av,ax,ay,az,aA,aB,aC,aD,aE,aF,aG,aH,aI,aJ,aK,aL,aM,aN,aO,aP,aQ,aR,aS,aT,.bool false,.bool true,.bool true,.int .i64 0,.bool true,.bool true,.bool true,.bool true,.bool true,.bool true,.bool true,.bool true,.bool true,bz,bx,bs,bq,bp,bo,bn,bk,bj,bi,bh,bg,bf,bc,aZ,aY,aX,aW,aV,aU],defers := [] } from by kernel_rfl]
  refine wpAnyH_take (i := 13) (oi := ka13) (v := opv (blockO 1) u1) (by kernel_rfl) ka_lit (by kernel_rfl) (by kernel_rfl) (fun c a W h => hP c _ _ _ W h) (Or.inl ⟨by kernel_rfl, fun W hW => run_load_op rfl rfl hW.o1⟩) S0 ?_
  rw [show Act.put _ ka13.dst _ = { tmps := #[.bool false,.pointer (some ⟨bb,0,none⟩),.pointer (some ⟨vb,0,none⟩),x3,.bool false,.int .i64 0,.pointer (some ⟨p6,0,none⟩),.bool true,.pointer (some ⟨p8,0,none⟩),.bool true,aa,ab,ad,ae,af,ag,ah,ai,aj,ak,al,am,ao,ap,aq,ar,au,av,ax,ay,az,aA,aB,aC,aD,aE,aF,aG,aH,aI,aJ,aK,aL,aM,aN,aO,aP,aQ,aR,aS,aT,.bool false,.bool true,.bool true,.int .i64 0,.bool true,.bool true,.bool true,.bool true,.bool true,.bool true,.bool true,.bool true,.bool true,opv (blockO 1) u1,bx,bs,bq,bp,bo,bn,bk,bj,bi,bh,bg,bf,bc,aZ,aY,aX,aW,aV,aU],defers := [] } from by kernel_rfl]
  refine wpAnyH_all (rs := [14]) (by kernel_rfl) (by simp) (fun i hi => ?_)
  obtain rfl := List.mem_singleton.1 hi
  refine hb_callx (o := ka14) (f := 36) (args := #[.int .i64 1]) (D := fun u V => u = opv (blockO 1) (.slice none 0 0) ∧ Below W0.heap.size W0 V) (by kernel_rfl) (by kernel_rfl) (by kernel_rfl) ((block_any 1 _).mono fun e V ⟨h1, h2⟩ => ⟨_, h1, rfl, h2⟩) ?_
  rintro _ W1 ⟨rfl, b⟩
  have S1 := S0.below b
  have BW1 := bt BW0 b
  clear b
  rw [show Act.put _ ka14.dst _ = { tmps := #[.bool false,.pointer (some ⟨bb,0,none⟩),.pointer (some ⟨vb,0,none⟩),x3,.bool false,.int .i64 0,.pointer (some ⟨p6,0,none⟩),.bool true,.pointer (some ⟨p8,0,none⟩),.bool true,aa,ab,ad,ae,af,ag,ah,ai,aj,ak,al,am,ao,ap,aq,ar,au,av,ax,ay,az,aA,aB,aC,aD,aE,aF,aG,aH,aI,aJ,aK,aL,aM,aN,aO,aP,aQ,aR,aS,aT,.bool false,.bool true,.bool true,.int .i64 0,.bool true,.bool true,.bool true,.bool true,.bool true,.bool true,.bool true,.bool true,.bool true,opv (blockO 1) u1,opv (blockO 1) (.slice none 0 0),bs,bq,bp,bo,bn,bk,bj,bi,bh,bg,bf,bc,aZ,aY,aX,aW,aV,aU],defers := [] } from by kernel_rfl]
  refine ⟨S1, ?_⟩
  refine wpAnyH_all (rs := [15]) (by kernel_rfl) (by simp) (fun i hi => ?_)
  obtain rfl := List.mem_singleton.1 hi
  refine hb_callx (o := ka15) (f := 16) (args := #[opv (blockO 1) u1,opv (blockO 1) (.slice none 0 0)]) (D := fun u V => u = .bool true ∧ Below W1.heap.size W1 V) (by kernel_rfl) (by kernel_rfl) (by kernel_rfl) ((sameop_any (blockO 1) (blockO 1) u1 (.slice none 0 0) _ S1.c1 (Cs.nil _)).mono fun e V ⟨r,h1,h2,h3⟩ => ⟨_,h1,by rw [h2.2 rfl],h3⟩) ?_
  rintro _ W2 ⟨rfl, b⟩
  have S2 := S1.below b
  have BW2 := bt BW1 b
  clear b
  rw [show Act.put _ ka15.dst _ = { tmps := #[.bool false,.pointer (some ⟨bb,0,none⟩),.pointer (some ⟨vb,0,none⟩),x3,.bool false,.int .i64 0,.pointer (some ⟨p6,0,none⟩),.bool true,.pointer (some ⟨p8,0,none⟩),.bool true,aa,ab,ad,ae,af,ag,ah,ai,aj,ak,al,am,ao,ap,aq,ar,au,av,ax,ay,az,aA,aB,aC,aD,aE,aF,aG,aH,aI,aJ,aK,aL,aM,aN,aO,aP,aQ,aR,aS,aT,.bool false,.bool true,.bool true,.int .i64 0,.bool true,.bool true,.bool true,.bool true,.bool true,.bool true,.bool true,.bool true,.bool true,opv (blockO 1) u1,opv (blockO 1) (.slice none 0 0),.bool true,bq,bp,bo,bn,bk,bj,bi,bh,bg,bf,bc,aZ,aY,aX,aW,aV,aU],defers := [] } from by kernel_rfl]
  refine ⟨S2, ?_⟩
  refine wpAnyH_take (i := 16) (oi := ka16) (v := .bool true) (by kernel_rfl) ka_lit (by kernel_rfl) (by kernel_rfl) (fun c a W h => hP c _ _ _ W h) (Or.inl ⟨by kernel_rfl, fun W hW => by kernel_rfl⟩) S2 ?_
  rw [show Act.put _ ka16.dst _ = { tmps := #[.bool false,.pointer (some ⟨bb,0,none⟩),.pointer (some ⟨vb,0,none⟩),x3,.bool false,.int .i64 0,.pointer (some ⟨p6,0,none⟩),.bool true,.pointer (some ⟨p8,0,none⟩),.bool true,aa,ab,ad,ae,af,ag,ah,ai,aj,ak,al,am,ao,ap,aq,ar,au,av,ax,ay,az,aA,aB,aC,aD,aE,aF,aG,aH,aI,aJ,aK,aL,aM,aN,aO,aP,aQ,aR,aS,aT,.bool false,.bool true,.bool true,.int .i64 0,.bool true,.bool true,.bool true,.bool true,.bool true,.bool true,.bool true,.bool true,.bool true,opv (blockO 1) u1,opv (blockO 1) (.slice none 0 0),.bool true,.bool true,bp,bo,bn,bk,bj,bi,bh,bg,bf,bc,aZ,aY,aX,aW,aV,aU],defers := [] } from by kernel_rfl]
  refine wpAnyH_take (i := 17) (oi := ka17) (v := .bool true) (by kernel_rfl) ka_lit (by kernel_rfl) (by kernel_rfl) (fun c a W h => hP c _ _ _ W h) (Or.inl ⟨by kernel_rfl, fun W hW => by kernel_rfl⟩) S2 ?_
  rw [show Act.put _ ka17.dst _ = { tmps := #[.bool false,.pointer (some ⟨bb,0,none⟩),.pointer (some ⟨vb,0,none⟩),x3,.bool false,.int .i64 0,.pointer (some ⟨p6,0,none⟩),.bool true,.pointer (some ⟨p8,0,none⟩),.bool true,aa,ab,ad,ae,af,ag,ah,ai,aj,ak,al,am,ao,ap,aq,ar,au,av,ax,ay,az,aA,aB,aC,aD,aE,aF,aG,aH,aI,aJ,aK,aL,aM,aN,aO,aP,aQ,aR,aS,aT,.bool false,.bool true,.bool true,.int .i64 0,.bool true,.bool true,.bool true,.bool true,.bool true,.bool true,.bool true,.bool true,.bool true,opv (blockO 1) u1,opv (blockO 1) (.slice none 0 0),.bool true,.bool true,.bool true,bo,bn,bk,bj,bi,bh,bg,bf,bc,aZ,aY,aX,aW,aV,aU],defers := [] } from by kernel_rfl]
  refine wpAnyH_take (i := 18) (oi := ka18) (v := opv (blockO 2) u2) (by kernel_rfl) ka_lit (by kernel_rfl) (by kernel_rfl) (fun c a W h => hP c _ _ _ W h) (Or.inl ⟨by kernel_rfl, fun W hW => run_load_op rfl rfl hW.o2⟩) S2 ?_
  rw [show Act.put _ ka18.dst _ = { tmps := #[.bool false,.pointer (some ⟨bb,0,none⟩),.pointer (some ⟨vb,0,none⟩),x3,.bool false,.int .i64 0,.pointer (some ⟨p6,0,none⟩),.bool true,.pointer (some ⟨p8,0,none⟩),.bool true,aa,ab,ad,ae,af,ag,ah,ai,aj,ak,al,am,ao,ap,aq,ar,au,av,ax,ay,az,aA,aB,aC,aD,aE,aF,aG,aH,aI,aJ,aK,aL,aM,aN,aO,aP,aQ,aR,aS,aT,.bool false,.bool true,.bool true,.int .i64 0,.bool true,.bool true,.bool true,.bool true,.bool true,.bool true,.bool true,.bool true,.bool true,opv (blockO 1) u1,opv (blockO 1) (.slice none 0 0),.bool true,.bool true,.bool true,opv (blockO 2) u2,bn,bk,bj,bi,bh,bg,bf,bc,aZ,aY,aX,aW,aV,aU],defers := [] } from by kernel_rfl]
  refine wpAnyH_all (rs := [19]) (by kernel_rfl) (by simp) (fun i hi => ?_)
  obtain rfl := List.mem_singleton.1 hi
  refine hb_callx (o := ka19) (f := 36) (args := #[.int .i64 2]) (D := fun u V => u = opv (blockO 2) (.slice none 0 0) ∧ Below W2.heap.size W2 V) (by kernel_rfl) (by kernel_rfl) (by kernel_rfl) ((block_any 2 _).mono fun e V ⟨h1, h2⟩ => ⟨_, h1, rfl, h2⟩) ?_
  rintro _ W3 ⟨rfl, b⟩
  have S3 := S2.below b
  have BW3 := bt BW2 b
  clear b
  rw [show Act.put _ ka19.dst _ = { tmps := #[.bool false,.pointer (some ⟨bb,0,none⟩),.pointer (some ⟨vb,0,none⟩),x3,.bool false,.int .i64 0,.pointer (some ⟨p6,0,none⟩),.bool true,.pointer (some ⟨p8,0,none⟩),.bool true,aa,ab,ad,ae,af,ag,ah,ai,aj,ak,al,am,ao,ap,aq,ar,au,av,ax,ay,az,aA,aB,aC,aD,aE,aF,aG,aH,aI,aJ,aK,aL,aM,aN,aO,aP,aQ,aR,aS,aT,.bool false,.bool true,.bool true,.int .i64 0,.bool true,.bool true,.bool true,.bool true,.bool true,.bool true,.bool true,.bool true,.bool true,opv (blockO 1) u1,opv (blockO 1) (.slice none 0 0),.bool true,.bool true,.bool true,opv (blockO 2) u2,opv (blockO 2) (.slice none 0 0),bk,bj,bi,bh,bg,bf,bc,aZ,aY,aX,aW,aV,aU],defers := [] } from by kernel_rfl]
  refine ⟨S3, ?_⟩
  refine wpAnyH_all (rs := [20]) (by kernel_rfl) (by simp) (fun i hi => ?_)
  obtain rfl := List.mem_singleton.1 hi
  refine hb_callx (o := ka20) (f := 16) (args := #[opv (blockO 2) u2,opv (blockO 2) (.slice none 0 0)]) (D := fun u V => u = .bool true ∧ Below W3.heap.size W3 V) (by kernel_rfl) (by kernel_rfl) (by kernel_rfl) ((sameop_any (blockO 2) (blockO 2) u2 (.slice none 0 0) _ S3.c2 (Cs.nil _)).mono fun e V ⟨r,h1,h2,h3⟩ => ⟨_,h1,by rw [h2.2 rfl],h3⟩) ?_
  rintro _ W4 ⟨rfl, b⟩
  have S4 := S3.below b
  have BW4 := bt BW3 b
  clear b
  rw [show Act.put _ ka20.dst _ = { tmps := #[.bool false,.pointer (some ⟨bb,0,none⟩),.pointer (some ⟨vb,0,none⟩),x3,.bool false,.int .i64 0,.pointer (some ⟨p6,0,none⟩),.bool true,.pointer (some ⟨p8,0,none⟩),.bool true,aa,ab,ad,ae,af,ag,ah,ai,aj,ak,al,am,ao,ap,aq,ar,au,av,ax,ay,az,aA,aB,aC,aD,aE,aF,aG,aH,aI,aJ,aK,aL,aM,aN,aO,aP,aQ,aR,aS,aT,.bool false,.bool true,.bool true,.int .i64 0,.bool true,.bool true,.bool true,.bool true,.bool true,.bool true,.bool true,.bool true,.bool true,opv (blockO 1) u1,opv (blockO 1) (.slice none 0 0),.bool true,.bool true,.bool true,opv (blockO 2) u2,opv (blockO 2) (.slice none 0 0),.bool true,bj,bi,bh,bg,bf,bc,aZ,aY,aX,aW,aV,aU],defers := [] } from by kernel_rfl]
  refine ⟨S4, ?_⟩
  refine wpAnyH_take (i := 21) (oi := ka21) (v := .bool true) (by kernel_rfl) ka_lit (by kernel_rfl) (by kernel_rfl) (fun c a W h => hP c _ _ _ W h) (Or.inl ⟨by kernel_rfl, fun W hW => by kernel_rfl⟩) S4 ?_
  rw [show Act.put _ ka21.dst _ = { tmps := #[.bool false,.pointer (some ⟨bb,0,none⟩),.pointer (some ⟨vb,0,none⟩),x3,.bool false,.int .i64 0,.pointer (some ⟨p6,0,none⟩),.bool true,.pointer (some ⟨p8,0,none⟩),.bool true,aa,ab,ad,ae,af,ag,ah,ai,aj,ak,al,am,ao,ap,aq,ar,au,av,ax,ay,az,aA,aB,aC,aD,aE,aF,aG,aH,aI,aJ,aK,aL,aM,aN,aO,aP,aQ,aR,aS,aT,.bool false,.bool true,.bool true,.int .i64 0,.bool true,.bool true,.bool true,.bool true,.bool true,.bool true,.bool true,.bool true,.bool true,opv (blockO 1) u1,opv (blockO 1) (.slice none 0 0),.bool true,.bool true,.bool true,opv (blockO 2) u2,opv (blockO 2) (.slice none 0 0),.bool true,.bool true,bi,bh,bg,bf,bc,aZ,aY,aX,aW,aV,aU],defers := [] } from by kernel_rfl]
  refine wpAnyH_take (i := 22) (oi := ka22) (v := .bool true) (by kernel_rfl) ka_lit (by kernel_rfl) (by kernel_rfl) (fun c a W h => hP c _ _ _ W h) (Or.inl ⟨by kernel_rfl, fun W hW => by kernel_rfl⟩) S4 ?_
  rw [show Act.put _ ka22.dst _ = { tmps := #[.bool false,.pointer (some ⟨bb,0,none⟩),.pointer (some ⟨vb,0,none⟩),x3,.bool false,.int .i64 0,.pointer (some ⟨p6,0,none⟩),.bool true,.pointer (some ⟨p8,0,none⟩),.bool true,aa,ab,ad,ae,af,ag,ah,ai,aj,ak,al,am,ao,ap,aq,ar,au,av,ax,ay,az,aA,aB,aC,aD,aE,aF,aG,aH,aI,aJ,aK,aL,aM,aN,aO,aP,aQ,aR,aS,aT,.bool false,.bool true,.bool true,.int .i64 0,.bool true,.bool true,.bool true,.bool true,.bool true,.bool true,.bool true,.bool true,.bool true,opv (blockO 1) u1,opv (blockO 1) (.slice none 0 0),.bool true,.bool true,.bool true,opv (blockO 2) u2,opv (blockO 2) (.slice none 0 0),.bool true,.bool true,.bool true,bh,bg,bf,bc,aZ,aY,aX,aW,aV,aU],defers := [] } from by kernel_rfl]
  refine wpAnyH_take (i := 23) (oi := ka23) (v := .pointer (some ⟨bb, 0, none⟩)) (by kernel_rfl) ka_lit (by kernel_rfl) (by kernel_rfl) (fun c a W h => hP c _ _ _ W h) (Or.inl ⟨by kernel_rfl, fun W hW => by kernel_rfl⟩) S4 ?_
  rw [show Act.put _ ka23.dst _ = { tmps := #[.bool false,.pointer (some ⟨bb,0,none⟩),.pointer (some ⟨vb,0,none⟩),x3,.bool false,.int .i64 0,.pointer (some ⟨p6,0,none⟩),.bool true,.pointer (some ⟨p8,0,none⟩),.bool true,aa,ab,ad,ae,af,ag,ah,ai,aj,ak,al,am,ao,ap,aq,ar,au,av,ax,ay,az,aA,aB,aC,aD,aE,aF,aG,aH,aI,aJ,aK,aL,aM,aN,aO,aP,aQ,aR,aS,aT,.bool false,.bool true,.bool true,.int .i64 0,.bool true,.bool true,.bool true,.bool true,.bool true,.bool true,.bool true,.bool true,.bool true,opv (blockO 1) u1,opv (blockO 1) (.slice none 0 0),.bool true,.bool true,.bool true,opv (blockO 2) u2,opv (blockO 2) (.slice none 0 0),.bool true,.bool true,.bool true,.pointer (some ⟨bb,0,none⟩),bg,bf,bc,aZ,aY,aX,aW,aV,aU],defers := [] } from by kernel_rfl]
  refine wpAnyH_all (rs := [24]) (by kernel_rfl) (by simp) (fun i hi => ?_)
  obtain rfl := List.mem_singleton.1 hi
  refine hb_callx (o := ka24) (f := 23) (args := #[.pointer (some ⟨bb, 0, none⟩)]) (D := fun u V => u = .int .i64 0 ∧ Below W4.heap.size W4 V) (by kernel_rfl) (by kernel_rfl) (by kernel_rfl) ((ccount_any S4.sx.bu).mono fun e V ⟨h1, h2⟩ => ⟨_, h1, rfl, h2 ▸ Below.refl _ _⟩) ?_
  rintro _ W5 ⟨rfl, b⟩
  have S5 := S4.below b
  have BW5 := bt BW4 b
  clear b
  rw [show Act.put _ ka24.dst _ = { tmps := #[.bool false,.pointer (some ⟨bb,0,none⟩),.pointer (some ⟨vb,0,none⟩),x3,.bool false,.int .i64 0,.pointer (some ⟨p6,0,none⟩),.bool true,.pointer (some ⟨p8,0,none⟩),.bool true,aa,ab,ad,ae,af,ag,ah,ai,aj,ak,al,am,ao,ap,aq,ar,au,av,ax,ay,az,aA,aB,aC,aD,aE,aF,aG,aH,aI,aJ,aK,aL,aM,aN,aO,aP,aQ,aR,aS,aT,.bool false,.bool true,.bool true,.int .i64 0,.bool true,.bool true,.bool true,.bool true,.bool true,.bool true,.bool true,.bool true,.bool true,opv (blockO 1) u1,opv (blockO 1) (.slice none 0 0),.bool true,.bool true,.bool true,opv (blockO 2) u2,opv (blockO 2) (.slice none 0 0),.bool true,.bool true,.bool true,.pointer (some ⟨bb,0,none⟩),.int .i64 0,bf,bc,aZ,aY,aX,aW,aV,aU],defers := [] } from by kernel_rfl]
  refine ⟨S5, ?_⟩
  refine wpAnyH_take (i := 25) (oi := ka25) (v := .bool true) (by kernel_rfl) ka_lit (by kernel_rfl) (by kernel_rfl) (fun c a W h => hP c _ _ _ W h) (Or.inl ⟨by kernel_rfl, fun W hW => by kernel_rfl⟩) S5 ?_
  rw [show Act.put _ ka25.dst _ = { tmps := #[.bool false,.pointer (some ⟨bb,0,none⟩),.pointer (some ⟨vb,0,none⟩),x3,.bool false,.int .i64 0,.pointer (some ⟨p6,0,none⟩),.bool true,.pointer (some ⟨p8,0,none⟩),.bool true,aa,ab,ad,ae,af,ag,ah,ai,aj,ak,al,am,ao,ap,aq,ar,au,av,ax,ay,az,aA,aB,aC,aD,aE,aF,aG,aH,aI,aJ,aK,aL,aM,aN,aO,aP,aQ,aR,aS,aT,.bool false,.bool true,.bool true,.int .i64 0,.bool true,.bool true,.bool true,.bool true,.bool true,.bool true,.bool true,.bool true,.bool true,opv (blockO 1) u1,opv (blockO 1) (.slice none 0 0),.bool true,.bool true,.bool true,opv (blockO 2) u2,opv (blockO 2) (.slice none 0 0),.bool true,.bool true,.bool true,.pointer (some ⟨bb,0,none⟩),.int .i64 0,.bool true,bc,aZ,aY,aX,aW,aV,aU],defers := [] } from by kernel_rfl]
  refine wpAnyH_take (i := 26) (oi := ka26) (v := .bool true) (by kernel_rfl) ka_lit (by kernel_rfl) (by kernel_rfl) (fun c a W h => hP c _ _ _ W h) (Or.inl ⟨by kernel_rfl, fun W hW => by kernel_rfl⟩) S5 ?_
  rw [show Act.put _ ka26.dst _ = { tmps := #[.bool false,.pointer (some ⟨bb,0,none⟩),.pointer (some ⟨vb,0,none⟩),x3,.bool false,.int .i64 0,.pointer (some ⟨p6,0,none⟩),.bool true,.pointer (some ⟨p8,0,none⟩),.bool true,aa,ab,ad,ae,af,ag,ah,ai,aj,ak,al,am,ao,ap,aq,ar,au,av,ax,ay,az,aA,aB,aC,aD,aE,aF,aG,aH,aI,aJ,aK,aL,aM,aN,aO,aP,aQ,aR,aS,aT,.bool false,.bool true,.bool true,.int .i64 0,.bool true,.bool true,.bool true,.bool true,.bool true,.bool true,.bool true,.bool true,.bool true,opv (blockO 1) u1,opv (blockO 1) (.slice none 0 0),.bool true,.bool true,.bool true,opv (blockO 2) u2,opv (blockO 2) (.slice none 0 0),.bool true,.bool true,.bool true,.pointer (some ⟨bb,0,none⟩),.int .i64 0,.bool true,.bool true,aZ,aY,aX,aW,aV,aU],defers := [] } from by kernel_rfl]
  refine wpAnyH_take (i := 27) (oi := ka27) (v := .bool true) (by kernel_rfl) ka_lit (by kernel_rfl) (by kernel_rfl) (fun c a W h => hP c _ _ _ W h) (Or.inl ⟨by kernel_rfl, fun W hW => by kernel_rfl⟩) S5 ?_
  rw [show Act.put _ ka27.dst _ = { tmps := #[.bool false,.pointer (some ⟨bb,0,none⟩),.pointer (some ⟨vb,0,none⟩),x3,.bool false,.int .i64 0,.pointer (some ⟨p6,0,none⟩),.bool true,.pointer (some ⟨p8,0,none⟩),.bool true,aa,ab,ad,ae,af,ag,ah,ai,aj,ak,al,am,ao,ap,aq,ar,au,av,ax,ay,az,aA,aB,aC,aD,aE,aF,aG,aH,aI,aJ,aK,aL,aM,aN,aO,aP,aQ,aR,aS,aT,.bool false,.bool true,.bool true,.int .i64 0,.bool true,.bool true,.bool true,.bool true,.bool true,.bool true,.bool true,.bool true,.bool true,opv (blockO 1) u1,opv (blockO 1) (.slice none 0 0),.bool true,.bool true,.bool true,opv (blockO 2) u2,opv (blockO 2) (.slice none 0 0),.bool true,.bool true,.bool true,.pointer (some ⟨bb,0,none⟩),.int .i64 0,.bool true,.bool true,.bool true,aY,aX,aW,aV,aU],defers := [] } from by kernel_rfl]
  refine wpAnyH_take (i := 28) (oi := ka28) (v := .pointer (some ⟨vb, 0, none⟩)) (by kernel_rfl) ka_lit (by kernel_rfl) (by kernel_rfl) (fun c a W h => hP c _ _ _ W h) (Or.inl ⟨by kernel_rfl, fun W hW => by kernel_rfl⟩) S5 ?_
  rw [show Act.put _ ka28.dst _ = { tmps := #[.bool false,.pointer (some ⟨bb,0,none⟩),.pointer (some ⟨vb,0,none⟩),x3,.bool false,.int .i64 0,.pointer (some ⟨p6,0,none⟩),.bool true,.pointer (some ⟨p8,0,none⟩),.bool true,aa,ab,ad,ae,af,ag,ah,ai,aj,ak,al,am,ao,ap,aq,ar,au,av,ax,ay,az,aA,aB,aC,aD,aE,aF,aG,aH,aI,aJ,aK,aL,aM,aN,aO,aP,aQ,aR,aS,aT,.bool false,.bool true,.bool true,.int .i64 0,.bool true,.bool true,.bool true,.bool true,.bool true,.bool true,.bool true,.bool true,.bool true,opv (blockO 1) u1,opv (blockO 1) (.slice none 0 0),.bool true,.bool true,.bool true,opv (blockO 2) u2,opv (blockO 2) (.slice none 0 0),.bool true,.bool true,.bool true,.pointer (some ⟨bb,0,none⟩),.int .i64 0,.bool true,.bool true,.bool true,.pointer (some ⟨vb,0,none⟩),aX,aW,aV,aU],defers := [] } from by kernel_rfl]
  refine wpAnyH_all (rs := [29]) (by kernel_rfl) (by simp) (fun i hi => ?_)
  obtain rfl := List.mem_singleton.1 hi
  refine hb_callx (o := ka29) (f := 36) (args := #[.int .i64 3]) (D := fun u V => u = opv (blockO 3) (.slice none 0 0) ∧ Below W5.heap.size W5 V) (by kernel_rfl) (by kernel_rfl) (by kernel_rfl) ((block_any 3 _).mono fun e V ⟨h1, h2⟩ => ⟨_, h1, rfl, h2⟩) ?_
  rintro _ W6 ⟨rfl, b⟩
  have S6 := S5.below b
  have BW6 := bt BW5 b
  clear b
  rw [show Act.put _ ka29.dst _ = { tmps := #[.bool false,.pointer (some ⟨bb,0,none⟩),.pointer (some ⟨vb,0,none⟩),x3,.bool false,.int .i64 0,.pointer (some ⟨p6,0,none⟩),.bool true,.pointer (some ⟨p8,0,none⟩),.bool true,aa,ab,ad,ae,af,ag,ah,ai,aj,ak,al,am,ao,ap,aq,ar,au,av,ax,ay,az,aA,aB,aC,aD,aE,aF,aG,aH,aI,aJ,aK,aL,aM,aN,aO,aP,aQ,aR,aS,aT,.bool false,.bool true,.bool true,.int .i64 0,.bool true,.bool true,.bool true,.bool true,.bool true,.bool true,.bool true,.bool true,.bool true,opv (blockO 1) u1,opv (blockO 1) (.slice none 0 0),.bool true,.bool true,.bool true,opv (blockO 2) u2,opv (blockO 2) (.slice none 0 0),.bool true,.bool true,.bool true,.pointer (some ⟨bb,0,none⟩),.int .i64 0,.bool true,.bool true,.bool true,.pointer (some ⟨vb,0,none⟩),opv (blockO 3) (.slice none 0 0),aW,aV,aU],defers := [] } from by kernel_rfl]
  refine ⟨S6, ?_⟩
  refine wpAnyH_all (rs := [30]) (by kernel_rfl) (by simp) (fun i hi => ?_)
  obtain rfl := List.mem_singleton.1 hi
  refine hb_callx (o := ka30) (f := 12) (args := #[.pointer (some ⟨vb,0,none⟩),opv (blockO 3) (.slice none 0 0)]) (D := fun u V => u = .bool false ∧ Below W6.heap.size W6 V) (by kernel_rfl) (by kernel_rfl) (by kernel_rfl) ((cready_any vb X (blockO 3) (.slice none 0 0) _ S6.sx.lay S6.sx.vc (Cs.nil _) ⟨by decide,by decide⟩ (by decide)).mono fun e V ⟨h1,h2⟩ => ⟨_,h1,by rw [h3],h2⟩) ?_
  rintro _ W7 ⟨rfl, b⟩
  have S7 := S6.below b
  have BW7 := bt BW6 b
  clear b
  rw [show Act.put _ ka30.dst _ = { tmps := #[.bool false,.pointer (some ⟨bb,0,none⟩),.pointer (some ⟨vb,0,none⟩),x3,.bool false,.int .i64 0,.pointer (some ⟨p6,0,none⟩),.bool true,.pointer (some ⟨p8,0,none⟩),.bool true,aa,ab,ad,ae,af,ag,ah,ai,aj,ak,al,am,ao,ap,aq,ar,au,av,ax,ay,az,aA,aB,aC,aD,aE,aF,aG,aH,aI,aJ,aK,aL,aM,aN,aO,aP,aQ,aR,aS,aT,.bool false,.bool true,.bool true,.int .i64 0,.bool true,.bool true,.bool true,.bool true,.bool true,.bool true,.bool true,.bool true,.bool true,opv (blockO 1) u1,opv (blockO 1) (.slice none 0 0),.bool true,.bool true,.bool true,opv (blockO 2) u2,opv (blockO 2) (.slice none 0 0),.bool true,.bool true,.bool true,.pointer (some ⟨bb,0,none⟩),.int .i64 0,.bool true,.bool true,.bool true,.pointer (some ⟨vb,0,none⟩),opv (blockO 3) (.slice none 0 0),.bool false,aV,aU],defers := [] } from by kernel_rfl]
  refine ⟨S7, ?_⟩
  refine wpAnyH_take (i := 31) (oi := ka31) (v := .bool true) (by kernel_rfl) ka_lit (by kernel_rfl) (by kernel_rfl) (fun c a W h => hP c _ _ _ W h) (Or.inl ⟨by kernel_rfl, fun W hW => by kernel_rfl⟩) S7 ?_
  rw [show Act.put _ ka31.dst _ = { tmps := #[.bool false,.pointer (some ⟨bb,0,none⟩),.pointer (some ⟨vb,0,none⟩),x3,.bool false,.int .i64 0,.pointer (some ⟨p6,0,none⟩),.bool true,.pointer (some ⟨p8,0,none⟩),.bool true,aa,ab,ad,ae,af,ag,ah,ai,aj,ak,al,am,ao,ap,aq,ar,au,av,ax,ay,az,aA,aB,aC,aD,aE,aF,aG,aH,aI,aJ,aK,aL,aM,aN,aO,aP,aQ,aR,aS,aT,.bool false,.bool true,.bool true,.int .i64 0,.bool true,.bool true,.bool true,.bool true,.bool true,.bool true,.bool true,.bool true,.bool true,opv (blockO 1) u1,opv (blockO 1) (.slice none 0 0),.bool true,.bool true,.bool true,opv (blockO 2) u2,opv (blockO 2) (.slice none 0 0),.bool true,.bool true,.bool true,.pointer (some ⟨bb,0,none⟩),.int .i64 0,.bool true,.bool true,.bool true,.pointer (some ⟨vb,0,none⟩),opv (blockO 3) (.slice none 0 0),.bool false,.bool true,aU],defers := [] } from by kernel_rfl]
  refine wpAnyH_take (i := 32) (oi := ka32) (v := .bool true) (by kernel_rfl) ka_lit (by kernel_rfl) (by kernel_rfl) (fun c a W h => hP c _ _ _ W h) (Or.inl ⟨by kernel_rfl, fun W hW => by kernel_rfl⟩) S7 ?_
  rw [show Act.put _ ka32.dst _ = { tmps := #[.bool false,.pointer (some ⟨bb,0,none⟩),.pointer (some ⟨vb,0,none⟩),x3,.bool false,.int .i64 0,.pointer (some ⟨p6,0,none⟩),.bool true,.pointer (some ⟨p8,0,none⟩),.bool true,aa,ab,ad,ae,af,ag,ah,ai,aj,ak,al,am,ao,ap,aq,ar,au,av,ax,ay,az,aA,aB,aC,aD,aE,aF,aG,aH,aI,aJ,aK,aL,aM,aN,aO,aP,aQ,aR,aS,aT,.bool false,.bool true,.bool true,.int .i64 0,.bool true,.bool true,.bool true,.bool true,.bool true,.bool true,.bool true,.bool true,.bool true,opv (blockO 1) u1,opv (blockO 1) (.slice none 0 0),.bool true,.bool true,.bool true,opv (blockO 2) u2,opv (blockO 2) (.slice none 0 0),.bool true,.bool true,.bool true,.pointer (some ⟨bb,0,none⟩),.int .i64 0,.bool true,.bool true,.bool true,.pointer (some ⟨vb,0,none⟩),opv (blockO 3) (.slice none 0 0),.bool false,.bool true,.bool true],defers := [] } from by kernel_rfl]
  refine wpAnyH_take (i := 33) (oi := ka33) (v := .bool true) (by kernel_rfl) ka_lit (by kernel_rfl) (by kernel_rfl) (fun c a W h => hP c _ _ _ W h) (Or.inl ⟨by kernel_rfl, fun W hW => by kernel_rfl⟩) S7 ?_
  rw [show Act.put _ ka33.dst _ = { tmps := #[.bool true,.pointer (some ⟨bb,0,none⟩),.pointer (some ⟨vb,0,none⟩),x3,.bool false,.int .i64 0,.pointer (some ⟨p6,0,none⟩),.bool true,.pointer (some ⟨p8,0,none⟩),.bool true,aa,ab,ad,ae,af,ag,ah,ai,aj,ak,al,am,ao,ap,aq,ar,au,av,ax,ay,az,aA,aB,aC,aD,aE,aF,aG,aH,aI,aJ,aK,aL,aM,aN,aO,aP,aQ,aR,aS,aT,.bool false,.bool true,.bool true,.int .i64 0,.bool true,.bool true,.bool true,.bool true,.bool true,.bool true,.bool true,.bool true,.bool true,opv (blockO 1) u1,opv (blockO 1) (.slice none 0 0),.bool true,.bool true,.bool true,opv (blockO 2) u2,opv (blockO 2) (.slice none 0 0),.bool true,.bool true,.bool true,.pointer (some ⟨bb,0,none⟩),.int .i64 0,.bool true,.bool true,.bool true,.pointer (some ⟨vb,0,none⟩),opv (blockO 3) (.slice none 0 0),.bool false,.bool true,.bool true],defers := [] } from by kernel_rfl]
  exact wpAnyH_done (by kernel_rfl) (hQ _ BW7) _

end Go.Proofs.YtaojeanoojnknaaDoor

/-
  What the law's alive answers is proved here.
-/
namespace Go.Proofs.YtaojeanoojnknaaDoor
open Go.RowKit
set_option linter.unusedVariables false
set_option maxRecDepth 100000

def kv1 : List Int := putV v0 0 1
theorem kv_def : putV v0 (blockO 1).ir (blockO 1).im = kv1 := rfl
theorem kal1 : offC v0 [] (blockO 2) = 0 := by kernel_rfl
theorem kal2 : offL v0 [] (blockO 2) = [blockO 2] := by kernel_rfl
theorem kal3 : takO v0 [blockO 2] = none := by kernel_rfl
theorem kal4 : takL v0 [blockO 2] = [blockO 2] := by kernel_rfl
theorem kal5 : offC v0 [blockO 2] (blockO 1) = 0 := by kernel_rfl
theorem kal6 : offL v0 [blockO 2] (blockO 1) = [blockO 1, blockO 2] := by kernel_rfl
theorem kal7 : takO v0 [blockO 1, blockO 2] = some (blockO 1) := by kernel_rfl
theorem kal8 : takL v0 [blockO 1, blockO 2] = [blockO 2] := by kernel_rfl
theorem kal9 : takO kv1 [blockO 2] = some (blockO 2) := by kernel_rfl
theorem kal10 : takL kv1 [blockO 2] = [] := by kernel_rfl
theorem kal11 : readyO kv1 (blockO 3) = false := by kernel_rfl
theorem block_fine (n : Int) : (blockO n).fine := ⟨show (⟨#[97]⟩ : ByteArray).size ≤ 1099511627776 by decide, show (⟨#[]⟩ : ByteArray).size ≤ 1099511627776 by decide⟩

theorem Cs.nil_any {w w' : World} {v : Value} {n : Int} (h : Cs w v (blockO n).cuts) : Cs w' v (blockO n).cuts := Cs.none h

set_option maxHeartbeats 4000000 in
theorem calive_any (w : World) (hL : Lay w) : Calls Tryd.prog 7 #[] w fun e w' => e = .returned (.bool true) ∧ Below w.heap.size w w' := by
  have HL := hid hL
  clear hL
  go_enter Tryd.func7, Tryd.ntmps7
  go_wp2_with fail
  refine (cnew_any w (lay_two HL.out)).mono ?_
  rintro e w1 ⟨bb, mb, rfl, hu1, hlo, hb1⟩
  have HU1 := hid hu1
  have HLO := hid hlo
  have B1 := hid hb1
  clear hu1 hlo hb1
  go_wp2_with fail
  refine (new_any w1).mono ?_
  rintro e w2 ⟨rfl, hv2, hb2⟩
  obtain ⟨N, hN⟩ : ∃ N, w2.heap.size = N := ⟨_, rfl⟩
  obtain ⟨vb, hvb⟩ : ∃ vb, w1.heap.size = vb := ⟨_, rfl⟩
  have hs2 := sx_new HL.out HU1.out HLO.out B1.out hv2 hb2
  rw [hN, hvb] at hs2
  rw [hvb]
  have HS2 := hid hs2
  clear hs2 hv2 hb2 hN hvb HU1 HLO B1
  go_wp2_with fail
  refine (block_any 2 w2).mono ?_
  rintro e w3 ⟨rfl, b3⟩
  have HS3 := hid (HS2.out.below b3)
  clear b3 HS2
  go_wp2_with fail
  refine (offer_any (blockO 2) (.slice none 0 0) w3 HS3.out.bu HS3.out.vc HS3.out.lay (Cs.nil _) (block_fine 2) (by decide) HS3.out.le (by decide)).mono ?_
  rintro e w4 ⟨rfl, hu4, hf4⟩
  rw [kal1]
  rw [kal2] at hu4
  have HS4 := hid (HS3.out.mfr hu4 hf4)
  clear hu4 hf4 HS3
  go_wp2_with fail
  refine (ctake_any w4 HS4.out.bu HS4.out.vc HS4.out.lay HS4.out.le (by decide)).mono ?_
  rintro e w5 ht5
  obtain ⟨q5, u5, b5, rfl, _, htk, hz, hs5⟩ := HS4.out.took ht5
  rw [kal3] at htk
  obtain rfl : b5 = false := by cases b5 <;> simp at htk ⊢
  obtain ⟨rfl, rfl⟩ := hz rfl
  rw [kal4] at hs5
  have HS5 := hid hs5
  clear ht5 htk hz hs5 HS4
  go_wp2_with (first | (refine wpList_al_op rfl rfl ?_; intro w6 ho6 hb6 hl6; have HO6 := hid ho6; have B6 := hid hb6; clear ho6 hb6 hl6) | (refine wpList_st_op rfl rfl rfl rfl ⟨_, _, _, rfl⟩ HO6.out ?_; intro w7 ho7 hf7; have HF7 := hid hf7; clear ho7 hf7) | fail)
  have HS7 := hid (HS5.out.below (below_fr B6.out HF7.out (Nat.le_refl _)))
  clear HS5 B6 HF7 HO6
  refine (block_any 1 w7).mono ?_
  rintro e w8 ⟨rfl, b8⟩
  have HS8 := hid (HS7.out.below b8)
  clear b8 HS7
  go_wp2_with fail
  refine (offer_any (blockO 1) (.slice none 0 0) w8 HS8.out.bu HS8.out.vc HS8.out.lay (Cs.nil _) (block_fine 1) (by decide) HS8.out.le (by decide)).mono ?_
  rintro e w9 ⟨rfl, hu9, hf9⟩
  rw [kal5]
  rw [kal6] at hu9
  have HS9 := hid (HS8.out.mfr hu9 hf9)
  clear hu9 hf9 HS8
  go_wp2_with fail
  refine (ctake_any w9 HS9.out.bu HS9.out.vc HS9.out.lay HS9.out.le (by decide)).mono ?_
  rintro e w10 ht10
  obtain ⟨q10, u10, b10, rfl, hc10, htk, hz, hs10⟩ := HS9.out.took ht10
  rw [kal7] at htk
  obtain rfl : b10 = true := by cases b10 <;> simp at htk ⊢
  obtain rfl : q10 = blockO 1 := by simpa using htk.symm
  rw [kal8] at hs10
  obtain ⟨va, vc, hu, _⟩ := hc10.form
  have HU10 : Hid (∃ va n vc, u10 = .slice va n vc) := hid ⟨_, _, _, hu⟩
  have HS10 := hid hs10
  have L10 := hid hs10.le
  have HC10 := hid hc10
  clear ht10 htk hz hs10 hc10 hu HS9
  go_wp2_with (first | (refine wpList_al_op rfl rfl ?_; intro w11 ho11 hb11 hl11; have HO11 := hid ho11; have B11 := hid hb11; clear ho11 hb11 hl11) | (refine wpList_st_op rfl rfl rfl rfl HU10.out HO11.out ?_; intro w12 ho12 hf12; have HO12 := hid ho12; have HF12 := hid hf12; have c1 := ho12.cells.c1; have c2 := ho12.cells.c2; clear ho12 hf12) | fail)
  have B12 := hid (below_fr B11.out HF12.out (Nat.le_refl _))
  have HS12 := hid (HS10.out.below B12.out)
  have HC12 := hid (HC10.out.below B12.out)
  clear B12 HF12 B11 HO11 HS10 HC10
  refine (add_any vb v0 (blockO 1).ir (blockO 1).im _ HS12.out.vc).mono ?_
  rintro e w13 ⟨rfl, hv13, hf13⟩
  rw [kv_def] at hv13
  have HS13 := hid (HS12.out.vfr hv13 hf13)
  have HNE := hid HS13.out.ne
  have HO13 : Hid (Ob w13 w10.heap.size (blockO 1) u10) := hid ((hf13.block w10.heap.size HO12.out.lt (fun e => by have h2 := HNE.out.2.2.1; have h3 := L10.out; omega)).trans HO12.out)
  have HC13 : Hid (Cs w13 u10 (blockO 1).cuts) := hid (Cs.nil_any HC12.out)
  clear hv13 hf13 c1 c2 HS12 HO12 HC12
  go_wp2_with fail
  refine (ctake_any w13 HS13.out.bu HS13.out.vc HS13.out.lay HS13.out.le (by decide)).mono ?_
  rintro e w14 ht14
  obtain ⟨q14, u14, b14, rfl, hc14, htk, hz, hs14⟩ := HS13.out.took ht14
  obtain ⟨_, _, _, _, _, _, _, _, _, hf14⟩ := ht14
  rw [kal9] at htk
  obtain rfl : b14 = true := by cases b14 <;> simp at htk ⊢
  obtain rfl : q14 = blockO 2 := by simpa using htk.symm
  rw [kal10] at hs14
  obtain ⟨va, vc, hu, _⟩ := hc14.form
  have HU14 : Hid (∃ va n vc, u14 = .slice va n vc) := hid ⟨_, _, _, hu⟩
  have HS14 := hid hs14
  have HC14 := hid hc14
  have HO14 : Hid (Ob w14 w10.heap.size (blockO 1) u10) := hid ((hf14.block w10.heap.size HO13.out.lt (fun e => by have h2 := HS13.out.bu.lt; have h3 := L10.out; omega)).trans HO13.out)
  have HD14 : Hid (Cs w14 u10 (blockO 1).cuts) := hid (Cs.nil_any HC13.out)
  clear htk hz hs14 hc14 hu HS13 HC13 HO13
  go_wp2_with (first | (refine wpList_al_op rfl rfl ?_; intro w15 ho15 hb15 hl15; have HO15 := hid ho15; have B15 := hid hb15; clear ho15 hb15 hl15) | (refine wpList_st_op rfl rfl rfl rfl HU14.out HO15.out ?_; intro w16 ho16 hf16; have HO16 := hid ho16; have HF16 := hid hf16; clear ho16 hf16) | (have B16 := hid (below_fr B15.out HF16.out (Nat.le_refl _)); refine alive_r (p6 := w10.heap.size) (p8 := w14.heap.size) (X := kv1) (u1 := u10) (u2 := u14) ⟨HS14.out.below B16.out,HO14.out.below B16.out,HO16.out,HD14.out.below B16.out,HC14.out.below B16.out⟩ kal11 (fun _ _ _ _ _ h => h) ?_; intro W hW; have HE := hid ((HS14.out.below B16.out).below hW).bw; clear hW) | fail)
  go_ret
  exact ⟨rfl, HE.out⟩

end Go.Proofs.YtaojeanoojnknaaDoor

/-
  Two regions of CauseReady, whose order is drawn, are walked here.
-/
namespace Go.Proofs.YtaojeanoojnknaaDoor
open Go.RowKit
set_option linter.unusedVariables false
set_option maxRecDepth 100000

section
variable {o : Oper} {a : Act} {W : World}
theorem run_nes {x y : Operand} {h : Int} (ho : o.op = .binOp .neq 3 x y 3) (hx : a.eval x = .int .i64 h) (hy : a.eval y = .int .i64 h) : (execOp a.eval o).run Tryd.prog W = .ok (.value (.bool false)) W := by
  unfold execOp
  simp only [ho, hx, hy]
  simp [go_sem]
theorem run_ldid2 {x : Operand} {g i : Nat} {z : Int × Int} (ho : o.op = .load 38 x) (hx : a.eval x = .pointer (some ⟨g,i,none⟩)) (h : W.cell? ⟨g,i,none⟩ = some (.int .i64 z.1) ∧ W.cell? ⟨g,i + 1,none⟩ = some (.int .i64 z.2)) : (execOp a.eval o).run Tryd.prog W = .ok (.value (idv z.1 z.2)) W := by
  obtain ⟨h0, h1⟩ := h
  unfold execOp
  simp only [ho, hx]
  simp [go_sem, h0, h1]
end

end Go.Proofs.YtaojeanoojnknaaDoor
