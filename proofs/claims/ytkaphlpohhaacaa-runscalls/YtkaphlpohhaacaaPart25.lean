/-
  Parts of the proof, one behind the other; what each proves stands at its head.
-/
import Derived.Test.YtkaphlpohhaacaaPart24
import Derived.Test.YtkaphlpohhaacaaPart19

/-
  The drawn regions of RunsCalls are walked here: Put beside Put, Cut beside Cut, Len beside the list's length. Printed by genubothr.py.
-/
namespace Go.Proofs.Ytkaphlpohhaacaa
open Go.RowKit
set_option linter.unusedVariables false
set_option linter.unusedSimpArgs false
set_option maxRecDepth 100000

def xb0 : Oper := { dst := some 39, op := Op.move (Operand.tmp 7), type := 29, pos := "law.go:59", after := #[], guard := none }
def xb1 : Oper := { dst := some 40, op := Op.fieldAddr 40 (Operand.tmp 10) 1, type := 0, pos := "law.go:59", after := #[], guard := none }
def xb2 : Oper := { dst := some 41, op := Op.load 3 (Operand.tmp 40), type := 3, pos := "law.go:59", after := #[{ on := 1, ground := Ground.data }], guard := none }
def xb3 : Oper := { dst := some 42, op := Op.fieldAddr 40 (Operand.tmp 10) 2, type := 0, pos := "law.go:59", after := #[], guard := none }
def xb4 : Oper := { dst := some 43, op := Op.load 36 (Operand.tmp 42), type := 36, pos := "law.go:59", after := #[{ on := 3, ground := Ground.data }], guard := none }
def xb5 : Oper := { dst := some 44,op := Op.call { callee := Callee.value (Operand.func 10),args := #[Operand.tmp 39,Operand.tmp 41,Operand.tmp 43],argTypes := #[29,3,36] },type := 41,pos := "law.go:59",after := #[{ on := 0,ground := Ground.data },{ on := 2,ground := Ground.data },{ on := 4,ground := Ground.data }],guard := none }
def xb6 : Oper := { dst := some 45, op := Op.move (Operand.tmp 8), type := 31, pos := "law.go:59", after := #[], guard := none }
def xb7 : Oper := { dst := some 46, op := Op.fieldAddr 40 (Operand.tmp 10) 1, type := 0, pos := "law.go:59", after := #[], guard := none }
def xb8 : Oper := { dst := some 47, op := Op.load 3 (Operand.tmp 46), type := 3, pos := "law.go:59", after := #[{ on := 7, ground := Ground.data }], guard := none }
def xb9 : Oper := { dst := some 48, op := Op.fieldAddr 40 (Operand.tmp 10) 2, type := 0, pos := "law.go:59", after := #[], guard := none }
def xb10 : Oper := { dst := some 49, op := Op.load 36 (Operand.tmp 48), type := 36, pos := "law.go:59", after := #[{ on := 9, ground := Ground.data }], guard := none }
def xb11 : Oper := { dst := some 50,op := Op.call { callee := Callee.value (Operand.func 11),args := #[Operand.tmp 45,Operand.tmp 47,Operand.tmp 49],argTypes := #[31,3,36] },type := 41,pos := "law.go:59",after := #[{ on := 6,ground := Ground.data },{ on := 8,ground := Ground.data },{ on := 10,ground := Ground.data },{ on := 5,ground := Ground.chain }],guard := none }
def xb12 : Oper := { dst := some 51, op := Op.binOp BinOp.neq 41 (Operand.tmp 44) (Operand.tmp 50) 41, type := 4, pos := "law.go:59", after := #[{ on := 5, ground := Ground.data }, { on := 11, ground := Ground.data }], guard := none }
def xbs : Array Oper := #[xb0, xb1, xb2, xb3, xb4, xb5, xb6, xb7, xb8, xb9, xb10, xb11, xb12]
theorem xb_lit : Region.noSelect xbs = true := by kernel_rfl

set_option maxHeartbeats 8000000 in
theorem both_put {N rp rr cb : Nat} {q : Zq} {T : List Un} {w0 w : World} (h : Bc N rp rr cb q T T w0 w) (hl : T.length ≤ 20000) (hl2 : (putC T q.p q.x).length ≤ 20000) {x0 x1 x2 x3 x4 x5 x6 x9 bj bk bl bm bn bp bq br bu bv bw bx bz bA bB bC bD bE bF bG bH bI bJ bK bL bM bN bO dg df de dd db cJ cY cV cS cP cM cG cD dc cZ cW cK cT cQ cN cH cE da cI cX cU cR cO cL cF bP bQ bR bS bT bU bV bW bX bY bZ ca cc cd ce ch cj ck cl cm co cp cq cv cw cx cy cz cA cB cC ab ad ae af ah ai aj ak am ap aq au av aw ax ay az aA aB aC aD aE aF aG aH aI aJ aK aL aM aN aO aP aQ aR aS aT aU aV aW aX aY aZ bf bg bh bi : Value} {Q : Exit → Act → World → Prop}
    (hP : ∀ c t t' d W, Q (.panic c) { tmps := t, defers := d } W → Q (.panic c) { tmps := t', defers := d } W)
    (hQ : ∀ W,Bc N rp rr cb q (putC T q.p q.x) (putC T q.p q.x) w0 W → Q .normal { tmps := #[x0,x1,x2,x3,x4,x5,x6,.pointer (some ⟨rp,0,none⟩),.pointer (some ⟨rr,0,none⟩),x9,.pointer (some ⟨cb,0,none⟩),bj,bk,bl,bm,bn,bp,bq,br,bu,bv,bw,bx,bz,bA,bB,bC,bD,bE,bF,bG,bH,bI,bJ,bK,bL,bM,bN,bO,.pointer (some ⟨rp,0,none⟩),.pointer (some ⟨cb,1,none⟩),.int .i64 q.p,.pointer (some ⟨cb,2,none⟩),unv q.x,.int .i64 (putE T q.p q.x),.pointer (some ⟨rr,0,none⟩),.pointer (some ⟨cb,1,none⟩),.int .i64 q.p,.pointer (some ⟨cb,2,none⟩),unv q.x,.int .i64 (putE T q.p q.x),.bool false,dc,cZ,cW,cK,cT,cQ,cN,cH,cE,da,cI,cX,cU,cR,cO,cL,cF,bP,bQ,bR,bS,bT,bU,bV,bW,bX,bY,bZ,ca,cc,cd,ce,ch,cj,ck,cl,cm,co,cp,cq,cv,cw,cx,cy,cz,cA,cB,cC,ab,ad,ae,af,ah,ai,aj,ak,am,ap,aq,au,av,aw,ax,ay,az,aA,aB,aC,aD,aE,aF,aG,aH,aI,aJ,aK,aL,aM,aN,aO,aP,aQ,aR,aS,aT,aU,aV,aW,aX,aY,aZ,bf,bg,bh,bi],defers := [] } W) : (Code.region 12 xbs true).wp Try.prog Q { tmps := #[x0,x1,x2,x3,x4,x5,x6,.pointer (some ⟨rp,0,none⟩),.pointer (some ⟨rr,0,none⟩),x9,.pointer (some ⟨cb,0,none⟩),bj,bk,bl,bm,bn,bp,bq,br,bu,bv,bw,bx,bz,bA,bB,bC,bD,bE,bF,bG,bH,bI,bJ,bK,bL,bM,bN,bO,dg,df,de,dd,db,cJ,cY,cV,cS,cP,cM,cG,cD,dc,cZ,cW,cK,cT,cQ,cN,cH,cE,da,cI,cX,cU,cR,cO,cL,cF,bP,bQ,bR,bS,bT,bU,bV,bW,bX,bY,bZ,ca,cc,cd,ce,ch,cj,ck,cl,cm,co,cp,cq,cv,cw,cx,cy,cz,cA,cB,cC,ab,ad,ae,af,ah,ai,aj,ak,am,ap,aq,au,av,aw,ax,ay,az,aA,aB,aC,aD,aE,aF,aG,aH,aI,aJ,aK,aL,aM,aN,aO,aP,aQ,aR,aS,aT,aU,aV,aW,aX,aY,aZ,bf,bg,bh,bi],defers := [] } w := by
  refine wp_region_held (S := fun W => Zb W cb q) (by kernel_rfl) ?_
  change wpAnyH _ _ _ _ _ 13 _ _ (World.drew _)
  have S0 : Zb (World.drew w) cb q := h.zb.below (bd w 1)
  obtain ⟨W0, hW⟩ : ∃ W, World.drew w = W := ⟨_, rfl⟩
  rw [hW] at S0 ⊢
  have BW0 : Below w.heap.size w W0 := by rw [← hW]; exact (Below.refl _ _).drew
  have KW0 : Bc N rp rr cb q T T w0 W0 := by rw [← hW]; exact h.below (Below.refl _ _).drew
  clear h
  clear hW
  refine wpAnyH_take (i := 0) (oi := xb0) (v := .pointer (some ⟨rp, 0, none⟩)) (by kernel_rfl) xb_lit (by kernel_rfl) (by kernel_rfl) (fun c a W h => hP c _ _ _ W h) (Or.inl ⟨by kernel_rfl, fun W hW => by kernel_rfl⟩) S0 ?_
  rw [show Act.put _ xb0.dst _ = { tmps := #[x0,x1,x2,x3,x4,x5,x6,.pointer (some ⟨rp,0,none⟩),.pointer (some ⟨rr,0,none⟩),x9,.pointer (some ⟨cb,0,none⟩),bj,bk,bl,bm,bn,bp,bq,br,bu,bv,bw,bx,bz,bA,bB,bC,bD,bE,bF,bG,bH,bI,bJ,bK,bL,bM,bN,bO,.pointer (some ⟨rp,0,none⟩),df,de,dd,db,cJ,cY,cV,cS,cP,cM,cG,cD,dc,cZ,cW,cK,cT,cQ,cN,cH,cE,da,cI,cX,cU,cR,cO,cL,cF,bP,bQ,bR,bS,bT,bU,bV,bW,bX,bY,bZ,ca,cc,cd,ce,ch,cj,ck,cl,cm,co,cp,cq,cv,cw,cx,cy,cz,cA,cB,cC,ab,ad,ae,af,ah,ai,aj,ak,am,ap,aq,au,av,aw,ax,ay,az,aA,aB,aC,aD,aE,aF,aG,aH,aI,aJ,aK,aL,aM,aN,aO,aP,aQ,aR,aS,aT,aU,aV,aW,aX,aY,aZ,bf,bg,bh,bi],defers := [] } from by kernel_rfl]
  refine wpAnyH_take (i := 1) (oi := xb1) (v := .pointer (some ⟨cb, 1, none⟩)) (by kernel_rfl) xb_lit (by kernel_rfl) (by kernel_rfl) (fun c a W h => hP c _ _ _ W h) (Or.inl ⟨by kernel_rfl, fun W hW => by kernel_rfl⟩) S0 ?_
  rw [show Act.put _ xb1.dst _ = { tmps := #[x0,x1,x2,x3,x4,x5,x6,.pointer (some ⟨rp,0,none⟩),.pointer (some ⟨rr,0,none⟩),x9,.pointer (some ⟨cb,0,none⟩),bj,bk,bl,bm,bn,bp,bq,br,bu,bv,bw,bx,bz,bA,bB,bC,bD,bE,bF,bG,bH,bI,bJ,bK,bL,bM,bN,bO,.pointer (some ⟨rp,0,none⟩),.pointer (some ⟨cb,1,none⟩),de,dd,db,cJ,cY,cV,cS,cP,cM,cG,cD,dc,cZ,cW,cK,cT,cQ,cN,cH,cE,da,cI,cX,cU,cR,cO,cL,cF,bP,bQ,bR,bS,bT,bU,bV,bW,bX,bY,bZ,ca,cc,cd,ce,ch,cj,ck,cl,cm,co,cp,cq,cv,cw,cx,cy,cz,cA,cB,cC,ab,ad,ae,af,ah,ai,aj,ak,am,ap,aq,au,av,aw,ax,ay,az,aA,aB,aC,aD,aE,aF,aG,aH,aI,aJ,aK,aL,aM,aN,aO,aP,aQ,aR,aS,aT,aU,aV,aW,aX,aY,aZ,bf,bg,bh,bi],defers := [] } from by kernel_rfl]
  refine wpAnyH_take (i := 2) (oi := xb2) (v := .int .i64 q.p) (by kernel_rfl) xb_lit (by kernel_rfl) (by kernel_rfl) (fun c a W h => hP c _ _ _ W h) (Or.inl ⟨by kernel_rfl, fun W hW => runU_int rfl rfl hW.zk.c1⟩) S0 ?_
  rw [show Act.put _ xb2.dst _ = { tmps := #[x0,x1,x2,x3,x4,x5,x6,.pointer (some ⟨rp,0,none⟩),.pointer (some ⟨rr,0,none⟩),x9,.pointer (some ⟨cb,0,none⟩),bj,bk,bl,bm,bn,bp,bq,br,bu,bv,bw,bx,bz,bA,bB,bC,bD,bE,bF,bG,bH,bI,bJ,bK,bL,bM,bN,bO,.pointer (some ⟨rp,0,none⟩),.pointer (some ⟨cb,1,none⟩),.int .i64 q.p,dd,db,cJ,cY,cV,cS,cP,cM,cG,cD,dc,cZ,cW,cK,cT,cQ,cN,cH,cE,da,cI,cX,cU,cR,cO,cL,cF,bP,bQ,bR,bS,bT,bU,bV,bW,bX,bY,bZ,ca,cc,cd,ce,ch,cj,ck,cl,cm,co,cp,cq,cv,cw,cx,cy,cz,cA,cB,cC,ab,ad,ae,af,ah,ai,aj,ak,am,ap,aq,au,av,aw,ax,ay,az,aA,aB,aC,aD,aE,aF,aG,aH,aI,aJ,aK,aL,aM,aN,aO,aP,aQ,aR,aS,aT,aU,aV,aW,aX,aY,aZ,bf,bg,bh,bi],defers := [] } from by kernel_rfl]
  refine wpAnyH_take (i := 3) (oi := xb3) (v := .pointer (some ⟨cb, 2, none⟩)) (by kernel_rfl) xb_lit (by kernel_rfl) (by kernel_rfl) (fun c a W h => hP c _ _ _ W h) (Or.inl ⟨by kernel_rfl, fun W hW => by kernel_rfl⟩) S0 ?_
  rw [show Act.put _ xb3.dst _ = { tmps := #[x0,x1,x2,x3,x4,x5,x6,.pointer (some ⟨rp,0,none⟩),.pointer (some ⟨rr,0,none⟩),x9,.pointer (some ⟨cb,0,none⟩),bj,bk,bl,bm,bn,bp,bq,br,bu,bv,bw,bx,bz,bA,bB,bC,bD,bE,bF,bG,bH,bI,bJ,bK,bL,bM,bN,bO,.pointer (some ⟨rp,0,none⟩),.pointer (some ⟨cb,1,none⟩),.int .i64 q.p,.pointer (some ⟨cb,2,none⟩),db,cJ,cY,cV,cS,cP,cM,cG,cD,dc,cZ,cW,cK,cT,cQ,cN,cH,cE,da,cI,cX,cU,cR,cO,cL,cF,bP,bQ,bR,bS,bT,bU,bV,bW,bX,bY,bZ,ca,cc,cd,ce,ch,cj,ck,cl,cm,co,cp,cq,cv,cw,cx,cy,cz,cA,cB,cC,ab,ad,ae,af,ah,ai,aj,ak,am,ap,aq,au,av,aw,ax,ay,az,aA,aB,aC,aD,aE,aF,aG,aH,aI,aJ,aK,aL,aM,aN,aO,aP,aQ,aR,aS,aT,aU,aV,aW,aX,aY,aZ,bf,bg,bh,bi],defers := [] } from by kernel_rfl]
  refine wpAnyH_take (i := 4) (oi := xb4) (v := unv q.x) (by kernel_rfl) xb_lit (by kernel_rfl) (by kernel_rfl) (fun c a W h => hP c _ _ _ W h) (Or.inl ⟨by kernel_rfl, fun W hW => run_ldI rfl rfl hW.zk.x⟩) S0 ?_
  rw [show Act.put _ xb4.dst _ = { tmps := #[x0,x1,x2,x3,x4,x5,x6,.pointer (some ⟨rp,0,none⟩),.pointer (some ⟨rr,0,none⟩),x9,.pointer (some ⟨cb,0,none⟩),bj,bk,bl,bm,bn,bp,bq,br,bu,bv,bw,bx,bz,bA,bB,bC,bD,bE,bF,bG,bH,bI,bJ,bK,bL,bM,bN,bO,.pointer (some ⟨rp,0,none⟩),.pointer (some ⟨cb,1,none⟩),.int .i64 q.p,.pointer (some ⟨cb,2,none⟩),unv q.x,cJ,cY,cV,cS,cP,cM,cG,cD,dc,cZ,cW,cK,cT,cQ,cN,cH,cE,da,cI,cX,cU,cR,cO,cL,cF,bP,bQ,bR,bS,bT,bU,bV,bW,bX,bY,bZ,ca,cc,cd,ce,ch,cj,ck,cl,cm,co,cp,cq,cv,cw,cx,cy,cz,cA,cB,cC,ab,ad,ae,af,ah,ai,aj,ak,am,ap,aq,au,av,aw,ax,ay,az,aA,aB,aC,aD,aE,aF,aG,aH,aI,aJ,aK,aL,aM,aN,aO,aP,aQ,aR,aS,aT,aU,aV,aW,aX,aY,aZ,bf,bg,bh,bi],defers := [] } from by kernel_rfl]
  refine wpAnyH_take (i := 6) (oi := xb6) (v := .pointer (some ⟨rr, 0, none⟩)) (by kernel_rfl) xb_lit (by kernel_rfl) (by kernel_rfl) (fun c a W h => hP c _ _ _ W h) (Or.inl ⟨by kernel_rfl, fun W hW => by kernel_rfl⟩) S0 ?_
  rw [show Act.put _ xb6.dst _ = { tmps := #[x0,x1,x2,x3,x4,x5,x6,.pointer (some ⟨rp,0,none⟩),.pointer (some ⟨rr,0,none⟩),x9,.pointer (some ⟨cb,0,none⟩),bj,bk,bl,bm,bn,bp,bq,br,bu,bv,bw,bx,bz,bA,bB,bC,bD,bE,bF,bG,bH,bI,bJ,bK,bL,bM,bN,bO,.pointer (some ⟨rp,0,none⟩),.pointer (some ⟨cb,1,none⟩),.int .i64 q.p,.pointer (some ⟨cb,2,none⟩),unv q.x,cJ,.pointer (some ⟨rr,0,none⟩),cV,cS,cP,cM,cG,cD,dc,cZ,cW,cK,cT,cQ,cN,cH,cE,da,cI,cX,cU,cR,cO,cL,cF,bP,bQ,bR,bS,bT,bU,bV,bW,bX,bY,bZ,ca,cc,cd,ce,ch,cj,ck,cl,cm,co,cp,cq,cv,cw,cx,cy,cz,cA,cB,cC,ab,ad,ae,af,ah,ai,aj,ak,am,ap,aq,au,av,aw,ax,ay,az,aA,aB,aC,aD,aE,aF,aG,aH,aI,aJ,aK,aL,aM,aN,aO,aP,aQ,aR,aS,aT,aU,aV,aW,aX,aY,aZ,bf,bg,bh,bi],defers := [] } from by kernel_rfl]
  refine wpAnyH_take (i := 7) (oi := xb7) (v := .pointer (some ⟨cb, 1, none⟩)) (by kernel_rfl) xb_lit (by kernel_rfl) (by kernel_rfl) (fun c a W h => hP c _ _ _ W h) (Or.inl ⟨by kernel_rfl, fun W hW => by kernel_rfl⟩) S0 ?_
  rw [show Act.put _ xb7.dst _ = { tmps := #[x0,x1,x2,x3,x4,x5,x6,.pointer (some ⟨rp,0,none⟩),.pointer (some ⟨rr,0,none⟩),x9,.pointer (some ⟨cb,0,none⟩),bj,bk,bl,bm,bn,bp,bq,br,bu,bv,bw,bx,bz,bA,bB,bC,bD,bE,bF,bG,bH,bI,bJ,bK,bL,bM,bN,bO,.pointer (some ⟨rp,0,none⟩),.pointer (some ⟨cb,1,none⟩),.int .i64 q.p,.pointer (some ⟨cb,2,none⟩),unv q.x,cJ,.pointer (some ⟨rr,0,none⟩),.pointer (some ⟨cb,1,none⟩),cS,cP,cM,cG,cD,dc,cZ,cW,cK,cT,cQ,cN,cH,cE,da,cI,cX,cU,cR,cO,cL,cF,bP,bQ,bR,bS,bT,bU,bV,bW,bX,bY,bZ,ca,cc,cd,ce,ch,cj,ck,cl,cm,co,cp,cq,cv,cw,cx,cy,cz,cA,cB,cC,ab,ad,ae,af,ah,ai,aj,ak,am,ap,aq,au,av,aw,ax,ay,az,aA,aB,aC,aD,aE,aF,aG,aH,aI,aJ,aK,aL,aM,aN,aO,aP,aQ,aR,aS,aT,aU,aV,aW,aX,aY,aZ,bf,bg,bh,bi],defers := [] } from by kernel_rfl]
  refine wpAnyH_take (i := 8) (oi := xb8) (v := .int .i64 q.p) (by kernel_rfl) xb_lit (by kernel_rfl) (by kernel_rfl) (fun c a W h => hP c _ _ _ W h) (Or.inl ⟨by kernel_rfl, fun W hW => runU_int rfl rfl hW.zk.c1⟩) S0 ?_
  rw [show Act.put _ xb8.dst _ = { tmps := #[x0,x1,x2,x3,x4,x5,x6,.pointer (some ⟨rp,0,none⟩),.pointer (some ⟨rr,0,none⟩),x9,.pointer (some ⟨cb,0,none⟩),bj,bk,bl,bm,bn,bp,bq,br,bu,bv,bw,bx,bz,bA,bB,bC,bD,bE,bF,bG,bH,bI,bJ,bK,bL,bM,bN,bO,.pointer (some ⟨rp,0,none⟩),.pointer (some ⟨cb,1,none⟩),.int .i64 q.p,.pointer (some ⟨cb,2,none⟩),unv q.x,cJ,.pointer (some ⟨rr,0,none⟩),.pointer (some ⟨cb,1,none⟩),.int .i64 q.p,cP,cM,cG,cD,dc,cZ,cW,cK,cT,cQ,cN,cH,cE,da,cI,cX,cU,cR,cO,cL,cF,bP,bQ,bR,bS,bT,bU,bV,bW,bX,bY,bZ,ca,cc,cd,ce,ch,cj,ck,cl,cm,co,cp,cq,cv,cw,cx,cy,cz,cA,cB,cC,ab,ad,ae,af,ah,ai,aj,ak,am,ap,aq,au,av,aw,ax,ay,az,aA,aB,aC,aD,aE,aF,aG,aH,aI,aJ,aK,aL,aM,aN,aO,aP,aQ,aR,aS,aT,aU,aV,aW,aX,aY,aZ,bf,bg,bh,bi],defers := [] } from by kernel_rfl]
  refine wpAnyH_take (i := 9) (oi := xb9) (v := .pointer (some ⟨cb, 2, none⟩)) (by kernel_rfl) xb_lit (by kernel_rfl) (by kernel_rfl) (fun c a W h => hP c _ _ _ W h) (Or.inl ⟨by kernel_rfl, fun W hW => by kernel_rfl⟩) S0 ?_
  rw [show Act.put _ xb9.dst _ = { tmps := #[x0,x1,x2,x3,x4,x5,x6,.pointer (some ⟨rp,0,none⟩),.pointer (some ⟨rr,0,none⟩),x9,.pointer (some ⟨cb,0,none⟩),bj,bk,bl,bm,bn,bp,bq,br,bu,bv,bw,bx,bz,bA,bB,bC,bD,bE,bF,bG,bH,bI,bJ,bK,bL,bM,bN,bO,.pointer (some ⟨rp,0,none⟩),.pointer (some ⟨cb,1,none⟩),.int .i64 q.p,.pointer (some ⟨cb,2,none⟩),unv q.x,cJ,.pointer (some ⟨rr,0,none⟩),.pointer (some ⟨cb,1,none⟩),.int .i64 q.p,.pointer (some ⟨cb,2,none⟩),cM,cG,cD,dc,cZ,cW,cK,cT,cQ,cN,cH,cE,da,cI,cX,cU,cR,cO,cL,cF,bP,bQ,bR,bS,bT,bU,bV,bW,bX,bY,bZ,ca,cc,cd,ce,ch,cj,ck,cl,cm,co,cp,cq,cv,cw,cx,cy,cz,cA,cB,cC,ab,ad,ae,af,ah,ai,aj,ak,am,ap,aq,au,av,aw,ax,ay,az,aA,aB,aC,aD,aE,aF,aG,aH,aI,aJ,aK,aL,aM,aN,aO,aP,aQ,aR,aS,aT,aU,aV,aW,aX,aY,aZ,bf,bg,bh,bi],defers := [] } from by kernel_rfl]
  refine wpAnyH_take (i := 10) (oi := xb10) (v := unv q.x) (by kernel_rfl) xb_lit (by kernel_rfl) (by kernel_rfl) (fun c a W h => hP c _ _ _ W h) (Or.inl ⟨by kernel_rfl, fun W hW => run_ldI rfl rfl hW.zk.x⟩) S0 ?_
  rw [show Act.put _ xb10.dst _ = { tmps := #[x0,x1,x2,x3,x4,x5,x6,.pointer (some ⟨rp,0,none⟩),.pointer (some ⟨rr,0,none⟩),x9,.pointer (some ⟨cb,0,none⟩),bj,bk,bl,bm,bn,bp,bq,br,bu,bv,bw,bx,bz,bA,bB,bC,bD,bE,bF,bG,bH,bI,bJ,bK,bL,bM,bN,bO,.pointer (some ⟨rp,0,none⟩),.pointer (some ⟨cb,1,none⟩),.int .i64 q.p,.pointer (some ⟨cb,2,none⟩),unv q.x,cJ,.pointer (some ⟨rr,0,none⟩),.pointer (some ⟨cb,1,none⟩),.int .i64 q.p,.pointer (some ⟨cb,2,none⟩),unv q.x,cG,cD,dc,cZ,cW,cK,cT,cQ,cN,cH,cE,da,cI,cX,cU,cR,cO,cL,cF,bP,bQ,bR,bS,bT,bU,bV,bW,bX,bY,bZ,ca,cc,cd,ce,ch,cj,ck,cl,cm,co,cp,cq,cv,cw,cx,cy,cz,cA,cB,cC,ab,ad,ae,af,ah,ai,aj,ak,am,ap,aq,au,av,aw,ax,ay,az,aA,aB,aC,aD,aE,aF,aG,aH,aI,aJ,aK,aL,aM,aN,aO,aP,aQ,aR,aS,aT,aU,aV,aW,aX,aY,aZ,bf,bg,bh,bi],defers := [] } from by kernel_rfl]
  refine wpAnyH_all (rs := [5]) (by kernel_rfl) (by simp) (fun i hi => ?_)
  obtain rfl := List.mem_singleton.1 hi
  refine hb_callx (o := xb5) (f := 10) (args := #[.pointer (some ⟨rp,0,none⟩),.int .i64 q.p,unv q.x]) (D := fun u V => u = .int .i64 (putE T q.p q.x) ∧ Bc N rp rr cb q (putC T q.p q.x) (T) w0 V) (by kernel_rfl) (by kernel_rfl) (by kernel_rfl) ((bc_put KW0 q.p q.x hl).mono fun e V ⟨h1,h2⟩ => ⟨_,h1,rfl,h2⟩) ?_
  rintro _ W1 ⟨rfl, hb2⟩
  have S1 := hb2.zb
  have KW1 := hb2
  rw [show Act.put _ xb5.dst _ = { tmps := #[x0,x1,x2,x3,x4,x5,x6,.pointer (some ⟨rp,0,none⟩),.pointer (some ⟨rr,0,none⟩),x9,.pointer (some ⟨cb,0,none⟩),bj,bk,bl,bm,bn,bp,bq,br,bu,bv,bw,bx,bz,bA,bB,bC,bD,bE,bF,bG,bH,bI,bJ,bK,bL,bM,bN,bO,.pointer (some ⟨rp,0,none⟩),.pointer (some ⟨cb,1,none⟩),.int .i64 q.p,.pointer (some ⟨cb,2,none⟩),unv q.x,.int .i64 (putE T q.p q.x),.pointer (some ⟨rr,0,none⟩),.pointer (some ⟨cb,1,none⟩),.int .i64 q.p,.pointer (some ⟨cb,2,none⟩),unv q.x,cG,cD,dc,cZ,cW,cK,cT,cQ,cN,cH,cE,da,cI,cX,cU,cR,cO,cL,cF,bP,bQ,bR,bS,bT,bU,bV,bW,bX,bY,bZ,ca,cc,cd,ce,ch,cj,ck,cl,cm,co,cp,cq,cv,cw,cx,cy,cz,cA,cB,cC,ab,ad,ae,af,ah,ai,aj,ak,am,ap,aq,au,av,aw,ax,ay,az,aA,aB,aC,aD,aE,aF,aG,aH,aI,aJ,aK,aL,aM,aN,aO,aP,aQ,aR,aS,aT,aU,aV,aW,aX,aY,aZ,bf,bg,bh,bi],defers := [] } from by kernel_rfl]
  refine ⟨S1, ?_⟩
  refine wpAnyH_all (rs := [11]) (by kernel_rfl) (by simp) (fun i hi => ?_)
  obtain rfl := List.mem_singleton.1 hi
  refine hb_callx (o := xb11) (f := 11) (args := #[.pointer (some ⟨rr,0,none⟩),.int .i64 q.p,unv q.x]) (D := fun u V => u = .int .i64 (putE T q.p q.x) ∧ Bc N rp rr cb q (putC T q.p q.x) (putC T q.p q.x) w0 V) (by kernel_rfl) (by kernel_rfl) (by kernel_rfl) ((bc_xput KW1 q.p q.x hl).mono fun e V ⟨h1,h2⟩ => ⟨_,h1,rfl,h2⟩) ?_
  rintro _ W2 ⟨rfl, hb2⟩
  have S2 := hb2.zb
  have KW2 := hb2
  rw [show Act.put _ xb11.dst _ = { tmps := #[x0,x1,x2,x3,x4,x5,x6,.pointer (some ⟨rp,0,none⟩),.pointer (some ⟨rr,0,none⟩),x9,.pointer (some ⟨cb,0,none⟩),bj,bk,bl,bm,bn,bp,bq,br,bu,bv,bw,bx,bz,bA,bB,bC,bD,bE,bF,bG,bH,bI,bJ,bK,bL,bM,bN,bO,.pointer (some ⟨rp,0,none⟩),.pointer (some ⟨cb,1,none⟩),.int .i64 q.p,.pointer (some ⟨cb,2,none⟩),unv q.x,.int .i64 (putE T q.p q.x),.pointer (some ⟨rr,0,none⟩),.pointer (some ⟨cb,1,none⟩),.int .i64 q.p,.pointer (some ⟨cb,2,none⟩),unv q.x,.int .i64 (putE T q.p q.x),cD,dc,cZ,cW,cK,cT,cQ,cN,cH,cE,da,cI,cX,cU,cR,cO,cL,cF,bP,bQ,bR,bS,bT,bU,bV,bW,bX,bY,bZ,ca,cc,cd,ce,ch,cj,ck,cl,cm,co,cp,cq,cv,cw,cx,cy,cz,cA,cB,cC,ab,ad,ae,af,ah,ai,aj,ak,am,ap,aq,au,av,aw,ax,ay,az,aA,aB,aC,aD,aE,aF,aG,aH,aI,aJ,aK,aL,aM,aN,aO,aP,aQ,aR,aS,aT,aU,aV,aW,aX,aY,aZ,bf,bg,bh,bi],defers := [] } from by kernel_rfl]
  refine ⟨S2, ?_⟩
  refine wpAnyH_take (i := 12) (oi := xb12) (v := .bool false) (by kernel_rfl) xb_lit (by kernel_rfl) (by kernel_rfl) (fun c a W h => hP c _ _ _ W h) (Or.inl ⟨by kernel_rfl, fun W hW => runU_neE rfl rfl rfl (by simp)⟩) S2 ?_
  rw [show Act.put _ xb12.dst _ = { tmps := #[x0,x1,x2,x3,x4,x5,x6,.pointer (some ⟨rp,0,none⟩),.pointer (some ⟨rr,0,none⟩),x9,.pointer (some ⟨cb,0,none⟩),bj,bk,bl,bm,bn,bp,bq,br,bu,bv,bw,bx,bz,bA,bB,bC,bD,bE,bF,bG,bH,bI,bJ,bK,bL,bM,bN,bO,.pointer (some ⟨rp,0,none⟩),.pointer (some ⟨cb,1,none⟩),.int .i64 q.p,.pointer (some ⟨cb,2,none⟩),unv q.x,.int .i64 (putE T q.p q.x),.pointer (some ⟨rr,0,none⟩),.pointer (some ⟨cb,1,none⟩),.int .i64 q.p,.pointer (some ⟨cb,2,none⟩),unv q.x,.int .i64 (putE T q.p q.x),.bool false,dc,cZ,cW,cK,cT,cQ,cN,cH,cE,da,cI,cX,cU,cR,cO,cL,cF,bP,bQ,bR,bS,bT,bU,bV,bW,bX,bY,bZ,ca,cc,cd,ce,ch,cj,ck,cl,cm,co,cp,cq,cv,cw,cx,cy,cz,cA,cB,cC,ab,ad,ae,af,ah,ai,aj,ak,am,ap,aq,au,av,aw,ax,ay,az,aA,aB,aC,aD,aE,aF,aG,aH,aI,aJ,aK,aL,aM,aN,aO,aP,aQ,aR,aS,aT,aU,aV,aW,aX,aY,aZ,bf,bg,bh,bi],defers := [] } from by kernel_rfl]
  exact wpAnyH_done (by kernel_rfl) (hQ _ KW2) _
def xc0 : Oper := { dst := some 52, op := Op.move (Operand.tmp 7), type := 29, pos := "law.go:62", after := #[], guard := none }
def xc1 : Oper := { dst := some 53, op := Op.fieldAddr 40 (Operand.tmp 10) 3, type := 0, pos := "law.go:62", after := #[], guard := none }
def xc2 : Oper := { dst := some 54, op := Op.load 38 (Operand.tmp 53), type := 38, pos := "law.go:62", after := #[{ on := 1, ground := Ground.data }], guard := none }
def xc3 : Oper := { dst := some 55, op := Op.call { callee := Callee.value (Operand.func 12), args := #[Operand.tmp 52, Operand.tmp 54], argTypes := #[29, 38] }, type := 3, pos := "law.go:62", after := #[{ on := 0, ground := Ground.data }, { on := 2, ground := Ground.data }], guard := none }
def xc4 : Oper := { dst := some 56, op := Op.move (Operand.tmp 8), type := 31, pos := "law.go:62", after := #[], guard := none }
def xc5 : Oper := { dst := some 57, op := Op.fieldAddr 40 (Operand.tmp 10) 3, type := 0, pos := "law.go:62", after := #[], guard := none }
def xc6 : Oper := { dst := some 58, op := Op.load 38 (Operand.tmp 57), type := 38, pos := "law.go:62", after := #[{ on := 5, ground := Ground.data }], guard := none }
def xc7 : Oper := { dst := some 59,op := Op.call { callee := Callee.value (Operand.func 13),args := #[Operand.tmp 56,Operand.tmp 58],argTypes := #[31,38] },type := 3,pos := "law.go:62",after := #[{ on := 4,ground := Ground.data },{ on := 6,ground := Ground.data },{ on := 3,ground := Ground.chain }],guard := none }
def xc8 : Oper := { dst := some 60, op := Op.binOp BinOp.neq 3 (Operand.tmp 55) (Operand.tmp 59) 3, type := 4, pos := "law.go:62", after := #[{ on := 3, ground := Ground.data }, { on := 7, ground := Ground.data }], guard := none }
def xcs : Array Oper := #[xc0, xc1, xc2, xc3, xc4, xc5, xc6, xc7, xc8]
theorem xc_lit : Region.noSelect xcs = true := by kernel_rfl

set_option maxHeartbeats 8000000 in
theorem both_cut {N rp rr cb : Nat} {q : Zq} {T : List Un} {w0 w : World} (h : Bc N rp rr cb q T T w0 w) (hl : T.length ≤ 20000) (hl2 : (T.map (cutC q.r q.n q.f q.t)).length ≤ 20000) {x0 x1 x2 x3 x4 x5 x6 x9 bj bk bl bm bn bp bq br bu bv bw bx bz bA bB bC bD bE bF bG bH bI bJ bK bL bM bN bO dg df de dd db cJ cY cV cS cP cM cG cD dc cZ cW cK cT cQ cN cH cE da cI cX cU cR cO cL cF bP bQ bR bS bT bU bV bW bX bY bZ ca cc cd ce ch cj ck cl cm co cp cq cv cw cx cy cz cA cB cC ab ad ae af ah ai aj ak am ap aq au av aw ax ay az aA aB aC aD aE aF aG aH aI aJ aK aL aM aN aO aP aQ aR aS aT aU aV aW aX aY aZ bf bg bh bi : Value} {Q : Exit → Act → World → Prop}
    (hP : ∀ c t t' d W, Q (.panic c) { tmps := t, defers := d } W → Q (.panic c) { tmps := t', defers := d } W)
    (hQ : ∀ W,Bc N rp rr cb q (T.map (cutC q.r q.n q.f q.t)) (T.map (cutC q.r q.n q.f q.t)) w0 W → Q .normal { tmps := #[x0,x1,x2,x3,x4,x5,x6,.pointer (some ⟨rp,0,none⟩),.pointer (some ⟨rr,0,none⟩),x9,.pointer (some ⟨cb,0,none⟩),bj,bk,bl,bm,bn,bp,bq,br,bu,bv,bw,bx,bz,bA,bB,bC,bD,bE,bF,bG,bH,bI,bJ,bK,bL,bM,bN,bO,dg,df,de,dd,db,cJ,cY,cV,cS,cP,cM,cG,cD,.pointer (some ⟨rp,0,none⟩),.pointer (some ⟨cb,15,none⟩),cuv q.r q.n q.f q.t,.int .i64 (cntC q.r q.n q.f q.t T),.pointer (some ⟨rr,0,none⟩),.pointer (some ⟨cb,15,none⟩),cuv q.r q.n q.f q.t,.int .i64 (cntC q.r q.n q.f q.t T),.bool false,da,cI,cX,cU,cR,cO,cL,cF,bP,bQ,bR,bS,bT,bU,bV,bW,bX,bY,bZ,ca,cc,cd,ce,ch,cj,ck,cl,cm,co,cp,cq,cv,cw,cx,cy,cz,cA,cB,cC,ab,ad,ae,af,ah,ai,aj,ak,am,ap,aq,au,av,aw,ax,ay,az,aA,aB,aC,aD,aE,aF,aG,aH,aI,aJ,aK,aL,aM,aN,aO,aP,aQ,aR,aS,aT,aU,aV,aW,aX,aY,aZ,bf,bg,bh,bi],defers := [] } W) : (Code.region 14 xcs true).wp Try.prog Q { tmps := #[x0,x1,x2,x3,x4,x5,x6,.pointer (some ⟨rp,0,none⟩),.pointer (some ⟨rr,0,none⟩),x9,.pointer (some ⟨cb,0,none⟩),bj,bk,bl,bm,bn,bp,bq,br,bu,bv,bw,bx,bz,bA,bB,bC,bD,bE,bF,bG,bH,bI,bJ,bK,bL,bM,bN,bO,dg,df,de,dd,db,cJ,cY,cV,cS,cP,cM,cG,cD,dc,cZ,cW,cK,cT,cQ,cN,cH,cE,da,cI,cX,cU,cR,cO,cL,cF,bP,bQ,bR,bS,bT,bU,bV,bW,bX,bY,bZ,ca,cc,cd,ce,ch,cj,ck,cl,cm,co,cp,cq,cv,cw,cx,cy,cz,cA,cB,cC,ab,ad,ae,af,ah,ai,aj,ak,am,ap,aq,au,av,aw,ax,ay,az,aA,aB,aC,aD,aE,aF,aG,aH,aI,aJ,aK,aL,aM,aN,aO,aP,aQ,aR,aS,aT,aU,aV,aW,aX,aY,aZ,bf,bg,bh,bi],defers := [] } w := by
  refine wp_region_held (S := fun W => Zb W cb q) (by kernel_rfl) ?_
  change wpAnyH _ _ _ _ _ 9 _ _ (World.drew _)
  have S0 : Zb (World.drew w) cb q := h.zb.below (bd w 1)
  obtain ⟨W0, hW⟩ : ∃ W, World.drew w = W := ⟨_, rfl⟩
  rw [hW] at S0 ⊢
  have BW0 : Below w.heap.size w W0 := by rw [← hW]; exact (Below.refl _ _).drew
  have KW0 : Bc N rp rr cb q T T w0 W0 := by rw [← hW]; exact h.below (Below.refl _ _).drew
  clear h
  clear hW
  refine wpAnyH_take (i := 0) (oi := xc0) (v := .pointer (some ⟨rp, 0, none⟩)) (by kernel_rfl) xc_lit (by kernel_rfl) (by kernel_rfl) (fun c a W h => hP c _ _ _ W h) (Or.inl ⟨by kernel_rfl, fun W hW => by kernel_rfl⟩) S0 ?_
  rw [show Act.put _ xc0.dst _ = { tmps := #[x0,x1,x2,x3,x4,x5,x6,.pointer (some ⟨rp,0,none⟩),.pointer (some ⟨rr,0,none⟩),x9,.pointer (some ⟨cb,0,none⟩),bj,bk,bl,bm,bn,bp,bq,br,bu,bv,bw,bx,bz,bA,bB,bC,bD,bE,bF,bG,bH,bI,bJ,bK,bL,bM,bN,bO,dg,df,de,dd,db,cJ,cY,cV,cS,cP,cM,cG,cD,.pointer (some ⟨rp,0,none⟩),cZ,cW,cK,cT,cQ,cN,cH,cE,da,cI,cX,cU,cR,cO,cL,cF,bP,bQ,bR,bS,bT,bU,bV,bW,bX,bY,bZ,ca,cc,cd,ce,ch,cj,ck,cl,cm,co,cp,cq,cv,cw,cx,cy,cz,cA,cB,cC,ab,ad,ae,af,ah,ai,aj,ak,am,ap,aq,au,av,aw,ax,ay,az,aA,aB,aC,aD,aE,aF,aG,aH,aI,aJ,aK,aL,aM,aN,aO,aP,aQ,aR,aS,aT,aU,aV,aW,aX,aY,aZ,bf,bg,bh,bi],defers := [] } from by kernel_rfl]
  refine wpAnyH_take (i := 1) (oi := xc1) (v := .pointer (some ⟨cb, 15, none⟩)) (by kernel_rfl) xc_lit (by kernel_rfl) (by kernel_rfl) (fun c a W h => hP c _ _ _ W h) (Or.inl ⟨by kernel_rfl, fun W hW => by kernel_rfl⟩) S0 ?_
  rw [show Act.put _ xc1.dst _ = { tmps := #[x0,x1,x2,x3,x4,x5,x6,.pointer (some ⟨rp,0,none⟩),.pointer (some ⟨rr,0,none⟩),x9,.pointer (some ⟨cb,0,none⟩),bj,bk,bl,bm,bn,bp,bq,br,bu,bv,bw,bx,bz,bA,bB,bC,bD,bE,bF,bG,bH,bI,bJ,bK,bL,bM,bN,bO,dg,df,de,dd,db,cJ,cY,cV,cS,cP,cM,cG,cD,.pointer (some ⟨rp,0,none⟩),.pointer (some ⟨cb,15,none⟩),cW,cK,cT,cQ,cN,cH,cE,da,cI,cX,cU,cR,cO,cL,cF,bP,bQ,bR,bS,bT,bU,bV,bW,bX,bY,bZ,ca,cc,cd,ce,ch,cj,ck,cl,cm,co,cp,cq,cv,cw,cx,cy,cz,cA,cB,cC,ab,ad,ae,af,ah,ai,aj,ak,am,ap,aq,au,av,aw,ax,ay,az,aA,aB,aC,aD,aE,aF,aG,aH,aI,aJ,aK,aL,aM,aN,aO,aP,aQ,aR,aS,aT,aU,aV,aW,aX,aY,aZ,bf,bg,bh,bi],defers := [] } from by kernel_rfl]
  refine wpAnyH_take (i := 2) (oi := xc2) (v := cuv q.r q.n q.f q.t) (by kernel_rfl) xc_lit (by kernel_rfl) (by kernel_rfl) (fun c a W h => hP c _ _ _ W h) (Or.inl ⟨by kernel_rfl, fun W hW => runU_cut rfl rfl hW.zk.k⟩) S0 ?_
  rw [show Act.put _ xc2.dst _ = { tmps := #[x0,x1,x2,x3,x4,x5,x6,.pointer (some ⟨rp,0,none⟩),.pointer (some ⟨rr,0,none⟩),x9,.pointer (some ⟨cb,0,none⟩),bj,bk,bl,bm,bn,bp,bq,br,bu,bv,bw,bx,bz,bA,bB,bC,bD,bE,bF,bG,bH,bI,bJ,bK,bL,bM,bN,bO,dg,df,de,dd,db,cJ,cY,cV,cS,cP,cM,cG,cD,.pointer (some ⟨rp,0,none⟩),.pointer (some ⟨cb,15,none⟩),cuv q.r q.n q.f q.t,cK,cT,cQ,cN,cH,cE,da,cI,cX,cU,cR,cO,cL,cF,bP,bQ,bR,bS,bT,bU,bV,bW,bX,bY,bZ,ca,cc,cd,ce,ch,cj,ck,cl,cm,co,cp,cq,cv,cw,cx,cy,cz,cA,cB,cC,ab,ad,ae,af,ah,ai,aj,ak,am,ap,aq,au,av,aw,ax,ay,az,aA,aB,aC,aD,aE,aF,aG,aH,aI,aJ,aK,aL,aM,aN,aO,aP,aQ,aR,aS,aT,aU,aV,aW,aX,aY,aZ,bf,bg,bh,bi],defers := [] } from by kernel_rfl]
  refine wpAnyH_take (i := 4) (oi := xc4) (v := .pointer (some ⟨rr, 0, none⟩)) (by kernel_rfl) xc_lit (by kernel_rfl) (by kernel_rfl) (fun c a W h => hP c _ _ _ W h) (Or.inl ⟨by kernel_rfl, fun W hW => by kernel_rfl⟩) S0 ?_
  rw [show Act.put _ xc4.dst _ = { tmps := #[x0,x1,x2,x3,x4,x5,x6,.pointer (some ⟨rp,0,none⟩),.pointer (some ⟨rr,0,none⟩),x9,.pointer (some ⟨cb,0,none⟩),bj,bk,bl,bm,bn,bp,bq,br,bu,bv,bw,bx,bz,bA,bB,bC,bD,bE,bF,bG,bH,bI,bJ,bK,bL,bM,bN,bO,dg,df,de,dd,db,cJ,cY,cV,cS,cP,cM,cG,cD,.pointer (some ⟨rp,0,none⟩),.pointer (some ⟨cb,15,none⟩),cuv q.r q.n q.f q.t,cK,.pointer (some ⟨rr,0,none⟩),cQ,cN,cH,cE,da,cI,cX,cU,cR,cO,cL,cF,bP,bQ,bR,bS,bT,bU,bV,bW,bX,bY,bZ,ca,cc,cd,ce,ch,cj,ck,cl,cm,co,cp,cq,cv,cw,cx,cy,cz,cA,cB,cC,ab,ad,ae,af,ah,ai,aj,ak,am,ap,aq,au,av,aw,ax,ay,az,aA,aB,aC,aD,aE,aF,aG,aH,aI,aJ,aK,aL,aM,aN,aO,aP,aQ,aR,aS,aT,aU,aV,aW,aX,aY,aZ,bf,bg,bh,bi],defers := [] } from by kernel_rfl]
  refine wpAnyH_take (i := 5) (oi := xc5) (v := .pointer (some ⟨cb, 15, none⟩)) (by kernel_rfl) xc_lit (by kernel_rfl) (by kernel_rfl) (fun c a W h => hP c _ _ _ W h) (Or.inl ⟨by kernel_rfl, fun W hW => by kernel_rfl⟩) S0 ?_
  rw [show Act.put _ xc5.dst _ = { tmps := #[x0,x1,x2,x3,x4,x5,x6,.pointer (some ⟨rp,0,none⟩),.pointer (some ⟨rr,0,none⟩),x9,.pointer (some ⟨cb,0,none⟩),bj,bk,bl,bm,bn,bp,bq,br,bu,bv,bw,bx,bz,bA,bB,bC,bD,bE,bF,bG,bH,bI,bJ,bK,bL,bM,bN,bO,dg,df,de,dd,db,cJ,cY,cV,cS,cP,cM,cG,cD,.pointer (some ⟨rp,0,none⟩),.pointer (some ⟨cb,15,none⟩),cuv q.r q.n q.f q.t,cK,.pointer (some ⟨rr,0,none⟩),.pointer (some ⟨cb,15,none⟩),cN,cH,cE,da,cI,cX,cU,cR,cO,cL,cF,bP,bQ,bR,bS,bT,bU,bV,bW,bX,bY,bZ,ca,cc,cd,ce,ch,cj,ck,cl,cm,co,cp,cq,cv,cw,cx,cy,cz,cA,cB,cC,ab,ad,ae,af,ah,ai,aj,ak,am,ap,aq,au,av,aw,ax,ay,az,aA,aB,aC,aD,aE,aF,aG,aH,aI,aJ,aK,aL,aM,aN,aO,aP,aQ,aR,aS,aT,aU,aV,aW,aX,aY,aZ,bf,bg,bh,bi],defers := [] } from by kernel_rfl]
  refine wpAnyH_take (i := 6) (oi := xc6) (v := cuv q.r q.n q.f q.t) (by kernel_rfl) xc_lit (by kernel_rfl) (by kernel_rfl) (fun c a W h => hP c _ _ _ W h) (Or.inl ⟨by kernel_rfl, fun W hW => runU_cut rfl rfl hW.zk.k⟩) S0 ?_
  rw [show Act.put _ xc6.dst _ = { tmps := #[x0,x1,x2,x3,x4,x5,x6,.pointer (some ⟨rp,0,none⟩),.pointer (some ⟨rr,0,none⟩),x9,.pointer (some ⟨cb,0,none⟩),bj,bk,bl,bm,bn,bp,bq,br,bu,bv,bw,bx,bz,bA,bB,bC,bD,bE,bF,bG,bH,bI,bJ,bK,bL,bM,bN,bO,dg,df,de,dd,db,cJ,cY,cV,cS,cP,cM,cG,cD,.pointer (some ⟨rp,0,none⟩),.pointer (some ⟨cb,15,none⟩),cuv q.r q.n q.f q.t,cK,.pointer (some ⟨rr,0,none⟩),.pointer (some ⟨cb,15,none⟩),cuv q.r q.n q.f q.t,cH,cE,da,cI,cX,cU,cR,cO,cL,cF,bP,bQ,bR,bS,bT,bU,bV,bW,bX,bY,bZ,ca,cc,cd,ce,ch,cj,ck,cl,cm,co,cp,cq,cv,cw,cx,cy,cz,cA,cB,cC,ab,ad,ae,af,ah,ai,aj,ak,am,ap,aq,au,av,aw,ax,ay,az,aA,aB,aC,aD,aE,aF,aG,aH,aI,aJ,aK,aL,aM,aN,aO,aP,aQ,aR,aS,aT,aU,aV,aW,aX,aY,aZ,bf,bg,bh,bi],defers := [] } from by kernel_rfl]
  refine wpAnyH_all (rs := [3]) (by kernel_rfl) (by simp) (fun i hi => ?_)
  obtain rfl := List.mem_singleton.1 hi
  refine hb_callx (o := xc3) (f := 12) (args := #[.pointer (some ⟨rp,0,none⟩),cuv q.r q.n q.f q.t]) (D := fun u V => u = .int .i64 (cntC q.r q.n q.f q.t T) ∧ Bc N rp rr cb q (T.map (cutC q.r q.n q.f q.t)) (T) w0 V) (by kernel_rfl) (by kernel_rfl) (by kernel_rfl) ((bc_cut KW0 q.r q.n q.f q.t hl).mono fun e V ⟨h1,h2⟩ => ⟨_,h1,rfl,h2⟩) ?_
  rintro _ W1 ⟨rfl, hb2⟩
  have S1 := hb2.zb
  have KW1 := hb2
  rw [show Act.put _ xc3.dst _ = { tmps := #[x0,x1,x2,x3,x4,x5,x6,.pointer (some ⟨rp,0,none⟩),.pointer (some ⟨rr,0,none⟩),x9,.pointer (some ⟨cb,0,none⟩),bj,bk,bl,bm,bn,bp,bq,br,bu,bv,bw,bx,bz,bA,bB,bC,bD,bE,bF,bG,bH,bI,bJ,bK,bL,bM,bN,bO,dg,df,de,dd,db,cJ,cY,cV,cS,cP,cM,cG,cD,.pointer (some ⟨rp,0,none⟩),.pointer (some ⟨cb,15,none⟩),cuv q.r q.n q.f q.t,.int .i64 (cntC q.r q.n q.f q.t T),.pointer (some ⟨rr,0,none⟩),.pointer (some ⟨cb,15,none⟩),cuv q.r q.n q.f q.t,cH,cE,da,cI,cX,cU,cR,cO,cL,cF,bP,bQ,bR,bS,bT,bU,bV,bW,bX,bY,bZ,ca,cc,cd,ce,ch,cj,ck,cl,cm,co,cp,cq,cv,cw,cx,cy,cz,cA,cB,cC,ab,ad,ae,af,ah,ai,aj,ak,am,ap,aq,au,av,aw,ax,ay,az,aA,aB,aC,aD,aE,aF,aG,aH,aI,aJ,aK,aL,aM,aN,aO,aP,aQ,aR,aS,aT,aU,aV,aW,aX,aY,aZ,bf,bg,bh,bi],defers := [] } from by kernel_rfl]
  refine ⟨S1, ?_⟩
  refine wpAnyH_all (rs := [7]) (by kernel_rfl) (by simp) (fun i hi => ?_)
  obtain rfl := List.mem_singleton.1 hi
  refine hb_callx (o := xc7) (f := 13) (args := #[.pointer (some ⟨rr,0,none⟩),cuv q.r q.n q.f q.t]) (D := fun u V => u = .int .i64 (cntC q.r q.n q.f q.t T) ∧ Bc N rp rr cb q (T.map (cutC q.r q.n q.f q.t)) (T.map (cutC q.r q.n q.f q.t)) w0 V) (by kernel_rfl) (by kernel_rfl) (by kernel_rfl) ((bc_xcut KW1 q.r q.n q.f q.t hl).mono fun e V ⟨h1,h2⟩ => ⟨_,h1,rfl,h2⟩) ?_
  rintro _ W2 ⟨rfl, hb2⟩
  have S2 := hb2.zb
  have KW2 := hb2
  rw [show Act.put _ xc7.dst _ = { tmps := #[x0,x1,x2,x3,x4,x5,x6,.pointer (some ⟨rp,0,none⟩),.pointer (some ⟨rr,0,none⟩),x9,.pointer (some ⟨cb,0,none⟩),bj,bk,bl,bm,bn,bp,bq,br,bu,bv,bw,bx,bz,bA,bB,bC,bD,bE,bF,bG,bH,bI,bJ,bK,bL,bM,bN,bO,dg,df,de,dd,db,cJ,cY,cV,cS,cP,cM,cG,cD,.pointer (some ⟨rp,0,none⟩),.pointer (some ⟨cb,15,none⟩),cuv q.r q.n q.f q.t,.int .i64 (cntC q.r q.n q.f q.t T),.pointer (some ⟨rr,0,none⟩),.pointer (some ⟨cb,15,none⟩),cuv q.r q.n q.f q.t,.int .i64 (cntC q.r q.n q.f q.t T),cE,da,cI,cX,cU,cR,cO,cL,cF,bP,bQ,bR,bS,bT,bU,bV,bW,bX,bY,bZ,ca,cc,cd,ce,ch,cj,ck,cl,cm,co,cp,cq,cv,cw,cx,cy,cz,cA,cB,cC,ab,ad,ae,af,ah,ai,aj,ak,am,ap,aq,au,av,aw,ax,ay,az,aA,aB,aC,aD,aE,aF,aG,aH,aI,aJ,aK,aL,aM,aN,aO,aP,aQ,aR,aS,aT,aU,aV,aW,aX,aY,aZ,bf,bg,bh,bi],defers := [] } from by kernel_rfl]
  refine ⟨S2, ?_⟩
  refine wpAnyH_take (i := 8) (oi := xc8) (v := .bool false) (by kernel_rfl) xc_lit (by kernel_rfl) (by kernel_rfl) (fun c a W h => hP c _ _ _ W h) (Or.inl ⟨by kernel_rfl, fun W hW => runU_ne rfl rfl rfl (by simp)⟩) S2 ?_
  rw [show Act.put _ xc8.dst _ = { tmps := #[x0,x1,x2,x3,x4,x5,x6,.pointer (some ⟨rp,0,none⟩),.pointer (some ⟨rr,0,none⟩),x9,.pointer (some ⟨cb,0,none⟩),bj,bk,bl,bm,bn,bp,bq,br,bu,bv,bw,bx,bz,bA,bB,bC,bD,bE,bF,bG,bH,bI,bJ,bK,bL,bM,bN,bO,dg,df,de,dd,db,cJ,cY,cV,cS,cP,cM,cG,cD,.pointer (some ⟨rp,0,none⟩),.pointer (some ⟨cb,15,none⟩),cuv q.r q.n q.f q.t,.int .i64 (cntC q.r q.n q.f q.t T),.pointer (some ⟨rr,0,none⟩),.pointer (some ⟨cb,15,none⟩),cuv q.r q.n q.f q.t,.int .i64 (cntC q.r q.n q.f q.t T),.bool false,da,cI,cX,cU,cR,cO,cL,cF,bP,bQ,bR,bS,bT,bU,bV,bW,bX,bY,bZ,ca,cc,cd,ce,ch,cj,ck,cl,cm,co,cp,cq,cv,cw,cx,cy,cz,cA,cB,cC,ab,ad,ae,af,ah,ai,aj,ak,am,ap,aq,au,av,aw,ax,ay,az,aA,aB,aC,aD,aE,aF,aG,aH,aI,aJ,aK,aL,aM,aN,aO,aP,aQ,aR,aS,aT,aU,aV,aW,aX,aY,aZ,bf,bg,bh,bi],defers := [] } from by kernel_rfl]
  exact wpAnyH_done (by kernel_rfl) (hQ _ KW2) _
def xd0 : Oper := { dst := some 61, op := Op.move (Operand.tmp 7), type := 29, pos := "law.go:65", after := #[], guard := none }
def xd1 : Oper := { dst := some 62, op := Op.call { callee := Callee.value (Operand.func 14), args := #[Operand.tmp 61], argTypes := #[29] }, type := 3, pos := "law.go:65", after := #[{ on := 0, ground := Ground.data }], guard := none }
def xd2 : Oper := { dst := some 63, op := Op.move (Operand.tmp 8), type := 31, pos := "law.go:65", after := #[], guard := none }
def xd3 : Oper := { dst := some 64, op := Op.nilCheck (Operand.tmp 63), type := 0, pos := "law.go:65", after := #[{ on := 2, ground := Ground.data }], guard := none }
def xd4 : Oper := { dst := some 65, op := Op.fieldAddr 34 (Operand.tmp 64) 0, type := 0, pos := "law.go:65", after := #[{ on := 3, ground := Ground.data }], guard := none }
def xd5 : Oper := { dst := some 66, op := Op.load 32 (Operand.tmp 65), type := 32, pos := "law.go:65", after := #[{ on := 4, ground := Ground.data }], guard := none }
def xd6 : Oper := { dst := some 67, op := Op.call { callee := Callee.builtin Builtin.len, args := #[Operand.tmp 66], argTypes := #[32] }, type := 3, pos := "law.go:65", after := #[{ on := 5, ground := Ground.data }], guard := none }
def xd7 : Oper := { dst := some 68, op := Op.binOp BinOp.neq 3 (Operand.tmp 62) (Operand.tmp 67) 3, type := 4, pos := "law.go:65", after := #[{ on := 1, ground := Ground.data }, { on := 6, ground := Ground.data }], guard := none }
def xds : Array Oper := #[xd0, xd1, xd2, xd3, xd4, xd5, xd6, xd7]
theorem xd_lit : Region.noSelect xds = true := by kernel_rfl

set_option maxHeartbeats 8000000 in
theorem both_len {N rp rr n c : Nat} {sa : Option Addr} {T : List Un} {w0 w : World} (h : Lr N rp T w0 w) (hx : Xb w rr (.slice sa n c)) (hn : T.length = n) (hl : T.length ≤ 20000) {x0 x1 x2 x3 x4 x5 x6 x9 x10 bj bk bl bm bn bp bq br bu bv bw bx bz bA bB bC bD bE bF bG bH bI bJ bK bL bM bN bO dg df de dd db cJ cY cV cS cP cM cG cD dc cZ cW cK cT cQ cN cH cE da cI cX cU cR cO cL cF bP bQ bR bS bT bU bV bW bX bY bZ ca cc cd ce ch cj ck cl cm co cp cq cv cw cx cy cz cA cB cC ab ad ae af ah ai aj ak am ap aq au av aw ax ay az aA aB aC aD aE aF aG aH aI aJ aK aL aM aN aO aP aQ aR aS aT aU aV aW aX aY aZ bf bg bh bi : Value} {Q : Exit → Act → World → Prop}
    (hP : ∀ c t t' d W, Q (.panic c) { tmps := t, defers := d } W → Q (.panic c) { tmps := t', defers := d } W)
    (hQ : ∀ W,Below w.heap.size w W → Q .normal { tmps := #[x0,x1,x2,x3,x4,x5,x6,.pointer (some ⟨rp,0,none⟩),.pointer (some ⟨rr,0,none⟩),x9,x10,bj,bk,bl,bm,bn,bp,bq,br,bu,bv,bw,bx,bz,bA,bB,bC,bD,bE,bF,bG,bH,bI,bJ,bK,bL,bM,bN,bO,dg,df,de,dd,db,cJ,cY,cV,cS,cP,cM,cG,cD,dc,cZ,cW,cK,cT,cQ,cN,cH,cE,.pointer (some ⟨rp,0,none⟩),.int .i64 (n : Int),.pointer (some ⟨rr,0,none⟩),.pointer (some ⟨rr,0,none⟩),.pointer (some ⟨rr,0,none⟩),.slice sa n c,.int .i64 (n : Int),.bool false,bP,bQ,bR,bS,bT,bU,bV,bW,bX,bY,bZ,ca,cc,cd,ce,ch,cj,ck,cl,cm,co,cp,cq,cv,cw,cx,cy,cz,cA,cB,cC,ab,ad,ae,af,ah,ai,aj,ak,am,ap,aq,au,av,aw,ax,ay,az,aA,aB,aC,aD,aE,aF,aG,aH,aI,aJ,aK,aL,aM,aN,aO,aP,aQ,aR,aS,aT,aU,aV,aW,aX,aY,aZ,bf,bg,bh,bi],defers := [] } W) : (Code.region 16 xds true).wp Try.prog Q { tmps := #[x0,x1,x2,x3,x4,x5,x6,.pointer (some ⟨rp,0,none⟩),.pointer (some ⟨rr,0,none⟩),x9,x10,bj,bk,bl,bm,bn,bp,bq,br,bu,bv,bw,bx,bz,bA,bB,bC,bD,bE,bF,bG,bH,bI,bJ,bK,bL,bM,bN,bO,dg,df,de,dd,db,cJ,cY,cV,cS,cP,cM,cG,cD,dc,cZ,cW,cK,cT,cQ,cN,cH,cE,da,cI,cX,cU,cR,cO,cL,cF,bP,bQ,bR,bS,bT,bU,bV,bW,bX,bY,bZ,ca,cc,cd,ce,ch,cj,ck,cl,cm,co,cp,cq,cv,cw,cx,cy,cz,cA,cB,cC,ab,ad,ae,af,ah,ai,aj,ak,am,ap,aq,au,av,aw,ax,ay,az,aA,aB,aC,aD,aE,aF,aG,aH,aI,aJ,aK,aL,aM,aN,aO,aP,aQ,aR,aS,aT,aU,aV,aW,aX,aY,aZ,bf,bg,bh,bi],defers := [] } w := by
  refine wp_region_held (S := fun W => Xb W rr (.slice sa n c)) (by kernel_rfl) ?_
  change wpAnyH _ _ _ _ _ 8 _ _ (World.drew _)
  have S0 : Xb (World.drew w) rr (.slice sa n c) := hx.below (bd w 1)
  obtain ⟨W0, hW⟩ : ∃ W, World.drew w = W := ⟨_, rfl⟩
  rw [hW] at S0 ⊢
  have BW0 : Below w.heap.size w W0 := by rw [← hW]; exact (Below.refl _ _).drew
  have KW0 : Lr N rp T w0 W0 := by rw [← hW]; exact h.below (Below.refl _ _).drew
  clear h
  clear hW
  refine wpAnyH_take (i := 0) (oi := xd0) (v := .pointer (some ⟨rp, 0, none⟩)) (by kernel_rfl) xd_lit (by kernel_rfl) (by kernel_rfl) (fun c a W h => hP c _ _ _ W h) (Or.inl ⟨by kernel_rfl, fun W hW => by kernel_rfl⟩) S0 ?_
  rw [show Act.put _ xd0.dst _ = { tmps := #[x0,x1,x2,x3,x4,x5,x6,.pointer (some ⟨rp,0,none⟩),.pointer (some ⟨rr,0,none⟩),x9,x10,bj,bk,bl,bm,bn,bp,bq,br,bu,bv,bw,bx,bz,bA,bB,bC,bD,bE,bF,bG,bH,bI,bJ,bK,bL,bM,bN,bO,dg,df,de,dd,db,cJ,cY,cV,cS,cP,cM,cG,cD,dc,cZ,cW,cK,cT,cQ,cN,cH,cE,.pointer (some ⟨rp,0,none⟩),cI,cX,cU,cR,cO,cL,cF,bP,bQ,bR,bS,bT,bU,bV,bW,bX,bY,bZ,ca,cc,cd,ce,ch,cj,ck,cl,cm,co,cp,cq,cv,cw,cx,cy,cz,cA,cB,cC,ab,ad,ae,af,ah,ai,aj,ak,am,ap,aq,au,av,aw,ax,ay,az,aA,aB,aC,aD,aE,aF,aG,aH,aI,aJ,aK,aL,aM,aN,aO,aP,aQ,aR,aS,aT,aU,aV,aW,aX,aY,aZ,bf,bg,bh,bi],defers := [] } from by kernel_rfl]
  refine wpAnyH_take (i := 2) (oi := xd2) (v := .pointer (some ⟨rr, 0, none⟩)) (by kernel_rfl) xd_lit (by kernel_rfl) (by kernel_rfl) (fun c a W h => hP c _ _ _ W h) (Or.inl ⟨by kernel_rfl, fun W hW => by kernel_rfl⟩) S0 ?_
  rw [show Act.put _ xd2.dst _ = { tmps := #[x0,x1,x2,x3,x4,x5,x6,.pointer (some ⟨rp,0,none⟩),.pointer (some ⟨rr,0,none⟩),x9,x10,bj,bk,bl,bm,bn,bp,bq,br,bu,bv,bw,bx,bz,bA,bB,bC,bD,bE,bF,bG,bH,bI,bJ,bK,bL,bM,bN,bO,dg,df,de,dd,db,cJ,cY,cV,cS,cP,cM,cG,cD,dc,cZ,cW,cK,cT,cQ,cN,cH,cE,.pointer (some ⟨rp,0,none⟩),cI,.pointer (some ⟨rr,0,none⟩),cU,cR,cO,cL,cF,bP,bQ,bR,bS,bT,bU,bV,bW,bX,bY,bZ,ca,cc,cd,ce,ch,cj,ck,cl,cm,co,cp,cq,cv,cw,cx,cy,cz,cA,cB,cC,ab,ad,ae,af,ah,ai,aj,ak,am,ap,aq,au,av,aw,ax,ay,az,aA,aB,aC,aD,aE,aF,aG,aH,aI,aJ,aK,aL,aM,aN,aO,aP,aQ,aR,aS,aT,aU,aV,aW,aX,aY,aZ,bf,bg,bh,bi],defers := [] } from by kernel_rfl]
  refine wpAnyH_take (i := 3) (oi := xd3) (v := .pointer (some ⟨rr, 0, none⟩)) (by kernel_rfl) xd_lit (by kernel_rfl) (by kernel_rfl) (fun c a W h => hP c _ _ _ W h) (Or.inl ⟨by kernel_rfl, fun W hW => by kernel_rfl⟩) S0 ?_
  rw [show Act.put _ xd3.dst _ = { tmps := #[x0,x1,x2,x3,x4,x5,x6,.pointer (some ⟨rp,0,none⟩),.pointer (some ⟨rr,0,none⟩),x9,x10,bj,bk,bl,bm,bn,bp,bq,br,bu,bv,bw,bx,bz,bA,bB,bC,bD,bE,bF,bG,bH,bI,bJ,bK,bL,bM,bN,bO,dg,df,de,dd,db,cJ,cY,cV,cS,cP,cM,cG,cD,dc,cZ,cW,cK,cT,cQ,cN,cH,cE,.pointer (some ⟨rp,0,none⟩),cI,.pointer (some ⟨rr,0,none⟩),.pointer (some ⟨rr,0,none⟩),cR,cO,cL,cF,bP,bQ,bR,bS,bT,bU,bV,bW,bX,bY,bZ,ca,cc,cd,ce,ch,cj,ck,cl,cm,co,cp,cq,cv,cw,cx,cy,cz,cA,cB,cC,ab,ad,ae,af,ah,ai,aj,ak,am,ap,aq,au,av,aw,ax,ay,az,aA,aB,aC,aD,aE,aF,aG,aH,aI,aJ,aK,aL,aM,aN,aO,aP,aQ,aR,aS,aT,aU,aV,aW,aX,aY,aZ,bf,bg,bh,bi],defers := [] } from by kernel_rfl]
  refine wpAnyH_take (i := 4) (oi := xd4) (v := .pointer (some ⟨rr, 0, none⟩)) (by kernel_rfl) xd_lit (by kernel_rfl) (by kernel_rfl) (fun c a W h => hP c _ _ _ W h) (Or.inl ⟨by kernel_rfl, fun W hW => by kernel_rfl⟩) S0 ?_
  rw [show Act.put _ xd4.dst _ = { tmps := #[x0,x1,x2,x3,x4,x5,x6,.pointer (some ⟨rp,0,none⟩),.pointer (some ⟨rr,0,none⟩),x9,x10,bj,bk,bl,bm,bn,bp,bq,br,bu,bv,bw,bx,bz,bA,bB,bC,bD,bE,bF,bG,bH,bI,bJ,bK,bL,bM,bN,bO,dg,df,de,dd,db,cJ,cY,cV,cS,cP,cM,cG,cD,dc,cZ,cW,cK,cT,cQ,cN,cH,cE,.pointer (some ⟨rp,0,none⟩),cI,.pointer (some ⟨rr,0,none⟩),.pointer (some ⟨rr,0,none⟩),.pointer (some ⟨rr,0,none⟩),cO,cL,cF,bP,bQ,bR,bS,bT,bU,bV,bW,bX,bY,bZ,ca,cc,cd,ce,ch,cj,ck,cl,cm,co,cp,cq,cv,cw,cx,cy,cz,cA,cB,cC,ab,ad,ae,af,ah,ai,aj,ak,am,ap,aq,au,av,aw,ax,ay,az,aA,aB,aC,aD,aE,aF,aG,aH,aI,aJ,aK,aL,aM,aN,aO,aP,aQ,aR,aS,aT,aU,aV,aW,aX,aY,aZ,bf,bg,bh,bi],defers := [] } from by kernel_rfl]
  refine wpAnyH_take (i := 5) (oi := xd5) (v := .slice sa n c) (by kernel_rfl) xd_lit (by kernel_rfl) (by kernel_rfl) (fun c a W h => hP c _ _ _ W h) (Or.inl ⟨by kernel_rfl, fun W hW => runU_items rfl rfl hW.cell⟩) S0 ?_
  rw [show Act.put _ xd5.dst _ = { tmps := #[x0,x1,x2,x3,x4,x5,x6,.pointer (some ⟨rp,0,none⟩),.pointer (some ⟨rr,0,none⟩),x9,x10,bj,bk,bl,bm,bn,bp,bq,br,bu,bv,bw,bx,bz,bA,bB,bC,bD,bE,bF,bG,bH,bI,bJ,bK,bL,bM,bN,bO,dg,df,de,dd,db,cJ,cY,cV,cS,cP,cM,cG,cD,dc,cZ,cW,cK,cT,cQ,cN,cH,cE,.pointer (some ⟨rp,0,none⟩),cI,.pointer (some ⟨rr,0,none⟩),.pointer (some ⟨rr,0,none⟩),.pointer (some ⟨rr,0,none⟩),.slice sa n c,cL,cF,bP,bQ,bR,bS,bT,bU,bV,bW,bX,bY,bZ,ca,cc,cd,ce,ch,cj,ck,cl,cm,co,cp,cq,cv,cw,cx,cy,cz,cA,cB,cC,ab,ad,ae,af,ah,ai,aj,ak,am,ap,aq,au,av,aw,ax,ay,az,aA,aB,aC,aD,aE,aF,aG,aH,aI,aJ,aK,aL,aM,aN,aO,aP,aQ,aR,aS,aT,aU,aV,aW,aX,aY,aZ,bf,bg,bh,bi],defers := [] } from by kernel_rfl]
  refine wpAnyH_take (i := 6) (oi := xd6) (v := .int .i64 (n : Int)) (by kernel_rfl) xd_lit (by kernel_rfl) (by kernel_rfl) (fun c a W h => hP c _ _ _ W h) (Or.inl ⟨by kernel_rfl, fun W hW => runU_lenI rfl rfl⟩) S0 ?_
  rw [show Act.put _ xd6.dst _ = { tmps := #[x0,x1,x2,x3,x4,x5,x6,.pointer (some ⟨rp,0,none⟩),.pointer (some ⟨rr,0,none⟩),x9,x10,bj,bk,bl,bm,bn,bp,bq,br,bu,bv,bw,bx,bz,bA,bB,bC,bD,bE,bF,bG,bH,bI,bJ,bK,bL,bM,bN,bO,dg,df,de,dd,db,cJ,cY,cV,cS,cP,cM,cG,cD,dc,cZ,cW,cK,cT,cQ,cN,cH,cE,.pointer (some ⟨rp,0,none⟩),cI,.pointer (some ⟨rr,0,none⟩),.pointer (some ⟨rr,0,none⟩),.pointer (some ⟨rr,0,none⟩),.slice sa n c,.int .i64 (n : Int),cF,bP,bQ,bR,bS,bT,bU,bV,bW,bX,bY,bZ,ca,cc,cd,ce,ch,cj,ck,cl,cm,co,cp,cq,cv,cw,cx,cy,cz,cA,cB,cC,ab,ad,ae,af,ah,ai,aj,ak,am,ap,aq,au,av,aw,ax,ay,az,aA,aB,aC,aD,aE,aF,aG,aH,aI,aJ,aK,aL,aM,aN,aO,aP,aQ,aR,aS,aT,aU,aV,aW,aX,aY,aZ,bf,bg,bh,bi],defers := [] } from by kernel_rfl]
  refine wpAnyH_all (rs := [1]) (by kernel_rfl) (by simp) (fun i hi => ?_)
  obtain rfl := List.mem_singleton.1 hi
  refine hb_callx (o := xd1) (f := 14) (args := #[.pointer (some ⟨rp, 0, none⟩)]) (D := fun u V => u = .int .i64 (n : Int) ∧ Below W0.heap.size W0 V) (by kernel_rfl) (by kernel_rfl) (by kernel_rfl) ((lr_len KW0 hl).mono fun e V ⟨h1, h2⟩ => ⟨_, h1, by rw [hn], h2⟩) ?_
  rintro _ W1 ⟨rfl, hb2⟩
  have S1 := S0.below hb2
  have BW1 := bt BW0 hb2
  rw [show Act.put _ xd1.dst _ = { tmps := #[x0,x1,x2,x3,x4,x5,x6,.pointer (some ⟨rp,0,none⟩),.pointer (some ⟨rr,0,none⟩),x9,x10,bj,bk,bl,bm,bn,bp,bq,br,bu,bv,bw,bx,bz,bA,bB,bC,bD,bE,bF,bG,bH,bI,bJ,bK,bL,bM,bN,bO,dg,df,de,dd,db,cJ,cY,cV,cS,cP,cM,cG,cD,dc,cZ,cW,cK,cT,cQ,cN,cH,cE,.pointer (some ⟨rp,0,none⟩),.int .i64 (n : Int),.pointer (some ⟨rr,0,none⟩),.pointer (some ⟨rr,0,none⟩),.pointer (some ⟨rr,0,none⟩),.slice sa n c,.int .i64 (n : Int),cF,bP,bQ,bR,bS,bT,bU,bV,bW,bX,bY,bZ,ca,cc,cd,ce,ch,cj,ck,cl,cm,co,cp,cq,cv,cw,cx,cy,cz,cA,cB,cC,ab,ad,ae,af,ah,ai,aj,ak,am,ap,aq,au,av,aw,ax,ay,az,aA,aB,aC,aD,aE,aF,aG,aH,aI,aJ,aK,aL,aM,aN,aO,aP,aQ,aR,aS,aT,aU,aV,aW,aX,aY,aZ,bf,bg,bh,bi],defers := [] } from by kernel_rfl]
  refine ⟨S1, ?_⟩
  refine wpAnyH_take (i := 7) (oi := xd7) (v := .bool false) (by kernel_rfl) xd_lit (by kernel_rfl) (by kernel_rfl) (fun c a W h => hP c _ _ _ W h) (Or.inl ⟨by kernel_rfl, fun W hW => runU_ne rfl rfl rfl (by simp)⟩) S1 ?_
  rw [show Act.put _ xd7.dst _ = { tmps := #[x0,x1,x2,x3,x4,x5,x6,.pointer (some ⟨rp,0,none⟩),.pointer (some ⟨rr,0,none⟩),x9,x10,bj,bk,bl,bm,bn,bp,bq,br,bu,bv,bw,bx,bz,bA,bB,bC,bD,bE,bF,bG,bH,bI,bJ,bK,bL,bM,bN,bO,dg,df,de,dd,db,cJ,cY,cV,cS,cP,cM,cG,cD,dc,cZ,cW,cK,cT,cQ,cN,cH,cE,.pointer (some ⟨rp,0,none⟩),.int .i64 (n : Int),.pointer (some ⟨rr,0,none⟩),.pointer (some ⟨rr,0,none⟩),.pointer (some ⟨rr,0,none⟩),.slice sa n c,.int .i64 (n : Int),.bool false,bP,bQ,bR,bS,bT,bU,bV,bW,bX,bY,bZ,ca,cc,cd,ce,ch,cj,ck,cl,cm,co,cp,cq,cv,cw,cx,cy,cz,cA,cB,cC,ab,ad,ae,af,ah,ai,aj,ak,am,ap,aq,au,av,aw,ax,ay,az,aA,aB,aC,aD,aE,aF,aG,aH,aI,aJ,aK,aL,aM,aN,aO,aP,aQ,aR,aS,aT,aU,aV,aW,aX,aY,aZ,bf,bg,bh,bi],defers := [] } from by kernel_rfl]
  exact wpAnyH_done (by kernel_rfl) (hQ _ BW1) _

end Go.Proofs.Ytkaphlpohhaacaa

/-
  What SameItems answers of two rows of the same items is proved here. Printed by genusame.py.
-/
namespace Go.Proofs.Ytkaphlpohhaacaa
open Go.RowKit
set_option linter.unusedVariables false
set_option linter.unusedSimpArgs false
set_option maxRecDepth 100000

section
variable {o : Oper} {a : Act} {W : World} {x y : Operand} {u : Un}
theorem runU_neI (ho : o.op = .binOp .neq 36 x y 36) (hx : a.eval x = unv u) (hy : a.eval y = unv u) : (execOp a.eval o).run Try.prog W = .ok (.value (.bool false)) W := by
  unfold execOp
  simp only [ho, hx, hy]
  simp [go_sem]
theorem runU_eqI (ho : o.op = .binOp .eql 36 x y 36) (hx : a.eval x = unv u) (hy : a.eval y = unv u) : (execOp a.eval o).run Try.prog W = .ok (.value (.bool true)) W := by
  unfold execOp
  simp only [ho, hx, hy]
  simp [go_sem]
end
structure Rsm (W : World) (b off b2 off2 k : Nat) (x : Un) : Prop where
  p : Uc W b (off + k * 13) x
  y : Uc W b2 (off2 + k * 13) x
theorem Rsm.below {W W' : World} {b off b2 off2 k : Nat} {x : Un} (h : Rsm W b off b2 off2 k x) (hb : Below W.heap.size W W') : Rsm W' b off b2 off2 k x := ⟨h.p.below hb, h.y.below hb⟩

def xa0 : Oper := { dst := some 17, op := Op.move (Operand.tmp 0), type := 32, pos := "ref.go:161", after := #[], guard := none }
def xa1 : Oper := { dst := some 18, op := Op.move (Operand.tmp 5), type := 3, pos := "ref.go:161", after := #[], guard := none }
def xa2 : Oper := { dst := some 19, op := Op.indexAddr 32 (Operand.tmp 17) (Operand.tmp 18), type := 0, pos := "ref.go:161", after := #[{ on := 0, ground := Ground.data }, { on := 1, ground := Ground.data }], guard := none }
def xa3 : Oper := { dst := some 20, op := Op.load 36 (Operand.tmp 19), type := 36, pos := "ref.go:161", after := #[{ on := 2, ground := Ground.data }], guard := none }
def xa4 : Oper := { dst := some 21, op := Op.move (Operand.tmp 1), type := 32, pos := "ref.go:161", after := #[], guard := none }
def xa5 : Oper := { dst := some 22, op := Op.move (Operand.tmp 5), type := 3, pos := "ref.go:161", after := #[], guard := none }
def xa6 : Oper := { dst := some 23, op := Op.indexAddr 32 (Operand.tmp 21) (Operand.tmp 22), type := 0, pos := "ref.go:161", after := #[{ on := 4, ground := Ground.data }, { on := 5, ground := Ground.data }], guard := none }
def xa7 : Oper := { dst := some 24, op := Op.load 36 (Operand.tmp 23), type := 36, pos := "ref.go:161", after := #[{ on := 6, ground := Ground.data }], guard := none }
def xa8 : Oper := { dst := some 25, op := Op.binOp BinOp.neq 36 (Operand.tmp 20) (Operand.tmp 24) 36, type := 4, pos := "ref.go:161", after := #[{ on := 3, ground := Ground.data }, { on := 7, ground := Ground.data }], guard := none }
def xas : Array Oper := #[xa0, xa1, xa2, xa3, xa4, xa5, xa6, xa7, xa8]
theorem xa_lit : Region.noSelect xas = true := by kernel_rfl

set_option maxHeartbeats 8000000 in
theorem sm_r6 {b off b2 off2 n c c2 k : Nat} {x : Un} {w : World} (h : Rsm w b off b2 off2 k x) (hk : k < n) {x2 x3 x4 x6 x7 x8 x9 x10 x11 x12 x13 x14 x15 x16 x17 x18 x19 x20 x21 x22 x23 x24 x25 : Value} {Q : Exit → Act → World → Prop}
    (hP : ∀ c t t' d W, Q (.panic c) { tmps := t, defers := d } W → Q (.panic c) { tmps := t', defers := d } W)
    (hQ : ∀ W,Below w.heap.size w W → Q .normal { tmps := #[.slice (some ⟨b,off,none⟩) n c,.slice (some ⟨b2,off2,none⟩) n c2,x2,x3,x4,.int .i64 (k : Int),x6,x7,x8,x9,x10,x11,x12,x13,x14,x15,x16,.slice (some ⟨b,off,none⟩) n c,.int .i64 (k : Int),.pointer (some ⟨b,off + k * 13,none⟩),unv x,.slice (some ⟨b2,off2,none⟩) n c2,.int .i64 (k : Int),.pointer (some ⟨b2,off2 + k * 13,none⟩),unv x,.bool false],defers := [] } W) : (Code.region 6 xas true).wp Try.prog Q { tmps := #[.slice (some ⟨b,off,none⟩) n c,.slice (some ⟨b2,off2,none⟩) n c2,x2,x3,x4,.int .i64 (k : Int),x6,x7,x8,x9,x10,x11,x12,x13,x14,x15,x16,x17,x18,x19,x20,x21,x22,x23,x24,x25],defers := [] } w := by
  refine wp_region_held (S := fun W => Rsm W b off b2 off2 k x) (by kernel_rfl) ?_
  change wpAnyH _ _ _ _ _ 9 _ _ (World.drew _)
  have S0 : Rsm (World.drew w) b off b2 off2 k x := h.below (bd w 1)
  clear h
  obtain ⟨W0, hW⟩ : ∃ W, World.drew w = W := ⟨_, rfl⟩
  rw [hW] at S0 ⊢
  have BW0 : Below w.heap.size w W0 := by rw [← hW]; exact (Below.refl _ _).drew
  clear hW
  refine wpAnyH_take (i := 0) (oi := xa0) (v := .slice (some ⟨b, off, none⟩) n c) (by kernel_rfl) xa_lit (by kernel_rfl) (by kernel_rfl) (fun c a W h => hP c _ _ _ W h) (Or.inl ⟨by kernel_rfl, fun W hW => by kernel_rfl⟩) S0 ?_
  rw [show Act.put _ xa0.dst _ = { tmps := #[.slice (some ⟨b,off,none⟩) n c,.slice (some ⟨b2,off2,none⟩) n c2,x2,x3,x4,.int .i64 (k : Int),x6,x7,x8,x9,x10,x11,x12,x13,x14,x15,x16,.slice (some ⟨b,off,none⟩) n c,x18,x19,x20,x21,x22,x23,x24,x25],defers := [] } from by kernel_rfl]
  refine wpAnyH_take (i := 1) (oi := xa1) (v := .int .i64 (k : Int)) (by kernel_rfl) xa_lit (by kernel_rfl) (by kernel_rfl) (fun c a W h => hP c _ _ _ W h) (Or.inl ⟨by kernel_rfl, fun W hW => by kernel_rfl⟩) S0 ?_
  rw [show Act.put _ xa1.dst _ = { tmps := #[.slice (some ⟨b,off,none⟩) n c,.slice (some ⟨b2,off2,none⟩) n c2,x2,x3,x4,.int .i64 (k : Int),x6,x7,x8,x9,x10,x11,x12,x13,x14,x15,x16,.slice (some ⟨b,off,none⟩) n c,.int .i64 (k : Int),x19,x20,x21,x22,x23,x24,x25],defers := [] } from by kernel_rfl]
  refine wpAnyH_take (i := 2) (oi := xa2) (v := .pointer (some ⟨b, off + k * 13, none⟩)) (by kernel_rfl) xa_lit (by kernel_rfl) (by kernel_rfl) (fun c a W h => hP c _ _ _ W h) (Or.inl ⟨by kernel_rfl, fun W hW => runU_ixI rfl rfl rfl (by omega)⟩) S0 ?_
  rw [show Act.put _ xa2.dst _ = { tmps := #[.slice (some ⟨b,off,none⟩) n c,.slice (some ⟨b2,off2,none⟩) n c2,x2,x3,x4,.int .i64 (k : Int),x6,x7,x8,x9,x10,x11,x12,x13,x14,x15,x16,.slice (some ⟨b,off,none⟩) n c,.int .i64 (k : Int),.pointer (some ⟨b,off + k * 13,none⟩),x20,x21,x22,x23,x24,x25],defers := [] } from by kernel_rfl]
  refine wpAnyH_take (i := 3) (oi := xa3) (v := unv x) (by kernel_rfl) xa_lit (by kernel_rfl) (by kernel_rfl) (fun c a W h => hP c _ _ _ W h) (Or.inl ⟨by kernel_rfl, fun W hW => run_ldI rfl rfl hW.p⟩) S0 ?_
  rw [show Act.put _ xa3.dst _ = { tmps := #[.slice (some ⟨b,off,none⟩) n c,.slice (some ⟨b2,off2,none⟩) n c2,x2,x3,x4,.int .i64 (k : Int),x6,x7,x8,x9,x10,x11,x12,x13,x14,x15,x16,.slice (some ⟨b,off,none⟩) n c,.int .i64 (k : Int),.pointer (some ⟨b,off + k * 13,none⟩),unv x,x21,x22,x23,x24,x25],defers := [] } from by kernel_rfl]
  refine wpAnyH_take (i := 4) (oi := xa4) (v := .slice (some ⟨b2, off2, none⟩) n c2) (by kernel_rfl) xa_lit (by kernel_rfl) (by kernel_rfl) (fun c a W h => hP c _ _ _ W h) (Or.inl ⟨by kernel_rfl, fun W hW => by kernel_rfl⟩) S0 ?_
  rw [show Act.put _ xa4.dst _ = { tmps := #[.slice (some ⟨b,off,none⟩) n c,.slice (some ⟨b2,off2,none⟩) n c2,x2,x3,x4,.int .i64 (k : Int),x6,x7,x8,x9,x10,x11,x12,x13,x14,x15,x16,.slice (some ⟨b,off,none⟩) n c,.int .i64 (k : Int),.pointer (some ⟨b,off + k * 13,none⟩),unv x,.slice (some ⟨b2,off2,none⟩) n c2,x22,x23,x24,x25],defers := [] } from by kernel_rfl]
  refine wpAnyH_take (i := 5) (oi := xa5) (v := .int .i64 (k : Int)) (by kernel_rfl) xa_lit (by kernel_rfl) (by kernel_rfl) (fun c a W h => hP c _ _ _ W h) (Or.inl ⟨by kernel_rfl, fun W hW => by kernel_rfl⟩) S0 ?_
  rw [show Act.put _ xa5.dst _ = { tmps := #[.slice (some ⟨b,off,none⟩) n c,.slice (some ⟨b2,off2,none⟩) n c2,x2,x3,x4,.int .i64 (k : Int),x6,x7,x8,x9,x10,x11,x12,x13,x14,x15,x16,.slice (some ⟨b,off,none⟩) n c,.int .i64 (k : Int),.pointer (some ⟨b,off + k * 13,none⟩),unv x,.slice (some ⟨b2,off2,none⟩) n c2,.int .i64 (k : Int),x23,x24,x25],defers := [] } from by kernel_rfl]
  refine wpAnyH_take (i := 6) (oi := xa6) (v := .pointer (some ⟨b2, off2 + k * 13, none⟩)) (by kernel_rfl) xa_lit (by kernel_rfl) (by kernel_rfl) (fun c a W h => hP c _ _ _ W h) (Or.inl ⟨by kernel_rfl, fun W hW => runU_ixI rfl rfl rfl (by omega)⟩) S0 ?_
  rw [show Act.put _ xa6.dst _ = { tmps := #[.slice (some ⟨b,off,none⟩) n c,.slice (some ⟨b2,off2,none⟩) n c2,x2,x3,x4,.int .i64 (k : Int),x6,x7,x8,x9,x10,x11,x12,x13,x14,x15,x16,.slice (some ⟨b,off,none⟩) n c,.int .i64 (k : Int),.pointer (some ⟨b,off + k * 13,none⟩),unv x,.slice (some ⟨b2,off2,none⟩) n c2,.int .i64 (k : Int),.pointer (some ⟨b2,off2 + k * 13,none⟩),x24,x25],defers := [] } from by kernel_rfl]
  refine wpAnyH_take (i := 7) (oi := xa7) (v := unv x) (by kernel_rfl) xa_lit (by kernel_rfl) (by kernel_rfl) (fun c a W h => hP c _ _ _ W h) (Or.inl ⟨by kernel_rfl, fun W hW => run_ldI rfl rfl hW.y⟩) S0 ?_
  rw [show Act.put _ xa7.dst _ = { tmps := #[.slice (some ⟨b,off,none⟩) n c,.slice (some ⟨b2,off2,none⟩) n c2,x2,x3,x4,.int .i64 (k : Int),x6,x7,x8,x9,x10,x11,x12,x13,x14,x15,x16,.slice (some ⟨b,off,none⟩) n c,.int .i64 (k : Int),.pointer (some ⟨b,off + k * 13,none⟩),unv x,.slice (some ⟨b2,off2,none⟩) n c2,.int .i64 (k : Int),.pointer (some ⟨b2,off2 + k * 13,none⟩),unv x,x25],defers := [] } from by kernel_rfl]
  refine wpAnyH_take (i := 8) (oi := xa8) (v := .bool false) (by kernel_rfl) xa_lit (by kernel_rfl) (by kernel_rfl) (fun c a W h => hP c _ _ _ W h) (Or.inl ⟨by kernel_rfl, fun W hW => runU_neI rfl rfl rfl⟩) S0 ?_
  rw [show Act.put _ xa8.dst _ = { tmps := #[.slice (some ⟨b,off,none⟩) n c,.slice (some ⟨b2,off2,none⟩) n c2,x2,x3,x4,.int .i64 (k : Int),x6,x7,x8,x9,x10,x11,x12,x13,x14,x15,x16,.slice (some ⟨b,off,none⟩) n c,.int .i64 (k : Int),.pointer (some ⟨b,off + k * 13,none⟩),unv x,.slice (some ⟨b2,off2,none⟩) n c2,.int .i64 (k : Int),.pointer (some ⟨b2,off2 + k * 13,none⟩),unv x,.bool false],defers := [] } from by kernel_rfl]
  exact wpAnyH_done (by kernel_rfl) (hQ _ BW0) _

set_option maxHeartbeats 8000000 in
theorem same_items (v v2 : Value) (xs : List Un) (w : World) (h : Us w v xs) (h2 : Us w v2 xs) (hn : xs.length ≤ 100000) :
    Calls Try.prog 18 #[v, v2] w fun e w' => e = .returned (.bool true) ∧ Below w.heap.size w w' := by
  obtain ⟨a, c, rfl, hc0, hc1⟩ := h.form
  obtain ⟨a2, c2, rfl, hc02, hc12⟩ := h2.form
  obtain ⟨n, hln⟩ : ∃ n, xs.length = n := ⟨_, rfl⟩
  have HN := hid hln
  have HX := hid h
  have HY := hid h2
  rw [hln] at hn HX HY ⊢
  clear h h2 hln hc0 hc02
  go_enter Try.func18, Try.ntmps18
  go_wp2
  go_loopw [5] (fun i wr => ∃ k : Nat, k ≤ n ∧ i = .int .i64 (k : Int) ∧ Below w.heap.size w wr) (fun i _ => n - (intOf i).toNat)
  case atStart => exact ⟨0, Nat.zero_le _, rfl, Below.refl _ _⟩
  case round =>
    obtain ⟨k, hk, rfl, hb⟩ := hrel
    have HB := hid hb
    clear hb
    by_cases hlt : k < n
    · have hlt' : (k : Int) < (n : Int) := by omega
      have hx : k < xs.length := by rw [HN.out]; exact hlt
      obtain ⟨b, off, c', e1, _, _, hbl, hcc⟩ := (HX.out.below HB.out).inv (by rw [HN.out]; omega)
      obtain ⟨b2, off2, c2', e2, _, _, hbl2, hcc2⟩ := (HY.out.below HB.out).inv (by rw [HN.out]; omega)
      rw [HN.out] at e1 e2
      simp only [Value.slice.injEq] at e1 e2
      obtain ⟨rfl, -, rfl⟩ := e1
      obtain ⟨rfl, -, rfl⟩ := e2
      have HR := hid (show Rsm wr b off b2 off2 k (xs[k]) from ⟨hcc k hx, hcc2 k hx⟩)
      clear hcc hcc2 hbl hbl2
      go_upto_region 6 with fail
      refine sm_r6 HR.out hlt (fun _ _ _ _ _ h => h) ?_
      intro W3 hb3
      have HB3 := hid (bt HB.out hb3)
      clear hb3
      go_wp2_with fail
      go_roundw
      case rel => exact ⟨k + 1, hlt, by go_num, HB3.out⟩
      case measure => simp [intOf]; omega
    · obtain rfl : k = n := by omega
      have hnl : ¬ (k : Int) < (k : Int) := by omega
      go_wp2
      go_ret
      exact ⟨rfl, HB.out⟩

end Go.Proofs.Ytkaphlpohhaacaa
