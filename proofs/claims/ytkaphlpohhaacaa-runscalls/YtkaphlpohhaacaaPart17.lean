/-
  The drawn regions of Put and Cut are walked here. Printed by genuput.py.
-/
import Derived.Test.YtkaphlpohhaacaaPart16
namespace Go.Proofs.Ytkaphlpohhaacaa
open Go.RowKit
set_option linter.unusedVariables false
set_option linter.unusedSimpArgs false
set_option maxRecDepth 100000

theorem run_runs3 {o : Oper} {a : Act} {W : World} {x y z : Operand} {p q s : Un} (ho : o.op = .buildSlice 55 3 #[(0, x), (1, y), (2, z)]) (hx : a.eval x = unv p) (hy : a.eval y = unv q) (hz : a.eval z = unv s) :
    (execOp a.eval o).run Try.prog W = .ok (.value (.slice (some ⟨W.heap.size, 0, none⟩) 3 3)) (W.alloc (.cells (unc p ++ unc q ++ unc s).toArray RU)) := by
  have hr : (Instr.buildSlice 55 3 #[(0, unv p), (1, unv q), (2, unv s)]).run Try.prog W = .ok (.slice (some ⟨W.heap.size, 0, none⟩) 3 3) (W.alloc (.cells (unc p ++ unc q ++ unc s).toArray RU)) := by kernel_rfl
  unfold execOp
  have e : (Array.map (fun ((i, x) : Nat × Operand) => (i, a.eval x)) #[(0, x), (1, y), (2, z)]) = #[(0, unv p), (1, unv q), (2, unv s)] := by simp [hx, hy, hz]
  simp only [ho, e, Sem.run_bind, hr, Result.andThen_ok, Sem.run_pure]
theorem us_runs3 (W : World) (p q s : Un) : Us (W.alloc (.cells (unc p ++ unc q ++ unc s).toArray RU)) (.slice (some ⟨W.heap.size, 0, none⟩) 3 3) [p, q, s] := by
  have := Sl.lit (sz := 13) W RU (unc p ++ unc q ++ unc s).toArray 3 (by decide) (by simp)
  simpa [Us] using this
theorem ChX.below {N r : Nat} {v : Value} {ys : List Un} {w w1 w2 : World} (hb : Below w.heap.size w w1) (h : ChX N r v ys w1 w2) : ChX N r v ys w w2 := by
  obtain ⟨v', h1, h2, h3⟩ := h
  exact ⟨v', h1, (Fr.of_below hb : Fr (Sr r v) w w1).trans' h2, fun k hk => (h3 k hk).imp id (fun h => Nat.le_trans hb.size h)⟩
structure Rp (W : World) (p q : Nat) (x z : Un) : Prop where
  p : Ub 59 W p x
  q : Ub 36 W q z
theorem Rp.below {W W' : World} {p q : Nat} {x z : Un} (h : Rp W p q x z) (hb : Below W.heap.size W W') : Rp W' p q x z := ⟨h.p.below hb, h.q.below hb⟩
theorem Rp.fr {S : Nat → Prop} {W W' : World} {p q : Nat} {x z : Un} (h : Rp W p q x z) (hf : Fr S W W') (h1 : ¬ S p) (h2 : ¬ S q) : Rp W' p q x z := ⟨h.p.fr hf h1, h.q.fr hf h2⟩

def ud0 : Oper := { dst := some 60, op := Op.move (Operand.tmp 0), type := 29, pos := "runs.go:131", after := #[], guard := none }
def ud1 : Oper := { dst := some 61, op := Op.move (Operand.tmp 8), type := 3, pos := "runs.go:131", after := #[], guard := none }
def ud2 : Oper := { dst := some 62, op := Op.move (Operand.tmp 8), type := 3, pos := "runs.go:131", after := #[], guard := none }
def ud3 : Oper := { dst := some 63, op := Op.binOp BinOp.add 3 (Operand.tmp 62) (Operand.const (Value.int IntKind.i64 1)) 3, type := 3, pos := "runs.go:131", after := #[{ on := 2, ground := Ground.data }], guard := none }
def ud4 : Oper := { dst := some 64, op := Op.load 59 (Operand.tmp 10), type := 59, pos := "runs.go:131", after := #[], guard := none }
def ud5 : Oper := { dst := some 65, op := Op.fieldAddr 59 (Operand.tmp 10) 0, type := 0, pos := "runs.go:131", after := #[], guard := none }
def ud6 : Oper := { dst := some 66, op := Op.fieldAddr 36 (Operand.tmp 65) 1, type := 0, pos := "runs.go:131", after := #[{ on := 5, ground := Ground.data }], guard := none }
def ud7 : Oper := { dst := some 67, op := Op.load 3 (Operand.tmp 66), type := 3, pos := "runs.go:131", after := #[{ on := 6, ground := Ground.data }], guard := none }
def ud8 : Oper := { dst := some 68, op := Op.move (Operand.tmp 11), type := 3, pos := "runs.go:131", after := #[], guard := none }
def ud9 : Oper := { dst := some 69,op := Op.call { callee := Callee.value (Operand.func 32),args := #[Operand.tmp 64,Operand.tmp 67,Operand.tmp 68],argTypes := #[59,3,3] },type := 59,pos := "runs.go:131",after := #[{ on := 4,ground := Ground.data },{ on := 7,ground := Ground.data },{ on := 8,ground := Ground.data }],guard := none }
def ud10 : Oper := { dst := some 70, op := Op.load 36 (Operand.tmp 5), type := 36, pos := "runs.go:131", after := #[], guard := none }
def ud11 : Oper := { dst := some 71, op := Op.call { callee := Callee.value (Operand.func 31), args := #[Operand.tmp 70], argTypes := #[36] }, type := 59, pos := "runs.go:131", after := #[{ on := 10, ground := Ground.data }, { on := 9, ground := Ground.chain }], guard := none }
def ud12 : Oper := { dst := some 72, op := Op.load 59 (Operand.tmp 10), type := 59, pos := "runs.go:131", after := #[], guard := none }
def ud13 : Oper := { dst := some 73, op := Op.move (Operand.tmp 11), type := 3, pos := "runs.go:131", after := #[], guard := none }
def ud14 : Oper := { dst := some 74, op := Op.load 59 (Operand.tmp 10), type := 59, pos := "runs.go:131", after := #[], guard := none }
def ud15 : Oper := { dst := some 75, op := Op.call { callee := Callee.value (Operand.func 33), args := #[Operand.tmp 74], argTypes := #[59] }, type := 3, pos := "runs.go:131", after := #[{ on := 14, ground := Ground.data }, { on := 11, ground := Ground.chain }], guard := none }
def ud16 : Oper := { dst := some 76,op := Op.call { callee := Callee.value (Operand.func 32),args := #[Operand.tmp 72,Operand.tmp 73,Operand.tmp 75],argTypes := #[59,3,3] },type := 59,pos := "runs.go:131",after := #[{ on := 12,ground := Ground.data },{ on := 13,ground := Ground.data },{ on := 15,ground := Ground.data },{ on := 15,ground := Ground.chain }],guard := none }
def ud17 : Oper := { dst := some 77, op := Op.buildSlice 55 3 #[(0, Operand.tmp 69), (1, Operand.tmp 71), (2, Operand.tmp 76)], type := 55, pos := "runs.go:131", after := #[{ on := 9, ground := Ground.data }, { on := 11, ground := Ground.data }, { on := 16, ground := Ground.data }], guard := none }
def ud18 : Oper := { dst := some 78,op := Op.call { callee := Callee.value (Operand.func 30),args := #[Operand.tmp 60,Operand.tmp 61,Operand.tmp 63,Operand.tmp 77],argTypes := #[29,3,3,55] },type := 0,pos := "runs.go:131",after := #[{ on := 0,ground := Ground.data },{ on := 1,ground := Ground.data },{ on := 3,ground := Ground.data },{ on := 17,ground := Ground.data },{ on := 16,ground := Ground.chain }],guard := none }
def uds : Array Oper := #[ud0, ud1, ud2, ud3, ud4, ud5, ud6, ud7, ud8, ud9, ud10, ud11, ud12, ud13, ud14, ud15, ud16, ud17, ud18]
theorem ud_lit : Region.noSelect uds = true := by kernel_rfl

set_option maxHeartbeats 8000000 in
theorem put_r14 {N r p q k : Nat} {v : Value} {x z : Un} {mid : Int} {xs : List Un} {w : World} (h : Rp w p q x z) (hR : Rw N w r v xs) (hpq : p ≠ r ∧ q ≠ r ∧ v.ownBlock ≠ some p ∧ v.ownBlock ≠ some q) (hf : Fi x) (hz : z.t.size ≤ 64) (h1 : x.f ≤ mid) (h2 : mid ≤ x.f + x.l) (hk : k + 1 ≤ xs.length) (hxs : Fis xs) (hff : Fis [cutU x x.f mid,ownU z,cutU x mid (x.f + x.l)]) (hb : xs.length ≤ 40000) (hJ : 0 < (J (((xs.take k).drop (k - 1)) ++ [cutU x x.f mid,ownU z,cutU x mid (x.f + x.l)] ++ ((xs.take (min (k + 1 + 1) xs.length)).drop (k + 1)))).length) {x1 x2 x3 x4 x6 x7 x9 ab ad ae af ah ai aj ak am ap aq au av aw ax ay az aA aB aC aD aE aF aG aH aI aJ aK aL aM bm bl bj bi bg bf aZ aV aX aW aU aN aO aP aQ aR aS aT bx bw br bq bL bK bJ bI bH bz bD bu bA bp bv bn bk bh aY : Value} {Q : Exit → Act → World → Prop}
    (hP : ∀ c t t' d W, Q (.panic c) { tmps := t, defers := d } W → Q (.panic c) { tmps := t', defers := d } W)
    (hQ : ∀ W bs,ChX N r v (spliceU xs k (k + 1) [cutU x x.f mid,ownU z,cutU x mid (x.f + x.l)]) w W → Q .normal { tmps := #[.pointer (some ⟨r,0,none⟩),x1,x2,x3,x4,.pointer (some ⟨q,0,none⟩),x6,x7,.int .i64 (k : Int),x9,.pointer (some ⟨p,0,none⟩),.int .i64 mid,ab,ad,ae,af,ah,ai,aj,ak,am,ap,aq,au,av,aw,ax,ay,az,aA,aB,aC,aD,aE,aF,aG,aH,aI,aJ,aK,aL,aM,bm,bl,bj,bi,bg,bf,aZ,aV,aX,aW,aU,aN,aO,aP,aQ,aR,aS,aT,.pointer (some ⟨r,0,none⟩),.int .i64 (k : Int),.int .i64 (k : Int),.int .i64 ((k + 1 : Nat) : Int),unv x,.pointer (some ⟨p,0,none⟩),.pointer (some ⟨p,2,none⟩),.int .i64 x.f,.int .i64 mid,unv (cutU x x.f mid),unv z,unv (ownU z),unv x,.int .i64 mid,unv x,.int .i64 (x.f + x.l),unv (cutU x mid (x.f + x.l)),.slice (some ⟨bs,0,none⟩) 3 3,.tuple #[]],defers := [] } W) : (Code.region 14 uds true).wp Try.prog Q { tmps := #[.pointer (some ⟨r,0,none⟩),x1,x2,x3,x4,.pointer (some ⟨q,0,none⟩),x6,x7,.int .i64 (k : Int),x9,.pointer (some ⟨p,0,none⟩),.int .i64 mid,ab,ad,ae,af,ah,ai,aj,ak,am,ap,aq,au,av,aw,ax,ay,az,aA,aB,aC,aD,aE,aF,aG,aH,aI,aJ,aK,aL,aM,bm,bl,bj,bi,bg,bf,aZ,aV,aX,aW,aU,aN,aO,aP,aQ,aR,aS,aT,bx,bw,br,bq,bL,bK,bJ,bI,bH,bz,bD,bu,bA,bp,bv,bn,bk,bh,aY],defers := [] } w := by
  refine wp_region_held (S := fun W => Rp W p q x z) (by kernel_rfl) ?_
  change wpAnyH _ _ _ _ _ 19 _ _ (World.drew _)
  have S0 : Rp (World.drew w) p q x z := h.below (bd w 1)
  clear h
  obtain ⟨W0, hW⟩ : ∃ W, World.drew w = W := ⟨_, rfl⟩
  rw [hW] at S0 ⊢
  have BW0 : Below w.heap.size w W0 := by rw [← hW]; exact (Below.refl _ _).drew
  have KW0 : Rw N W0 r v xs := by rw [← hW]; exact hR.below (Below.refl _ _).drew
  have HPQ1 : ¬ Sr r v p := fun h => h.elim hpq.1 hpq.2.2.1
  have HPQ2 : ¬ Sr r v q := fun h => h.elim hpq.2.1 hpq.2.2.2
  clear hW
  refine wpAnyH_take (i := 0) (oi := ud0) (v := .pointer (some ⟨r, 0, none⟩)) (by kernel_rfl) ud_lit (by kernel_rfl) (by kernel_rfl) (fun c a W h => hP c _ _ _ W h) (Or.inl ⟨by kernel_rfl, fun W hW => by kernel_rfl⟩) S0 ?_
  rw [show Act.put _ ud0.dst _ = { tmps := #[.pointer (some ⟨r,0,none⟩),x1,x2,x3,x4,.pointer (some ⟨q,0,none⟩),x6,x7,.int .i64 (k : Int),x9,.pointer (some ⟨p,0,none⟩),.int .i64 mid,ab,ad,ae,af,ah,ai,aj,ak,am,ap,aq,au,av,aw,ax,ay,az,aA,aB,aC,aD,aE,aF,aG,aH,aI,aJ,aK,aL,aM,bm,bl,bj,bi,bg,bf,aZ,aV,aX,aW,aU,aN,aO,aP,aQ,aR,aS,aT,.pointer (some ⟨r,0,none⟩),bw,br,bq,bL,bK,bJ,bI,bH,bz,bD,bu,bA,bp,bv,bn,bk,bh,aY],defers := [] } from by kernel_rfl]
  refine wpAnyH_take (i := 1) (oi := ud1) (v := .int .i64 (k : Int)) (by kernel_rfl) ud_lit (by kernel_rfl) (by kernel_rfl) (fun c a W h => hP c _ _ _ W h) (Or.inl ⟨by kernel_rfl, fun W hW => by kernel_rfl⟩) S0 ?_
  rw [show Act.put _ ud1.dst _ = { tmps := #[.pointer (some ⟨r,0,none⟩),x1,x2,x3,x4,.pointer (some ⟨q,0,none⟩),x6,x7,.int .i64 (k : Int),x9,.pointer (some ⟨p,0,none⟩),.int .i64 mid,ab,ad,ae,af,ah,ai,aj,ak,am,ap,aq,au,av,aw,ax,ay,az,aA,aB,aC,aD,aE,aF,aG,aH,aI,aJ,aK,aL,aM,bm,bl,bj,bi,bg,bf,aZ,aV,aX,aW,aU,aN,aO,aP,aQ,aR,aS,aT,.pointer (some ⟨r,0,none⟩),.int .i64 (k : Int),br,bq,bL,bK,bJ,bI,bH,bz,bD,bu,bA,bp,bv,bn,bk,bh,aY],defers := [] } from by kernel_rfl]
  refine wpAnyH_take (i := 2) (oi := ud2) (v := .int .i64 (k : Int)) (by kernel_rfl) ud_lit (by kernel_rfl) (by kernel_rfl) (fun c a W h => hP c _ _ _ W h) (Or.inl ⟨by kernel_rfl, fun W hW => by kernel_rfl⟩) S0 ?_
  rw [show Act.put _ ud2.dst _ = { tmps := #[.pointer (some ⟨r,0,none⟩),x1,x2,x3,x4,.pointer (some ⟨q,0,none⟩),x6,x7,.int .i64 (k : Int),x9,.pointer (some ⟨p,0,none⟩),.int .i64 mid,ab,ad,ae,af,ah,ai,aj,ak,am,ap,aq,au,av,aw,ax,ay,az,aA,aB,aC,aD,aE,aF,aG,aH,aI,aJ,aK,aL,aM,bm,bl,bj,bi,bg,bf,aZ,aV,aX,aW,aU,aN,aO,aP,aQ,aR,aS,aT,.pointer (some ⟨r,0,none⟩),.int .i64 (k : Int),.int .i64 (k : Int),bq,bL,bK,bJ,bI,bH,bz,bD,bu,bA,bp,bv,bn,bk,bh,aY],defers := [] } from by kernel_rfl]
  refine wpAnyH_take (i := 3) (oi := ud3) (v := .int .i64 ((k + 1 : Nat) : Int)) (by kernel_rfl) ud_lit (by kernel_rfl) (by kernel_rfl) (fun c a W h => hP c _ _ _ W h) (Or.inl ⟨by kernel_rfl, fun W hW => runU_addq (q := k + 1) rfl rfl rfl (by omega) (by omega)⟩) S0 ?_
  rw [show Act.put _ ud3.dst _ = { tmps := #[.pointer (some ⟨r,0,none⟩),x1,x2,x3,x4,.pointer (some ⟨q,0,none⟩),x6,x7,.int .i64 (k : Int),x9,.pointer (some ⟨p,0,none⟩),.int .i64 mid,ab,ad,ae,af,ah,ai,aj,ak,am,ap,aq,au,av,aw,ax,ay,az,aA,aB,aC,aD,aE,aF,aG,aH,aI,aJ,aK,aL,aM,bm,bl,bj,bi,bg,bf,aZ,aV,aX,aW,aU,aN,aO,aP,aQ,aR,aS,aT,.pointer (some ⟨r,0,none⟩),.int .i64 (k : Int),.int .i64 (k : Int),.int .i64 ((k + 1 : Nat) : Int),bL,bK,bJ,bI,bH,bz,bD,bu,bA,bp,bv,bn,bk,bh,aY],defers := [] } from by kernel_rfl]
  refine wpAnyH_take (i := 4) (oi := ud4) (v := unv x) (by kernel_rfl) ud_lit (by kernel_rfl) (by kernel_rfl) (fun c a W h => hP c _ _ _ W h) (Or.inl ⟨by kernel_rfl, fun W hW => run_ldR rfl rfl hW.p.cells⟩) S0 ?_
  rw [show Act.put _ ud4.dst _ = { tmps := #[.pointer (some ⟨r,0,none⟩),x1,x2,x3,x4,.pointer (some ⟨q,0,none⟩),x6,x7,.int .i64 (k : Int),x9,.pointer (some ⟨p,0,none⟩),.int .i64 mid,ab,ad,ae,af,ah,ai,aj,ak,am,ap,aq,au,av,aw,ax,ay,az,aA,aB,aC,aD,aE,aF,aG,aH,aI,aJ,aK,aL,aM,bm,bl,bj,bi,bg,bf,aZ,aV,aX,aW,aU,aN,aO,aP,aQ,aR,aS,aT,.pointer (some ⟨r,0,none⟩),.int .i64 (k : Int),.int .i64 (k : Int),.int .i64 ((k + 1 : Nat) : Int),unv x,bK,bJ,bI,bH,bz,bD,bu,bA,bp,bv,bn,bk,bh,aY],defers := [] } from by kernel_rfl]
  refine wpAnyH_take (i := 5) (oi := ud5) (v := .pointer (some ⟨p, 0, none⟩)) (by kernel_rfl) ud_lit (by kernel_rfl) (by kernel_rfl) (fun c a W h => hP c _ _ _ W h) (Or.inl ⟨by kernel_rfl, fun W hW => by kernel_rfl⟩) S0 ?_
  rw [show Act.put _ ud5.dst _ = { tmps := #[.pointer (some ⟨r,0,none⟩),x1,x2,x3,x4,.pointer (some ⟨q,0,none⟩),x6,x7,.int .i64 (k : Int),x9,.pointer (some ⟨p,0,none⟩),.int .i64 mid,ab,ad,ae,af,ah,ai,aj,ak,am,ap,aq,au,av,aw,ax,ay,az,aA,aB,aC,aD,aE,aF,aG,aH,aI,aJ,aK,aL,aM,bm,bl,bj,bi,bg,bf,aZ,aV,aX,aW,aU,aN,aO,aP,aQ,aR,aS,aT,.pointer (some ⟨r,0,none⟩),.int .i64 (k : Int),.int .i64 (k : Int),.int .i64 ((k + 1 : Nat) : Int),unv x,.pointer (some ⟨p,0,none⟩),bJ,bI,bH,bz,bD,bu,bA,bp,bv,bn,bk,bh,aY],defers := [] } from by kernel_rfl]
  refine wpAnyH_take (i := 6) (oi := ud6) (v := .pointer (some ⟨p, 2, none⟩)) (by kernel_rfl) ud_lit (by kernel_rfl) (by kernel_rfl) (fun c a W h => hP c _ _ _ W h) (Or.inl ⟨by kernel_rfl, fun W hW => by kernel_rfl⟩) S0 ?_
  rw [show Act.put _ ud6.dst _ = { tmps := #[.pointer (some ⟨r,0,none⟩),x1,x2,x3,x4,.pointer (some ⟨q,0,none⟩),x6,x7,.int .i64 (k : Int),x9,.pointer (some ⟨p,0,none⟩),.int .i64 mid,ab,ad,ae,af,ah,ai,aj,ak,am,ap,aq,au,av,aw,ax,ay,az,aA,aB,aC,aD,aE,aF,aG,aH,aI,aJ,aK,aL,aM,bm,bl,bj,bi,bg,bf,aZ,aV,aX,aW,aU,aN,aO,aP,aQ,aR,aS,aT,.pointer (some ⟨r,0,none⟩),.int .i64 (k : Int),.int .i64 (k : Int),.int .i64 ((k + 1 : Nat) : Int),unv x,.pointer (some ⟨p,0,none⟩),.pointer (some ⟨p,2,none⟩),bI,bH,bz,bD,bu,bA,bp,bv,bn,bk,bh,aY],defers := [] } from by kernel_rfl]
  refine wpAnyH_take (i := 7) (oi := ud7) (v := .int .i64 x.f) (by kernel_rfl) ud_lit (by kernel_rfl) (by kernel_rfl) (fun c a W h => hP c _ _ _ W h) (Or.inl ⟨by kernel_rfl, fun W hW => runU_int rfl rfl hW.p.cells.c2⟩) S0 ?_
  rw [show Act.put _ ud7.dst _ = { tmps := #[.pointer (some ⟨r,0,none⟩),x1,x2,x3,x4,.pointer (some ⟨q,0,none⟩),x6,x7,.int .i64 (k : Int),x9,.pointer (some ⟨p,0,none⟩),.int .i64 mid,ab,ad,ae,af,ah,ai,aj,ak,am,ap,aq,au,av,aw,ax,ay,az,aA,aB,aC,aD,aE,aF,aG,aH,aI,aJ,aK,aL,aM,bm,bl,bj,bi,bg,bf,aZ,aV,aX,aW,aU,aN,aO,aP,aQ,aR,aS,aT,.pointer (some ⟨r,0,none⟩),.int .i64 (k : Int),.int .i64 (k : Int),.int .i64 ((k + 1 : Nat) : Int),unv x,.pointer (some ⟨p,0,none⟩),.pointer (some ⟨p,2,none⟩),.int .i64 x.f,bH,bz,bD,bu,bA,bp,bv,bn,bk,bh,aY],defers := [] } from by kernel_rfl]
  refine wpAnyH_take (i := 8) (oi := ud8) (v := .int .i64 mid) (by kernel_rfl) ud_lit (by kernel_rfl) (by kernel_rfl) (fun c a W h => hP c _ _ _ W h) (Or.inl ⟨by kernel_rfl, fun W hW => by kernel_rfl⟩) S0 ?_
  rw [show Act.put _ ud8.dst _ = { tmps := #[.pointer (some ⟨r,0,none⟩),x1,x2,x3,x4,.pointer (some ⟨q,0,none⟩),x6,x7,.int .i64 (k : Int),x9,.pointer (some ⟨p,0,none⟩),.int .i64 mid,ab,ad,ae,af,ah,ai,aj,ak,am,ap,aq,au,av,aw,ax,ay,az,aA,aB,aC,aD,aE,aF,aG,aH,aI,aJ,aK,aL,aM,bm,bl,bj,bi,bg,bf,aZ,aV,aX,aW,aU,aN,aO,aP,aQ,aR,aS,aT,.pointer (some ⟨r,0,none⟩),.int .i64 (k : Int),.int .i64 (k : Int),.int .i64 ((k + 1 : Nat) : Int),unv x,.pointer (some ⟨p,0,none⟩),.pointer (some ⟨p,2,none⟩),.int .i64 x.f,.int .i64 mid,bz,bD,bu,bA,bp,bv,bn,bk,bh,aY],defers := [] } from by kernel_rfl]
  refine wpAnyH_take (i := 10) (oi := ud10) (v := unv z) (by kernel_rfl) ud_lit (by kernel_rfl) (by kernel_rfl) (fun c a W h => hP c _ _ _ W h) (Or.inl ⟨by kernel_rfl, fun W hW => run_ldI rfl rfl hW.q.cells⟩) S0 ?_
  rw [show Act.put _ ud10.dst _ = { tmps := #[.pointer (some ⟨r,0,none⟩),x1,x2,x3,x4,.pointer (some ⟨q,0,none⟩),x6,x7,.int .i64 (k : Int),x9,.pointer (some ⟨p,0,none⟩),.int .i64 mid,ab,ad,ae,af,ah,ai,aj,ak,am,ap,aq,au,av,aw,ax,ay,az,aA,aB,aC,aD,aE,aF,aG,aH,aI,aJ,aK,aL,aM,bm,bl,bj,bi,bg,bf,aZ,aV,aX,aW,aU,aN,aO,aP,aQ,aR,aS,aT,.pointer (some ⟨r,0,none⟩),.int .i64 (k : Int),.int .i64 (k : Int),.int .i64 ((k + 1 : Nat) : Int),unv x,.pointer (some ⟨p,0,none⟩),.pointer (some ⟨p,2,none⟩),.int .i64 x.f,.int .i64 mid,bz,unv z,bu,bA,bp,bv,bn,bk,bh,aY],defers := [] } from by kernel_rfl]
  refine wpAnyH_take (i := 12) (oi := ud12) (v := unv x) (by kernel_rfl) ud_lit (by kernel_rfl) (by kernel_rfl) (fun c a W h => hP c _ _ _ W h) (Or.inl ⟨by kernel_rfl, fun W hW => run_ldR rfl rfl hW.p.cells⟩) S0 ?_
  rw [show Act.put _ ud12.dst _ = { tmps := #[.pointer (some ⟨r,0,none⟩),x1,x2,x3,x4,.pointer (some ⟨q,0,none⟩),x6,x7,.int .i64 (k : Int),x9,.pointer (some ⟨p,0,none⟩),.int .i64 mid,ab,ad,ae,af,ah,ai,aj,ak,am,ap,aq,au,av,aw,ax,ay,az,aA,aB,aC,aD,aE,aF,aG,aH,aI,aJ,aK,aL,aM,bm,bl,bj,bi,bg,bf,aZ,aV,aX,aW,aU,aN,aO,aP,aQ,aR,aS,aT,.pointer (some ⟨r,0,none⟩),.int .i64 (k : Int),.int .i64 (k : Int),.int .i64 ((k + 1 : Nat) : Int),unv x,.pointer (some ⟨p,0,none⟩),.pointer (some ⟨p,2,none⟩),.int .i64 x.f,.int .i64 mid,bz,unv z,bu,unv x,bp,bv,bn,bk,bh,aY],defers := [] } from by kernel_rfl]
  refine wpAnyH_take (i := 13) (oi := ud13) (v := .int .i64 mid) (by kernel_rfl) ud_lit (by kernel_rfl) (by kernel_rfl) (fun c a W h => hP c _ _ _ W h) (Or.inl ⟨by kernel_rfl, fun W hW => by kernel_rfl⟩) S0 ?_
  rw [show Act.put _ ud13.dst _ = { tmps := #[.pointer (some ⟨r,0,none⟩),x1,x2,x3,x4,.pointer (some ⟨q,0,none⟩),x6,x7,.int .i64 (k : Int),x9,.pointer (some ⟨p,0,none⟩),.int .i64 mid,ab,ad,ae,af,ah,ai,aj,ak,am,ap,aq,au,av,aw,ax,ay,az,aA,aB,aC,aD,aE,aF,aG,aH,aI,aJ,aK,aL,aM,bm,bl,bj,bi,bg,bf,aZ,aV,aX,aW,aU,aN,aO,aP,aQ,aR,aS,aT,.pointer (some ⟨r,0,none⟩),.int .i64 (k : Int),.int .i64 (k : Int),.int .i64 ((k + 1 : Nat) : Int),unv x,.pointer (some ⟨p,0,none⟩),.pointer (some ⟨p,2,none⟩),.int .i64 x.f,.int .i64 mid,bz,unv z,bu,unv x,.int .i64 mid,bv,bn,bk,bh,aY],defers := [] } from by kernel_rfl]
  refine wpAnyH_take (i := 14) (oi := ud14) (v := unv x) (by kernel_rfl) ud_lit (by kernel_rfl) (by kernel_rfl) (fun c a W h => hP c _ _ _ W h) (Or.inl ⟨by kernel_rfl, fun W hW => run_ldR rfl rfl hW.p.cells⟩) S0 ?_
  rw [show Act.put _ ud14.dst _ = { tmps := #[.pointer (some ⟨r,0,none⟩),x1,x2,x3,x4,.pointer (some ⟨q,0,none⟩),x6,x7,.int .i64 (k : Int),x9,.pointer (some ⟨p,0,none⟩),.int .i64 mid,ab,ad,ae,af,ah,ai,aj,ak,am,ap,aq,au,av,aw,ax,ay,az,aA,aB,aC,aD,aE,aF,aG,aH,aI,aJ,aK,aL,aM,bm,bl,bj,bi,bg,bf,aZ,aV,aX,aW,aU,aN,aO,aP,aQ,aR,aS,aT,.pointer (some ⟨r,0,none⟩),.int .i64 (k : Int),.int .i64 (k : Int),.int .i64 ((k + 1 : Nat) : Int),unv x,.pointer (some ⟨p,0,none⟩),.pointer (some ⟨p,2,none⟩),.int .i64 x.f,.int .i64 mid,bz,unv z,bu,unv x,.int .i64 mid,unv x,bn,bk,bh,aY],defers := [] } from by kernel_rfl]
  refine wpAnyH_all (rs := [9]) (by kernel_rfl) (by simp) (fun i hi => ?_)
  obtain rfl := List.mem_singleton.1 hi
  refine hb_callx (o := ud9) (f := 32) (args := #[unv x, .int .i64 x.f, .int .i64 mid]) (D := fun u V => u = unv (cutU x x.f mid) ∧ Below W0.heap.size W0 V) (by kernel_rfl) (by kernel_rfl) (by kernel_rfl) ((part_any x x.f mid _ hf (Int.le_refl _) h1 h2).mono fun e V ⟨h1, h2⟩ => ⟨_, h1, rfl, h2⟩) ?_
  rintro _ W1 ⟨rfl, b⟩
  have S1 := S0.below b
  have KW1 := KW0.below b
  have BW1 := bt BW0 b
  clear b
  rw [show Act.put _ ud9.dst _ = { tmps := #[.pointer (some ⟨r,0,none⟩),x1,x2,x3,x4,.pointer (some ⟨q,0,none⟩),x6,x7,.int .i64 (k : Int),x9,.pointer (some ⟨p,0,none⟩),.int .i64 mid,ab,ad,ae,af,ah,ai,aj,ak,am,ap,aq,au,av,aw,ax,ay,az,aA,aB,aC,aD,aE,aF,aG,aH,aI,aJ,aK,aL,aM,bm,bl,bj,bi,bg,bf,aZ,aV,aX,aW,aU,aN,aO,aP,aQ,aR,aS,aT,.pointer (some ⟨r,0,none⟩),.int .i64 (k : Int),.int .i64 (k : Int),.int .i64 ((k + 1 : Nat) : Int),unv x,.pointer (some ⟨p,0,none⟩),.pointer (some ⟨p,2,none⟩),.int .i64 x.f,.int .i64 mid,unv (cutU x x.f mid),unv z,bu,unv x,.int .i64 mid,unv x,bn,bk,bh,aY],defers := [] } from by kernel_rfl]
  refine ⟨S1, ?_⟩
  refine wpAnyH_all (rs := [11]) (by kernel_rfl) (by simp) (fun i hi => ?_)
  obtain rfl := List.mem_singleton.1 hi
  refine hb_callx (o := ud11) (f := 31) (args := #[unv z]) (D := fun u V => u = unv (ownU z) ∧ Below W1.heap.size W1 V) (by kernel_rfl) (by kernel_rfl) (by kernel_rfl) ((own_any z _ hz).mono fun e V ⟨h1, h2⟩ => ⟨_, h1, rfl, h2⟩) ?_
  rintro _ W2 ⟨rfl, b⟩
  have S2 := S1.below b
  have KW2 := KW1.below b
  have BW2 := bt BW1 b
  clear b
  rw [show Act.put _ ud11.dst _ = { tmps := #[.pointer (some ⟨r,0,none⟩),x1,x2,x3,x4,.pointer (some ⟨q,0,none⟩),x6,x7,.int .i64 (k : Int),x9,.pointer (some ⟨p,0,none⟩),.int .i64 mid,ab,ad,ae,af,ah,ai,aj,ak,am,ap,aq,au,av,aw,ax,ay,az,aA,aB,aC,aD,aE,aF,aG,aH,aI,aJ,aK,aL,aM,bm,bl,bj,bi,bg,bf,aZ,aV,aX,aW,aU,aN,aO,aP,aQ,aR,aS,aT,.pointer (some ⟨r,0,none⟩),.int .i64 (k : Int),.int .i64 (k : Int),.int .i64 ((k + 1 : Nat) : Int),unv x,.pointer (some ⟨p,0,none⟩),.pointer (some ⟨p,2,none⟩),.int .i64 x.f,.int .i64 mid,unv (cutU x x.f mid),unv z,unv (ownU z),unv x,.int .i64 mid,unv x,bn,bk,bh,aY],defers := [] } from by kernel_rfl]
  refine ⟨S2, ?_⟩
  refine wpAnyH_all (rs := [15]) (by kernel_rfl) (by simp) (fun i hi => ?_)
  obtain rfl := List.mem_singleton.1 hi
  refine hb_callx (o := ud15) (f := 33) (args := #[unv x]) (D := fun u V => u = .int .i64 (x.f + x.l) ∧ Below W2.heap.size W2 V) (by kernel_rfl) (by kernel_rfl) (by kernel_rfl) ((end_any x _ hf).mono fun e V ⟨h1, h2⟩ => ⟨_, h1, rfl, h2⟩) ?_
  rintro _ W3 ⟨rfl, b⟩
  have S3 := S2.below b
  have KW3 := KW2.below b
  have BW3 := bt BW2 b
  clear b
  rw [show Act.put _ ud15.dst _ = { tmps := #[.pointer (some ⟨r,0,none⟩),x1,x2,x3,x4,.pointer (some ⟨q,0,none⟩),x6,x7,.int .i64 (k : Int),x9,.pointer (some ⟨p,0,none⟩),.int .i64 mid,ab,ad,ae,af,ah,ai,aj,ak,am,ap,aq,au,av,aw,ax,ay,az,aA,aB,aC,aD,aE,aF,aG,aH,aI,aJ,aK,aL,aM,bm,bl,bj,bi,bg,bf,aZ,aV,aX,aW,aU,aN,aO,aP,aQ,aR,aS,aT,.pointer (some ⟨r,0,none⟩),.int .i64 (k : Int),.int .i64 (k : Int),.int .i64 ((k + 1 : Nat) : Int),unv x,.pointer (some ⟨p,0,none⟩),.pointer (some ⟨p,2,none⟩),.int .i64 x.f,.int .i64 mid,unv (cutU x x.f mid),unv z,unv (ownU z),unv x,.int .i64 mid,unv x,.int .i64 (x.f + x.l),bk,bh,aY],defers := [] } from by kernel_rfl]
  refine ⟨S3, ?_⟩
  refine wpAnyH_all (rs := [16]) (by kernel_rfl) (by simp) (fun i hi => ?_)
  obtain rfl := List.mem_singleton.1 hi
  refine hb_callx (o := ud16) (f := 32) (args := #[unv x,.int .i64 mid,.int .i64 (x.f + x.l)]) (D := fun u V => u = unv (cutU x mid (x.f + x.l)) ∧ Below W3.heap.size W3 V) (by kernel_rfl) (by kernel_rfl) (by kernel_rfl) ((part_any x mid (x.f + x.l) _ hf h1 h2 (Int.le_refl _)).mono fun e V ⟨h1,h2⟩ => ⟨_,h1,rfl,h2⟩) ?_
  rintro _ W4 ⟨rfl, b⟩
  have S4 := S3.below b
  have KW4 := KW3.below b
  have BW4 := bt BW3 b
  clear b
  rw [show Act.put _ ud16.dst _ = { tmps := #[.pointer (some ⟨r,0,none⟩),x1,x2,x3,x4,.pointer (some ⟨q,0,none⟩),x6,x7,.int .i64 (k : Int),x9,.pointer (some ⟨p,0,none⟩),.int .i64 mid,ab,ad,ae,af,ah,ai,aj,ak,am,ap,aq,au,av,aw,ax,ay,az,aA,aB,aC,aD,aE,aF,aG,aH,aI,aJ,aK,aL,aM,bm,bl,bj,bi,bg,bf,aZ,aV,aX,aW,aU,aN,aO,aP,aQ,aR,aS,aT,.pointer (some ⟨r,0,none⟩),.int .i64 (k : Int),.int .i64 (k : Int),.int .i64 ((k + 1 : Nat) : Int),unv x,.pointer (some ⟨p,0,none⟩),.pointer (some ⟨p,2,none⟩),.int .i64 x.f,.int .i64 mid,unv (cutU x x.f mid),unv z,unv (ownU z),unv x,.int .i64 mid,unv x,.int .i64 (x.f + x.l),unv (cutU x mid (x.f + x.l)),bh,aY],defers := [] } from by kernel_rfl]
  refine ⟨S4, ?_⟩
  refine wpAnyH_all (rs := [17]) (by kernel_rfl) (by simp) (fun i hi => ?_)
  obtain rfl := List.mem_singleton.1 hi
  obtain ⟨bs, hbs⟩ : ∃ bs, W4.heap.size = bs := ⟨_, rfl⟩
  refine hb_new (o := ud17) (w' := W4.alloc (.cells (unc (cutU x x.f mid) ++ unc (ownU z) ++ unc (cutU x mid (x.f + x.l))).toArray RU)) (v := .slice (some ⟨bs, 0, none⟩) 3 3) (by kernel_rfl) (by kernel_rfl) (by rw [← hbs]; exact run_runs3 rfl rfl rfl rfl) ?_
  rw [show Act.put _ ud17.dst _ = { tmps := #[.pointer (some ⟨r,0,none⟩),x1,x2,x3,x4,.pointer (some ⟨q,0,none⟩),x6,x7,.int .i64 (k : Int),x9,.pointer (some ⟨p,0,none⟩),.int .i64 mid,ab,ad,ae,af,ah,ai,aj,ak,am,ap,aq,au,av,aw,ax,ay,az,aA,aB,aC,aD,aE,aF,aG,aH,aI,aJ,aK,aL,aM,bm,bl,bj,bi,bg,bf,aZ,aV,aX,aW,aU,aN,aO,aP,aQ,aR,aS,aT,.pointer (some ⟨r,0,none⟩),.int .i64 (k : Int),.int .i64 (k : Int),.int .i64 ((k + 1 : Nat) : Int),unv x,.pointer (some ⟨p,0,none⟩),.pointer (some ⟨p,2,none⟩),.int .i64 x.f,.int .i64 mid,unv (cutU x x.f mid),unv z,unv (ownU z),unv x,.int .i64 mid,unv x,.int .i64 (x.f + x.l),unv (cutU x mid (x.f + x.l)),.slice (some ⟨bs,0,none⟩) 3 3,aY],defers := [] } from by kernel_rfl]
  obtain ⟨W5, hW5⟩ : ∃ W, W4.alloc (.cells (unc (cutU x x.f mid) ++ unc (ownU z) ++ unc (cutU x mid (x.f + x.l))).toArray RU) = W := ⟨_, rfl⟩
  rw [hW5]
  have b : Below W4.heap.size W4 W5 := by rw [← hW5]; exact ba _ _
  have UW5 : Us W5 (.slice (some ⟨bs, 0, none⟩) 3 3) [(cutU x x.f mid), (ownU z), (cutU x mid (x.f + x.l))] := by rw [← hW5, ← hbs]; exact us_runs3 _ _ _ _
  have S5 := S4.below b
  have KW5 := KW4.below b
  have BW5 := bt BW4 b
  clear b
  refine ⟨S5, ?_⟩
  refine wpAnyH_all (rs := [18]) (by kernel_rfl) (by simp) (fun i hi => ?_)
  obtain rfl := List.mem_singleton.1 hi
  refine hb_callx (o := ud18) (f := 30) (args := #[.pointer (some ⟨r,0,none⟩),.int .i64 (k : Int),.int .i64 ((k + 1 : Nat) : Int),.slice (some ⟨bs,0,none⟩) 3 3]) (D := fun u V => u = .tuple #[] ∧ ChX N r v (spliceU xs k (k + 1) [cutU x x.f mid,ownU z,cutU x mid (x.f + x.l)]) W5 V) (by kernel_rfl) (by kernel_rfl) (by kernel_rfl) ((change_any N r v _ xs [cutU x x.f mid,ownU z,cutU x mid (x.f + x.l)] k (k + 1) _ KW5 UW5 (Nat.le_succ k) hk hxs hff (by simp) (by simp; omega) hJ).mono fun e V ⟨h1,h2⟩ => ⟨_,h1,rfl,h2⟩) ?_
  rintro _ W6 ⟨rfl, hc⟩
  have S6 : Rp W6 p q x z := (by obtain ⟨v2, _, hf2, _⟩ := hc; exact S5.fr hf2 HPQ1 HPQ2)
  have CW6 := ChX.below BW5 hc
  rw [show Act.put _ ud18.dst _ = { tmps := #[.pointer (some ⟨r,0,none⟩),x1,x2,x3,x4,.pointer (some ⟨q,0,none⟩),x6,x7,.int .i64 (k : Int),x9,.pointer (some ⟨p,0,none⟩),.int .i64 mid,ab,ad,ae,af,ah,ai,aj,ak,am,ap,aq,au,av,aw,ax,ay,az,aA,aB,aC,aD,aE,aF,aG,aH,aI,aJ,aK,aL,aM,bm,bl,bj,bi,bg,bf,aZ,aV,aX,aW,aU,aN,aO,aP,aQ,aR,aS,aT,.pointer (some ⟨r,0,none⟩),.int .i64 (k : Int),.int .i64 (k : Int),.int .i64 ((k + 1 : Nat) : Int),unv x,.pointer (some ⟨p,0,none⟩),.pointer (some ⟨p,2,none⟩),.int .i64 x.f,.int .i64 mid,unv (cutU x x.f mid),unv z,unv (ownU z),unv x,.int .i64 mid,unv x,.int .i64 (x.f + x.l),unv (cutU x mid (x.f + x.l)),.slice (some ⟨bs,0,none⟩) 3 3,.tuple #[]],defers := [] } from by kernel_rfl]
  refine ⟨S6, ?_⟩
  exact wpAnyH_done (by kernel_rfl) (hQ _ bs CW6) _

structure Rc (W : World) (p q : Nat) (x : Un) (cr cn cf ct : Int) : Prop where
  p : Ub 59 W p x
  q : Kb W q cr cn cf ct
theorem Rc.below {W W' : World} {p q : Nat} {x : Un} {cr cn cf ct : Int} (h : Rc W p q x cr cn cf ct) (hb : Below W.heap.size W W') : Rc W' p q x cr cn cf ct := ⟨h.p.below hb, h.q.below hb⟩
structure Rs2 (W : World) (p q : Nat) (x y : Un) : Prop where
  p : Ub 59 W p x
  q : Ub 59 W q y
theorem Rs2.below {W W' : World} {p q : Nat} {x z : Un} (h : Rs2 W p q x z) (hb : Below W.heap.size W W') : Rs2 W' p q x z := ⟨h.p.below hb, h.q.below hb⟩
theorem Rs2.fr {S : Nat → Prop} {W W' : World} {p q : Nat} {x z : Un} (h : Rs2 W p q x z) (hf : Fr S W W') (h1 : ¬ S p) (h2 : ¬ S q) : Rs2 W' p q x z := ⟨h.p.fr hf h1, h.q.fr hf h2⟩

def ue0 : Oper := { dst := some 42, op := Op.fieldAddr 59 (Operand.tmp 7) 0, type := 0, pos := "runs.go:144", after := #[], guard := none }
def ue1 : Oper := { dst := some 43, op := Op.fieldAddr 36 (Operand.tmp 42) 1, type := 0, pos := "runs.go:144", after := #[{ on := 0, ground := Ground.data }], guard := none }
def ue2 : Oper := { dst := some 44, op := Op.load 3 (Operand.tmp 43), type := 3, pos := "runs.go:144", after := #[{ on := 1, ground := Ground.data }], guard := none }
def ue3 : Oper := { dst := some 45, op := Op.fieldAddr 38 (Operand.tmp 3) 1, type := 0, pos := "runs.go:144", after := #[], guard := none }
def ue4 : Oper := { dst := some 46, op := Op.load 3 (Operand.tmp 45), type := 3, pos := "runs.go:144", after := #[{ on := 3, ground := Ground.data }], guard := none }
def ue5 : Oper := { dst := some 47, op := Op.call { callee := Callee.builtin Builtin.max, args := #[Operand.tmp 44, Operand.tmp 46], argTypes := #[3, 3] }, type := 3, pos := "runs.go:144", after := #[{ on := 2, ground := Ground.data }, { on := 4, ground := Ground.data }], guard := none }
def ue6 : Oper := { dst := some 48, op := Op.load 59 (Operand.tmp 7), type := 59, pos := "runs.go:144", after := #[], guard := none }
def ue7 : Oper := { dst := some 49, op := Op.call { callee := Callee.value (Operand.func 33), args := #[Operand.tmp 48], argTypes := #[59] }, type := 3, pos := "runs.go:144", after := #[{ on := 6, ground := Ground.data }], guard := none }
def ue8 : Oper := { dst := some 50, op := Op.fieldAddr 38 (Operand.tmp 3) 2, type := 0, pos := "runs.go:144", after := #[], guard := none }
def ue9 : Oper := { dst := some 51, op := Op.load 3 (Operand.tmp 50), type := 3, pos := "runs.go:144", after := #[{ on := 8, ground := Ground.data }], guard := none }
def ue10 : Oper := { dst := some 52, op := Op.call { callee := Callee.builtin Builtin.min, args := #[Operand.tmp 49, Operand.tmp 51], argTypes := #[3, 3] }, type := 3, pos := "runs.go:144", after := #[{ on := 7, ground := Ground.data }, { on := 9, ground := Ground.data }], guard := none }
def ue11 : Oper := { dst := some 8,op := Op.assign (Operand.tmp 47),type := 3,pos := "runs.go:144",after := #[{ on := 5,ground := Ground.data },{ on := 7,ground := Ground.chain },{ on := 0,ground := Ground.phase },{ on := 1,ground := Ground.phase },{ on := 2,ground := Ground.phase },{ on := 3,ground := Ground.phase },{ on := 4,ground := Ground.phase },{ on := 5,ground := Ground.phase },{ on := 6,ground := Ground.textOnly Departure.lateStores },{ on := 7,ground := Ground.textOnly Departure.lateStoresUnsure },{ on := 8,ground := Ground.textOnly Departure.lateStores },{ on := 9,ground := Ground.textOnly Departure.lateStores },{ on := 10,ground := Ground.textOnly Departure.lateStoresUnsure }],guard := none }
def ue12 : Oper := { dst := some 9,op := Op.assign (Operand.tmp 52),type := 3,pos := "runs.go:144",after := #[{ on := 10,ground := Ground.data },{ on := 11,ground := Ground.chain },{ on := 0,ground := Ground.phase },{ on := 1,ground := Ground.phase },{ on := 2,ground := Ground.phase },{ on := 3,ground := Ground.phase },{ on := 4,ground := Ground.phase },{ on := 5,ground := Ground.phase },{ on := 6,ground := Ground.phase },{ on := 7,ground := Ground.phase },{ on := 8,ground := Ground.phase },{ on := 9,ground := Ground.phase },{ on := 10,ground := Ground.phase },{ on := 11,ground := Ground.phase }],guard := none }
def ues : Array Oper := #[ue0, ue1, ue2, ue3, ue4, ue5, ue6, ue7, ue8, ue9, ue10, ue11, ue12]
theorem ue_lit : Region.noSelect ues = true := by kernel_rfl

set_option maxHeartbeats 8000000 in
theorem cut_r7 {p q : Nat} {x : Un} {cr cn cf ct a b : Int} {w : World} (h : Rc w p q x cr cn cf ct) (hf : Fi x) (ha : max x.f cf = a) (hb : min (x.f + x.l) ct = b) {x0 x1 x2 x4 x5 x6 x8 x9 bM bB ab ad ae af ah ai aj ak am ap aq au av aw ax ay az aA aB aC aD aE aF aG aH aI aJ aK aL aM bm bl bj bi bg bf aZ aV aX aW aU aN aO aP aQ aR aS aT bx bw br bq bL bK bJ bI bH bz bD bu bA bp bv bn bk bh aY bG bF bE bC : Value} {Q : Exit → Act → World → Prop}
    (hP : ∀ c t t' d W, Q (.panic c) { tmps := t, defers := d } W → Q (.panic c) { tmps := t', defers := d } W)
    (hQ : ∀ W,Below w.heap.size w W → Q .normal { tmps := #[x0,x1,x2,.pointer (some ⟨q,0,none⟩),x4,x5,x6,.pointer (some ⟨p,0,none⟩),.int .i64 a,.int .i64 b,bM,bB,ab,ad,ae,af,ah,ai,aj,ak,am,ap,aq,au,av,aw,ax,ay,az,aA,aB,aC,aD,aE,aF,aG,aH,aI,aJ,aK,aL,aM,.pointer (some ⟨p,0,none⟩),.pointer (some ⟨p,2,none⟩),.int .i64 x.f,.pointer (some ⟨q,2,none⟩),.int .i64 cf,.int .i64 a,unv x,.int .i64 (x.f + x.l),.pointer (some ⟨q,3,none⟩),.int .i64 ct,.int .i64 b,aN,aO,aP,aQ,aR,aS,aT,bx,bw,br,bq,bL,bK,bJ,bI,bH,bz,bD,bu,bA,bp,bv,bn,bk,bh,aY,bG,bF,bE,bC],defers := [] } W) : (Code.region 7 ues true).wp Try.prog Q { tmps := #[x0,x1,x2,.pointer (some ⟨q,0,none⟩),x4,x5,x6,.pointer (some ⟨p,0,none⟩),x8,x9,bM,bB,ab,ad,ae,af,ah,ai,aj,ak,am,ap,aq,au,av,aw,ax,ay,az,aA,aB,aC,aD,aE,aF,aG,aH,aI,aJ,aK,aL,aM,bm,bl,bj,bi,bg,bf,aZ,aV,aX,aW,aU,aN,aO,aP,aQ,aR,aS,aT,bx,bw,br,bq,bL,bK,bJ,bI,bH,bz,bD,bu,bA,bp,bv,bn,bk,bh,aY,bG,bF,bE,bC],defers := [] } w := by
  refine wp_region_held (S := fun W => Rc W p q x cr cn cf ct) (by kernel_rfl) ?_
  change wpAnyH _ _ _ _ _ 13 _ _ (World.drew _)
  have S0 : Rc (World.drew w) p q x cr cn cf ct := h.below (bd w 1)
  clear h
  obtain ⟨W0, hW⟩ : ∃ W, World.drew w = W := ⟨_, rfl⟩
  rw [hW] at S0 ⊢
  have BW0 : Below w.heap.size w W0 := by rw [← hW]; exact (Below.refl _ _).drew
  clear hW
  refine wpAnyH_take (i := 0) (oi := ue0) (v := .pointer (some ⟨p, 0, none⟩)) (by kernel_rfl) ue_lit (by kernel_rfl) (by kernel_rfl) (fun c a W h => hP c _ _ _ W h) (Or.inl ⟨by kernel_rfl, fun W hW => by kernel_rfl⟩) S0 ?_
  rw [show Act.put _ ue0.dst _ = { tmps := #[x0,x1,x2,.pointer (some ⟨q,0,none⟩),x4,x5,x6,.pointer (some ⟨p,0,none⟩),x8,x9,bM,bB,ab,ad,ae,af,ah,ai,aj,ak,am,ap,aq,au,av,aw,ax,ay,az,aA,aB,aC,aD,aE,aF,aG,aH,aI,aJ,aK,aL,aM,.pointer (some ⟨p,0,none⟩),bl,bj,bi,bg,bf,aZ,aV,aX,aW,aU,aN,aO,aP,aQ,aR,aS,aT,bx,bw,br,bq,bL,bK,bJ,bI,bH,bz,bD,bu,bA,bp,bv,bn,bk,bh,aY,bG,bF,bE,bC],defers := [] } from by kernel_rfl]
  refine wpAnyH_take (i := 1) (oi := ue1) (v := .pointer (some ⟨p, 2, none⟩)) (by kernel_rfl) ue_lit (by kernel_rfl) (by kernel_rfl) (fun c a W h => hP c _ _ _ W h) (Or.inl ⟨by kernel_rfl, fun W hW => by kernel_rfl⟩) S0 ?_
  rw [show Act.put _ ue1.dst _ = { tmps := #[x0,x1,x2,.pointer (some ⟨q,0,none⟩),x4,x5,x6,.pointer (some ⟨p,0,none⟩),x8,x9,bM,bB,ab,ad,ae,af,ah,ai,aj,ak,am,ap,aq,au,av,aw,ax,ay,az,aA,aB,aC,aD,aE,aF,aG,aH,aI,aJ,aK,aL,aM,.pointer (some ⟨p,0,none⟩),.pointer (some ⟨p,2,none⟩),bj,bi,bg,bf,aZ,aV,aX,aW,aU,aN,aO,aP,aQ,aR,aS,aT,bx,bw,br,bq,bL,bK,bJ,bI,bH,bz,bD,bu,bA,bp,bv,bn,bk,bh,aY,bG,bF,bE,bC],defers := [] } from by kernel_rfl]
  refine wpAnyH_take (i := 2) (oi := ue2) (v := .int .i64 x.f) (by kernel_rfl) ue_lit (by kernel_rfl) (by kernel_rfl) (fun c a W h => hP c _ _ _ W h) (Or.inl ⟨by kernel_rfl, fun W hW => runU_int rfl rfl hW.p.cells.c2⟩) S0 ?_
  rw [show Act.put _ ue2.dst _ = { tmps := #[x0,x1,x2,.pointer (some ⟨q,0,none⟩),x4,x5,x6,.pointer (some ⟨p,0,none⟩),x8,x9,bM,bB,ab,ad,ae,af,ah,ai,aj,ak,am,ap,aq,au,av,aw,ax,ay,az,aA,aB,aC,aD,aE,aF,aG,aH,aI,aJ,aK,aL,aM,.pointer (some ⟨p,0,none⟩),.pointer (some ⟨p,2,none⟩),.int .i64 x.f,bi,bg,bf,aZ,aV,aX,aW,aU,aN,aO,aP,aQ,aR,aS,aT,bx,bw,br,bq,bL,bK,bJ,bI,bH,bz,bD,bu,bA,bp,bv,bn,bk,bh,aY,bG,bF,bE,bC],defers := [] } from by kernel_rfl]
  refine wpAnyH_take (i := 3) (oi := ue3) (v := .pointer (some ⟨q, 2, none⟩)) (by kernel_rfl) ue_lit (by kernel_rfl) (by kernel_rfl) (fun c a W h => hP c _ _ _ W h) (Or.inl ⟨by kernel_rfl, fun W hW => by kernel_rfl⟩) S0 ?_
  rw [show Act.put _ ue3.dst _ = { tmps := #[x0,x1,x2,.pointer (some ⟨q,0,none⟩),x4,x5,x6,.pointer (some ⟨p,0,none⟩),x8,x9,bM,bB,ab,ad,ae,af,ah,ai,aj,ak,am,ap,aq,au,av,aw,ax,ay,az,aA,aB,aC,aD,aE,aF,aG,aH,aI,aJ,aK,aL,aM,.pointer (some ⟨p,0,none⟩),.pointer (some ⟨p,2,none⟩),.int .i64 x.f,.pointer (some ⟨q,2,none⟩),bg,bf,aZ,aV,aX,aW,aU,aN,aO,aP,aQ,aR,aS,aT,bx,bw,br,bq,bL,bK,bJ,bI,bH,bz,bD,bu,bA,bp,bv,bn,bk,bh,aY,bG,bF,bE,bC],defers := [] } from by kernel_rfl]
  refine wpAnyH_take (i := 4) (oi := ue4) (v := .int .i64 cf) (by kernel_rfl) ue_lit (by kernel_rfl) (by kernel_rfl) (fun c a W h => hP c _ _ _ W h) (Or.inl ⟨by kernel_rfl, fun W hW => runU_int rfl rfl hW.q.cells.c2⟩) S0 ?_
  rw [show Act.put _ ue4.dst _ = { tmps := #[x0,x1,x2,.pointer (some ⟨q,0,none⟩),x4,x5,x6,.pointer (some ⟨p,0,none⟩),x8,x9,bM,bB,ab,ad,ae,af,ah,ai,aj,ak,am,ap,aq,au,av,aw,ax,ay,az,aA,aB,aC,aD,aE,aF,aG,aH,aI,aJ,aK,aL,aM,.pointer (some ⟨p,0,none⟩),.pointer (some ⟨p,2,none⟩),.int .i64 x.f,.pointer (some ⟨q,2,none⟩),.int .i64 cf,bf,aZ,aV,aX,aW,aU,aN,aO,aP,aQ,aR,aS,aT,bx,bw,br,bq,bL,bK,bJ,bI,bH,bz,bD,bu,bA,bp,bv,bn,bk,bh,aY,bG,bF,bE,bC],defers := [] } from by kernel_rfl]
  refine wpAnyH_take (i := 5) (oi := ue5) (v := .int .i64 a) (by kernel_rfl) ue_lit (by kernel_rfl) (by kernel_rfl) (fun c a W h => hP c _ _ _ W h) (Or.inl ⟨by kernel_rfl, fun W hW => ha ▸ runU_max rfl rfl rfl⟩) S0 ?_
  rw [show Act.put _ ue5.dst _ = { tmps := #[x0,x1,x2,.pointer (some ⟨q,0,none⟩),x4,x5,x6,.pointer (some ⟨p,0,none⟩),x8,x9,bM,bB,ab,ad,ae,af,ah,ai,aj,ak,am,ap,aq,au,av,aw,ax,ay,az,aA,aB,aC,aD,aE,aF,aG,aH,aI,aJ,aK,aL,aM,.pointer (some ⟨p,0,none⟩),.pointer (some ⟨p,2,none⟩),.int .i64 x.f,.pointer (some ⟨q,2,none⟩),.int .i64 cf,.int .i64 a,aZ,aV,aX,aW,aU,aN,aO,aP,aQ,aR,aS,aT,bx,bw,br,bq,bL,bK,bJ,bI,bH,bz,bD,bu,bA,bp,bv,bn,bk,bh,aY,bG,bF,bE,bC],defers := [] } from by kernel_rfl]
  refine wpAnyH_take (i := 6) (oi := ue6) (v := unv x) (by kernel_rfl) ue_lit (by kernel_rfl) (by kernel_rfl) (fun c a W h => hP c _ _ _ W h) (Or.inl ⟨by kernel_rfl, fun W hW => run_ldR rfl rfl hW.p.cells⟩) S0 ?_
  rw [show Act.put _ ue6.dst _ = { tmps := #[x0,x1,x2,.pointer (some ⟨q,0,none⟩),x4,x5,x6,.pointer (some ⟨p,0,none⟩),x8,x9,bM,bB,ab,ad,ae,af,ah,ai,aj,ak,am,ap,aq,au,av,aw,ax,ay,az,aA,aB,aC,aD,aE,aF,aG,aH,aI,aJ,aK,aL,aM,.pointer (some ⟨p,0,none⟩),.pointer (some ⟨p,2,none⟩),.int .i64 x.f,.pointer (some ⟨q,2,none⟩),.int .i64 cf,.int .i64 a,unv x,aV,aX,aW,aU,aN,aO,aP,aQ,aR,aS,aT,bx,bw,br,bq,bL,bK,bJ,bI,bH,bz,bD,bu,bA,bp,bv,bn,bk,bh,aY,bG,bF,bE,bC],defers := [] } from by kernel_rfl]
  refine wpAnyH_take (i := 8) (oi := ue8) (v := .pointer (some ⟨q, 3, none⟩)) (by kernel_rfl) ue_lit (by kernel_rfl) (by kernel_rfl) (fun c a W h => hP c _ _ _ W h) (Or.inl ⟨by kernel_rfl, fun W hW => by kernel_rfl⟩) S0 ?_
  rw [show Act.put _ ue8.dst _ = { tmps := #[x0,x1,x2,.pointer (some ⟨q,0,none⟩),x4,x5,x6,.pointer (some ⟨p,0,none⟩),x8,x9,bM,bB,ab,ad,ae,af,ah,ai,aj,ak,am,ap,aq,au,av,aw,ax,ay,az,aA,aB,aC,aD,aE,aF,aG,aH,aI,aJ,aK,aL,aM,.pointer (some ⟨p,0,none⟩),.pointer (some ⟨p,2,none⟩),.int .i64 x.f,.pointer (some ⟨q,2,none⟩),.int .i64 cf,.int .i64 a,unv x,aV,.pointer (some ⟨q,3,none⟩),aW,aU,aN,aO,aP,aQ,aR,aS,aT,bx,bw,br,bq,bL,bK,bJ,bI,bH,bz,bD,bu,bA,bp,bv,bn,bk,bh,aY,bG,bF,bE,bC],defers := [] } from by kernel_rfl]
  refine wpAnyH_take (i := 9) (oi := ue9) (v := .int .i64 ct) (by kernel_rfl) ue_lit (by kernel_rfl) (by kernel_rfl) (fun c a W h => hP c _ _ _ W h) (Or.inl ⟨by kernel_rfl, fun W hW => runU_int rfl rfl hW.q.cells.c3⟩) S0 ?_
  rw [show Act.put _ ue9.dst _ = { tmps := #[x0,x1,x2,.pointer (some ⟨q,0,none⟩),x4,x5,x6,.pointer (some ⟨p,0,none⟩),x8,x9,bM,bB,ab,ad,ae,af,ah,ai,aj,ak,am,ap,aq,au,av,aw,ax,ay,az,aA,aB,aC,aD,aE,aF,aG,aH,aI,aJ,aK,aL,aM,.pointer (some ⟨p,0,none⟩),.pointer (some ⟨p,2,none⟩),.int .i64 x.f,.pointer (some ⟨q,2,none⟩),.int .i64 cf,.int .i64 a,unv x,aV,.pointer (some ⟨q,3,none⟩),.int .i64 ct,aU,aN,aO,aP,aQ,aR,aS,aT,bx,bw,br,bq,bL,bK,bJ,bI,bH,bz,bD,bu,bA,bp,bv,bn,bk,bh,aY,bG,bF,bE,bC],defers := [] } from by kernel_rfl]
  refine wpAnyH_all (rs := [7]) (by kernel_rfl) (by simp) (fun i hi => ?_)
  obtain rfl := List.mem_singleton.1 hi
  refine hb_callx (o := ue7) (f := 33) (args := #[unv x]) (D := fun u V => u = .int .i64 (x.f + x.l) ∧ Below W0.heap.size W0 V) (by kernel_rfl) (by kernel_rfl) (by kernel_rfl) ((end_any x _ hf).mono fun e V ⟨h1, h2⟩ => ⟨_, h1, rfl, h2⟩) ?_
  rintro _ W1 ⟨rfl, b1⟩
  have S1 := S0.below b1
  have BW1 := bt BW0 b1
  clear b1
  rw [show Act.put _ ue7.dst _ = { tmps := #[x0,x1,x2,.pointer (some ⟨q,0,none⟩),x4,x5,x6,.pointer (some ⟨p,0,none⟩),x8,x9,bM,bB,ab,ad,ae,af,ah,ai,aj,ak,am,ap,aq,au,av,aw,ax,ay,az,aA,aB,aC,aD,aE,aF,aG,aH,aI,aJ,aK,aL,aM,.pointer (some ⟨p,0,none⟩),.pointer (some ⟨p,2,none⟩),.int .i64 x.f,.pointer (some ⟨q,2,none⟩),.int .i64 cf,.int .i64 a,unv x,.int .i64 (x.f + x.l),.pointer (some ⟨q,3,none⟩),.int .i64 ct,aU,aN,aO,aP,aQ,aR,aS,aT,bx,bw,br,bq,bL,bK,bJ,bI,bH,bz,bD,bu,bA,bp,bv,bn,bk,bh,aY,bG,bF,bE,bC],defers := [] } from by kernel_rfl]
  refine ⟨S1, ?_⟩
  refine wpAnyH_take (i := 10) (oi := ue10) (v := .int .i64 b) (by kernel_rfl) ue_lit (by kernel_rfl) (by kernel_rfl) (fun c a W h => hP c _ _ _ W h) (Or.inl ⟨by kernel_rfl, fun W hW => hb ▸ runU_min rfl rfl rfl⟩) S1 ?_
  rw [show Act.put _ ue10.dst _ = { tmps := #[x0,x1,x2,.pointer (some ⟨q,0,none⟩),x4,x5,x6,.pointer (some ⟨p,0,none⟩),x8,x9,bM,bB,ab,ad,ae,af,ah,ai,aj,ak,am,ap,aq,au,av,aw,ax,ay,az,aA,aB,aC,aD,aE,aF,aG,aH,aI,aJ,aK,aL,aM,.pointer (some ⟨p,0,none⟩),.pointer (some ⟨p,2,none⟩),.int .i64 x.f,.pointer (some ⟨q,2,none⟩),.int .i64 cf,.int .i64 a,unv x,.int .i64 (x.f + x.l),.pointer (some ⟨q,3,none⟩),.int .i64 ct,.int .i64 b,aN,aO,aP,aQ,aR,aS,aT,bx,bw,br,bq,bL,bK,bJ,bI,bH,bz,bD,bu,bA,bp,bv,bn,bk,bh,aY,bG,bF,bE,bC],defers := [] } from by kernel_rfl]
  refine wpAnyH_take (i := 11) (oi := ue11) (v := .int .i64 a) (by kernel_rfl) ue_lit (by kernel_rfl) (by kernel_rfl) (fun c a W h => hP c _ _ _ W h) (Or.inl ⟨by kernel_rfl, fun W hW => by kernel_rfl⟩) S1 ?_
  rw [show Act.put _ ue11.dst _ = { tmps := #[x0,x1,x2,.pointer (some ⟨q,0,none⟩),x4,x5,x6,.pointer (some ⟨p,0,none⟩),.int .i64 a,x9,bM,bB,ab,ad,ae,af,ah,ai,aj,ak,am,ap,aq,au,av,aw,ax,ay,az,aA,aB,aC,aD,aE,aF,aG,aH,aI,aJ,aK,aL,aM,.pointer (some ⟨p,0,none⟩),.pointer (some ⟨p,2,none⟩),.int .i64 x.f,.pointer (some ⟨q,2,none⟩),.int .i64 cf,.int .i64 a,unv x,.int .i64 (x.f + x.l),.pointer (some ⟨q,3,none⟩),.int .i64 ct,.int .i64 b,aN,aO,aP,aQ,aR,aS,aT,bx,bw,br,bq,bL,bK,bJ,bI,bH,bz,bD,bu,bA,bp,bv,bn,bk,bh,aY,bG,bF,bE,bC],defers := [] } from by kernel_rfl]
  refine wpAnyH_take (i := 12) (oi := ue12) (v := .int .i64 b) (by kernel_rfl) ue_lit (by kernel_rfl) (by kernel_rfl) (fun c a W h => hP c _ _ _ W h) (Or.inl ⟨by kernel_rfl, fun W hW => by kernel_rfl⟩) S1 ?_
  rw [show Act.put _ ue12.dst _ = { tmps := #[x0,x1,x2,.pointer (some ⟨q,0,none⟩),x4,x5,x6,.pointer (some ⟨p,0,none⟩),.int .i64 a,.int .i64 b,bM,bB,ab,ad,ae,af,ah,ai,aj,ak,am,ap,aq,au,av,aw,ax,ay,az,aA,aB,aC,aD,aE,aF,aG,aH,aI,aJ,aK,aL,aM,.pointer (some ⟨p,0,none⟩),.pointer (some ⟨p,2,none⟩),.int .i64 x.f,.pointer (some ⟨q,2,none⟩),.int .i64 cf,.int .i64 a,unv x,.int .i64 (x.f + x.l),.pointer (some ⟨q,3,none⟩),.int .i64 ct,.int .i64 b,aN,aO,aP,aQ,aR,aS,aT,bx,bw,br,bq,bL,bK,bJ,bI,bH,bz,bD,bu,bA,bp,bv,bn,bk,bh,aY,bG,bF,bE,bC],defers := [] } from by kernel_rfl]
  exact wpAnyH_done (by kernel_rfl) (hQ _ BW1) _
def uf2x0 : Oper := { dst := some 64, op := Op.move (Operand.tmp 0), type := 29, pos := "runs.go:148", after := #[], guard := none }
def uf2x1 : Oper := { dst := some 65, op := Op.move (Operand.tmp 6), type := 3, pos := "runs.go:148", after := #[], guard := none }
def uf2x2 : Oper := { dst := some 66, op := Op.move (Operand.tmp 6), type := 3, pos := "runs.go:148", after := #[], guard := none }
def uf2x3 : Oper := { dst := some 67, op := Op.binOp BinOp.add 3 (Operand.tmp 66) (Operand.const (Value.int IntKind.i64 1)) 3, type := 3, pos := "runs.go:148", after := #[{ on := 2, ground := Ground.data }], guard := none }
def uf2x4 : Oper := { dst := some 68, op := Op.load 59 (Operand.tmp 7), type := 59, pos := "runs.go:148", after := #[], guard := none }
def uf2x5 : Oper := { dst := some 69, op := Op.fieldAddr 59 (Operand.tmp 7) 0, type := 0, pos := "runs.go:148", after := #[], guard := none }
def uf2x6 : Oper := { dst := some 70, op := Op.fieldAddr 36 (Operand.tmp 69) 1, type := 0, pos := "runs.go:148", after := #[{ on := 5, ground := Ground.data }], guard := none }
def uf2x7 : Oper := { dst := some 71, op := Op.load 3 (Operand.tmp 70), type := 3, pos := "runs.go:148", after := #[{ on := 6, ground := Ground.data }], guard := none }
def uf2x8 : Oper := { dst := some 72, op := Op.move (Operand.tmp 8), type := 3, pos := "runs.go:148", after := #[], guard := none }
def uf2x9 : Oper := { dst := some 73,op := Op.call { callee := Callee.value (Operand.func 32),args := #[Operand.tmp 68,Operand.tmp 71,Operand.tmp 72],argTypes := #[59,3,3] },type := 59,pos := "runs.go:148",after := #[{ on := 4,ground := Ground.data },{ on := 7,ground := Ground.data },{ on := 8,ground := Ground.data }],guard := none }
def uf2x10 : Oper := { dst := some 74, op := Op.load 59 (Operand.tmp 10), type := 59, pos := "runs.go:148", after := #[], guard := none }
def uf2x11 : Oper := { dst := some 75, op := Op.load 59 (Operand.tmp 7), type := 59, pos := "runs.go:148", after := #[], guard := none }
def uf2x12 : Oper := { dst := some 76, op := Op.move (Operand.tmp 9), type := 3, pos := "runs.go:148", after := #[], guard := none }
def uf2x13 : Oper := { dst := some 77, op := Op.load 59 (Operand.tmp 7), type := 59, pos := "runs.go:148", after := #[], guard := none }
def uf2x14 : Oper := { dst := some 78, op := Op.call { callee := Callee.value (Operand.func 33), args := #[Operand.tmp 77], argTypes := #[59] }, type := 3, pos := "runs.go:148", after := #[{ on := 13, ground := Ground.data }, { on := 9, ground := Ground.chain }], guard := none }
def uf2x15 : Oper := { dst := some 79,op := Op.call { callee := Callee.value (Operand.func 32),args := #[Operand.tmp 75,Operand.tmp 76,Operand.tmp 78],argTypes := #[59,3,3] },type := 59,pos := "runs.go:148",after := #[{ on := 11,ground := Ground.data },{ on := 12,ground := Ground.data },{ on := 14,ground := Ground.data },{ on := 14,ground := Ground.chain }],guard := none }
def uf2x16 : Oper := { dst := some 80,op := Op.buildSlice 55 3 #[(0,Operand.tmp 73),(1,Operand.tmp 74),(2,Operand.tmp 79)],type := 55,pos := "runs.go:148",after := #[{ on := 9,ground := Ground.data },{ on := 10,ground := Ground.data },{ on := 15,ground := Ground.data }],guard := none }
def uf2x17 : Oper := { dst := some 81,op := Op.call { callee := Callee.value (Operand.func 30),args := #[Operand.tmp 64,Operand.tmp 65,Operand.tmp 67,Operand.tmp 80],argTypes := #[29,3,3,55] },type := 0,pos := "runs.go:148",after := #[{ on := 0,ground := Ground.data },{ on := 1,ground := Ground.data },{ on := 3,ground := Ground.data },{ on := 16,ground := Ground.data },{ on := 15,ground := Ground.chain }],guard := none }
def uf2xs : Array Oper := #[uf2x0, uf2x1, uf2x2, uf2x3, uf2x4, uf2x5, uf2x6, uf2x7, uf2x8, uf2x9, uf2x10, uf2x11, uf2x12, uf2x13, uf2x14, uf2x15, uf2x16, uf2x17]
theorem uf2x_lit : Region.noSelect uf2xs = true := by kernel_rfl

set_option maxHeartbeats 8000000 in
theorem cut_r11 {N r p q k : Nat} {v : Value} {x y : Un} {i j : Int} {xs : List Un} {w : World} (h : Rs2 w p q x y) (hR : Rw N w r v xs) (hpq : p ≠ r ∧ q ≠ r ∧ v.ownBlock ≠ some p ∧ v.ownBlock ≠ some q) (hf : Fi x) (h1 : x.f ≤ i ∧ i ≤ x.f + x.l) (h2 : x.f ≤ j ∧ j ≤ x.f + x.l) (hk : k + 1 ≤ xs.length) (hxs : Fis xs) (hff : Fis [cutU x x.f i,y,cutU x j (x.f + x.l)]) (hb : xs.length ≤ 40000) (hJ : 0 < (J (((xs.take k).drop (k - 1)) ++ [cutU x x.f i,y,cutU x j (x.f + x.l)] ++ ((xs.take (min (k + 1 + 1) xs.length)).drop (k + 1)))).length) {x1 x2 x3 x4 x5 bB ab ad ae af ah ai aj ak am ap aq au av aw ax ay az aA aB aC aD aE aF aG aH aI aJ aK aL aM bm bl bj bi bg bf aZ aV aX aW aU aN aO aP aQ aR aS aT bx bw br bq bL bK bJ bI bH bz bD bu bA bp bv bn bk bh aY bG bF bE bC : Value} {Q : Exit → Act → World → Prop}
    (hP : ∀ c t t' d W, Q (.panic c) { tmps := t, defers := d } W → Q (.panic c) { tmps := t', defers := d } W)
    (hQ : ∀ W bs,ChX N r v (spliceU xs k (k + 1) [cutU x x.f i,y,cutU x j (x.f + x.l)]) w W → Q .normal { tmps := #[.pointer (some ⟨r,0,none⟩),x1,x2,x3,x4,x5,.int .i64 (k : Int),.pointer (some ⟨p,0,none⟩),.int .i64 i,.int .i64 j,.pointer (some ⟨q,0,none⟩),bB,ab,ad,ae,af,ah,ai,aj,ak,am,ap,aq,au,av,aw,ax,ay,az,aA,aB,aC,aD,aE,aF,aG,aH,aI,aJ,aK,aL,aM,bm,bl,bj,bi,bg,bf,aZ,aV,aX,aW,aU,aN,aO,aP,aQ,aR,aS,aT,bx,bw,br,bq,.pointer (some ⟨r,0,none⟩),.int .i64 (k : Int),.int .i64 (k : Int),.int .i64 ((k + 1 : Nat) : Int),unv x,.pointer (some ⟨p,0,none⟩),.pointer (some ⟨p,2,none⟩),.int .i64 x.f,.int .i64 i,unv (cutU x x.f i),unv y,unv x,.int .i64 j,unv x,.int .i64 (x.f + x.l),unv (cutU x j (x.f + x.l)),.slice (some ⟨bs,0,none⟩) 3 3,.tuple #[],bC],defers := [] } W) : (Code.region 11 uf2xs true).wp Try.prog Q { tmps := #[.pointer (some ⟨r,0,none⟩),x1,x2,x3,x4,x5,.int .i64 (k : Int),.pointer (some ⟨p,0,none⟩),.int .i64 i,.int .i64 j,.pointer (some ⟨q,0,none⟩),bB,ab,ad,ae,af,ah,ai,aj,ak,am,ap,aq,au,av,aw,ax,ay,az,aA,aB,aC,aD,aE,aF,aG,aH,aI,aJ,aK,aL,aM,bm,bl,bj,bi,bg,bf,aZ,aV,aX,aW,aU,aN,aO,aP,aQ,aR,aS,aT,bx,bw,br,bq,bL,bK,bJ,bI,bH,bz,bD,bu,bA,bp,bv,bn,bk,bh,aY,bG,bF,bE,bC],defers := [] } w := by
  refine wp_region_held (S := fun W => Rs2 W p q x y) (by kernel_rfl) ?_
  change wpAnyH _ _ _ _ _ 18 _ _ (World.drew _)
  have S0 : Rs2 (World.drew w) p q x y := h.below (bd w 1)
  clear h
  obtain ⟨W0, hW⟩ : ∃ W, World.drew w = W := ⟨_, rfl⟩
  rw [hW] at S0 ⊢
  have BW0 : Below w.heap.size w W0 := by rw [← hW]; exact (Below.refl _ _).drew
  have KW0 : Rw N W0 r v xs := by rw [← hW]; exact hR.below (Below.refl _ _).drew
  have HPQ1 : ¬ Sr r v p := fun h => h.elim hpq.1 hpq.2.2.1
  have HPQ2 : ¬ Sr r v q := fun h => h.elim hpq.2.1 hpq.2.2.2
  clear hW
  refine wpAnyH_take (i := 0) (oi := uf2x0) (v := .pointer (some ⟨r, 0, none⟩)) (by kernel_rfl) uf2x_lit (by kernel_rfl) (by kernel_rfl) (fun c a W h => hP c _ _ _ W h) (Or.inl ⟨by kernel_rfl, fun W hW => by kernel_rfl⟩) S0 ?_
  rw [show Act.put _ uf2x0.dst _ = { tmps := #[.pointer (some ⟨r,0,none⟩),x1,x2,x3,x4,x5,.int .i64 (k : Int),.pointer (some ⟨p,0,none⟩),.int .i64 i,.int .i64 j,.pointer (some ⟨q,0,none⟩),bB,ab,ad,ae,af,ah,ai,aj,ak,am,ap,aq,au,av,aw,ax,ay,az,aA,aB,aC,aD,aE,aF,aG,aH,aI,aJ,aK,aL,aM,bm,bl,bj,bi,bg,bf,aZ,aV,aX,aW,aU,aN,aO,aP,aQ,aR,aS,aT,bx,bw,br,bq,.pointer (some ⟨r,0,none⟩),bK,bJ,bI,bH,bz,bD,bu,bA,bp,bv,bn,bk,bh,aY,bG,bF,bE,bC],defers := [] } from by kernel_rfl]
  refine wpAnyH_take (i := 1) (oi := uf2x1) (v := .int .i64 (k : Int)) (by kernel_rfl) uf2x_lit (by kernel_rfl) (by kernel_rfl) (fun c a W h => hP c _ _ _ W h) (Or.inl ⟨by kernel_rfl, fun W hW => by kernel_rfl⟩) S0 ?_
  rw [show Act.put _ uf2x1.dst _ = { tmps := #[.pointer (some ⟨r,0,none⟩),x1,x2,x3,x4,x5,.int .i64 (k : Int),.pointer (some ⟨p,0,none⟩),.int .i64 i,.int .i64 j,.pointer (some ⟨q,0,none⟩),bB,ab,ad,ae,af,ah,ai,aj,ak,am,ap,aq,au,av,aw,ax,ay,az,aA,aB,aC,aD,aE,aF,aG,aH,aI,aJ,aK,aL,aM,bm,bl,bj,bi,bg,bf,aZ,aV,aX,aW,aU,aN,aO,aP,aQ,aR,aS,aT,bx,bw,br,bq,.pointer (some ⟨r,0,none⟩),.int .i64 (k : Int),bJ,bI,bH,bz,bD,bu,bA,bp,bv,bn,bk,bh,aY,bG,bF,bE,bC],defers := [] } from by kernel_rfl]
  refine wpAnyH_take (i := 2) (oi := uf2x2) (v := .int .i64 (k : Int)) (by kernel_rfl) uf2x_lit (by kernel_rfl) (by kernel_rfl) (fun c a W h => hP c _ _ _ W h) (Or.inl ⟨by kernel_rfl, fun W hW => by kernel_rfl⟩) S0 ?_
  rw [show Act.put _ uf2x2.dst _ = { tmps := #[.pointer (some ⟨r,0,none⟩),x1,x2,x3,x4,x5,.int .i64 (k : Int),.pointer (some ⟨p,0,none⟩),.int .i64 i,.int .i64 j,.pointer (some ⟨q,0,none⟩),bB,ab,ad,ae,af,ah,ai,aj,ak,am,ap,aq,au,av,aw,ax,ay,az,aA,aB,aC,aD,aE,aF,aG,aH,aI,aJ,aK,aL,aM,bm,bl,bj,bi,bg,bf,aZ,aV,aX,aW,aU,aN,aO,aP,aQ,aR,aS,aT,bx,bw,br,bq,.pointer (some ⟨r,0,none⟩),.int .i64 (k : Int),.int .i64 (k : Int),bI,bH,bz,bD,bu,bA,bp,bv,bn,bk,bh,aY,bG,bF,bE,bC],defers := [] } from by kernel_rfl]
  refine wpAnyH_take (i := 3) (oi := uf2x3) (v := .int .i64 ((k + 1 : Nat) : Int)) (by kernel_rfl) uf2x_lit (by kernel_rfl) (by kernel_rfl) (fun c a W h => hP c _ _ _ W h) (Or.inl ⟨by kernel_rfl, fun W hW => runU_addq (q := k + 1) rfl rfl rfl (by omega) (by omega)⟩) S0 ?_
  rw [show Act.put _ uf2x3.dst _ = { tmps := #[.pointer (some ⟨r,0,none⟩),x1,x2,x3,x4,x5,.int .i64 (k : Int),.pointer (some ⟨p,0,none⟩),.int .i64 i,.int .i64 j,.pointer (some ⟨q,0,none⟩),bB,ab,ad,ae,af,ah,ai,aj,ak,am,ap,aq,au,av,aw,ax,ay,az,aA,aB,aC,aD,aE,aF,aG,aH,aI,aJ,aK,aL,aM,bm,bl,bj,bi,bg,bf,aZ,aV,aX,aW,aU,aN,aO,aP,aQ,aR,aS,aT,bx,bw,br,bq,.pointer (some ⟨r,0,none⟩),.int .i64 (k : Int),.int .i64 (k : Int),.int .i64 ((k + 1 : Nat) : Int),bH,bz,bD,bu,bA,bp,bv,bn,bk,bh,aY,bG,bF,bE,bC],defers := [] } from by kernel_rfl]
  refine wpAnyH_take (i := 4) (oi := uf2x4) (v := unv x) (by kernel_rfl) uf2x_lit (by kernel_rfl) (by kernel_rfl) (fun c a W h => hP c _ _ _ W h) (Or.inl ⟨by kernel_rfl, fun W hW => run_ldR rfl rfl hW.p.cells⟩) S0 ?_
  rw [show Act.put _ uf2x4.dst _ = { tmps := #[.pointer (some ⟨r,0,none⟩),x1,x2,x3,x4,x5,.int .i64 (k : Int),.pointer (some ⟨p,0,none⟩),.int .i64 i,.int .i64 j,.pointer (some ⟨q,0,none⟩),bB,ab,ad,ae,af,ah,ai,aj,ak,am,ap,aq,au,av,aw,ax,ay,az,aA,aB,aC,aD,aE,aF,aG,aH,aI,aJ,aK,aL,aM,bm,bl,bj,bi,bg,bf,aZ,aV,aX,aW,aU,aN,aO,aP,aQ,aR,aS,aT,bx,bw,br,bq,.pointer (some ⟨r,0,none⟩),.int .i64 (k : Int),.int .i64 (k : Int),.int .i64 ((k + 1 : Nat) : Int),unv x,bz,bD,bu,bA,bp,bv,bn,bk,bh,aY,bG,bF,bE,bC],defers := [] } from by kernel_rfl]
  refine wpAnyH_take (i := 5) (oi := uf2x5) (v := .pointer (some ⟨p, 0, none⟩)) (by kernel_rfl) uf2x_lit (by kernel_rfl) (by kernel_rfl) (fun c a W h => hP c _ _ _ W h) (Or.inl ⟨by kernel_rfl, fun W hW => by kernel_rfl⟩) S0 ?_
  rw [show Act.put _ uf2x5.dst _ = { tmps := #[.pointer (some ⟨r,0,none⟩),x1,x2,x3,x4,x5,.int .i64 (k : Int),.pointer (some ⟨p,0,none⟩),.int .i64 i,.int .i64 j,.pointer (some ⟨q,0,none⟩),bB,ab,ad,ae,af,ah,ai,aj,ak,am,ap,aq,au,av,aw,ax,ay,az,aA,aB,aC,aD,aE,aF,aG,aH,aI,aJ,aK,aL,aM,bm,bl,bj,bi,bg,bf,aZ,aV,aX,aW,aU,aN,aO,aP,aQ,aR,aS,aT,bx,bw,br,bq,.pointer (some ⟨r,0,none⟩),.int .i64 (k : Int),.int .i64 (k : Int),.int .i64 ((k + 1 : Nat) : Int),unv x,.pointer (some ⟨p,0,none⟩),bD,bu,bA,bp,bv,bn,bk,bh,aY,bG,bF,bE,bC],defers := [] } from by kernel_rfl]
  refine wpAnyH_take (i := 6) (oi := uf2x6) (v := .pointer (some ⟨p, 2, none⟩)) (by kernel_rfl) uf2x_lit (by kernel_rfl) (by kernel_rfl) (fun c a W h => hP c _ _ _ W h) (Or.inl ⟨by kernel_rfl, fun W hW => by kernel_rfl⟩) S0 ?_
  rw [show Act.put _ uf2x6.dst _ = { tmps := #[.pointer (some ⟨r,0,none⟩),x1,x2,x3,x4,x5,.int .i64 (k : Int),.pointer (some ⟨p,0,none⟩),.int .i64 i,.int .i64 j,.pointer (some ⟨q,0,none⟩),bB,ab,ad,ae,af,ah,ai,aj,ak,am,ap,aq,au,av,aw,ax,ay,az,aA,aB,aC,aD,aE,aF,aG,aH,aI,aJ,aK,aL,aM,bm,bl,bj,bi,bg,bf,aZ,aV,aX,aW,aU,aN,aO,aP,aQ,aR,aS,aT,bx,bw,br,bq,.pointer (some ⟨r,0,none⟩),.int .i64 (k : Int),.int .i64 (k : Int),.int .i64 ((k + 1 : Nat) : Int),unv x,.pointer (some ⟨p,0,none⟩),.pointer (some ⟨p,2,none⟩),bu,bA,bp,bv,bn,bk,bh,aY,bG,bF,bE,bC],defers := [] } from by kernel_rfl]
  refine wpAnyH_take (i := 7) (oi := uf2x7) (v := .int .i64 x.f) (by kernel_rfl) uf2x_lit (by kernel_rfl) (by kernel_rfl) (fun c a W h => hP c _ _ _ W h) (Or.inl ⟨by kernel_rfl, fun W hW => runU_int rfl rfl hW.p.cells.c2⟩) S0 ?_
  rw [show Act.put _ uf2x7.dst _ = { tmps := #[.pointer (some ⟨r,0,none⟩),x1,x2,x3,x4,x5,.int .i64 (k : Int),.pointer (some ⟨p,0,none⟩),.int .i64 i,.int .i64 j,.pointer (some ⟨q,0,none⟩),bB,ab,ad,ae,af,ah,ai,aj,ak,am,ap,aq,au,av,aw,ax,ay,az,aA,aB,aC,aD,aE,aF,aG,aH,aI,aJ,aK,aL,aM,bm,bl,bj,bi,bg,bf,aZ,aV,aX,aW,aU,aN,aO,aP,aQ,aR,aS,aT,bx,bw,br,bq,.pointer (some ⟨r,0,none⟩),.int .i64 (k : Int),.int .i64 (k : Int),.int .i64 ((k + 1 : Nat) : Int),unv x,.pointer (some ⟨p,0,none⟩),.pointer (some ⟨p,2,none⟩),.int .i64 x.f,bA,bp,bv,bn,bk,bh,aY,bG,bF,bE,bC],defers := [] } from by kernel_rfl]
  refine wpAnyH_take (i := 8) (oi := uf2x8) (v := .int .i64 i) (by kernel_rfl) uf2x_lit (by kernel_rfl) (by kernel_rfl) (fun c a W h => hP c _ _ _ W h) (Or.inl ⟨by kernel_rfl, fun W hW => by kernel_rfl⟩) S0 ?_
  rw [show Act.put _ uf2x8.dst _ = { tmps := #[.pointer (some ⟨r,0,none⟩),x1,x2,x3,x4,x5,.int .i64 (k : Int),.pointer (some ⟨p,0,none⟩),.int .i64 i,.int .i64 j,.pointer (some ⟨q,0,none⟩),bB,ab,ad,ae,af,ah,ai,aj,ak,am,ap,aq,au,av,aw,ax,ay,az,aA,aB,aC,aD,aE,aF,aG,aH,aI,aJ,aK,aL,aM,bm,bl,bj,bi,bg,bf,aZ,aV,aX,aW,aU,aN,aO,aP,aQ,aR,aS,aT,bx,bw,br,bq,.pointer (some ⟨r,0,none⟩),.int .i64 (k : Int),.int .i64 (k : Int),.int .i64 ((k + 1 : Nat) : Int),unv x,.pointer (some ⟨p,0,none⟩),.pointer (some ⟨p,2,none⟩),.int .i64 x.f,.int .i64 i,bp,bv,bn,bk,bh,aY,bG,bF,bE,bC],defers := [] } from by kernel_rfl]
  refine wpAnyH_take (i := 10) (oi := uf2x10) (v := unv y) (by kernel_rfl) uf2x_lit (by kernel_rfl) (by kernel_rfl) (fun c a W h => hP c _ _ _ W h) (Or.inl ⟨by kernel_rfl, fun W hW => run_ldR rfl rfl hW.q.cells⟩) S0 ?_
  rw [show Act.put _ uf2x10.dst _ = { tmps := #[.pointer (some ⟨r,0,none⟩),x1,x2,x3,x4,x5,.int .i64 (k : Int),.pointer (some ⟨p,0,none⟩),.int .i64 i,.int .i64 j,.pointer (some ⟨q,0,none⟩),bB,ab,ad,ae,af,ah,ai,aj,ak,am,ap,aq,au,av,aw,ax,ay,az,aA,aB,aC,aD,aE,aF,aG,aH,aI,aJ,aK,aL,aM,bm,bl,bj,bi,bg,bf,aZ,aV,aX,aW,aU,aN,aO,aP,aQ,aR,aS,aT,bx,bw,br,bq,.pointer (some ⟨r,0,none⟩),.int .i64 (k : Int),.int .i64 (k : Int),.int .i64 ((k + 1 : Nat) : Int),unv x,.pointer (some ⟨p,0,none⟩),.pointer (some ⟨p,2,none⟩),.int .i64 x.f,.int .i64 i,bp,unv y,bn,bk,bh,aY,bG,bF,bE,bC],defers := [] } from by kernel_rfl]
  refine wpAnyH_take (i := 11) (oi := uf2x11) (v := unv x) (by kernel_rfl) uf2x_lit (by kernel_rfl) (by kernel_rfl) (fun c a W h => hP c _ _ _ W h) (Or.inl ⟨by kernel_rfl, fun W hW => run_ldR rfl rfl hW.p.cells⟩) S0 ?_
  rw [show Act.put _ uf2x11.dst _ = { tmps := #[.pointer (some ⟨r,0,none⟩),x1,x2,x3,x4,x5,.int .i64 (k : Int),.pointer (some ⟨p,0,none⟩),.int .i64 i,.int .i64 j,.pointer (some ⟨q,0,none⟩),bB,ab,ad,ae,af,ah,ai,aj,ak,am,ap,aq,au,av,aw,ax,ay,az,aA,aB,aC,aD,aE,aF,aG,aH,aI,aJ,aK,aL,aM,bm,bl,bj,bi,bg,bf,aZ,aV,aX,aW,aU,aN,aO,aP,aQ,aR,aS,aT,bx,bw,br,bq,.pointer (some ⟨r,0,none⟩),.int .i64 (k : Int),.int .i64 (k : Int),.int .i64 ((k + 1 : Nat) : Int),unv x,.pointer (some ⟨p,0,none⟩),.pointer (some ⟨p,2,none⟩),.int .i64 x.f,.int .i64 i,bp,unv y,unv x,bk,bh,aY,bG,bF,bE,bC],defers := [] } from by kernel_rfl]
  refine wpAnyH_take (i := 12) (oi := uf2x12) (v := .int .i64 j) (by kernel_rfl) uf2x_lit (by kernel_rfl) (by kernel_rfl) (fun c a W h => hP c _ _ _ W h) (Or.inl ⟨by kernel_rfl, fun W hW => by kernel_rfl⟩) S0 ?_
  rw [show Act.put _ uf2x12.dst _ = { tmps := #[.pointer (some ⟨r,0,none⟩),x1,x2,x3,x4,x5,.int .i64 (k : Int),.pointer (some ⟨p,0,none⟩),.int .i64 i,.int .i64 j,.pointer (some ⟨q,0,none⟩),bB,ab,ad,ae,af,ah,ai,aj,ak,am,ap,aq,au,av,aw,ax,ay,az,aA,aB,aC,aD,aE,aF,aG,aH,aI,aJ,aK,aL,aM,bm,bl,bj,bi,bg,bf,aZ,aV,aX,aW,aU,aN,aO,aP,aQ,aR,aS,aT,bx,bw,br,bq,.pointer (some ⟨r,0,none⟩),.int .i64 (k : Int),.int .i64 (k : Int),.int .i64 ((k + 1 : Nat) : Int),unv x,.pointer (some ⟨p,0,none⟩),.pointer (some ⟨p,2,none⟩),.int .i64 x.f,.int .i64 i,bp,unv y,unv x,.int .i64 j,bh,aY,bG,bF,bE,bC],defers := [] } from by kernel_rfl]
  refine wpAnyH_take (i := 13) (oi := uf2x13) (v := unv x) (by kernel_rfl) uf2x_lit (by kernel_rfl) (by kernel_rfl) (fun c a W h => hP c _ _ _ W h) (Or.inl ⟨by kernel_rfl, fun W hW => run_ldR rfl rfl hW.p.cells⟩) S0 ?_
  rw [show Act.put _ uf2x13.dst _ = { tmps := #[.pointer (some ⟨r,0,none⟩),x1,x2,x3,x4,x5,.int .i64 (k : Int),.pointer (some ⟨p,0,none⟩),.int .i64 i,.int .i64 j,.pointer (some ⟨q,0,none⟩),bB,ab,ad,ae,af,ah,ai,aj,ak,am,ap,aq,au,av,aw,ax,ay,az,aA,aB,aC,aD,aE,aF,aG,aH,aI,aJ,aK,aL,aM,bm,bl,bj,bi,bg,bf,aZ,aV,aX,aW,aU,aN,aO,aP,aQ,aR,aS,aT,bx,bw,br,bq,.pointer (some ⟨r,0,none⟩),.int .i64 (k : Int),.int .i64 (k : Int),.int .i64 ((k + 1 : Nat) : Int),unv x,.pointer (some ⟨p,0,none⟩),.pointer (some ⟨p,2,none⟩),.int .i64 x.f,.int .i64 i,bp,unv y,unv x,.int .i64 j,unv x,aY,bG,bF,bE,bC],defers := [] } from by kernel_rfl]
  refine wpAnyH_all (rs := [9]) (by kernel_rfl) (by simp) (fun i hi => ?_)
  obtain rfl := List.mem_singleton.1 hi
  refine hb_callx (o := uf2x9) (f := 32) (args := #[unv x, .int .i64 x.f, .int .i64 i]) (D := fun u V => u = unv (cutU x x.f i) ∧ Below W0.heap.size W0 V) (by kernel_rfl) (by kernel_rfl) (by kernel_rfl) ((part_any x x.f i _ hf (Int.le_refl _) h1.1 h1.2).mono fun e V ⟨h1, h2⟩ => ⟨_, h1, rfl, h2⟩) ?_
  rintro _ W1 ⟨rfl, b⟩
  have S1 := S0.below b
  have KW1 := KW0.below b
  have BW1 := bt BW0 b
  clear b
  rw [show Act.put _ uf2x9.dst _ = { tmps := #[.pointer (some ⟨r,0,none⟩),x1,x2,x3,x4,x5,.int .i64 (k : Int),.pointer (some ⟨p,0,none⟩),.int .i64 i,.int .i64 j,.pointer (some ⟨q,0,none⟩),bB,ab,ad,ae,af,ah,ai,aj,ak,am,ap,aq,au,av,aw,ax,ay,az,aA,aB,aC,aD,aE,aF,aG,aH,aI,aJ,aK,aL,aM,bm,bl,bj,bi,bg,bf,aZ,aV,aX,aW,aU,aN,aO,aP,aQ,aR,aS,aT,bx,bw,br,bq,.pointer (some ⟨r,0,none⟩),.int .i64 (k : Int),.int .i64 (k : Int),.int .i64 ((k + 1 : Nat) : Int),unv x,.pointer (some ⟨p,0,none⟩),.pointer (some ⟨p,2,none⟩),.int .i64 x.f,.int .i64 i,unv (cutU x x.f i),unv y,unv x,.int .i64 j,unv x,aY,bG,bF,bE,bC],defers := [] } from by kernel_rfl]
  refine ⟨S1, ?_⟩
  refine wpAnyH_all (rs := [14]) (by kernel_rfl) (by simp) (fun i hi => ?_)
  obtain rfl := List.mem_singleton.1 hi
  refine hb_callx (o := uf2x14) (f := 33) (args := #[unv x]) (D := fun u V => u = .int .i64 (x.f + x.l) ∧ Below W1.heap.size W1 V) (by kernel_rfl) (by kernel_rfl) (by kernel_rfl) ((end_any x _ hf).mono fun e V ⟨h1, h2⟩ => ⟨_, h1, rfl, h2⟩) ?_
  rintro _ W2 ⟨rfl, b⟩
  have S2 := S1.below b
  have KW2 := KW1.below b
  have BW2 := bt BW1 b
  clear b
  rw [show Act.put _ uf2x14.dst _ = { tmps := #[.pointer (some ⟨r,0,none⟩),x1,x2,x3,x4,x5,.int .i64 (k : Int),.pointer (some ⟨p,0,none⟩),.int .i64 i,.int .i64 j,.pointer (some ⟨q,0,none⟩),bB,ab,ad,ae,af,ah,ai,aj,ak,am,ap,aq,au,av,aw,ax,ay,az,aA,aB,aC,aD,aE,aF,aG,aH,aI,aJ,aK,aL,aM,bm,bl,bj,bi,bg,bf,aZ,aV,aX,aW,aU,aN,aO,aP,aQ,aR,aS,aT,bx,bw,br,bq,.pointer (some ⟨r,0,none⟩),.int .i64 (k : Int),.int .i64 (k : Int),.int .i64 ((k + 1 : Nat) : Int),unv x,.pointer (some ⟨p,0,none⟩),.pointer (some ⟨p,2,none⟩),.int .i64 x.f,.int .i64 i,unv (cutU x x.f i),unv y,unv x,.int .i64 j,unv x,.int .i64 (x.f + x.l),bG,bF,bE,bC],defers := [] } from by kernel_rfl]
  refine ⟨S2, ?_⟩
  refine wpAnyH_all (rs := [15]) (by kernel_rfl) (by simp) (fun i hi => ?_)
  obtain rfl := List.mem_singleton.1 hi
  refine hb_callx (o := uf2x15) (f := 32) (args := #[unv x,.int .i64 j,.int .i64 (x.f + x.l)]) (D := fun u V => u = unv (cutU x j (x.f + x.l)) ∧ Below W2.heap.size W2 V) (by kernel_rfl) (by kernel_rfl) (by kernel_rfl) ((part_any x j (x.f + x.l) _ hf h2.1 h2.2 (Int.le_refl _)).mono fun e V ⟨h1,h2⟩ => ⟨_,h1,rfl,h2⟩) ?_
  rintro _ W3 ⟨rfl, b⟩
  have S3 := S2.below b
  have KW3 := KW2.below b
  have BW3 := bt BW2 b
  clear b
  rw [show Act.put _ uf2x15.dst _ = { tmps := #[.pointer (some ⟨r,0,none⟩),x1,x2,x3,x4,x5,.int .i64 (k : Int),.pointer (some ⟨p,0,none⟩),.int .i64 i,.int .i64 j,.pointer (some ⟨q,0,none⟩),bB,ab,ad,ae,af,ah,ai,aj,ak,am,ap,aq,au,av,aw,ax,ay,az,aA,aB,aC,aD,aE,aF,aG,aH,aI,aJ,aK,aL,aM,bm,bl,bj,bi,bg,bf,aZ,aV,aX,aW,aU,aN,aO,aP,aQ,aR,aS,aT,bx,bw,br,bq,.pointer (some ⟨r,0,none⟩),.int .i64 (k : Int),.int .i64 (k : Int),.int .i64 ((k + 1 : Nat) : Int),unv x,.pointer (some ⟨p,0,none⟩),.pointer (some ⟨p,2,none⟩),.int .i64 x.f,.int .i64 i,unv (cutU x x.f i),unv y,unv x,.int .i64 j,unv x,.int .i64 (x.f + x.l),unv (cutU x j (x.f + x.l)),bF,bE,bC],defers := [] } from by kernel_rfl]
  refine ⟨S3, ?_⟩
  refine wpAnyH_all (rs := [16]) (by kernel_rfl) (by simp) (fun i hi => ?_)
  obtain rfl := List.mem_singleton.1 hi
  obtain ⟨bs, hbs⟩ : ∃ bs, W3.heap.size = bs := ⟨_, rfl⟩
  refine hb_new (o := uf2x16) (w' := W3.alloc (.cells (unc (cutU x x.f i) ++ unc y ++ unc (cutU x j (x.f + x.l))).toArray RU)) (v := .slice (some ⟨bs, 0, none⟩) 3 3) (by kernel_rfl) (by kernel_rfl) (by rw [← hbs]; exact run_runs3 rfl rfl rfl rfl) ?_
  rw [show Act.put _ uf2x16.dst _ = { tmps := #[.pointer (some ⟨r,0,none⟩),x1,x2,x3,x4,x5,.int .i64 (k : Int),.pointer (some ⟨p,0,none⟩),.int .i64 i,.int .i64 j,.pointer (some ⟨q,0,none⟩),bB,ab,ad,ae,af,ah,ai,aj,ak,am,ap,aq,au,av,aw,ax,ay,az,aA,aB,aC,aD,aE,aF,aG,aH,aI,aJ,aK,aL,aM,bm,bl,bj,bi,bg,bf,aZ,aV,aX,aW,aU,aN,aO,aP,aQ,aR,aS,aT,bx,bw,br,bq,.pointer (some ⟨r,0,none⟩),.int .i64 (k : Int),.int .i64 (k : Int),.int .i64 ((k + 1 : Nat) : Int),unv x,.pointer (some ⟨p,0,none⟩),.pointer (some ⟨p,2,none⟩),.int .i64 x.f,.int .i64 i,unv (cutU x x.f i),unv y,unv x,.int .i64 j,unv x,.int .i64 (x.f + x.l),unv (cutU x j (x.f + x.l)),.slice (some ⟨bs,0,none⟩) 3 3,bE,bC],defers := [] } from by kernel_rfl]
  obtain ⟨W4, hW4⟩ : ∃ W, W3.alloc (.cells (unc (cutU x x.f i) ++ unc y ++ unc (cutU x j (x.f + x.l))).toArray RU) = W := ⟨_, rfl⟩
  rw [hW4]
  have b : Below W3.heap.size W3 W4 := by rw [← hW4]; exact ba _ _
  have UW4 : Us W4 (.slice (some ⟨bs, 0, none⟩) 3 3) [(cutU x x.f i), y, (cutU x j (x.f + x.l))] := by rw [← hW4, ← hbs]; exact us_runs3 _ _ _ _
  have S4 := S3.below b
  have KW4 := KW3.below b
  have BW4 := bt BW3 b
  clear b
  refine ⟨S4, ?_⟩
  refine wpAnyH_all (rs := [17]) (by kernel_rfl) (by simp) (fun i hi => ?_)
  obtain rfl := List.mem_singleton.1 hi
  refine hb_callx (o := uf2x17) (f := 30) (args := #[.pointer (some ⟨r,0,none⟩),.int .i64 (k : Int),.int .i64 ((k + 1 : Nat) : Int),.slice (some ⟨bs,0,none⟩) 3 3]) (D := fun u V => u = .tuple #[] ∧ ChX N r v (spliceU xs k (k + 1) [cutU x x.f i,y,cutU x j (x.f + x.l)]) W4 V) (by kernel_rfl) (by kernel_rfl) (by kernel_rfl) ((change_any N r v _ xs [cutU x x.f i,y,cutU x j (x.f + x.l)] k (k + 1) _ KW4 UW4 (Nat.le_succ k) hk hxs hff (by simp) (by simp; omega) hJ).mono fun e V ⟨h1,h2⟩ => ⟨_,h1,rfl,h2⟩) ?_
  rintro _ W5 ⟨rfl, hc⟩
  have S5 : Rs2 W5 p q x y := (by obtain ⟨v2, _, hf2, _⟩ := hc; exact S4.fr hf2 HPQ1 HPQ2)
  have CW5 := ChX.below BW4 hc
  rw [show Act.put _ uf2x17.dst _ = { tmps := #[.pointer (some ⟨r,0,none⟩),x1,x2,x3,x4,x5,.int .i64 (k : Int),.pointer (some ⟨p,0,none⟩),.int .i64 i,.int .i64 j,.pointer (some ⟨q,0,none⟩),bB,ab,ad,ae,af,ah,ai,aj,ak,am,ap,aq,au,av,aw,ax,ay,az,aA,aB,aC,aD,aE,aF,aG,aH,aI,aJ,aK,aL,aM,bm,bl,bj,bi,bg,bf,aZ,aV,aX,aW,aU,aN,aO,aP,aQ,aR,aS,aT,bx,bw,br,bq,.pointer (some ⟨r,0,none⟩),.int .i64 (k : Int),.int .i64 (k : Int),.int .i64 ((k + 1 : Nat) : Int),unv x,.pointer (some ⟨p,0,none⟩),.pointer (some ⟨p,2,none⟩),.int .i64 x.f,.int .i64 i,unv (cutU x x.f i),unv y,unv x,.int .i64 j,unv x,.int .i64 (x.f + x.l),unv (cutU x j (x.f + x.l)),.slice (some ⟨bs,0,none⟩) 3 3,.tuple #[],bC],defers := [] } from by kernel_rfl]
  refine ⟨S5, ?_⟩
  exact wpAnyH_done (by kernel_rfl) (hQ _ bs CW5) _

end Go.Proofs.Ytkaphlpohhaacaa
