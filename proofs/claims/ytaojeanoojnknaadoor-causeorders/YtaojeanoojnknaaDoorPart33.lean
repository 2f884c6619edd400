/-
  Parts of the proof, one behind the other; what each proves stands at its head.
-/
import Derived.Test.YtaojeanoojnknaaDoorPart25
import Derived.Test.YtaojeanoojnknaaDoorPart32
import Derived.Test.YtaojeanoojnknaaDoorPart31

/-
  The swap of two ops in a row, whose order is drawn, is walked here.
-/
namespace Go.Proofs.YtaojeanoojnknaaDoor
open Go.RowKit
set_option linter.unusedVariables false
set_option maxRecDepth 100000

def sw0 : Oper := { dst := some 72, op := Op.move (Operand.tmp 6), type := 28, pos := "law.go:132", after := #[], guard := none }
def sw1 : Oper := { dst := some 73, op := Op.move (Operand.tmp 9), type := 3, pos := "law.go:132", after := #[], guard := none }
def sw2 : Oper := { dst := some 74, op := Op.move (Operand.tmp 6), type := 28, pos := "law.go:132", after := #[{ on := 13, ground := Ground.gcOnly Departure.lateStores }], guard := none }
def sw3 : Oper := { dst := some 75, op := Op.move (Operand.tmp 10), type := 3, pos := "law.go:132", after := #[{ on := 13, ground := Ground.gcOnly Departure.lateStores }], guard := none }
def sw4 : Oper := { dst := some 76, op := Op.move (Operand.tmp 6), type := 28, pos := "law.go:132", after := #[], guard := none }
def sw5 : Oper := { dst := some 77, op := Op.move (Operand.tmp 10), type := 3, pos := "law.go:132", after := #[], guard := none }
def sw6 : Oper := { dst := some 78, op := Op.indexAddr 28 (Operand.tmp 76) (Operand.tmp 77), type := 0, pos := "law.go:132", after := #[{ on := 4, ground := Ground.data }, { on := 5, ground := Ground.data }], guard := none }
def sw7 : Oper := { dst := some 79, op := Op.load 43 (Operand.tmp 78), type := 43, pos := "law.go:132", after := #[{ on := 6, ground := Ground.data }], guard := none }
def sw8 : Oper := { dst := some 80, op := Op.move (Operand.tmp 6), type := 28, pos := "law.go:132", after := #[], guard := none }
def sw9 : Oper := { dst := some 81, op := Op.move (Operand.tmp 9), type := 3, pos := "law.go:132", after := #[], guard := none }
def sw10 : Oper := { dst := some 82, op := Op.indexAddr 28 (Operand.tmp 80) (Operand.tmp 81), type := 0, pos := "law.go:132", after := #[{ on := 8, ground := Ground.data }, { on := 9, ground := Ground.data }], guard := none }
def sw11 : Oper := { dst := some 83, op := Op.load 43 (Operand.tmp 82), type := 43, pos := "law.go:132", after := #[{ on := 10, ground := Ground.data }], guard := none }
def sw12 : Oper := { dst := some 84,op := Op.indexAddr 28 (Operand.tmp 72) (Operand.tmp 73),type := 0,pos := "law.go:132",after := #[{ on := 0,ground := Ground.data },{ on := 1,ground := Ground.data },{ on := 0,ground := Ground.phase },{ on := 1,ground := Ground.phase },{ on := 2,ground := Ground.textOnly Departure.lateStores },{ on := 3,ground := Ground.textOnly Departure.lateStores },{ on := 4,ground := Ground.phase },{ on := 5,ground := Ground.phase },{ on := 6,ground := Ground.phase },{ on := 7,ground := Ground.phase },{ on := 8,ground := Ground.textOnly Departure.lateStores },{ on := 9,ground := Ground.textOnly Departure.lateStores },{ on := 10,ground := Ground.textOnly Departure.lateStoresUnsure },{ on := 11,ground := Ground.phase }],guard := none }
def sw13 : Oper := { dst := none,op := Op.store 43 (Operand.tmp 84) (Operand.tmp 79),type := 0,pos := "law.go:132",after := #[{ on := 12,ground := Ground.data },{ on := 7,ground := Ground.data },{ on := 0,ground := Ground.phase },{ on := 1,ground := Ground.phase },{ on := 2,ground := Ground.textOnly Departure.lateStores },{ on := 3,ground := Ground.textOnly Departure.lateStores },{ on := 4,ground := Ground.phase },{ on := 5,ground := Ground.phase },{ on := 6,ground := Ground.phase },{ on := 7,ground := Ground.phase },{ on := 8,ground := Ground.textOnly Departure.lateStores },{ on := 9,ground := Ground.textOnly Departure.lateStores },{ on := 10,ground := Ground.textOnly Departure.lateStoresUnsure },{ on := 11,ground := Ground.phase }],guard := none }
def sw14 : Oper := { dst := some 85,op := Op.indexAddr 28 (Operand.tmp 74) (Operand.tmp 75),type := 0,pos := "law.go:132",after := #[{ on := 2,ground := Ground.data },{ on := 3,ground := Ground.data },{ on := 0,ground := Ground.phase },{ on := 1,ground := Ground.phase },{ on := 2,ground := Ground.phase },{ on := 3,ground := Ground.phase },{ on := 4,ground := Ground.phase },{ on := 5,ground := Ground.phase },{ on := 6,ground := Ground.phase },{ on := 7,ground := Ground.phase },{ on := 8,ground := Ground.phase },{ on := 9,ground := Ground.phase },{ on := 10,ground := Ground.phase },{ on := 11,ground := Ground.phase },{ on := 12,ground := Ground.phase },{ on := 13,ground := Ground.phase }],guard := none }
def sw15 : Oper := { dst := none,op := Op.store 43 (Operand.tmp 85) (Operand.tmp 83),type := 0,pos := "law.go:132",after := #[{ on := 14,ground := Ground.data },{ on := 11,ground := Ground.data },{ on := 13,ground := Ground.chain },{ on := 0,ground := Ground.phase },{ on := 1,ground := Ground.phase },{ on := 2,ground := Ground.phase },{ on := 3,ground := Ground.phase },{ on := 4,ground := Ground.phase },{ on := 5,ground := Ground.phase },{ on := 6,ground := Ground.phase },{ on := 7,ground := Ground.phase },{ on := 8,ground := Ground.phase },{ on := 9,ground := Ground.phase },{ on := 10,ground := Ground.phase },{ on := 11,ground := Ground.phase },{ on := 12,ground := Ground.phase },{ on := 13,ground := Ground.phase }],guard := none }
def sws : Array Oper := #[sw0, sw1, sw2, sw3, sw4, sw5, sw6, sw7, sw8, sw9, sw10, sw11, sw12, sw13, sw14, sw15]
theorem sw_lit : Region.noSelect sws = true := by kernel_rfl

/-- A row's block, K cells long. -/
def Sg (W : World) (g K : Nat) : Prop := ∃ cur, W.heap[g]? = some (.cells cur 43 (0, 0)) ∧ cur.size = K
theorem setCells_all (g : Nat) (t : TypeId) : ∀ (vs : List Value) (o : Nat) (w : World) (cur : Array Value), w.heap[g]? = some (.cells cur t (0, 0)) →
    ∃ cur', (w.setCells g o vs).heap[g]? = some (.cells cur' t (0, 0)) ∧ cur'.size = cur.size ∧ (∀ j, j < o ∨ o + vs.length ≤ j → cur'[j]? = cur[j]?) ∧ ∀ j, j < vs.length → o + j < cur.size → cur'[o + j]? = vs[j]?
  | [], o, w, cur, hg => ⟨cur, hg, rfl, fun _ _ => rfl, fun j hj => by cases hj⟩
  | v :: r, o, w, cur, hg => by
    obtain ⟨cur', h1, h2, h3, h4⟩ := setCells_all g t r (o + 1) (w.setCell ⟨g, o, none⟩ v) (cur.setIfInBounds o v) (heap_setCell_same w g o cur t v hg)
    refine ⟨cur', h1, by rw [h2, Array.size_setIfInBounds], fun j hj => ?_, fun j hj hs => ?_⟩
    · rw [List.length_cons] at hj
      rw [h3 j (by omega), Array.getElem?_setIfInBounds]
      rw [if_neg (by omega)]
    · cases j with
      | zero =>
        rw [Nat.add_zero, h3 o (by omega), Array.getElem?_setIfInBounds, if_pos rfl, if_pos (by simpa using hs)]
        rfl
      | succ j =>
        have := h4 j (by simpa using hj) (by rw [Array.size_setIfInBounds]; omega)
        rw [show o + (j + 1) = o + 1 + j by omega, this]
        rfl
theorem Sg.set {W : World} {g K : Nat} (h : Sg W g K) (o : Nat) (vs : List Value) : Sg (W.setCells g o vs) g K := by
  obtain ⟨cur, hg, hK⟩ := h
  obtain ⟨cur', h1, h2, _⟩ := setCells_all g 43 vs o W cur hg
  exact ⟨cur', h1, by omega⟩
theorem hb_stmid {ops : Array Oper} {Q : Exit → Act → World → Prop} {K : Act → World → Prop} {i : Nat} {p : Oper} {a : Act} {W : World} {x y : Operand} {g off : Nat} {o : Opn} {u : Value} {S : Nat} (hi : ops[i]? = some p) (hw : Region.wanted p (yielded ops a.tmps) = true) (ho : p.op = .store 43 x y)
    (hx : a.eval x = .pointer (some ⟨g, off, none⟩)) (hy : a.eval y = opv o u) (hu : ∃ va n vc, u = .slice va n vc) (hS : Sg W g S) (hs : off + 20 ≤ S) (hk : K (a.put p.dst undef) (W.setCells g off (opc (o, u)))) : wpOp Tryd.prog ops Q i K a W :=
  wpOp_step hi fun K' hK => by
    rw [if_pos hw]
    obtain ⟨cur, hg, hc⟩ := hS
    have hth : W.there g off (opl o u).size := fun j hj => by
      have hj' : j < 20 := hj
      refine ⟨?_, frozen_of_row W _ _ _ _ hg⟩
      rw [cell_of_row W _ _ _ _ _ hg, Array.getElem?_eq_getElem (by omega)]
      rfl
    exact wp_store_mid 43 x y ho g off (opl o u) hx hy hth (by kernel_rfl) (by obtain ⟨va, n, vc, rfl⟩ := hu; simp [Value.oneCell']) (hK _ _ hk)
theorem run_ixop {o : Oper} {a : Act} {W : World} {x y : Operand} {g n c k : Nat} (ho : o.op = .indexAddr 28 x y) (hx : a.eval x = .slice (some ⟨g,0,none⟩) n c) (hy : a.eval y = .int .i64 (k : Int)) (hk : k < n) : (execOp a.eval o).run Tryd.prog W = .ok (.value (.pointer (some ⟨g,k * 20,none⟩))) W := by
  have hk' : (k : Int) < (n : Int) := by omega
  unfold execOp
  simp only [ho, hx, hy]
  simp [go_sem, hk']

set_option maxHeartbeats 8000000 in
theorem swap_r {g n c a b K : Nat} {oa ob : Opn} {ua ub : Value} {w : World} {x0 x1 x2 x3 x4 x5 x7 x8 aL aM aN aO aP aQ aR aS aT aU aV aW aX aY aZ bc bf bg bh bi bj bk bn bo bp bq bs bz bA bB bC bD bE bF bG bH bI bJ bK bL bM bN bP bQ bR bS bT bU bV bW bY bZ b9 cc cd ce cf cg ch ci cj x72 x73 x74 x75 x76 x77 x78 x79 x80 x81 x82 x83 cC cB ck cm cn cp cq cr ct cu cv cw cx cy cz cA aa ab ad ae af ag ah ai aj ak al am ap aq ar au av aw ax ay az aA aB aC aD aE aF aG aH aI aJ aK : Value} {Q : Exit → Act → World → Prop} (h : Sg w g K) (ha : a < n) (hb : b < n) (hn : n * 20 ≤ K)
    (hA : ∀ i, i < 20 → w.cell? ⟨g, a * 20 + i, none⟩ = (opl oa ua)[i]?) (hB : ∀ i, i < 20 → w.cell? ⟨g, b * 20 + i, none⟩ = (opl ob ub)[i]?) (hua : ∃ va n vc, ua = .slice va n vc) (hub : ∃ va n vc, ub = .slice va n vc)
    (hP : ∀ c t t' d W, Q (.panic c) { tmps := t, defers := d } W → Q (.panic c) { tmps := t', defers := d } W)
    (hQ : Q .normal { tmps := #[x0,x1,x2,x3,x4,x5,.slice (some ⟨g,0,none⟩) n c,x7,x8,.int .i64 (a : Int),.int .i64 (b : Int),aL,aM,aN,aO,aP,aQ,aR,aS,aT,aU,aV,aW,aX,aY,aZ,bc,bf,bg,bh,bi,bj,bk,bn,bo,bp,bq,bs,bz,bA,bB,bC,bD,bE,bF,bG,bH,bI,bJ,bK,bL,bM,bN,bP,bQ,bR,bS,bT,bU,bV,bW,bY,bZ,b9,cc,cd,ce,cf,cg,ch,ci,cj,.slice (some ⟨g,0,none⟩) n c,.int .i64 (a : Int),.slice (some ⟨g,0,none⟩) n c,.int .i64 (b : Int),.slice (some ⟨g,0,none⟩) n c,.int .i64 (b : Int),.pointer (some ⟨g,b * 20,none⟩),opv ob ub,.slice (some ⟨g,0,none⟩) n c,.int .i64 (a : Int),.pointer (some ⟨g,a * 20,none⟩),opv oa ua,.pointer (some ⟨g,a * 20,none⟩),.pointer (some ⟨g,b * 20,none⟩),ck,cm,cn,cp,cq,cr,ct,cu,cv,cw,cx,cy,cz,cA,aa,ab,ad,ae,af,ag,ah,ai,aj,ak,al,am,ap,aq,ar,au,av,aw,ax,ay,az,aA,aB,aC,aD,aE,aF,aG,aH,aI,aJ,aK],defers := [] } (((World.drew w).setCells g (a * 20) (opc (ob,ub))).setCells g (b * 20) (opc (oa,ua)))) : (Code.region 18 sws true).wp Tryd.prog Q { tmps := #[x0,x1,x2,x3,x4,x5,.slice (some ⟨g,0,none⟩) n c,x7,x8,.int .i64 (a : Int),.int .i64 (b : Int),aL,aM,aN,aO,aP,aQ,aR,aS,aT,aU,aV,aW,aX,aY,aZ,bc,bf,bg,bh,bi,bj,bk,bn,bo,bp,bq,bs,bz,bA,bB,bC,bD,bE,bF,bG,bH,bI,bJ,bK,bL,bM,bN,bP,bQ,bR,bS,bT,bU,bV,bW,bY,bZ,b9,cc,cd,ce,cf,cg,ch,ci,cj,x72,x73,x74,x75,x76,x77,x78,x79,x80,x81,x82,x83,cC,cB,ck,cm,cn,cp,cq,cr,ct,cu,cv,cw,cx,cy,cz,cA,aa,ab,ad,ae,af,ag,ah,ai,aj,ak,al,am,ap,aq,ar,au,av,aw,ax,ay,az,aA,aB,aC,aD,aE,aF,aG,aH,aI,aJ,aK],defers := [] } w := by
  refine wp_region_held (S := fun W => Sg W g K) (by kernel_rfl) ?_
  change wpAnyH _ _ _ _ _ 16 _ _ (World.drew _)
  have S0 : Sg (World.drew w) g K := h
  replace hA : ∀ i, i < 20 → (World.drew w).cell? ⟨g, a * 20 + i, none⟩ = (opl oa ua)[i]? := hA
  replace hB : ∀ i, i < 20 → (World.drew w).cell? ⟨g, b * 20 + i, none⟩ = (opl ob ub)[i]? := hB
  clear h
  obtain ⟨W0, hW⟩ : ∃ W, World.drew w = W := ⟨_, rfl⟩
  rw [hW] at S0 hA hB hQ ⊢
  clear hW
  have tail : wpAnyH Tryd.prog .any sws Q (fun W => Sg W g K) 4 #[true,true,true,true,true,true,true,true,true,true,true,true,false,false,false,false] { tmps := #[x0,x1,x2,x3,x4,x5,.slice (some ⟨g,0,none⟩) n c,x7,x8,.int .i64 (a : Int),.int .i64 (b : Int),aL,aM,aN,aO,aP,aQ,aR,aS,aT,aU,aV,aW,aX,aY,aZ,bc,bf,bg,bh,bi,bj,bk,bn,bo,bp,bq,bs,bz,bA,bB,bC,bD,bE,bF,bG,bH,bI,bJ,bK,bL,bM,bN,bP,bQ,bR,bS,bT,bU,bV,bW,bY,bZ,b9,cc,cd,ce,cf,cg,ch,ci,cj,.slice (some ⟨g,0,none⟩) n c,.int .i64 (a : Int),.slice (some ⟨g,0,none⟩) n c,.int .i64 (b : Int),.slice (some ⟨g,0,none⟩) n c,.int .i64 (b : Int),.pointer (some ⟨g,b * 20,none⟩),opv ob ub,.slice (some ⟨g,0,none⟩) n c,.int .i64 (a : Int),.pointer (some ⟨g,a * 20,none⟩),opv oa ua,cC,cB,ck,cm,cn,cp,cq,cr,ct,cu,cv,cw,cx,cy,cz,cA,aa,ab,ad,ae,af,ag,ah,ai,aj,ak,al,am,ap,aq,ar,au,av,aw,ax,ay,az,aA,aB,aC,aD,aE,aF,aG,aH,aI,aJ,aK],defers := [] } W0 := by
    refine wpAnyH_take (i := 12) (oi := sw12) (v := .pointer (some ⟨g, a * 20, none⟩)) (by kernel_rfl) sw_lit (by kernel_rfl) (by kernel_rfl) (fun c a W h => hP c _ _ _ W h) (Or.inl ⟨by kernel_rfl, fun W hW => run_ixop rfl rfl rfl ha⟩) S0 ?_
    rw [show Act.put _ sw12.dst _ = { tmps := #[x0,x1,x2,x3,x4,x5,.slice (some ⟨g,0,none⟩) n c,x7,x8,.int .i64 (a : Int),.int .i64 (b : Int),aL,aM,aN,aO,aP,aQ,aR,aS,aT,aU,aV,aW,aX,aY,aZ,bc,bf,bg,bh,bi,bj,bk,bn,bo,bp,bq,bs,bz,bA,bB,bC,bD,bE,bF,bG,bH,bI,bJ,bK,bL,bM,bN,bP,bQ,bR,bS,bT,bU,bV,bW,bY,bZ,b9,cc,cd,ce,cf,cg,ch,ci,cj,.slice (some ⟨g,0,none⟩) n c,.int .i64 (a : Int),.slice (some ⟨g,0,none⟩) n c,.int .i64 (b : Int),.slice (some ⟨g,0,none⟩) n c,.int .i64 (b : Int),.pointer (some ⟨g,b * 20,none⟩),opv ob ub,.slice (some ⟨g,0,none⟩) n c,.int .i64 (a : Int),.pointer (some ⟨g,a * 20,none⟩),opv oa ua,.pointer (some ⟨g,a * 20,none⟩),cB,ck,cm,cn,cp,cq,cr,ct,cu,cv,cw,cx,cy,cz,cA,aa,ab,ad,ae,af,ag,ah,ai,aj,ak,al,am,ap,aq,ar,au,av,aw,ax,ay,az,aA,aB,aC,aD,aE,aF,aG,aH,aI,aJ,aK],defers := [] } from by kernel_rfl]
    refine wpAnyH_all (rs := [13]) (by kernel_rfl) (by simp) (fun i hi => ?_)
    obtain rfl := List.mem_singleton.1 hi
    refine hb_stmid (p := sw13) (by kernel_rfl) (by kernel_rfl) rfl rfl rfl hub S0 (by omega) ?_
    rw [show Act.put _ sw13.dst _ = { tmps := #[x0,x1,x2,x3,x4,x5,.slice (some ⟨g,0,none⟩) n c,x7,x8,.int .i64 (a : Int),.int .i64 (b : Int),aL,aM,aN,aO,aP,aQ,aR,aS,aT,aU,aV,aW,aX,aY,aZ,bc,bf,bg,bh,bi,bj,bk,bn,bo,bp,bq,bs,bz,bA,bB,bC,bD,bE,bF,bG,bH,bI,bJ,bK,bL,bM,bN,bP,bQ,bR,bS,bT,bU,bV,bW,bY,bZ,b9,cc,cd,ce,cf,cg,ch,ci,cj,.slice (some ⟨g,0,none⟩) n c,.int .i64 (a : Int),.slice (some ⟨g,0,none⟩) n c,.int .i64 (b : Int),.slice (some ⟨g,0,none⟩) n c,.int .i64 (b : Int),.pointer (some ⟨g,b * 20,none⟩),opv ob ub,.slice (some ⟨g,0,none⟩) n c,.int .i64 (a : Int),.pointer (some ⟨g,a * 20,none⟩),opv oa ua,.pointer (some ⟨g,a * 20,none⟩),cB,ck,cm,cn,cp,cq,cr,ct,cu,cv,cw,cx,cy,cz,cA,aa,ab,ad,ae,af,ag,ah,ai,aj,ak,al,am,ap,aq,ar,au,av,aw,ax,ay,az,aA,aB,aC,aD,aE,aF,aG,aH,aI,aJ,aK],defers := [] } from by kernel_rfl]
    have S1 : Sg (W0.setCells g (a * 20) (opc (ob, ub))) g K := S0.set _ _
    refine ⟨S1, ?_⟩
    refine wpAnyH_take (i := 14) (oi := sw14) (v := .pointer (some ⟨g, b * 20, none⟩)) (by kernel_rfl) sw_lit (by kernel_rfl) (by kernel_rfl) (fun c a W h => hP c _ _ _ W h) (Or.inl ⟨by kernel_rfl, fun W hW => run_ixop rfl rfl rfl hb⟩) S1 ?_
    rw [show Act.put _ sw14.dst _ = { tmps := #[x0,x1,x2,x3,x4,x5,.slice (some ⟨g,0,none⟩) n c,x7,x8,.int .i64 (a : Int),.int .i64 (b : Int),aL,aM,aN,aO,aP,aQ,aR,aS,aT,aU,aV,aW,aX,aY,aZ,bc,bf,bg,bh,bi,bj,bk,bn,bo,bp,bq,bs,bz,bA,bB,bC,bD,bE,bF,bG,bH,bI,bJ,bK,bL,bM,bN,bP,bQ,bR,bS,bT,bU,bV,bW,bY,bZ,b9,cc,cd,ce,cf,cg,ch,ci,cj,.slice (some ⟨g,0,none⟩) n c,.int .i64 (a : Int),.slice (some ⟨g,0,none⟩) n c,.int .i64 (b : Int),.slice (some ⟨g,0,none⟩) n c,.int .i64 (b : Int),.pointer (some ⟨g,b * 20,none⟩),opv ob ub,.slice (some ⟨g,0,none⟩) n c,.int .i64 (a : Int),.pointer (some ⟨g,a * 20,none⟩),opv oa ua,.pointer (some ⟨g,a * 20,none⟩),.pointer (some ⟨g,b * 20,none⟩),ck,cm,cn,cp,cq,cr,ct,cu,cv,cw,cx,cy,cz,cA,aa,ab,ad,ae,af,ag,ah,ai,aj,ak,al,am,ap,aq,ar,au,av,aw,ax,ay,az,aA,aB,aC,aD,aE,aF,aG,aH,aI,aJ,aK],defers := [] } from by kernel_rfl]
    refine wpAnyH_all (rs := [15]) (by kernel_rfl) (by simp) (fun i hi => ?_)
    obtain rfl := List.mem_singleton.1 hi
    refine hb_stmid (p := sw15) (by kernel_rfl) (by kernel_rfl) rfl rfl rfl hua S1 (by omega) ?_
    rw [show Act.put _ sw15.dst _ = { tmps := #[x0,x1,x2,x3,x4,x5,.slice (some ⟨g,0,none⟩) n c,x7,x8,.int .i64 (a : Int),.int .i64 (b : Int),aL,aM,aN,aO,aP,aQ,aR,aS,aT,aU,aV,aW,aX,aY,aZ,bc,bf,bg,bh,bi,bj,bk,bn,bo,bp,bq,bs,bz,bA,bB,bC,bD,bE,bF,bG,bH,bI,bJ,bK,bL,bM,bN,bP,bQ,bR,bS,bT,bU,bV,bW,bY,bZ,b9,cc,cd,ce,cf,cg,ch,ci,cj,.slice (some ⟨g,0,none⟩) n c,.int .i64 (a : Int),.slice (some ⟨g,0,none⟩) n c,.int .i64 (b : Int),.slice (some ⟨g,0,none⟩) n c,.int .i64 (b : Int),.pointer (some ⟨g,b * 20,none⟩),opv ob ub,.slice (some ⟨g,0,none⟩) n c,.int .i64 (a : Int),.pointer (some ⟨g,a * 20,none⟩),opv oa ua,.pointer (some ⟨g,a * 20,none⟩),.pointer (some ⟨g,b * 20,none⟩),ck,cm,cn,cp,cq,cr,ct,cu,cv,cw,cx,cy,cz,cA,aa,ab,ad,ae,af,ag,ah,ai,aj,ak,al,am,ap,aq,ar,au,av,aw,ax,ay,az,aA,aB,aC,aD,aE,aF,aG,aH,aI,aJ,aK],defers := [] } from by kernel_rfl]
    refine ⟨S1.set _ _, ?_⟩
    exact wpAnyH_done (by kernel_rfl) hQ _
  refine wpAnyH_take (i := 0) (oi := sw0) (v := .slice (some ⟨g, 0, none⟩) n c) (by kernel_rfl) sw_lit (by kernel_rfl) (by kernel_rfl) (fun c a W h => hP c _ _ _ W h) (Or.inl ⟨by kernel_rfl, fun W hW => by kernel_rfl⟩) S0 ?_
  rw [show Act.put _ sw0.dst _ = { tmps := #[x0,x1,x2,x3,x4,x5,.slice (some ⟨g,0,none⟩) n c,x7,x8,.int .i64 (a : Int),.int .i64 (b : Int),aL,aM,aN,aO,aP,aQ,aR,aS,aT,aU,aV,aW,aX,aY,aZ,bc,bf,bg,bh,bi,bj,bk,bn,bo,bp,bq,bs,bz,bA,bB,bC,bD,bE,bF,bG,bH,bI,bJ,bK,bL,bM,bN,bP,bQ,bR,bS,bT,bU,bV,bW,bY,bZ,b9,cc,cd,ce,cf,cg,ch,ci,cj,.slice (some ⟨g,0,none⟩) n c,x73,x74,x75,x76,x77,x78,x79,x80,x81,x82,x83,cC,cB,ck,cm,cn,cp,cq,cr,ct,cu,cv,cw,cx,cy,cz,cA,aa,ab,ad,ae,af,ag,ah,ai,aj,ak,al,am,ap,aq,ar,au,av,aw,ax,ay,az,aA,aB,aC,aD,aE,aF,aG,aH,aI,aJ,aK],defers := [] } from by kernel_rfl]
  refine wpAnyH_take (i := 1) (oi := sw1) (v := .int .i64 (a : Int)) (by kernel_rfl) sw_lit (by kernel_rfl) (by kernel_rfl) (fun c a W h => hP c _ _ _ W h) (Or.inl ⟨by kernel_rfl, fun W hW => by kernel_rfl⟩) S0 ?_
  rw [show Act.put _ sw1.dst _ = { tmps := #[x0,x1,x2,x3,x4,x5,.slice (some ⟨g,0,none⟩) n c,x7,x8,.int .i64 (a : Int),.int .i64 (b : Int),aL,aM,aN,aO,aP,aQ,aR,aS,aT,aU,aV,aW,aX,aY,aZ,bc,bf,bg,bh,bi,bj,bk,bn,bo,bp,bq,bs,bz,bA,bB,bC,bD,bE,bF,bG,bH,bI,bJ,bK,bL,bM,bN,bP,bQ,bR,bS,bT,bU,bV,bW,bY,bZ,b9,cc,cd,ce,cf,cg,ch,ci,cj,.slice (some ⟨g,0,none⟩) n c,.int .i64 (a : Int),x74,x75,x76,x77,x78,x79,x80,x81,x82,x83,cC,cB,ck,cm,cn,cp,cq,cr,ct,cu,cv,cw,cx,cy,cz,cA,aa,ab,ad,ae,af,ag,ah,ai,aj,ak,al,am,ap,aq,ar,au,av,aw,ax,ay,az,aA,aB,aC,aD,aE,aF,aG,aH,aI,aJ,aK],defers := [] } from by kernel_rfl]
  refine wpAnyH_take (i := 2) (oi := sw2) (v := .slice (some ⟨g, 0, none⟩) n c) (by kernel_rfl) sw_lit (by kernel_rfl) (by kernel_rfl) (fun c a W h => hP c _ _ _ W h) (Or.inl ⟨by kernel_rfl, fun W hW => by kernel_rfl⟩) S0 ?_
  rw [show Act.put _ sw2.dst _ = { tmps := #[x0,x1,x2,x3,x4,x5,.slice (some ⟨g,0,none⟩) n c,x7,x8,.int .i64 (a : Int),.int .i64 (b : Int),aL,aM,aN,aO,aP,aQ,aR,aS,aT,aU,aV,aW,aX,aY,aZ,bc,bf,bg,bh,bi,bj,bk,bn,bo,bp,bq,bs,bz,bA,bB,bC,bD,bE,bF,bG,bH,bI,bJ,bK,bL,bM,bN,bP,bQ,bR,bS,bT,bU,bV,bW,bY,bZ,b9,cc,cd,ce,cf,cg,ch,ci,cj,.slice (some ⟨g,0,none⟩) n c,.int .i64 (a : Int),.slice (some ⟨g,0,none⟩) n c,x75,x76,x77,x78,x79,x80,x81,x82,x83,cC,cB,ck,cm,cn,cp,cq,cr,ct,cu,cv,cw,cx,cy,cz,cA,aa,ab,ad,ae,af,ag,ah,ai,aj,ak,al,am,ap,aq,ar,au,av,aw,ax,ay,az,aA,aB,aC,aD,aE,aF,aG,aH,aI,aJ,aK],defers := [] } from by kernel_rfl]
  refine wpAnyH_take (i := 3) (oi := sw3) (v := .int .i64 (b : Int)) (by kernel_rfl) sw_lit (by kernel_rfl) (by kernel_rfl) (fun c a W h => hP c _ _ _ W h) (Or.inl ⟨by kernel_rfl, fun W hW => by kernel_rfl⟩) S0 ?_
  rw [show Act.put _ sw3.dst _ = { tmps := #[x0,x1,x2,x3,x4,x5,.slice (some ⟨g,0,none⟩) n c,x7,x8,.int .i64 (a : Int),.int .i64 (b : Int),aL,aM,aN,aO,aP,aQ,aR,aS,aT,aU,aV,aW,aX,aY,aZ,bc,bf,bg,bh,bi,bj,bk,bn,bo,bp,bq,bs,bz,bA,bB,bC,bD,bE,bF,bG,bH,bI,bJ,bK,bL,bM,bN,bP,bQ,bR,bS,bT,bU,bV,bW,bY,bZ,b9,cc,cd,ce,cf,cg,ch,ci,cj,.slice (some ⟨g,0,none⟩) n c,.int .i64 (a : Int),.slice (some ⟨g,0,none⟩) n c,.int .i64 (b : Int),x76,x77,x78,x79,x80,x81,x82,x83,cC,cB,ck,cm,cn,cp,cq,cr,ct,cu,cv,cw,cx,cy,cz,cA,aa,ab,ad,ae,af,ag,ah,ai,aj,ak,al,am,ap,aq,ar,au,av,aw,ax,ay,az,aA,aB,aC,aD,aE,aF,aG,aH,aI,aJ,aK],defers := [] } from by kernel_rfl]
  refine wpAnyH_take (i := 4) (oi := sw4) (v := .slice (some ⟨g, 0, none⟩) n c) (by kernel_rfl) sw_lit (by kernel_rfl) (by kernel_rfl) (fun c a W h => hP c _ _ _ W h) (Or.inl ⟨by kernel_rfl, fun W hW => by kernel_rfl⟩) S0 ?_
  rw [show Act.put _ sw4.dst _ = { tmps := #[x0,x1,x2,x3,x4,x5,.slice (some ⟨g,0,none⟩) n c,x7,x8,.int .i64 (a : Int),.int .i64 (b : Int),aL,aM,aN,aO,aP,aQ,aR,aS,aT,aU,aV,aW,aX,aY,aZ,bc,bf,bg,bh,bi,bj,bk,bn,bo,bp,bq,bs,bz,bA,bB,bC,bD,bE,bF,bG,bH,bI,bJ,bK,bL,bM,bN,bP,bQ,bR,bS,bT,bU,bV,bW,bY,bZ,b9,cc,cd,ce,cf,cg,ch,ci,cj,.slice (some ⟨g,0,none⟩) n c,.int .i64 (a : Int),.slice (some ⟨g,0,none⟩) n c,.int .i64 (b : Int),.slice (some ⟨g,0,none⟩) n c,x77,x78,x79,x80,x81,x82,x83,cC,cB,ck,cm,cn,cp,cq,cr,ct,cu,cv,cw,cx,cy,cz,cA,aa,ab,ad,ae,af,ag,ah,ai,aj,ak,al,am,ap,aq,ar,au,av,aw,ax,ay,az,aA,aB,aC,aD,aE,aF,aG,aH,aI,aJ,aK],defers := [] } from by kernel_rfl]
  refine wpAnyH_take (i := 5) (oi := sw5) (v := .int .i64 (b : Int)) (by kernel_rfl) sw_lit (by kernel_rfl) (by kernel_rfl) (fun c a W h => hP c _ _ _ W h) (Or.inl ⟨by kernel_rfl, fun W hW => by kernel_rfl⟩) S0 ?_
  rw [show Act.put _ sw5.dst _ = { tmps := #[x0,x1,x2,x3,x4,x5,.slice (some ⟨g,0,none⟩) n c,x7,x8,.int .i64 (a : Int),.int .i64 (b : Int),aL,aM,aN,aO,aP,aQ,aR,aS,aT,aU,aV,aW,aX,aY,aZ,bc,bf,bg,bh,bi,bj,bk,bn,bo,bp,bq,bs,bz,bA,bB,bC,bD,bE,bF,bG,bH,bI,bJ,bK,bL,bM,bN,bP,bQ,bR,bS,bT,bU,bV,bW,bY,bZ,b9,cc,cd,ce,cf,cg,ch,ci,cj,.slice (some ⟨g,0,none⟩) n c,.int .i64 (a : Int),.slice (some ⟨g,0,none⟩) n c,.int .i64 (b : Int),.slice (some ⟨g,0,none⟩) n c,.int .i64 (b : Int),x78,x79,x80,x81,x82,x83,cC,cB,ck,cm,cn,cp,cq,cr,ct,cu,cv,cw,cx,cy,cz,cA,aa,ab,ad,ae,af,ag,ah,ai,aj,ak,al,am,ap,aq,ar,au,av,aw,ax,ay,az,aA,aB,aC,aD,aE,aF,aG,aH,aI,aJ,aK],defers := [] } from by kernel_rfl]
  refine wpAnyH_take (i := 8) (oi := sw8) (v := .slice (some ⟨g, 0, none⟩) n c) (by kernel_rfl) sw_lit (by kernel_rfl) (by kernel_rfl) (fun c a W h => hP c _ _ _ W h) (Or.inl ⟨by kernel_rfl, fun W hW => by kernel_rfl⟩) S0 ?_
  rw [show Act.put _ sw8.dst _ = { tmps := #[x0,x1,x2,x3,x4,x5,.slice (some ⟨g,0,none⟩) n c,x7,x8,.int .i64 (a : Int),.int .i64 (b : Int),aL,aM,aN,aO,aP,aQ,aR,aS,aT,aU,aV,aW,aX,aY,aZ,bc,bf,bg,bh,bi,bj,bk,bn,bo,bp,bq,bs,bz,bA,bB,bC,bD,bE,bF,bG,bH,bI,bJ,bK,bL,bM,bN,bP,bQ,bR,bS,bT,bU,bV,bW,bY,bZ,b9,cc,cd,ce,cf,cg,ch,ci,cj,.slice (some ⟨g,0,none⟩) n c,.int .i64 (a : Int),.slice (some ⟨g,0,none⟩) n c,.int .i64 (b : Int),.slice (some ⟨g,0,none⟩) n c,.int .i64 (b : Int),x78,x79,.slice (some ⟨g,0,none⟩) n c,x81,x82,x83,cC,cB,ck,cm,cn,cp,cq,cr,ct,cu,cv,cw,cx,cy,cz,cA,aa,ab,ad,ae,af,ag,ah,ai,aj,ak,al,am,ap,aq,ar,au,av,aw,ax,ay,az,aA,aB,aC,aD,aE,aF,aG,aH,aI,aJ,aK],defers := [] } from by kernel_rfl]
  refine wpAnyH_take (i := 9) (oi := sw9) (v := .int .i64 (a : Int)) (by kernel_rfl) sw_lit (by kernel_rfl) (by kernel_rfl) (fun c a W h => hP c _ _ _ W h) (Or.inl ⟨by kernel_rfl, fun W hW => by kernel_rfl⟩) S0 ?_
  rw [show Act.put _ sw9.dst _ = { tmps := #[x0,x1,x2,x3,x4,x5,.slice (some ⟨g,0,none⟩) n c,x7,x8,.int .i64 (a : Int),.int .i64 (b : Int),aL,aM,aN,aO,aP,aQ,aR,aS,aT,aU,aV,aW,aX,aY,aZ,bc,bf,bg,bh,bi,bj,bk,bn,bo,bp,bq,bs,bz,bA,bB,bC,bD,bE,bF,bG,bH,bI,bJ,bK,bL,bM,bN,bP,bQ,bR,bS,bT,bU,bV,bW,bY,bZ,b9,cc,cd,ce,cf,cg,ch,ci,cj,.slice (some ⟨g,0,none⟩) n c,.int .i64 (a : Int),.slice (some ⟨g,0,none⟩) n c,.int .i64 (b : Int),.slice (some ⟨g,0,none⟩) n c,.int .i64 (b : Int),x78,x79,.slice (some ⟨g,0,none⟩) n c,.int .i64 (a : Int),x82,x83,cC,cB,ck,cm,cn,cp,cq,cr,ct,cu,cv,cw,cx,cy,cz,cA,aa,ab,ad,ae,af,ag,ah,ai,aj,ak,al,am,ap,aq,ar,au,av,aw,ax,ay,az,aA,aB,aC,aD,aE,aF,aG,aH,aI,aJ,aK],defers := [] } from by kernel_rfl]
  refine wpAnyH_take (i := 6) (oi := sw6) (v := .pointer (some ⟨g, b * 20, none⟩)) (by kernel_rfl) sw_lit (by kernel_rfl) (by kernel_rfl) (fun c a W h => hP c _ _ _ W h) (Or.inl ⟨by kernel_rfl, fun W hW => run_ixop rfl rfl rfl hb⟩) S0 ?_
  rw [show Act.put _ sw6.dst _ = { tmps := #[x0,x1,x2,x3,x4,x5,.slice (some ⟨g,0,none⟩) n c,x7,x8,.int .i64 (a : Int),.int .i64 (b : Int),aL,aM,aN,aO,aP,aQ,aR,aS,aT,aU,aV,aW,aX,aY,aZ,bc,bf,bg,bh,bi,bj,bk,bn,bo,bp,bq,bs,bz,bA,bB,bC,bD,bE,bF,bG,bH,bI,bJ,bK,bL,bM,bN,bP,bQ,bR,bS,bT,bU,bV,bW,bY,bZ,b9,cc,cd,ce,cf,cg,ch,ci,cj,.slice (some ⟨g,0,none⟩) n c,.int .i64 (a : Int),.slice (some ⟨g,0,none⟩) n c,.int .i64 (b : Int),.slice (some ⟨g,0,none⟩) n c,.int .i64 (b : Int),.pointer (some ⟨g,b * 20,none⟩),x79,.slice (some ⟨g,0,none⟩) n c,.int .i64 (a : Int),x82,x83,cC,cB,ck,cm,cn,cp,cq,cr,ct,cu,cv,cw,cx,cy,cz,cA,aa,ab,ad,ae,af,ag,ah,ai,aj,ak,al,am,ap,aq,ar,au,av,aw,ax,ay,az,aA,aB,aC,aD,aE,aF,aG,aH,aI,aJ,aK],defers := [] } from by kernel_rfl]
  refine wpAnyH_take (i := 10) (oi := sw10) (v := .pointer (some ⟨g, a * 20, none⟩)) (by kernel_rfl) sw_lit (by kernel_rfl) (by kernel_rfl) (fun c a W h => hP c _ _ _ W h) (Or.inl ⟨by kernel_rfl, fun W hW => run_ixop rfl rfl rfl ha⟩) S0 ?_
  rw [show Act.put _ sw10.dst _ = { tmps := #[x0,x1,x2,x3,x4,x5,.slice (some ⟨g,0,none⟩) n c,x7,x8,.int .i64 (a : Int),.int .i64 (b : Int),aL,aM,aN,aO,aP,aQ,aR,aS,aT,aU,aV,aW,aX,aY,aZ,bc,bf,bg,bh,bi,bj,bk,bn,bo,bp,bq,bs,bz,bA,bB,bC,bD,bE,bF,bG,bH,bI,bJ,bK,bL,bM,bN,bP,bQ,bR,bS,bT,bU,bV,bW,bY,bZ,b9,cc,cd,ce,cf,cg,ch,ci,cj,.slice (some ⟨g,0,none⟩) n c,.int .i64 (a : Int),.slice (some ⟨g,0,none⟩) n c,.int .i64 (b : Int),.slice (some ⟨g,0,none⟩) n c,.int .i64 (b : Int),.pointer (some ⟨g,b * 20,none⟩),x79,.slice (some ⟨g,0,none⟩) n c,.int .i64 (a : Int),.pointer (some ⟨g,a * 20,none⟩),x83,cC,cB,ck,cm,cn,cp,cq,cr,ct,cu,cv,cw,cx,cy,cz,cA,aa,ab,ad,ae,af,ag,ah,ai,aj,ak,al,am,ap,aq,ar,au,av,aw,ax,ay,az,aA,aB,aC,aD,aE,aF,aG,aH,aI,aJ,aK],defers := [] } from by kernel_rfl]
  refine wpAnyH_all (rs := [7, 11]) (by kernel_rfl) (by simp) (fun i hi => ?_)
  simp only [List.mem_cons, List.not_mem_nil, or_false] at hi
  rcases hi with rfl | rfl
  · refine id ?_
    refine hb_new (o := sw7) (w' := W0) (v := opv ob ub) (by kernel_rfl) (by kernel_rfl) (run_load_opat rfl rfl hB) ?_
    rw [show Act.put _ sw7.dst _ = { tmps := #[x0,x1,x2,x3,x4,x5,.slice (some ⟨g,0,none⟩) n c,x7,x8,.int .i64 (a : Int),.int .i64 (b : Int),aL,aM,aN,aO,aP,aQ,aR,aS,aT,aU,aV,aW,aX,aY,aZ,bc,bf,bg,bh,bi,bj,bk,bn,bo,bp,bq,bs,bz,bA,bB,bC,bD,bE,bF,bG,bH,bI,bJ,bK,bL,bM,bN,bP,bQ,bR,bS,bT,bU,bV,bW,bY,bZ,b9,cc,cd,ce,cf,cg,ch,ci,cj,.slice (some ⟨g,0,none⟩) n c,.int .i64 (a : Int),.slice (some ⟨g,0,none⟩) n c,.int .i64 (b : Int),.slice (some ⟨g,0,none⟩) n c,.int .i64 (b : Int),.pointer (some ⟨g,b * 20,none⟩),opv ob ub,.slice (some ⟨g,0,none⟩) n c,.int .i64 (a : Int),.pointer (some ⟨g,a * 20,none⟩),x83,cC,cB,ck,cm,cn,cp,cq,cr,ct,cu,cv,cw,cx,cy,cz,cA,aa,ab,ad,ae,af,ag,ah,ai,aj,ak,al,am,ap,aq,ar,au,av,aw,ax,ay,az,aA,aB,aC,aD,aE,aF,aG,aH,aI,aJ,aK],defers := [] } from by kernel_rfl]
    refine ⟨S0, ?_⟩
    refine wpAnyH_all (rs := [11]) (by kernel_rfl) (by simp) (fun i hi => ?_)
    obtain rfl := List.mem_singleton.1 hi
    refine hb_new (o := sw11) (w' := W0) (v := opv oa ua) (by kernel_rfl) (by kernel_rfl) (run_load_opat rfl rfl hA) ?_
    rw [show Act.put _ sw11.dst _ = { tmps := #[x0,x1,x2,x3,x4,x5,.slice (some ⟨g,0,none⟩) n c,x7,x8,.int .i64 (a : Int),.int .i64 (b : Int),aL,aM,aN,aO,aP,aQ,aR,aS,aT,aU,aV,aW,aX,aY,aZ,bc,bf,bg,bh,bi,bj,bk,bn,bo,bp,bq,bs,bz,bA,bB,bC,bD,bE,bF,bG,bH,bI,bJ,bK,bL,bM,bN,bP,bQ,bR,bS,bT,bU,bV,bW,bY,bZ,b9,cc,cd,ce,cf,cg,ch,ci,cj,.slice (some ⟨g,0,none⟩) n c,.int .i64 (a : Int),.slice (some ⟨g,0,none⟩) n c,.int .i64 (b : Int),.slice (some ⟨g,0,none⟩) n c,.int .i64 (b : Int),.pointer (some ⟨g,b * 20,none⟩),opv ob ub,.slice (some ⟨g,0,none⟩) n c,.int .i64 (a : Int),.pointer (some ⟨g,a * 20,none⟩),opv oa ua,cC,cB,ck,cm,cn,cp,cq,cr,ct,cu,cv,cw,cx,cy,cz,cA,aa,ab,ad,ae,af,ag,ah,ai,aj,ak,al,am,ap,aq,ar,au,av,aw,ax,ay,az,aA,aB,aC,aD,aE,aF,aG,aH,aI,aJ,aK],defers := [] } from by kernel_rfl]
    refine ⟨S0, ?_⟩
    exact tail
  · refine id ?_
    refine hb_new (o := sw11) (w' := W0) (v := opv oa ua) (by kernel_rfl) (by kernel_rfl) (run_load_opat rfl rfl hA) ?_
    rw [show Act.put _ sw11.dst _ = { tmps := #[x0,x1,x2,x3,x4,x5,.slice (some ⟨g,0,none⟩) n c,x7,x8,.int .i64 (a : Int),.int .i64 (b : Int),aL,aM,aN,aO,aP,aQ,aR,aS,aT,aU,aV,aW,aX,aY,aZ,bc,bf,bg,bh,bi,bj,bk,bn,bo,bp,bq,bs,bz,bA,bB,bC,bD,bE,bF,bG,bH,bI,bJ,bK,bL,bM,bN,bP,bQ,bR,bS,bT,bU,bV,bW,bY,bZ,b9,cc,cd,ce,cf,cg,ch,ci,cj,.slice (some ⟨g,0,none⟩) n c,.int .i64 (a : Int),.slice (some ⟨g,0,none⟩) n c,.int .i64 (b : Int),.slice (some ⟨g,0,none⟩) n c,.int .i64 (b : Int),.pointer (some ⟨g,b * 20,none⟩),x79,.slice (some ⟨g,0,none⟩) n c,.int .i64 (a : Int),.pointer (some ⟨g,a * 20,none⟩),opv oa ua,cC,cB,ck,cm,cn,cp,cq,cr,ct,cu,cv,cw,cx,cy,cz,cA,aa,ab,ad,ae,af,ag,ah,ai,aj,ak,al,am,ap,aq,ar,au,av,aw,ax,ay,az,aA,aB,aC,aD,aE,aF,aG,aH,aI,aJ,aK],defers := [] } from by kernel_rfl]
    refine ⟨S0, ?_⟩
    refine wpAnyH_all (rs := [7]) (by kernel_rfl) (by simp) (fun i hi => ?_)
    obtain rfl := List.mem_singleton.1 hi
    refine hb_new (o := sw7) (w' := W0) (v := opv ob ub) (by kernel_rfl) (by kernel_rfl) (run_load_opat rfl rfl hB) ?_
    rw [show Act.put _ sw7.dst _ = { tmps := #[x0,x1,x2,x3,x4,x5,.slice (some ⟨g,0,none⟩) n c,x7,x8,.int .i64 (a : Int),.int .i64 (b : Int),aL,aM,aN,aO,aP,aQ,aR,aS,aT,aU,aV,aW,aX,aY,aZ,bc,bf,bg,bh,bi,bj,bk,bn,bo,bp,bq,bs,bz,bA,bB,bC,bD,bE,bF,bG,bH,bI,bJ,bK,bL,bM,bN,bP,bQ,bR,bS,bT,bU,bV,bW,bY,bZ,b9,cc,cd,ce,cf,cg,ch,ci,cj,.slice (some ⟨g,0,none⟩) n c,.int .i64 (a : Int),.slice (some ⟨g,0,none⟩) n c,.int .i64 (b : Int),.slice (some ⟨g,0,none⟩) n c,.int .i64 (b : Int),.pointer (some ⟨g,b * 20,none⟩),opv ob ub,.slice (some ⟨g,0,none⟩) n c,.int .i64 (a : Int),.pointer (some ⟨g,a * 20,none⟩),opv oa ua,cC,cB,ck,cm,cn,cp,cq,cr,ct,cu,cv,cw,cx,cy,cz,cA,aa,ab,ad,ae,af,ag,ah,ai,aj,ak,al,am,ap,aq,ar,au,av,aw,ax,ay,az,aA,aB,aC,aD,aE,aF,aG,aH,aI,aJ,aK],defers := [] } from by kernel_rfl]
    refine ⟨S0, ?_⟩
    exact tail

/-- A row after a store at a place. -/
theorem row_put {cur cur' : Array Value} {l : List (Opn × Value)} {p : Opn × Value} {i : Nat} (hi : i < l.length) (hs : l.length * 20 ≤ cur.size) (hs' : cur'.size = cur.size) (ht : cur.toList.take (l.length * 20) = l.flatMap opc)
    (h1 : ∀ j, j < i * 20 ∨ i * 20 + 20 ≤ j → cur'[j]? = cur[j]?) (h2 : ∀ j, j < 20 → i * 20 + j < cur.size → cur'[i * 20 + j]? = (opc p)[j]?) : cur'.toList.take ((l.set i p).length * 20) = (l.set i p).flatMap opc := by
  have hl1 := flat_length opc 20 opc_len l
  have hl2 := flat_length opc 20 opc_len (l.set i p)
  rw [List.length_set] at hl2 ⊢
  apply List.ext_getElem?
  intro t
  by_cases htl : t < l.length * 20
  · rw [List.getElem?_take_of_lt htl, Array.getElem?_toList]
    have hk : t / 20 < l.length := by omega
    have hk2 : t / 20 < (l.set i p).length := by rw [List.length_set]; exact hk
    have e : t = t / 20 * 20 + t % 20 := by omega
    have f2 := flat_at opc 20 opc_len (l.set i p) (t / 20) (t % 20) hk2 (by omega)
    rw [← e] at f2
    rw [f2]
    by_cases hti : t / 20 = i
    · subst hti
      rw [List.getElem_set_self]
      have := h2 (t % 20) (by omega) (by omega)
      rw [← e] at this
      exact this
    · rw [List.getElem_set_ne (fun h => hti h.symm)]
      have f1 := flat_at opc 20 opc_len l (t / 20) (t % 20) hk (by omega)
      rw [← e] at f1
      rw [← f1, h1 t (by omega), ← ht, List.getElem?_take_of_lt htl, Array.getElem?_toList]
  · rw [List.getElem?_eq_none (by rw [List.length_take]; omega), List.getElem?_eq_none (by omega)]

end Go.Proofs.YtaojeanoojnknaaDoor

/-
  In whatever order ops are offered the same ones are taken, as data: what is taken is the least that is closed. Nothing of the program is walked here.
-/
namespace Go.Proofs.YtaojeanoojnknaaDoor
open Go.RowKit
set_option linter.unusedVariables false
set_option maxRecDepth 100000

theorem ready_parts {V : List Int} {o : Opn} (hV : Vk V) (h : readyO V o = true) : rightO o = true ∧ ro o.ir o.im = true ∧ V.getD o.ir.toNat 0 + 1 = o.im ∧ ∀ x ∈ needsO o, hasV V x.1 x.2 = true := by
  unfold readyO at h
  simp only [Bool.and_eq_true, decide_eq_true_eq, List.all_eq_true] at h
  obtain ⟨⟨h1, h2⟩, h3⟩ := h
  have hr := (right_parts h1).1.1
  have hb := ro_iff.1 hr
  refine ⟨h1, hr, ?_, h3⟩
  unfold nextV at h2
  rw [if_neg (by omega)] at h2
  split at h2 <;> omega
theorem ready_of {V : List Int} {o : Opn} (h1 : rightO o = true) (h2 : V.getD o.ir.toNat 0 + 1 = o.im) (h3 : ∀ x ∈ needsO o, hasV V x.1 x.2 = true) : readyO V o = true := by
  have hb := ro_iff.1 (right_parts h1).1.1
  unfold readyO
  simp only [Bool.and_eq_true, decide_eq_true_eq, List.all_eq_true]
  refine ⟨⟨h1, ?_⟩, h3⟩
  unfold nextV
  rw [if_neg (by omega), if_neg (by omega)]
  exact h2
theorem put_ready {V : List Int} {o : Opn} (hV : Vk V) (h : readyO V o = true) : addV V o.ir o.im = 0 ∧ putV V o.ir o.im = V.set o.ir.toNat o.im := by
  obtain ⟨_, h2, h3, _⟩ := ready_parts hV h
  have e : addV V o.ir o.im = 0 := by
    unfold addV
    rw [if_neg (by rw [h2]; simp), if_neg (by omega), if_pos (by omega)]
  exact ⟨e, by unfold putV; rw [if_pos e]⟩
theorem has_iff {V : List Int} {r n : Int} : hasV V r n = true ↔ ro r n = true ∧ n ≤ V.getD r.toNat 0 := by simp [hasV]
theorem has_not {V : List Int} {o : Opn} (hr : ro o.ir o.im = true) : hasV V o.ir o.im = false ↔ V.getD o.ir.toNat 0 < o.im := by
  rw [← Bool.not_eq_true, has_iff]
  constructor
  · intro h
    rcases Int.lt_or_le (V.getD o.ir.toNat 0) o.im with k | k
    · exact k
    · exact absurd ⟨hr, k⟩ h
  · rintro h ⟨_, k⟩
    omega
theorem put_at {V : List Int} {o : Opn} (hV : Vk V) (h : readyO V o = true) (i : Nat) : (putV V o.ir o.im).getD i 0 = if i = o.ir.toNat then o.im else V.getD i 0 := by
  have hb := ro_iff.1 (ready_parts hV h).2.1
  rw [(put_ready hV h).2, set_at hV.1 _ _ _ (by omega)]
  by_cases e : i = o.ir.toNat
  · rw [if_pos e.symm, if_pos e]
  · rw [if_neg (fun k => e k.symm), if_neg e]
theorem has_mono {V W : List Int} (h : covTo W V 16) {r n : Int} (k : hasV V r n = true) : hasV W r n = true := by
  obtain ⟨k1, k2⟩ := has_iff.1 k
  have hb := ro_iff.1 k1
  have := h r.toNat (by omega)
  exact has_iff.2 ⟨k1, by omega⟩
theorem cov_put {V : List Int} {o : Opn} (hV : Vk V) (h : readyO V o = true) : covTo (putV V o.ir o.im) V 16 := by
  intro i hi
  rw [put_at hV h]
  split
  · rename_i e
    have := (ready_parts hV h).2.2.1
    rw [e]
    omega
  · exact Int.le_refl _
theorem tak_perm {V : List Int} : ∀ {l : List Opn} {q : Opn}, takO V l = some q → l.Perm (q :: takL V l)
  | [], q, h => by cases h
  | x :: l, q, h => by
    unfold takO at h
    by_cases hx : readyO V x = true
    · rw [List.find?_cons_of_pos hx] at h
      obtain rfl := Option.some.inj h
      unfold takL
      rw [List.eraseP_cons_of_pos hx]
    · rw [List.find?_cons_of_neg hx] at h
      have ih := tak_perm (V := V) (l := l) (q := q) h
      unfold takL at ih ⊢
      rw [List.eraseP_cons_of_neg hx]
      exact (ih.cons x).trans (List.Perm.swap q x _)
theorem Vk_put {V : List Int} (h : Vk V) (o : Opn) : Vk (putV V o.ir o.im) := put_ok h o.ir o.im

/-- None that waits is there. -/
def NH (V : List Int) (l : List Opn) : Prop := ∀ o ∈ l, hasV V o.ir o.im = false
theorem tak_rest {V : List Int} {l : List Opn} {q : Opn} (hw : Wl l) (h : takO V l = some q) : ∀ o ∈ takL V l, o ∈ l ∧ ido2 o ≠ ido2 q := by
  intro o ho
  have hp := tak_perm h
  refine ⟨hp.mem_iff.2 (List.mem_cons_of_mem _ ho), fun e => ?_⟩
  have hn := srted_nodup hw.1
  have h2 := ((hp.map ido2).nodup_iff).1 hn
  rw [List.map_cons, List.nodup_cons] at h2
  exact h2.1 (by rw [← e]; exact List.mem_map_of_mem ho)
theorem NH.take {V : List Int} {l : List Opn} {q : Opn} (h : NH V l) (hV : Vk V) (hw : Wl l) (hq : takO V l = some q) : NH (putV V q.ir q.im) (takL V l) := by
  intro o ho
  obtain ⟨h1, h2⟩ := tak_rest hw hq o ho
  have hro := (right_parts (hw.2 o h1)).1.1
  have hrq := (tak_mem hq).2
  have h3 := (has_not hro).1 (h o h1)
  rw [has_not hro, put_at hV hrq]
  split
  · rename_i e
    have h4 := (ready_parts hV hrq).2.2.1
    have h5 := ro_iff.1 hro
    have h6 := ro_iff.1 (ready_parts hV hrq).2.1
    rw [e] at h3
    have h7 : o.im ≠ q.im := fun e2 => h2 (Prod.ext (by dsimp only; omega) e2)
    omega
  · exact h3
theorem NH.offer {l : List Opn} {V : List Int} (h : NH V l) (o : Opn) : NH V (offL V l o) := by
  unfold offL
  split
  · rename_i hc
    intro p hp
    rcases mem_insO hp with rfl | hp
    · exact (off_zero hc).2.1
    · exact h p hp
  · exact h
/-- Nothing more can be taken of the ops R. -/
def Closed (R : List Opn) (W : List Int) : Prop := Vk W ∧ ∀ o ∈ R, rightO o = true → hasV W o.ir o.im = false → readyO W o = false
/-- A buffer to which the ops Off of R have been offered. -/
structure Iv (R Off : List Opn) (V : List Int) (l : List Opn) : Prop where
  vk : Vk V
  wl : Wl l
  nh : NH V l
  lst : ∀ W, Closed R W → covTo W V 16
  sub : ∀ o ∈ l, o ∈ Off
  all : ∀ o ∈ Off, rightO o = true → o ∈ l ∨ hasV V o.ir o.im = true
  got : ∀ r n, hasV V r n = true → (r, n) ∈ Off.map ido2
theorem Iv.start (R : List Opn) : Iv R [] v0 [] := by
  refine ⟨v0_ok, Wl.nil, (fun o ho => by cases ho), fun W hW i _ => by rw [v0_at]; exact (hW.1.2 i).1, (fun o ho => by cases ho), (fun o ho => by cases ho), fun r n h => ?_⟩
  obtain ⟨h1, h2⟩ := has_iff.1 h
  have := ro_iff.1 h1
  rw [v0_at] at h2
  omega
theorem Iv.offer {R Off : List Opn} {V : List Int} {l : List Opn} (h : Iv R Off V l) {o : Opn} (hn : ido2 o ∉ Off.map ido2) (hl : l.length < 64) : Iv R (Off ++ [o]) V (offL V l o) := by
  have hnl : ido2 o ∉ l.map ido2 := fun k => by
    obtain ⟨p, hp, e⟩ := List.mem_map.1 k
    exact hn (by rw [← e]; exact List.mem_map_of_mem (h.sub p hp))
  have hnh : hasV V o.ir o.im = false := by
    cases k : hasV V o.ir o.im
    · rfl
    · exact absurd (h.got _ _ k) hn
  refine ⟨h.vk, off_wl h.wl o, h.nh.offer o, h.lst, fun p hp => ?_, fun p hp hr => ?_, fun r n k => ?_⟩
  · unfold offL at hp
    split at hp
    · rcases mem_insO hp with rfl | hp
      · simp
      · simp [h.sub p hp]
    · simp [h.sub p hp]
  · have hin : ∀ p, p ∈ l → p ∈ offL V l o := by
      intro p hp
      unfold offL
      split
      · exact (insO_mem hnl p).2 (.inr hp)
      · exact hp
    rcases List.mem_append.1 hp with hp | hp
    · rcases h.all p hp hr with k | k
      · exact .inl (hin p k)
      · exact .inr k
    · obtain rfl := List.mem_singleton.1 hp
      left
      have hc : offC V l p = 0 := by
        unfold offC
        rw [if_neg (by rw [hr]; simp), if_neg (by rw [hnh]; simp [hnl]), if_neg (by omega)]
      unfold offL
      rw [if_pos hc]
      exact (insO_mem hnl p).2 (.inl rfl)
  · have := h.got r n k
    simp only [List.map_append, List.mem_append]
    exact .inl this
theorem Iv.take {R Off : List Opn} {V : List Int} {l : List Opn} (h : Iv R Off V l) (hR : ∀ o ∈ Off, o ∈ R) {q : Opn} (hq : takO V l = some q) : Iv R Off (putV V q.ir q.im) (takL V l) := by
  obtain ⟨hql, hrd⟩ := tak_mem hq
  obtain ⟨k1, k2, k3, k4⟩ := ready_parts h.vk hrd
  have hb := ro_iff.1 k2
  refine ⟨Vk_put h.vk q, h.wl.erase V, h.nh.take h.vk h.wl hq, fun W hW i hi => ?_, fun o ho => h.sub o (tak_rest h.wl hq o ho).1, fun o ho hr => ?_, fun r n k => ?_⟩
  · rw [put_at h.vk hrd]
    split
    · rename_i e
      cases hh : hasV W q.ir q.im
      · exfalso
        have hcl := hW.2 q (hR q (h.sub q hql)) k1 hh
        have h1 := (has_not k2).1 hh
        have h2 := h.lst W hW q.ir.toNat (by omega)
        have := ready_of (V := W) k1 (by omega) (fun x hx => has_mono (h.lst W hW) (k4 x hx))
        rw [hcl] at this
        cases this
      · rw [e]
        exact (has_iff.1 hh).2
    · exact h.lst W hW i hi
  · rcases h.all o ho hr with k | k
    · rcases List.mem_cons.1 ((tak_perm hq).mem_iff.1 k) with rfl | k
      · right
        refine has_iff.2 ⟨k2, ?_⟩
        rw [put_at h.vk hrd, if_pos rfl]
        exact Int.le_refl _
      · exact .inl k
    · exact .inr (has_mono (cov_put h.vk hrd) k)
  · obtain ⟨j1, j2⟩ := has_iff.1 k
    have jb := ro_iff.1 j1
    rw [put_at h.vk hrd] at j2
    by_cases e : r.toNat = q.ir.toNat
    · rw [if_pos e] at j2
      have er : r = q.ir := by omega
      by_cases en : n = q.im
      · rw [er, en]
        exact List.mem_map_of_mem (h.sub q hql)
      · exact h.got r n (has_iff.2 ⟨j1, by rw [e]; omega⟩)
    · rw [if_neg e] at j2
      exact h.got r n (has_iff.2 ⟨j1, j2⟩)
theorem Iv.dn {R Off : List Opn} (hR : ∀ o ∈ Off, o ∈ R) {V : List Int} {l : List Opn} (h : Iv R Off V l) : ∀ {n : Nat} {V' : List Int} {l' : List Opn}, Dn V l n V' l' → Iv R Off V' l'
  | 0, _, _, hd => by
    obtain ⟨rfl, rfl⟩ := hd
    exact h
  | n + 1, _, _, hd => by
    obtain ⟨V1, l1, q, hd, hq, rfl, rfl⟩ := hd
    exact (Iv.dn hR h hd).take hR hq
theorem Iv.closed {R Off : List Opn} {V : List Int} {l : List Opn} (h : Iv R Off V l) (hR : ∀ o ∈ R, o ∈ Off) (h0 : takO V l = none) : Closed R V := by
  refine ⟨h.vk, fun o ho hr hh => ?_⟩
  rcases h.all o (hR o ho) hr with k | k
  · unfold takO at h0
    rw [List.find?_eq_none] at h0
    simpa using h0 o k
  · rw [k] at hh; cases hh
/-- **Two that have been offered the same come to the same.** -/
theorem Iv.same {R A B : List Opn} {V W : List Int} {l m : List Opn} (h : Iv R A V l) (k : Iv R B W m) (hA : ∀ o ∈ R, o ∈ A) (hB : ∀ o ∈ R, o ∈ B) (hA' : ∀ o ∈ A, o ∈ R) (hB' : ∀ o ∈ B, o ∈ R) (h0 : takO V l = none) (k0 : takO W m = none) : V = W ∧ l = m := by
  have e : V = W := by
    refine Vk.ext h.vk k.vk (fun i hi => ?_)
    have h1 := h.lst W (k.closed hB k0) i hi
    have h2 := k.lst V (h.closed hA h0) i hi
    omega
  subst e
  refine ⟨rfl, srted_ext h.wl.1 k.wl.1 ?_⟩
  have nl : l.Nodup := List.Pairwise.of_map ido2 (fun a b hne e => hne (by rw [e])) (srted_nodup h.wl.1)
  have nm : m.Nodup := List.Pairwise.of_map ido2 (fun a b hne e => hne (by rw [e])) (srted_nodup k.wl.1)
  rw [List.perm_ext_iff_of_nodup nl nm]
  intro o
  constructor
  · intro ho
    rcases k.all o (hB o (hA' o (h.sub o ho))) (h.wl.2 o ho) with j | j
    · exact j
    · rw [h.nh o ho] at j; cases j
  · intro ho
    rcases h.all o (hA o (hB' o (k.sub o ho))) (k.wl.2 o ho) with j | j
    · exact j
    · rw [k.nh o ho] at j; cases j

end Go.Proofs.YtaojeanoojnknaaDoor

/-
  The row of ops that CauseOrders mixes: what a swap makes of it; two buffers side by side.
-/
namespace Go.Proofs.YtaojeanoojnknaaDoor
open Go.RowKit
set_option linter.unusedVariables false
set_option maxRecDepth 100000

/-- A row of the law's own: where it lies. -/
structure Rg9 (B : Nat) (w : World) (g c : Nat) (l : List (Opn × Value)) : Prop where
  le : B ≤ g
  row : ∃ cur, w.heap[g]? = some (.cells cur 43 (0, 0)) ∧ l.length ≤ c ∧ c ≤ maxLen ∧ cur.size = c * 20 ∧ cur.toList.take (l.length * 20) = l.flatMap opc
  cs : ∀ p ∈ l, Cs w p.2 p.1.cuts
  far : ∀ p ∈ l, p.1.cuts = [] ∨ p.2.ownBlock ≠ some g
theorem Rg9.os {B : Nat} {w : World} {g c : Nat} {l : List (Opn × Value)} (h : Rg9 B w g c l) : Os w (.slice (some ⟨g, 0, none⟩) l.length c) l := by
  obtain ⟨cur, hg, h1, h2, h3, h4⟩ := h.row
  refine ⟨?_, h.cs⟩
  exact Sl.of_own (base := B) (e := 43) ⟨flat_length opc 20 opc_len l, .inr ⟨g, c, cur, rfl, h.le, hg, h1, h2, h3, h4⟩⟩
theorem Rg9.cell {B : Nat} {w : World} {g c : Nat} {l : List (Opn × Value)} (h : Rg9 B w g c l) {k : Nat} (hk : k < l.length) (j : Nat) (hj : j < 20) : w.cell? ⟨g, k * 20 + j, none⟩ = (opl (l[k]).1 (l[k]).2)[j]? := by
  obtain ⟨b, off, c', e, _, _, _, hc⟩ := h.os.inv (by omega)
  simp only [Value.slice.injEq, Option.some.injEq, Addr.mk.injEq, and_true] at e
  obtain ⟨⟨rfl, rfl⟩, _, _⟩ := e
  have := hc k hk j hj
  rwa [Nat.zero_add] at this
theorem Rg9.below {B : Nat} {w w' : World} {g c : Nat} {l : List (Opn × Value)} (h : Rg9 B w g c l) (hb : Below w.heap.size w w') : Rg9 B w' g c l := by
  obtain ⟨cur, hg, r⟩ := h.row
  exact ⟨h.le, ⟨cur, (hb.block g (heap_in hg)).trans hg, r⟩, fun p hp => (h.cs p hp).below hb, h.far⟩
theorem Rg9.one {B : Nat} {w : World} {g c : Nat} {l : List (Opn × Value)} (h : Rg9 B w g c l) {i : Nat} (hi : i < l.length) {p : Opn × Value} (hp : p ∈ l) : Rg9 B (w.setCells g (i * 20) (opc p)) g c (l.set i p) ∧ Fr (fun k => k = g) w (w.setCells g (i * 20) (opc p)) := by
  obtain ⟨cur, hg, h1, h2, h3, h4⟩ := h.row
  obtain ⟨cur', e1, e2, e3, e4⟩ := setCells_all g 43 (opc p) (i * 20) w cur hg
  have hF := Fr.of_setCells g (opc p) (i * 20) w
  have hl : (opc p).length = 20 := opc_len p
  rw [hl] at e3 e4
  have hin : ∀ q ∈ l.set i p, q ∈ l := fun q hq => by
    rcases List.mem_or_eq_of_mem_set hq with hq | rfl
    · exact hq
    · exact hp
  refine ⟨⟨h.le, ⟨cur', e1, by rw [List.length_set]; exact h1, h2, by omega, row_put hi (by omega) e2 h4 e3 e4⟩, fun q hq => ?_, fun q hq => h.far q (hin q hq)⟩, hF⟩
  have hq := hin q hq
  rcases h.far q hq with k | k
  · have := h.cs q hq
    rw [k] at this ⊢
    exact this.none
  · exact (h.cs q hq).frm hF (fun j hj e => k (by rw [hj, e]))
theorem Rg9.swap {B : Nat} {w : World} {g c : Nat} {l : List (Opn × Value)} (h : Rg9 B w g c l) {a b : Nat} (ha : a < l.length) (hb : b < l.length) :
    Rg9 B ((w.setCells g (a * 20) (opc l[b])).setCells g (b * 20) (opc l[a])) g c ((l.set a l[b]).set b l[a]) ∧ Fr (fun k => k = g) w ((w.setCells g (a * 20) (opc l[b])).setCells g (b * 20) (opc l[a])) ∧ ((l.set a l[b]).set b l[a]).Perm l := by
  have hperm : ((l.set a l[b]).set b l[a]).Perm l := List.set_set_perm ha hb
  obtain ⟨h1, f1⟩ := h.one ha (List.getElem_mem hb)
  have hm : l[a] ∈ l := List.getElem_mem ha
  obtain ⟨cur, hg, g1, g2, g3, g4⟩ := h1.row
  obtain ⟨cur', e1, e2, e3, e4⟩ := setCells_all g 43 (opc l[a]) (b * 20) _ cur hg
  have hF := Fr.of_setCells g (opc l[a]) (b * 20) (w.setCells g (a * 20) (opc l[b]))
  have hl : (opc l[a]).length = 20 := opc_len _
  rw [hl] at e3 e4
  have hF2 := f1.trans hF (fun _ _ e => e)
  have hb' : b < (l.set a l[b]).length := by rw [List.length_set]; exact hb
  refine ⟨⟨h.le, ⟨cur', e1, by rw [List.length_set]; exact g1, g2, by omega, row_put hb' (by omega) e2 g4 e3 e4⟩, fun q hq => ?_, fun q hq => h.far q (hperm.mem_iff.1 hq)⟩, hF2, hperm⟩
  have hq := hperm.mem_iff.1 hq
  rcases h.far q hq with k | k
  · have := h.cs q hq
    rw [k] at this ⊢
    exact this.none
  · exact (h.cs q hq).frm hF2 (fun j hj e => k (by rw [hj, e]))
/-- Out of a copy. -/
theorem Rg9.of {B : Nat} {w : World} {v : Value} {l : List (Opn × Value)} (h : Rw B w v l) (hn : 0 < l.length) : ∃ g c, v = .slice (some ⟨g, 0, none⟩) l.length c ∧ Rg9 B w g c l := by
  rcases h.1.2 with ⟨_, h0⟩ | ⟨g, c, cur, rfl, hb, hg, h1, h2, h3, h4⟩
  · omega
  · refine ⟨g, c, rfl, hb, ⟨cur, hg, h1, h2, h3, h4⟩, fun p hp => (h.2.2 p hp).1, fun p hp => ?_⟩
    rcases (h.2.2 p hp).2 with k | k
    · exact .inl k
    · exact .inr (k g rfl)

theorem lay_frS {S : Nat → Prop} {w w' : World} (h : Lay w) (hf : Fr S w w') (hb : ∀ k, S k → 2 ≤ k) : Lay w' := by
  have h2 := lay_two h
  have k : Below 2 w w' := ⟨hf.os, hf.tape, hf.output, hf.size, fun i hi => hf.block i (by omega) (fun hs => by have := hb i hs; omega)⟩
  have c : ∀ (b : Nat) (off : Nat) (v : Value), b < 2 → w.cell? ⟨b, off, none⟩ = some v → w'.cell? ⟨b, off, none⟩ = some v := fun b off v hb hc => (k.cell (p := ⟨b, off, none⟩) hb).trans hc
  exact ⟨c _ _ _ (by decide) h.r0, c _ _ _ (by decide) h.r1, c _ _ _ (by decide) h.t0, c _ _ _ (by decide) h.t1⟩
/-- What is done beside it. -/
theorem Sx.apart {S : Nat → Prop} {w0 : World} {N bb mb vb : Nat} {W W' : World} {V : List Int} {l : List Opn} (h : Sx w0 N bb mb vb W V l) (hf : Fr S W W') (h1 : ¬ S bb ∧ ¬ S mb ∧ ¬ S vb) (h2 : ∀ k, S k → k < N ∧ w0.heap.size ≤ k ∧ 2 ≤ k) : Sx w0 N bb mb vb W' V l := by
  refine ⟨lay_frS h.lay hf (fun k hk => (h2 k hk).2.2), h.bu.fr hf h1.1 h1.2.1 (fun k hk hs => by have := (h2 k hs).1; omega), h.vc.fr hf h1.2.2, h.ne, Nat.le_trans h.le hf.size, ?_, h.lo⟩
  have hb := h.bw
  exact ⟨hf.os.trans hb.os, hf.tape.trans hb.tape, hf.output.trans hb.output, Nat.le_trans hb.size hf.size, fun k hk => (hf.block k (Nat.lt_of_lt_of_le hk hb.size) (fun hs => by have := (h2 k hs).2.1; omega)).trans (hb.block k hk)⟩
/-- All that two buffers and their vectors are apart. -/
structure Sep (w0 : World) (N b1 m1 v1 b2 m2 v2 : Nat) : Prop where
  e : m1 ≠ b2 ∧ m1 ≠ m2 ∧ m1 ≠ v2 ∧ v1 ≠ b2 ∧ v1 ≠ m2 ∧ v1 ≠ v2 ∧ m2 ≠ b1 ∧ m2 ≠ v1 ∧ v2 ≠ b1 ∧ v2 ≠ m1
  lt : m1 < N ∧ v1 < N ∧ m2 < N ∧ v2 < N
  lo : w0.heap.size ≤ m1 ∧ w0.heap.size ≤ v1 ∧ w0.heap.size ≤ m2 ∧ w0.heap.size ≤ v2
  two : 2 ≤ m1 ∧ 2 ≤ v1 ∧ 2 ≤ m2 ∧ 2 ≤ v2

end Go.Proofs.YtaojeanoojnknaaDoor
