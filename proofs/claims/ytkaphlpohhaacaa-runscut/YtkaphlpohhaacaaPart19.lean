/-
  Parts of the proof, one behind the other; what each proves stands at its head.
-/
import Derived.Test.YtkaphlpohhaacaaPart18

/-
  A list of calls in memory (two numbers, an item, a cut): 'Zc w v qs'; what great answers for it.
-/
namespace Go.Proofs.Ytkaphlpohhaacaa
open Go.RowKit
set_option linter.unusedVariables false
set_option linter.unusedSimpArgs false
set_option maxRecDepth 100000

structure Zq where
  w : Int
  p : Int
  x : Un
  r : Int
  n : Int
  f : Int
  t : Int
abbrev zqc (q : Zq) : List Value :=
  [.int .i64 q.w,.int .i64 q.p,.int .i64 q.x.r,.int .i64 q.x.n,.int .i64 q.x.f,.int .i64 q.x.l,.int .i64 q.x.a,.int .i64 q.x.b,.int .i64 q.x.c,.int .i64 q.x.d,.int .i64 q.x.e,.int .i64 q.x.h,.bool q.x.g,.bool q.x.m,.string q.x.t,.int .i64 q.r,.int .i64 q.n,.int .i64 q.f,.int .i64 q.t]
def Zc (w : World) (v : Value) (qs : List Zq) : Prop := Sl 19 w v qs.length (qs.flatMap zqc)
theorem Zc.below {w w' : World} {v : Value} {qs : List Zq} (h : Zc w v qs) (hb : Below w.heap.size w w') : Zc w' v qs := Sl.below h hb
theorem Zc.nil (w : World) : Zc w (.slice none 0 0) [] := Sl.nil 19 w
/-- One call's cells. -/
structure Zk (w : World) (b o : Nat) (q : Zq) : Prop where
  c0 : w.cell? ⟨b, o, none⟩ = some (.int .i64 q.w)
  c1 : w.cell? ⟨b, o + 1, none⟩ = some (.int .i64 q.p)
  x : Uc w b (o + 2) q.x
  k : Kc w b (o + 15) q.r q.n q.f q.t
theorem Kc.kept {w w' : World} {b o : Nat} {r n f t : Int} (h : Kc w b o r n f t) (hb : w'.heap[b]? = w.heap[b]?) : Kc w' b o r n f t :=
  ⟨(World.cell?_of_block (a := ⟨b, o, none⟩) hb).trans h.c0, (World.cell?_of_block (a := ⟨b, o + 1, none⟩) hb).trans h.c1, (World.cell?_of_block (a := ⟨b, o + 2, none⟩) hb).trans h.c2, (World.cell?_of_block (a := ⟨b, o + 3, none⟩) hb).trans h.c3⟩
theorem Zk.kept {w w' : World} {b o : Nat} {q : Zq} (h : Zk w b o q) (hb : w'.heap[b]? = w.heap[b]?) : Zk w' b o q :=
  ⟨(World.cell?_of_block (a := ⟨b, o, none⟩) hb).trans h.c0, (World.cell?_of_block (a := ⟨b, o + 1, none⟩) hb).trans h.c1, h.x.kept hb, h.k.kept hb⟩
theorem Zk.lt {w : World} {b o : Nat} {q : Zq} (h : Zk w b o q) : b < w.heap.size := World.block_lt_of_cell? _ _ h.c0
theorem Zk.below {w w' : World} {b o : Nat} {q : Zq} (h : Zk w b o q) (hb : Below w.heap.size w w') : Zk w' b o q := h.kept (hb.block b h.lt)
theorem Zc.inv {w : World} {v : Value} {qs : List Zq} (h : Zc w v qs) (hn : 0 < qs.length) : ∃ b off c, v = .slice (some ⟨b, off, none⟩) qs.length c ∧ b < w.heap.size ∧ ∀ i (hi : i < qs.length), Zk w b (off + i * 19) (qs[i]) := by
  obtain ⟨b, off, c, h1, h2, h3, h4, h5⟩ := Sl.inv h hn (by decide)
  refine ⟨b, off, c, h1, h4, fun i hi => ?_⟩
  have key : ∀ j, j < 19 → w.cell? ⟨b, off + i * 19 + j, none⟩ = (zqc qs[i])[j]? := fun j hj => by
    have e := flat_at zqc 19 (fun _ => rfl) qs i j hi hj
    have hl : j < (zqc qs[i]).length := hj
    rw [Nat.add_assoc, List.getElem?_eq_getElem hl]
    exact h5 _ _ (by rw [e, List.getElem?_eq_getElem hl])
  exact ⟨key 0 (by decide), key 1 (by decide),
    ⟨key 2 (by decide), key 3 (by decide), key 4 (by decide), key 5 (by decide), key 6 (by decide), key 7 (by decide), key 8 (by decide), key 9 (by decide), key 10 (by decide), key 11 (by decide), key 12 (by decide), key 13 (by decide), key 14 (by decide)⟩,
    ⟨key 15 (by decide), key 16 (by decide), key 17 (by decide), key 18 (by decide)⟩⟩
section
variable {o : Oper} {a : Act} {W : World} {x y : Operand} {b i : Nat}
theorem runU_cut {r n f t : Int} (ho : o.op = .load 38 x) (hx : a.eval x = .pointer (some ⟨b, i, none⟩)) (h : Kc W b i r n f t) : (execOp a.eval o).run Try.prog W = .ok (.value (cuv r n f t)) W := by
  have h0 := h.c0
  have h1 := h.c1
  have h2 := h.c2
  have h3 := h.c3
  unfold execOp
  simp only [ho, hx]
  simp [go_sem, h0, h1, h2, h3]
theorem runU_ixC {g off n c k : Nat} (ho : o.op = .indexAddr 22 x y) (hx : a.eval x = .slice (some ⟨g, off, none⟩) n c) (hy : a.eval y = .int .i64 (k : Nat)) (hk : k < n) : (execOp a.eval o).run Try.prog W = .ok (.value (.pointer (some ⟨g, off + k * 19, none⟩))) W := by
  have hk' : (k : Int) < (n : Int) := by omega
  unfold execOp
  simp only [ho, hx, hy]
  simp [go_sem, hk']
theorem runU_ixI {g off n c k : Nat} (ho : o.op = .indexAddr 32 x y) (hx : a.eval x = .slice (some ⟨g, off, none⟩) n c) (hy : a.eval y = .int .i64 (k : Nat)) (hk : k < n) : (execOp a.eval o).run Try.prog W = .ok (.value (.pointer (some ⟨g, off + k * 13, none⟩))) W := by
  have hk' : (k : Int) < (n : Int) := by omega
  unfold execOp
  simp only [ho, hx, hy]
  simp [go_sem, hk']
end

/-- What great lets through. -/
def GrZ (n : Nat) (e : Ending) : Prop := ∃ g : Bool, e = .returned (.bool g) ∧ (g = false → n ≤ 100)
set_option maxHeartbeats 2000000 in
theorem ugreat_any (A : Value) (qs : List Zq) (w : World) (h : Zc w A qs) :
    Calls Try.prog 8 #[A] w fun e w' => GrZ qs.length e ∧ w = w' := by
  obtain ⟨a, c, rfl, hc0, hc1⟩ := Sl.form h
  obtain ⟨n, hn⟩ : ∃ n, qs.length = n := ⟨_, rfl⟩
  have HQ := hid h
  have HN := hid hn
  rw [hn] at hc0 HQ
  unfold maxLen at hc1
  clear h
  rw [hn]
  clear hn
  by_cases hb : (100 : Int) < n
  · go_enter Try.func8, Try.ntmps8
    go_wp2
    go_ret
    exact ⟨⟨true, rfl, fun h => by cases h⟩, rfl⟩
  · have hb' : ¬ (100 : Int) < n := hb
    have hn150 : n ≤ 100 := by omega
    go_enter Try.func8, Try.ntmps8
    go_wp2
    go_loop [3] (fun i => ∃ k : Nat, k ≤ n ∧ i = .int .i64 k) (fun i => n - (intOf i).toNat)
    case atStart => exact ⟨0, Nat.zero_le _, rfl⟩
    case round =>
      obtain ⟨k, hk, rfl⟩ := hrel
      by_cases hlt : k < n
      · have hlt' : (k : Int) < (n : Int) := by omega
        have hx : k < qs.length := by rw [HN.out]; exact hlt
        obtain ⟨b, off, c', e1, hbb, hcc⟩ := HQ.out.inv (by rw [HN.out]; omega)
        rw [HN.out] at e1
        simp only [Value.slice.injEq] at e1
        obtain ⟨rfl, -, rfl⟩ := e1
        have c14 : w.cell? ⟨b, off + k * 19 + 14, none⟩ = some (.string (qs[k]).x.t) := (hcc k hx).x.c12
        obtain ⟨s, hs⟩ : ∃ s, (qs[k]).x.t = s := ⟨_, rfl⟩
        rw [hs] at c14
        clear hcc hs
        by_cases hg : (200 : Int) < (s.size : Int)
        · go_wp2
          go_ret
          exact ⟨⟨true, rfl, fun h => by cases h⟩, rfl⟩
        · have hg' : ¬ (200 : Int) < (s.size : Int) := hg
          go_wp2
          go_round
          case rel => exact ⟨k + 1, hlt, by go_num⟩
          case measure => simp [intOf]; omega
      · obtain rfl : k = n := by omega
        have hnl : ¬ (k : Int) < (k : Int) := by omega
        go_wp2
        go_ret
        exact ⟨⟨false, rfl, fun _ => hn150⟩, rfl⟩

/-- What a call makes of the characters; a row of calls. -/
def callC (T : List Un) (q : Zq) : List Un := if q.w = 0 then putC T q.p q.x else T.map (cutC q.r q.n q.f q.t)
def callsC (qs : List Zq) : List Un := qs.foldl callC []
theorem putC_len (T : List Un) (p : Int) (z : Un) : (putC T p z).length ≤ T.length + 64 := by
  unfold putC
  split
  · rename_i h
    have hz : rightB z = true := by
      cases hz : rightB z
      · unfold putE at h; rw [if_pos hz] at h; cases h
      · rfl
    obtain ⟨_, h1, h2, _⟩ := rightB_at hz
    have : (ownU z).l = z.l := rfl
    rw [List.length_append, List.length_append, List.length_take, List.length_drop, chs_len, this]
    omega
  · omega
theorem callC_len (T : List Un) (q : Zq) : (callC T q).length ≤ T.length + 64 := by
  unfold callC
  split
  · exact putC_len _ _ _
  · rw [List.length_map]; omega
theorem callsC_take {qs : List Zq} {k : Nat} (hk : k < qs.length) : callsC (qs.take (k + 1)) = callC (callsC (qs.take k)) (qs[k]) := by
  unfold callsC
  rw [List.take_succ_eq_append_getElem hk, List.foldl_append]
  rfl
theorem callsC_len {qs : List Zq} (h : qs.length ≤ 100) : ∀ k, k ≤ qs.length → (callsC (qs.take k)).length ≤ 64 * k := by
  intro k
  induction k with
  | zero => intro _; simp [callsC]
  | succ k ih =>
    intro hk
    rw [callsC_take (by omega)]
    have := ih (by omega)
    have := callC_len (callsC (qs.take k)) (qs[k])
    omega

end Go.Proofs.Ytkaphlpohhaacaa

/-
  The drawn region of the laws' calls of Put is walked here, law by law. Printed by genulaw.py.
-/
namespace Go.Proofs.Ytkaphlpohhaacaa
open Go.RowKit
set_option linter.unusedVariables false
set_option linter.unusedSimpArgs false
set_option maxRecDepth 100000

theorem lr_putk {N r b : Nat} {T : List Un} {w w1 : World} (h : Lr N r T w w1) (p : Int) (z : Un) (hl : T.length ≤ 20000) (hb : b < N) :
    Calls Try.prog 10 #[.pointer (some ⟨r, 0, none⟩), .int .i64 p, unv z] w1 fun e w' => e = .returned (.int .i64 (putE T p z)) ∧ Lr N r (putC T p z) w w' ∧ w'.heap[b]? = w1.heap[b]? := by
  refine (lr_put h p z hl).mono ?_
  rintro e w' ⟨h1, h2⟩
  obtain ⟨_, _, _, _, _, h3⟩ := h
  obtain ⟨v, ys, g1, g2, g3, h4⟩ := h2
  exact ⟨h1, ⟨v, ys, g1, g2, g3, h4⟩, (h4.block b hb).trans (h3.block b hb).symm⟩
theorem lr_cutk {N r b : Nat} {T : List Un} {w w1 : World} (h : Lr N r T w w1) (cr cn cf ct : Int) (hl : T.length ≤ 20000) (hb : b < N) :
    Calls Try.prog 12 #[.pointer (some ⟨r, 0, none⟩), cuv cr cn cf ct] w1 fun e w' => e = .returned (.int .i64 (cntC cr cn cf ct T)) ∧ Lr N r (T.map (cutC cr cn cf ct)) w w' ∧ w'.heap[b]? = w1.heap[b]? := by
  refine (lr_cut h cr cn cf ct hl).mono ?_
  rintro e w' ⟨h1, h2⟩
  obtain ⟨_, _, _, _, _, h3⟩ := h
  obtain ⟨v, ys, g1, g2, g3, h4⟩ := h2
  exact ⟨h1, ⟨v, ys, g1, g2, g3, h4⟩, (h4.block b hb).trans (h3.block b hb).symm⟩

def ug0 : Oper := { dst := some 26, op := Op.move (Operand.tmp 3), type := 29, pos := "law.go:129", after := #[], guard := none }
def ug1 : Oper := { dst := some 27, op := Op.move (Operand.tmp 0), type := 22, pos := "law.go:129", after := #[], guard := none }
def ug2 : Oper := { dst := some 28, op := Op.move (Operand.tmp 4), type := 3, pos := "law.go:129", after := #[], guard := none }
def ug3 : Oper := { dst := some 29, op := Op.indexAddr 22 (Operand.tmp 27) (Operand.tmp 28), type := 0, pos := "law.go:129", after := #[{ on := 1, ground := Ground.data }, { on := 2, ground := Ground.data }], guard := none }
def ug4 : Oper := { dst := some 30, op := Op.fieldAddr 40 (Operand.tmp 29) 1, type := 0, pos := "law.go:129", after := #[{ on := 3, ground := Ground.data }], guard := none }
def ug5 : Oper := { dst := some 31, op := Op.load 3 (Operand.tmp 30), type := 3, pos := "law.go:129", after := #[{ on := 4, ground := Ground.data }], guard := none }
def ug6 : Oper := { dst := some 32, op := Op.move (Operand.tmp 0), type := 22, pos := "law.go:129", after := #[], guard := none }
def ug7 : Oper := { dst := some 33, op := Op.move (Operand.tmp 4), type := 3, pos := "law.go:129", after := #[], guard := none }
def ug8 : Oper := { dst := some 34, op := Op.indexAddr 22 (Operand.tmp 32) (Operand.tmp 33), type := 0, pos := "law.go:129", after := #[{ on := 6, ground := Ground.data }, { on := 7, ground := Ground.data }], guard := none }
def ug9 : Oper := { dst := some 35, op := Op.fieldAddr 40 (Operand.tmp 34) 2, type := 0, pos := "law.go:129", after := #[{ on := 8, ground := Ground.data }], guard := none }
def ug10 : Oper := { dst := some 36, op := Op.load 36 (Operand.tmp 35), type := 36, pos := "law.go:129", after := #[{ on := 9, ground := Ground.data }], guard := none }
def ug11 : Oper := { dst := some 37,op := Op.call { callee := Callee.value (Operand.func 10),args := #[Operand.tmp 26,Operand.tmp 31,Operand.tmp 36],argTypes := #[29,3,36] },type := 41,pos := "law.go:129",after := #[{ on := 0,ground := Ground.data },{ on := 5,ground := Ground.data },{ on := 10,ground := Ground.data }],guard := none }
def ugs : Array Oper := #[ug0, ug1, ug2, ug3, ug4, ug5, ug6, ug7, ug8, ug9, ug10, ug11]
theorem ug_lit : Region.noSelect ugs = true := by kernel_rfl

set_option maxHeartbeats 8000000 in
theorem few_put {N r b off n c k : Nat} {q : Zq} {T : List Un} {w0 w : World} (h : Zk w b (off + k * 19) q) (hL : Lr N r T w0 w) (hbN : b < N) (hk : k < n) (hl : T.length ≤ 20000) {x1 x2 x5 x6 x7 x8 x9 ab ad ae af ag ah ai aj ak am ap aq au av aw ax dD dC dA dz dy dw du x33 x34 dF dE dB dx dv dt dr dq dp dn ay az aA aB aC aD aE aF aG aH aI aJ aK aL aM aN aO aP aQ aR aS aT aU aV aW aX aY aZ bc bf bg bh bi bj bk bl bm bn bo bp bq br bu bv bw bx bz bA bB : Value} {Q : Exit → Act → World → Prop}
    (hP : ∀ c t t' d W, Q (.panic c) { tmps := t, defers := d } W → Q (.panic c) { tmps := t', defers := d } W)
    (hQ : ∀ W,Lr N r (putC T q.p q.x) w0 W → Q .normal { tmps := #[.slice (some ⟨b,off,none⟩) n c,x1,x2,.pointer (some ⟨r,0,none⟩),.int .i64 (k : Int),x5,x6,x7,x8,x9,ab,ad,ae,af,ag,ah,ai,aj,ak,am,ap,aq,au,av,aw,ax,.pointer (some ⟨r,0,none⟩),.slice (some ⟨b,off,none⟩) n c,.int .i64 (k : Int),.pointer (some ⟨b,off + k * 19,none⟩),.pointer (some ⟨b,off + k * 19 + 1,none⟩),.int .i64 q.p,.slice (some ⟨b,off,none⟩) n c,.int .i64 (k : Int),.pointer (some ⟨b,off + k * 19,none⟩),.pointer (some ⟨b,off + k * 19 + 2,none⟩),unv q.x,.int .i64 (putE T q.p q.x),dx,dv,dt,dr,dq,dp,dn,ay,az,aA,aB,aC,aD,aE,aF,aG,aH,aI,aJ,aK,aL,aM,aN,aO,aP,aQ,aR,aS,aT,aU,aV,aW,aX,aY,aZ,bc,bf,bg,bh,bi,bj,bk,bl,bm,bn,bo,bp,bq,br,bu,bv,bw,bx,bz,bA,bB],defers := [] } W) : (Code.region 10 ugs true).wp Try.prog Q { tmps := #[.slice (some ⟨b,off,none⟩) n c,x1,x2,.pointer (some ⟨r,0,none⟩),.int .i64 (k : Int),x5,x6,x7,x8,x9,ab,ad,ae,af,ag,ah,ai,aj,ak,am,ap,aq,au,av,aw,ax,dD,dC,dA,dz,dy,dw,du,x33,x34,dF,dE,dB,dx,dv,dt,dr,dq,dp,dn,ay,az,aA,aB,aC,aD,aE,aF,aG,aH,aI,aJ,aK,aL,aM,aN,aO,aP,aQ,aR,aS,aT,aU,aV,aW,aX,aY,aZ,bc,bf,bg,bh,bi,bj,bk,bl,bm,bn,bo,bp,bq,br,bu,bv,bw,bx,bz,bA,bB],defers := [] } w := by
  refine wp_region_held (S := fun W => Zk W b (off + k * 19) q) (by kernel_rfl) ?_
  change wpAnyH _ _ _ _ _ 12 _ _ (World.drew _)
  have S0 : Zk (World.drew w) b (off + k * 19) q := h.below (bd w 1)
  clear h
  obtain ⟨W0, hW⟩ : ∃ W, World.drew w = W := ⟨_, rfl⟩
  rw [hW] at S0 ⊢
  have BW0 : Below w.heap.size w W0 := by rw [← hW]; exact (Below.refl _ _).drew
  have KW0 : Lr N r T w0 W0 := by rw [← hW]; exact hL.below (Below.refl _ _).drew
  clear hW
  refine wpAnyH_take (i := 0) (oi := ug0) (v := .pointer (some ⟨r, 0, none⟩)) (by kernel_rfl) ug_lit (by kernel_rfl) (by kernel_rfl) (fun c a W h => hP c _ _ _ W h) (Or.inl ⟨by kernel_rfl, fun W hW => by kernel_rfl⟩) S0 ?_
  rw [show Act.put _ ug0.dst _ = { tmps := #[.slice (some ⟨b,off,none⟩) n c,x1,x2,.pointer (some ⟨r,0,none⟩),.int .i64 (k : Int),x5,x6,x7,x8,x9,ab,ad,ae,af,ag,ah,ai,aj,ak,am,ap,aq,au,av,aw,ax,.pointer (some ⟨r,0,none⟩),dC,dA,dz,dy,dw,du,x33,x34,dF,dE,dB,dx,dv,dt,dr,dq,dp,dn,ay,az,aA,aB,aC,aD,aE,aF,aG,aH,aI,aJ,aK,aL,aM,aN,aO,aP,aQ,aR,aS,aT,aU,aV,aW,aX,aY,aZ,bc,bf,bg,bh,bi,bj,bk,bl,bm,bn,bo,bp,bq,br,bu,bv,bw,bx,bz,bA,bB],defers := [] } from by kernel_rfl]
  refine wpAnyH_take (i := 1) (oi := ug1) (v := .slice (some ⟨b, off, none⟩) n c) (by kernel_rfl) ug_lit (by kernel_rfl) (by kernel_rfl) (fun c a W h => hP c _ _ _ W h) (Or.inl ⟨by kernel_rfl, fun W hW => by kernel_rfl⟩) S0 ?_
  rw [show Act.put _ ug1.dst _ = { tmps := #[.slice (some ⟨b,off,none⟩) n c,x1,x2,.pointer (some ⟨r,0,none⟩),.int .i64 (k : Int),x5,x6,x7,x8,x9,ab,ad,ae,af,ag,ah,ai,aj,ak,am,ap,aq,au,av,aw,ax,.pointer (some ⟨r,0,none⟩),.slice (some ⟨b,off,none⟩) n c,dA,dz,dy,dw,du,x33,x34,dF,dE,dB,dx,dv,dt,dr,dq,dp,dn,ay,az,aA,aB,aC,aD,aE,aF,aG,aH,aI,aJ,aK,aL,aM,aN,aO,aP,aQ,aR,aS,aT,aU,aV,aW,aX,aY,aZ,bc,bf,bg,bh,bi,bj,bk,bl,bm,bn,bo,bp,bq,br,bu,bv,bw,bx,bz,bA,bB],defers := [] } from by kernel_rfl]
  refine wpAnyH_take (i := 2) (oi := ug2) (v := .int .i64 (k : Int)) (by kernel_rfl) ug_lit (by kernel_rfl) (by kernel_rfl) (fun c a W h => hP c _ _ _ W h) (Or.inl ⟨by kernel_rfl, fun W hW => by kernel_rfl⟩) S0 ?_
  rw [show Act.put _ ug2.dst _ = { tmps := #[.slice (some ⟨b,off,none⟩) n c,x1,x2,.pointer (some ⟨r,0,none⟩),.int .i64 (k : Int),x5,x6,x7,x8,x9,ab,ad,ae,af,ag,ah,ai,aj,ak,am,ap,aq,au,av,aw,ax,.pointer (some ⟨r,0,none⟩),.slice (some ⟨b,off,none⟩) n c,.int .i64 (k : Int),dz,dy,dw,du,x33,x34,dF,dE,dB,dx,dv,dt,dr,dq,dp,dn,ay,az,aA,aB,aC,aD,aE,aF,aG,aH,aI,aJ,aK,aL,aM,aN,aO,aP,aQ,aR,aS,aT,aU,aV,aW,aX,aY,aZ,bc,bf,bg,bh,bi,bj,bk,bl,bm,bn,bo,bp,bq,br,bu,bv,bw,bx,bz,bA,bB],defers := [] } from by kernel_rfl]
  refine wpAnyH_take (i := 3) (oi := ug3) (v := .pointer (some ⟨b, off + k * 19, none⟩)) (by kernel_rfl) ug_lit (by kernel_rfl) (by kernel_rfl) (fun c a W h => hP c _ _ _ W h) (Or.inl ⟨by kernel_rfl, fun W hW => runU_ixC rfl rfl rfl (by omega)⟩) S0 ?_
  rw [show Act.put _ ug3.dst _ = { tmps := #[.slice (some ⟨b,off,none⟩) n c,x1,x2,.pointer (some ⟨r,0,none⟩),.int .i64 (k : Int),x5,x6,x7,x8,x9,ab,ad,ae,af,ag,ah,ai,aj,ak,am,ap,aq,au,av,aw,ax,.pointer (some ⟨r,0,none⟩),.slice (some ⟨b,off,none⟩) n c,.int .i64 (k : Int),.pointer (some ⟨b,off + k * 19,none⟩),dy,dw,du,x33,x34,dF,dE,dB,dx,dv,dt,dr,dq,dp,dn,ay,az,aA,aB,aC,aD,aE,aF,aG,aH,aI,aJ,aK,aL,aM,aN,aO,aP,aQ,aR,aS,aT,aU,aV,aW,aX,aY,aZ,bc,bf,bg,bh,bi,bj,bk,bl,bm,bn,bo,bp,bq,br,bu,bv,bw,bx,bz,bA,bB],defers := [] } from by kernel_rfl]
  refine wpAnyH_take (i := 4) (oi := ug4) (v := .pointer (some ⟨b, off + k * 19 + 1, none⟩)) (by kernel_rfl) ug_lit (by kernel_rfl) (by kernel_rfl) (fun c a W h => hP c _ _ _ W h) (Or.inl ⟨by kernel_rfl, fun W hW => by kernel_rfl⟩) S0 ?_
  rw [show Act.put _ ug4.dst _ = { tmps := #[.slice (some ⟨b,off,none⟩) n c,x1,x2,.pointer (some ⟨r,0,none⟩),.int .i64 (k : Int),x5,x6,x7,x8,x9,ab,ad,ae,af,ag,ah,ai,aj,ak,am,ap,aq,au,av,aw,ax,.pointer (some ⟨r,0,none⟩),.slice (some ⟨b,off,none⟩) n c,.int .i64 (k : Int),.pointer (some ⟨b,off + k * 19,none⟩),.pointer (some ⟨b,off + k * 19 + 1,none⟩),dw,du,x33,x34,dF,dE,dB,dx,dv,dt,dr,dq,dp,dn,ay,az,aA,aB,aC,aD,aE,aF,aG,aH,aI,aJ,aK,aL,aM,aN,aO,aP,aQ,aR,aS,aT,aU,aV,aW,aX,aY,aZ,bc,bf,bg,bh,bi,bj,bk,bl,bm,bn,bo,bp,bq,br,bu,bv,bw,bx,bz,bA,bB],defers := [] } from by kernel_rfl]
  refine wpAnyH_take (i := 5) (oi := ug5) (v := .int .i64 q.p) (by kernel_rfl) ug_lit (by kernel_rfl) (by kernel_rfl) (fun c a W h => hP c _ _ _ W h) (Or.inl ⟨by kernel_rfl, fun W hW => runU_int rfl rfl hW.c1⟩) S0 ?_
  rw [show Act.put _ ug5.dst _ = { tmps := #[.slice (some ⟨b,off,none⟩) n c,x1,x2,.pointer (some ⟨r,0,none⟩),.int .i64 (k : Int),x5,x6,x7,x8,x9,ab,ad,ae,af,ag,ah,ai,aj,ak,am,ap,aq,au,av,aw,ax,.pointer (some ⟨r,0,none⟩),.slice (some ⟨b,off,none⟩) n c,.int .i64 (k : Int),.pointer (some ⟨b,off + k * 19,none⟩),.pointer (some ⟨b,off + k * 19 + 1,none⟩),.int .i64 q.p,du,x33,x34,dF,dE,dB,dx,dv,dt,dr,dq,dp,dn,ay,az,aA,aB,aC,aD,aE,aF,aG,aH,aI,aJ,aK,aL,aM,aN,aO,aP,aQ,aR,aS,aT,aU,aV,aW,aX,aY,aZ,bc,bf,bg,bh,bi,bj,bk,bl,bm,bn,bo,bp,bq,br,bu,bv,bw,bx,bz,bA,bB],defers := [] } from by kernel_rfl]
  refine wpAnyH_take (i := 6) (oi := ug6) (v := .slice (some ⟨b, off, none⟩) n c) (by kernel_rfl) ug_lit (by kernel_rfl) (by kernel_rfl) (fun c a W h => hP c _ _ _ W h) (Or.inl ⟨by kernel_rfl, fun W hW => by kernel_rfl⟩) S0 ?_
  rw [show Act.put _ ug6.dst _ = { tmps := #[.slice (some ⟨b,off,none⟩) n c,x1,x2,.pointer (some ⟨r,0,none⟩),.int .i64 (k : Int),x5,x6,x7,x8,x9,ab,ad,ae,af,ag,ah,ai,aj,ak,am,ap,aq,au,av,aw,ax,.pointer (some ⟨r,0,none⟩),.slice (some ⟨b,off,none⟩) n c,.int .i64 (k : Int),.pointer (some ⟨b,off + k * 19,none⟩),.pointer (some ⟨b,off + k * 19 + 1,none⟩),.int .i64 q.p,.slice (some ⟨b,off,none⟩) n c,x33,x34,dF,dE,dB,dx,dv,dt,dr,dq,dp,dn,ay,az,aA,aB,aC,aD,aE,aF,aG,aH,aI,aJ,aK,aL,aM,aN,aO,aP,aQ,aR,aS,aT,aU,aV,aW,aX,aY,aZ,bc,bf,bg,bh,bi,bj,bk,bl,bm,bn,bo,bp,bq,br,bu,bv,bw,bx,bz,bA,bB],defers := [] } from by kernel_rfl]
  refine wpAnyH_take (i := 7) (oi := ug7) (v := .int .i64 (k : Int)) (by kernel_rfl) ug_lit (by kernel_rfl) (by kernel_rfl) (fun c a W h => hP c _ _ _ W h) (Or.inl ⟨by kernel_rfl, fun W hW => by kernel_rfl⟩) S0 ?_
  rw [show Act.put _ ug7.dst _ = { tmps := #[.slice (some ⟨b,off,none⟩) n c,x1,x2,.pointer (some ⟨r,0,none⟩),.int .i64 (k : Int),x5,x6,x7,x8,x9,ab,ad,ae,af,ag,ah,ai,aj,ak,am,ap,aq,au,av,aw,ax,.pointer (some ⟨r,0,none⟩),.slice (some ⟨b,off,none⟩) n c,.int .i64 (k : Int),.pointer (some ⟨b,off + k * 19,none⟩),.pointer (some ⟨b,off + k * 19 + 1,none⟩),.int .i64 q.p,.slice (some ⟨b,off,none⟩) n c,.int .i64 (k : Int),x34,dF,dE,dB,dx,dv,dt,dr,dq,dp,dn,ay,az,aA,aB,aC,aD,aE,aF,aG,aH,aI,aJ,aK,aL,aM,aN,aO,aP,aQ,aR,aS,aT,aU,aV,aW,aX,aY,aZ,bc,bf,bg,bh,bi,bj,bk,bl,bm,bn,bo,bp,bq,br,bu,bv,bw,bx,bz,bA,bB],defers := [] } from by kernel_rfl]
  refine wpAnyH_take (i := 8) (oi := ug8) (v := .pointer (some ⟨b, off + k * 19, none⟩)) (by kernel_rfl) ug_lit (by kernel_rfl) (by kernel_rfl) (fun c a W h => hP c _ _ _ W h) (Or.inl ⟨by kernel_rfl, fun W hW => runU_ixC rfl rfl rfl (by omega)⟩) S0 ?_
  rw [show Act.put _ ug8.dst _ = { tmps := #[.slice (some ⟨b,off,none⟩) n c,x1,x2,.pointer (some ⟨r,0,none⟩),.int .i64 (k : Int),x5,x6,x7,x8,x9,ab,ad,ae,af,ag,ah,ai,aj,ak,am,ap,aq,au,av,aw,ax,.pointer (some ⟨r,0,none⟩),.slice (some ⟨b,off,none⟩) n c,.int .i64 (k : Int),.pointer (some ⟨b,off + k * 19,none⟩),.pointer (some ⟨b,off + k * 19 + 1,none⟩),.int .i64 q.p,.slice (some ⟨b,off,none⟩) n c,.int .i64 (k : Int),.pointer (some ⟨b,off + k * 19,none⟩),dF,dE,dB,dx,dv,dt,dr,dq,dp,dn,ay,az,aA,aB,aC,aD,aE,aF,aG,aH,aI,aJ,aK,aL,aM,aN,aO,aP,aQ,aR,aS,aT,aU,aV,aW,aX,aY,aZ,bc,bf,bg,bh,bi,bj,bk,bl,bm,bn,bo,bp,bq,br,bu,bv,bw,bx,bz,bA,bB],defers := [] } from by kernel_rfl]
  refine wpAnyH_take (i := 9) (oi := ug9) (v := .pointer (some ⟨b, off + k * 19 + 2, none⟩)) (by kernel_rfl) ug_lit (by kernel_rfl) (by kernel_rfl) (fun c a W h => hP c _ _ _ W h) (Or.inl ⟨by kernel_rfl, fun W hW => by kernel_rfl⟩) S0 ?_
  rw [show Act.put _ ug9.dst _ = { tmps := #[.slice (some ⟨b,off,none⟩) n c,x1,x2,.pointer (some ⟨r,0,none⟩),.int .i64 (k : Int),x5,x6,x7,x8,x9,ab,ad,ae,af,ag,ah,ai,aj,ak,am,ap,aq,au,av,aw,ax,.pointer (some ⟨r,0,none⟩),.slice (some ⟨b,off,none⟩) n c,.int .i64 (k : Int),.pointer (some ⟨b,off + k * 19,none⟩),.pointer (some ⟨b,off + k * 19 + 1,none⟩),.int .i64 q.p,.slice (some ⟨b,off,none⟩) n c,.int .i64 (k : Int),.pointer (some ⟨b,off + k * 19,none⟩),.pointer (some ⟨b,off + k * 19 + 2,none⟩),dE,dB,dx,dv,dt,dr,dq,dp,dn,ay,az,aA,aB,aC,aD,aE,aF,aG,aH,aI,aJ,aK,aL,aM,aN,aO,aP,aQ,aR,aS,aT,aU,aV,aW,aX,aY,aZ,bc,bf,bg,bh,bi,bj,bk,bl,bm,bn,bo,bp,bq,br,bu,bv,bw,bx,bz,bA,bB],defers := [] } from by kernel_rfl]
  refine wpAnyH_take (i := 10) (oi := ug10) (v := unv q.x) (by kernel_rfl) ug_lit (by kernel_rfl) (by kernel_rfl) (fun c a W h => hP c _ _ _ W h) (Or.inl ⟨by kernel_rfl, fun W hW => run_ldI rfl rfl hW.x⟩) S0 ?_
  rw [show Act.put _ ug10.dst _ = { tmps := #[.slice (some ⟨b,off,none⟩) n c,x1,x2,.pointer (some ⟨r,0,none⟩),.int .i64 (k : Int),x5,x6,x7,x8,x9,ab,ad,ae,af,ag,ah,ai,aj,ak,am,ap,aq,au,av,aw,ax,.pointer (some ⟨r,0,none⟩),.slice (some ⟨b,off,none⟩) n c,.int .i64 (k : Int),.pointer (some ⟨b,off + k * 19,none⟩),.pointer (some ⟨b,off + k * 19 + 1,none⟩),.int .i64 q.p,.slice (some ⟨b,off,none⟩) n c,.int .i64 (k : Int),.pointer (some ⟨b,off + k * 19,none⟩),.pointer (some ⟨b,off + k * 19 + 2,none⟩),unv q.x,dB,dx,dv,dt,dr,dq,dp,dn,ay,az,aA,aB,aC,aD,aE,aF,aG,aH,aI,aJ,aK,aL,aM,aN,aO,aP,aQ,aR,aS,aT,aU,aV,aW,aX,aY,aZ,bc,bf,bg,bh,bi,bj,bk,bl,bm,bn,bo,bp,bq,br,bu,bv,bw,bx,bz,bA,bB],defers := [] } from by kernel_rfl]
  refine wpAnyH_all (rs := [11]) (by kernel_rfl) (by simp) (fun i hi => ?_)
  obtain rfl := List.mem_singleton.1 hi
  refine hb_callx (o := ug11) (f := 10) (args := #[.pointer (some ⟨r,0,none⟩),.int .i64 q.p,unv q.x]) (D := fun u V => u = .int .i64 (putE T q.p q.x) ∧ Lr N r (putC T q.p q.x) w0 V ∧ V.heap[b]? = W0.heap[b]?) (by kernel_rfl) (by kernel_rfl) (by kernel_rfl) ((lr_putk KW0 q.p q.x hl hbN).mono fun e V ⟨h1,h2,h3⟩ => ⟨_,h1,rfl,h2,h3⟩) ?_
  rintro _ W1 ⟨rfl, hl2, hb2⟩
  have S1 := S0.kept hb2
  have LW1 := hl2
  rw [show Act.put _ ug11.dst _ = { tmps := #[.slice (some ⟨b,off,none⟩) n c,x1,x2,.pointer (some ⟨r,0,none⟩),.int .i64 (k : Int),x5,x6,x7,x8,x9,ab,ad,ae,af,ag,ah,ai,aj,ak,am,ap,aq,au,av,aw,ax,.pointer (some ⟨r,0,none⟩),.slice (some ⟨b,off,none⟩) n c,.int .i64 (k : Int),.pointer (some ⟨b,off + k * 19,none⟩),.pointer (some ⟨b,off + k * 19 + 1,none⟩),.int .i64 q.p,.slice (some ⟨b,off,none⟩) n c,.int .i64 (k : Int),.pointer (some ⟨b,off + k * 19,none⟩),.pointer (some ⟨b,off + k * 19 + 2,none⟩),unv q.x,.int .i64 (putE T q.p q.x),dx,dv,dt,dr,dq,dp,dn,ay,az,aA,aB,aC,aD,aE,aF,aG,aH,aI,aJ,aK,aL,aM,aN,aO,aP,aQ,aR,aS,aT,aU,aV,aW,aX,aY,aZ,bc,bf,bg,bh,bi,bj,bk,bl,bm,bn,bo,bp,bq,br,bu,bv,bw,bx,bz,bA,bB],defers := [] } from by kernel_rfl]
  refine ⟨S1, ?_⟩
  exact wpAnyH_done (by kernel_rfl) (hQ _ LW1) _
def ui0 : Oper := { dst := some 33, op := Op.move (Operand.tmp 5), type := 29, pos := "law.go:156", after := #[], guard := none }
def ui1 : Oper := { dst := some 34, op := Op.move (Operand.tmp 0), type := 22, pos := "law.go:156", after := #[], guard := none }
def ui2 : Oper := { dst := some 35, op := Op.move (Operand.tmp 6), type := 3, pos := "law.go:156", after := #[], guard := none }
def ui3 : Oper := { dst := some 36, op := Op.indexAddr 22 (Operand.tmp 34) (Operand.tmp 35), type := 0, pos := "law.go:156", after := #[{ on := 1, ground := Ground.data }, { on := 2, ground := Ground.data }], guard := none }
def ui4 : Oper := { dst := some 37, op := Op.fieldAddr 40 (Operand.tmp 36) 1, type := 0, pos := "law.go:156", after := #[{ on := 3, ground := Ground.data }], guard := none }
def ui5 : Oper := { dst := some 38, op := Op.load 3 (Operand.tmp 37), type := 3, pos := "law.go:156", after := #[{ on := 4, ground := Ground.data }], guard := none }
def ui6 : Oper := { dst := some 39, op := Op.move (Operand.tmp 0), type := 22, pos := "law.go:156", after := #[], guard := none }
def ui7 : Oper := { dst := some 40, op := Op.move (Operand.tmp 6), type := 3, pos := "law.go:156", after := #[], guard := none }
def ui8 : Oper := { dst := some 41, op := Op.indexAddr 22 (Operand.tmp 39) (Operand.tmp 40), type := 0, pos := "law.go:156", after := #[{ on := 6, ground := Ground.data }, { on := 7, ground := Ground.data }], guard := none }
def ui9 : Oper := { dst := some 42, op := Op.fieldAddr 40 (Operand.tmp 41) 2, type := 0, pos := "law.go:156", after := #[{ on := 8, ground := Ground.data }], guard := none }
def ui10 : Oper := { dst := some 43, op := Op.load 36 (Operand.tmp 42), type := 36, pos := "law.go:156", after := #[{ on := 9, ground := Ground.data }], guard := none }
def ui11 : Oper := { dst := some 44,op := Op.call { callee := Callee.value (Operand.func 10),args := #[Operand.tmp 33,Operand.tmp 38,Operand.tmp 43],argTypes := #[29,3,36] },type := 41,pos := "law.go:156",after := #[{ on := 0,ground := Ground.data },{ on := 5,ground := Ground.data },{ on := 10,ground := Ground.data }],guard := none }
def uis : Array Oper := #[ui0, ui1, ui2, ui3, ui4, ui5, ui6, ui7, ui8, ui9, ui10, ui11]
theorem ui_lit : Region.noSelect uis = true := by kernel_rfl

set_option maxHeartbeats 8000000 in
theorem rcut_put {N r b off n c k : Nat} {q : Zq} {T : List Un} {w0 w : World} (h : Zk w b (off + k * 19) q) (hL : Lr N r T w0 w) (hbN : b < N) (hk : k < n) (hl : T.length ≤ 20000) {x1 x2 x3 x4 x7 x8 x9 ab ad ae af ag ah ai aj ak am ap aq au av aw ax dD dC dA dz dy dw du x33 x34 dF dE dB dx dv dt dr dq dp dn ay az aA aB aC aD aE aF aG aH aI aJ aK aL aM aN aO aP aQ aR aS aT aU aV aW aX aY aZ bc bf bg bh bi bj bk bl bm bn bo bp bq br bu bv bw bx bz bA bB dG dH dI dJ dK dL bC bD bE bF bG bH bI bJ bK bL bM bN bO bP bQ bR bS bT bU bV bW bX bY bZ ca cb cc cd ce cg ch cj ck cl cm co cp cq cu cv cw cx cy cz cA cB cC cD cE cF cG cH cI cJ cK cL cM cN cO cP cQ cR cS cT cU cV cW cX cY cZ da db dc dd de df dg dh di dj dk dl dm : Value} {Q : Exit → Act → World → Prop}
    (hP : ∀ c t t' d W, Q (.panic c) { tmps := t, defers := d } W → Q (.panic c) { tmps := t', defers := d } W)
    (hQ : ∀ W,Lr N r (putC T q.p q.x) w0 W → Q .normal { tmps := #[.slice (some ⟨b,off,none⟩) n c,x1,x2,x3,x4,.pointer (some ⟨r,0,none⟩),.int .i64 (k : Int),x7,x8,x9,ab,ad,ae,af,ag,ah,ai,aj,ak,am,ap,aq,au,av,aw,ax,dD,dC,dA,dz,dy,dw,du,.pointer (some ⟨r,0,none⟩),.slice (some ⟨b,off,none⟩) n c,.int .i64 (k : Int),.pointer (some ⟨b,off + k * 19,none⟩),.pointer (some ⟨b,off + k * 19 + 1,none⟩),.int .i64 q.p,.slice (some ⟨b,off,none⟩) n c,.int .i64 (k : Int),.pointer (some ⟨b,off + k * 19,none⟩),.pointer (some ⟨b,off + k * 19 + 2,none⟩),unv q.x,.int .i64 (putE T q.p q.x),ay,az,aA,aB,aC,aD,aE,aF,aG,aH,aI,aJ,aK,aL,aM,aN,aO,aP,aQ,aR,aS,aT,aU,aV,aW,aX,aY,aZ,bc,bf,bg,bh,bi,bj,bk,bl,bm,bn,bo,bp,bq,br,bu,bv,bw,bx,bz,bA,bB,dG,dH,dI,dJ,dK,dL,bC,bD,bE,bF,bG,bH,bI,bJ,bK,bL,bM,bN,bO,bP,bQ,bR,bS,bT,bU,bV,bW,bX,bY,bZ,ca,cb,cc,cd,ce,cg,ch,cj,ck,cl,cm,co,cp,cq,cu,cv,cw,cx,cy,cz,cA,cB,cC,cD,cE,cF,cG,cH,cI,cJ,cK,cL,cM,cN,cO,cP,cQ,cR,cS,cT,cU,cV,cW,cX,cY,cZ,da,db,dc,dd,de,df,dg,dh,di,dj,dk,dl,dm],defers := [] } W) : (Code.region 10 uis true).wp Try.prog Q { tmps := #[.slice (some ⟨b,off,none⟩) n c,x1,x2,x3,x4,.pointer (some ⟨r,0,none⟩),.int .i64 (k : Int),x7,x8,x9,ab,ad,ae,af,ag,ah,ai,aj,ak,am,ap,aq,au,av,aw,ax,dD,dC,dA,dz,dy,dw,du,x33,x34,dF,dE,dB,dx,dv,dt,dr,dq,dp,dn,ay,az,aA,aB,aC,aD,aE,aF,aG,aH,aI,aJ,aK,aL,aM,aN,aO,aP,aQ,aR,aS,aT,aU,aV,aW,aX,aY,aZ,bc,bf,bg,bh,bi,bj,bk,bl,bm,bn,bo,bp,bq,br,bu,bv,bw,bx,bz,bA,bB,dG,dH,dI,dJ,dK,dL,bC,bD,bE,bF,bG,bH,bI,bJ,bK,bL,bM,bN,bO,bP,bQ,bR,bS,bT,bU,bV,bW,bX,bY,bZ,ca,cb,cc,cd,ce,cg,ch,cj,ck,cl,cm,co,cp,cq,cu,cv,cw,cx,cy,cz,cA,cB,cC,cD,cE,cF,cG,cH,cI,cJ,cK,cL,cM,cN,cO,cP,cQ,cR,cS,cT,cU,cV,cW,cX,cY,cZ,da,db,dc,dd,de,df,dg,dh,di,dj,dk,dl,dm],defers := [] } w := by
  refine wp_region_held (S := fun W => Zk W b (off + k * 19) q) (by kernel_rfl) ?_
  change wpAnyH _ _ _ _ _ 12 _ _ (World.drew _)
  have S0 : Zk (World.drew w) b (off + k * 19) q := h.below (bd w 1)
  clear h
  obtain ⟨W0, hW⟩ : ∃ W, World.drew w = W := ⟨_, rfl⟩
  rw [hW] at S0 ⊢
  have BW0 : Below w.heap.size w W0 := by rw [← hW]; exact (Below.refl _ _).drew
  have KW0 : Lr N r T w0 W0 := by rw [← hW]; exact hL.below (Below.refl _ _).drew
  clear hW
  refine wpAnyH_take (i := 0) (oi := ui0) (v := .pointer (some ⟨r, 0, none⟩)) (by kernel_rfl) ui_lit (by kernel_rfl) (by kernel_rfl) (fun c a W h => hP c _ _ _ W h) (Or.inl ⟨by kernel_rfl, fun W hW => by kernel_rfl⟩) S0 ?_
  rw [show Act.put _ ui0.dst _ = { tmps := #[.slice (some ⟨b,off,none⟩) n c,x1,x2,x3,x4,.pointer (some ⟨r,0,none⟩),.int .i64 (k : Int),x7,x8,x9,ab,ad,ae,af,ag,ah,ai,aj,ak,am,ap,aq,au,av,aw,ax,dD,dC,dA,dz,dy,dw,du,.pointer (some ⟨r,0,none⟩),x34,dF,dE,dB,dx,dv,dt,dr,dq,dp,dn,ay,az,aA,aB,aC,aD,aE,aF,aG,aH,aI,aJ,aK,aL,aM,aN,aO,aP,aQ,aR,aS,aT,aU,aV,aW,aX,aY,aZ,bc,bf,bg,bh,bi,bj,bk,bl,bm,bn,bo,bp,bq,br,bu,bv,bw,bx,bz,bA,bB,dG,dH,dI,dJ,dK,dL,bC,bD,bE,bF,bG,bH,bI,bJ,bK,bL,bM,bN,bO,bP,bQ,bR,bS,bT,bU,bV,bW,bX,bY,bZ,ca,cb,cc,cd,ce,cg,ch,cj,ck,cl,cm,co,cp,cq,cu,cv,cw,cx,cy,cz,cA,cB,cC,cD,cE,cF,cG,cH,cI,cJ,cK,cL,cM,cN,cO,cP,cQ,cR,cS,cT,cU,cV,cW,cX,cY,cZ,da,db,dc,dd,de,df,dg,dh,di,dj,dk,dl,dm],defers := [] } from by kernel_rfl]
  refine wpAnyH_take (i := 1) (oi := ui1) (v := .slice (some ⟨b, off, none⟩) n c) (by kernel_rfl) ui_lit (by kernel_rfl) (by kernel_rfl) (fun c a W h => hP c _ _ _ W h) (Or.inl ⟨by kernel_rfl, fun W hW => by kernel_rfl⟩) S0 ?_
  rw [show Act.put _ ui1.dst _ = { tmps := #[.slice (some ⟨b,off,none⟩) n c,x1,x2,x3,x4,.pointer (some ⟨r,0,none⟩),.int .i64 (k : Int),x7,x8,x9,ab,ad,ae,af,ag,ah,ai,aj,ak,am,ap,aq,au,av,aw,ax,dD,dC,dA,dz,dy,dw,du,.pointer (some ⟨r,0,none⟩),.slice (some ⟨b,off,none⟩) n c,dF,dE,dB,dx,dv,dt,dr,dq,dp,dn,ay,az,aA,aB,aC,aD,aE,aF,aG,aH,aI,aJ,aK,aL,aM,aN,aO,aP,aQ,aR,aS,aT,aU,aV,aW,aX,aY,aZ,bc,bf,bg,bh,bi,bj,bk,bl,bm,bn,bo,bp,bq,br,bu,bv,bw,bx,bz,bA,bB,dG,dH,dI,dJ,dK,dL,bC,bD,bE,bF,bG,bH,bI,bJ,bK,bL,bM,bN,bO,bP,bQ,bR,bS,bT,bU,bV,bW,bX,bY,bZ,ca,cb,cc,cd,ce,cg,ch,cj,ck,cl,cm,co,cp,cq,cu,cv,cw,cx,cy,cz,cA,cB,cC,cD,cE,cF,cG,cH,cI,cJ,cK,cL,cM,cN,cO,cP,cQ,cR,cS,cT,cU,cV,cW,cX,cY,cZ,da,db,dc,dd,de,df,dg,dh,di,dj,dk,dl,dm],defers := [] } from by kernel_rfl]
  refine wpAnyH_take (i := 2) (oi := ui2) (v := .int .i64 (k : Int)) (by kernel_rfl) ui_lit (by kernel_rfl) (by kernel_rfl) (fun c a W h => hP c _ _ _ W h) (Or.inl ⟨by kernel_rfl, fun W hW => by kernel_rfl⟩) S0 ?_
  rw [show Act.put _ ui2.dst _ = { tmps := #[.slice (some ⟨b,off,none⟩) n c,x1,x2,x3,x4,.pointer (some ⟨r,0,none⟩),.int .i64 (k : Int),x7,x8,x9,ab,ad,ae,af,ag,ah,ai,aj,ak,am,ap,aq,au,av,aw,ax,dD,dC,dA,dz,dy,dw,du,.pointer (some ⟨r,0,none⟩),.slice (some ⟨b,off,none⟩) n c,.int .i64 (k : Int),dE,dB,dx,dv,dt,dr,dq,dp,dn,ay,az,aA,aB,aC,aD,aE,aF,aG,aH,aI,aJ,aK,aL,aM,aN,aO,aP,aQ,aR,aS,aT,aU,aV,aW,aX,aY,aZ,bc,bf,bg,bh,bi,bj,bk,bl,bm,bn,bo,bp,bq,br,bu,bv,bw,bx,bz,bA,bB,dG,dH,dI,dJ,dK,dL,bC,bD,bE,bF,bG,bH,bI,bJ,bK,bL,bM,bN,bO,bP,bQ,bR,bS,bT,bU,bV,bW,bX,bY,bZ,ca,cb,cc,cd,ce,cg,ch,cj,ck,cl,cm,co,cp,cq,cu,cv,cw,cx,cy,cz,cA,cB,cC,cD,cE,cF,cG,cH,cI,cJ,cK,cL,cM,cN,cO,cP,cQ,cR,cS,cT,cU,cV,cW,cX,cY,cZ,da,db,dc,dd,de,df,dg,dh,di,dj,dk,dl,dm],defers := [] } from by kernel_rfl]
  refine wpAnyH_take (i := 3) (oi := ui3) (v := .pointer (some ⟨b, off + k * 19, none⟩)) (by kernel_rfl) ui_lit (by kernel_rfl) (by kernel_rfl) (fun c a W h => hP c _ _ _ W h) (Or.inl ⟨by kernel_rfl, fun W hW => runU_ixC rfl rfl rfl (by omega)⟩) S0 ?_
  rw [show Act.put _ ui3.dst _ = { tmps := #[.slice (some ⟨b,off,none⟩) n c,x1,x2,x3,x4,.pointer (some ⟨r,0,none⟩),.int .i64 (k : Int),x7,x8,x9,ab,ad,ae,af,ag,ah,ai,aj,ak,am,ap,aq,au,av,aw,ax,dD,dC,dA,dz,dy,dw,du,.pointer (some ⟨r,0,none⟩),.slice (some ⟨b,off,none⟩) n c,.int .i64 (k : Int),.pointer (some ⟨b,off + k * 19,none⟩),dB,dx,dv,dt,dr,dq,dp,dn,ay,az,aA,aB,aC,aD,aE,aF,aG,aH,aI,aJ,aK,aL,aM,aN,aO,aP,aQ,aR,aS,aT,aU,aV,aW,aX,aY,aZ,bc,bf,bg,bh,bi,bj,bk,bl,bm,bn,bo,bp,bq,br,bu,bv,bw,bx,bz,bA,bB,dG,dH,dI,dJ,dK,dL,bC,bD,bE,bF,bG,bH,bI,bJ,bK,bL,bM,bN,bO,bP,bQ,bR,bS,bT,bU,bV,bW,bX,bY,bZ,ca,cb,cc,cd,ce,cg,ch,cj,ck,cl,cm,co,cp,cq,cu,cv,cw,cx,cy,cz,cA,cB,cC,cD,cE,cF,cG,cH,cI,cJ,cK,cL,cM,cN,cO,cP,cQ,cR,cS,cT,cU,cV,cW,cX,cY,cZ,da,db,dc,dd,de,df,dg,dh,di,dj,dk,dl,dm],defers := [] } from by kernel_rfl]
  refine wpAnyH_take (i := 4) (oi := ui4) (v := .pointer (some ⟨b, off + k * 19 + 1, none⟩)) (by kernel_rfl) ui_lit (by kernel_rfl) (by kernel_rfl) (fun c a W h => hP c _ _ _ W h) (Or.inl ⟨by kernel_rfl, fun W hW => by kernel_rfl⟩) S0 ?_
  rw [show Act.put _ ui4.dst _ = { tmps := #[.slice (some ⟨b,off,none⟩) n c,x1,x2,x3,x4,.pointer (some ⟨r,0,none⟩),.int .i64 (k : Int),x7,x8,x9,ab,ad,ae,af,ag,ah,ai,aj,ak,am,ap,aq,au,av,aw,ax,dD,dC,dA,dz,dy,dw,du,.pointer (some ⟨r,0,none⟩),.slice (some ⟨b,off,none⟩) n c,.int .i64 (k : Int),.pointer (some ⟨b,off + k * 19,none⟩),.pointer (some ⟨b,off + k * 19 + 1,none⟩),dx,dv,dt,dr,dq,dp,dn,ay,az,aA,aB,aC,aD,aE,aF,aG,aH,aI,aJ,aK,aL,aM,aN,aO,aP,aQ,aR,aS,aT,aU,aV,aW,aX,aY,aZ,bc,bf,bg,bh,bi,bj,bk,bl,bm,bn,bo,bp,bq,br,bu,bv,bw,bx,bz,bA,bB,dG,dH,dI,dJ,dK,dL,bC,bD,bE,bF,bG,bH,bI,bJ,bK,bL,bM,bN,bO,bP,bQ,bR,bS,bT,bU,bV,bW,bX,bY,bZ,ca,cb,cc,cd,ce,cg,ch,cj,ck,cl,cm,co,cp,cq,cu,cv,cw,cx,cy,cz,cA,cB,cC,cD,cE,cF,cG,cH,cI,cJ,cK,cL,cM,cN,cO,cP,cQ,cR,cS,cT,cU,cV,cW,cX,cY,cZ,da,db,dc,dd,de,df,dg,dh,di,dj,dk,dl,dm],defers := [] } from by kernel_rfl]
  refine wpAnyH_take (i := 5) (oi := ui5) (v := .int .i64 q.p) (by kernel_rfl) ui_lit (by kernel_rfl) (by kernel_rfl) (fun c a W h => hP c _ _ _ W h) (Or.inl ⟨by kernel_rfl, fun W hW => runU_int rfl rfl hW.c1⟩) S0 ?_
  rw [show Act.put _ ui5.dst _ = { tmps := #[.slice (some ⟨b,off,none⟩) n c,x1,x2,x3,x4,.pointer (some ⟨r,0,none⟩),.int .i64 (k : Int),x7,x8,x9,ab,ad,ae,af,ag,ah,ai,aj,ak,am,ap,aq,au,av,aw,ax,dD,dC,dA,dz,dy,dw,du,.pointer (some ⟨r,0,none⟩),.slice (some ⟨b,off,none⟩) n c,.int .i64 (k : Int),.pointer (some ⟨b,off + k * 19,none⟩),.pointer (some ⟨b,off + k * 19 + 1,none⟩),.int .i64 q.p,dv,dt,dr,dq,dp,dn,ay,az,aA,aB,aC,aD,aE,aF,aG,aH,aI,aJ,aK,aL,aM,aN,aO,aP,aQ,aR,aS,aT,aU,aV,aW,aX,aY,aZ,bc,bf,bg,bh,bi,bj,bk,bl,bm,bn,bo,bp,bq,br,bu,bv,bw,bx,bz,bA,bB,dG,dH,dI,dJ,dK,dL,bC,bD,bE,bF,bG,bH,bI,bJ,bK,bL,bM,bN,bO,bP,bQ,bR,bS,bT,bU,bV,bW,bX,bY,bZ,ca,cb,cc,cd,ce,cg,ch,cj,ck,cl,cm,co,cp,cq,cu,cv,cw,cx,cy,cz,cA,cB,cC,cD,cE,cF,cG,cH,cI,cJ,cK,cL,cM,cN,cO,cP,cQ,cR,cS,cT,cU,cV,cW,cX,cY,cZ,da,db,dc,dd,de,df,dg,dh,di,dj,dk,dl,dm],defers := [] } from by kernel_rfl]
  refine wpAnyH_take (i := 6) (oi := ui6) (v := .slice (some ⟨b, off, none⟩) n c) (by kernel_rfl) ui_lit (by kernel_rfl) (by kernel_rfl) (fun c a W h => hP c _ _ _ W h) (Or.inl ⟨by kernel_rfl, fun W hW => by kernel_rfl⟩) S0 ?_
  rw [show Act.put _ ui6.dst _ = { tmps := #[.slice (some ⟨b,off,none⟩) n c,x1,x2,x3,x4,.pointer (some ⟨r,0,none⟩),.int .i64 (k : Int),x7,x8,x9,ab,ad,ae,af,ag,ah,ai,aj,ak,am,ap,aq,au,av,aw,ax,dD,dC,dA,dz,dy,dw,du,.pointer (some ⟨r,0,none⟩),.slice (some ⟨b,off,none⟩) n c,.int .i64 (k : Int),.pointer (some ⟨b,off + k * 19,none⟩),.pointer (some ⟨b,off + k * 19 + 1,none⟩),.int .i64 q.p,.slice (some ⟨b,off,none⟩) n c,dt,dr,dq,dp,dn,ay,az,aA,aB,aC,aD,aE,aF,aG,aH,aI,aJ,aK,aL,aM,aN,aO,aP,aQ,aR,aS,aT,aU,aV,aW,aX,aY,aZ,bc,bf,bg,bh,bi,bj,bk,bl,bm,bn,bo,bp,bq,br,bu,bv,bw,bx,bz,bA,bB,dG,dH,dI,dJ,dK,dL,bC,bD,bE,bF,bG,bH,bI,bJ,bK,bL,bM,bN,bO,bP,bQ,bR,bS,bT,bU,bV,bW,bX,bY,bZ,ca,cb,cc,cd,ce,cg,ch,cj,ck,cl,cm,co,cp,cq,cu,cv,cw,cx,cy,cz,cA,cB,cC,cD,cE,cF,cG,cH,cI,cJ,cK,cL,cM,cN,cO,cP,cQ,cR,cS,cT,cU,cV,cW,cX,cY,cZ,da,db,dc,dd,de,df,dg,dh,di,dj,dk,dl,dm],defers := [] } from by kernel_rfl]
  refine wpAnyH_take (i := 7) (oi := ui7) (v := .int .i64 (k : Int)) (by kernel_rfl) ui_lit (by kernel_rfl) (by kernel_rfl) (fun c a W h => hP c _ _ _ W h) (Or.inl ⟨by kernel_rfl, fun W hW => by kernel_rfl⟩) S0 ?_
  rw [show Act.put _ ui7.dst _ = { tmps := #[.slice (some ⟨b,off,none⟩) n c,x1,x2,x3,x4,.pointer (some ⟨r,0,none⟩),.int .i64 (k : Int),x7,x8,x9,ab,ad,ae,af,ag,ah,ai,aj,ak,am,ap,aq,au,av,aw,ax,dD,dC,dA,dz,dy,dw,du,.pointer (some ⟨r,0,none⟩),.slice (some ⟨b,off,none⟩) n c,.int .i64 (k : Int),.pointer (some ⟨b,off + k * 19,none⟩),.pointer (some ⟨b,off + k * 19 + 1,none⟩),.int .i64 q.p,.slice (some ⟨b,off,none⟩) n c,.int .i64 (k : Int),dr,dq,dp,dn,ay,az,aA,aB,aC,aD,aE,aF,aG,aH,aI,aJ,aK,aL,aM,aN,aO,aP,aQ,aR,aS,aT,aU,aV,aW,aX,aY,aZ,bc,bf,bg,bh,bi,bj,bk,bl,bm,bn,bo,bp,bq,br,bu,bv,bw,bx,bz,bA,bB,dG,dH,dI,dJ,dK,dL,bC,bD,bE,bF,bG,bH,bI,bJ,bK,bL,bM,bN,bO,bP,bQ,bR,bS,bT,bU,bV,bW,bX,bY,bZ,ca,cb,cc,cd,ce,cg,ch,cj,ck,cl,cm,co,cp,cq,cu,cv,cw,cx,cy,cz,cA,cB,cC,cD,cE,cF,cG,cH,cI,cJ,cK,cL,cM,cN,cO,cP,cQ,cR,cS,cT,cU,cV,cW,cX,cY,cZ,da,db,dc,dd,de,df,dg,dh,di,dj,dk,dl,dm],defers := [] } from by kernel_rfl]
  refine wpAnyH_take (i := 8) (oi := ui8) (v := .pointer (some ⟨b, off + k * 19, none⟩)) (by kernel_rfl) ui_lit (by kernel_rfl) (by kernel_rfl) (fun c a W h => hP c _ _ _ W h) (Or.inl ⟨by kernel_rfl, fun W hW => runU_ixC rfl rfl rfl (by omega)⟩) S0 ?_
  rw [show Act.put _ ui8.dst _ = { tmps := #[.slice (some ⟨b,off,none⟩) n c,x1,x2,x3,x4,.pointer (some ⟨r,0,none⟩),.int .i64 (k : Int),x7,x8,x9,ab,ad,ae,af,ag,ah,ai,aj,ak,am,ap,aq,au,av,aw,ax,dD,dC,dA,dz,dy,dw,du,.pointer (some ⟨r,0,none⟩),.slice (some ⟨b,off,none⟩) n c,.int .i64 (k : Int),.pointer (some ⟨b,off + k * 19,none⟩),.pointer (some ⟨b,off + k * 19 + 1,none⟩),.int .i64 q.p,.slice (some ⟨b,off,none⟩) n c,.int .i64 (k : Int),.pointer (some ⟨b,off + k * 19,none⟩),dq,dp,dn,ay,az,aA,aB,aC,aD,aE,aF,aG,aH,aI,aJ,aK,aL,aM,aN,aO,aP,aQ,aR,aS,aT,aU,aV,aW,aX,aY,aZ,bc,bf,bg,bh,bi,bj,bk,bl,bm,bn,bo,bp,bq,br,bu,bv,bw,bx,bz,bA,bB,dG,dH,dI,dJ,dK,dL,bC,bD,bE,bF,bG,bH,bI,bJ,bK,bL,bM,bN,bO,bP,bQ,bR,bS,bT,bU,bV,bW,bX,bY,bZ,ca,cb,cc,cd,ce,cg,ch,cj,ck,cl,cm,co,cp,cq,cu,cv,cw,cx,cy,cz,cA,cB,cC,cD,cE,cF,cG,cH,cI,cJ,cK,cL,cM,cN,cO,cP,cQ,cR,cS,cT,cU,cV,cW,cX,cY,cZ,da,db,dc,dd,de,df,dg,dh,di,dj,dk,dl,dm],defers := [] } from by kernel_rfl]
  refine wpAnyH_take (i := 9) (oi := ui9) (v := .pointer (some ⟨b, off + k * 19 + 2, none⟩)) (by kernel_rfl) ui_lit (by kernel_rfl) (by kernel_rfl) (fun c a W h => hP c _ _ _ W h) (Or.inl ⟨by kernel_rfl, fun W hW => by kernel_rfl⟩) S0 ?_
  rw [show Act.put _ ui9.dst _ = { tmps := #[.slice (some ⟨b,off,none⟩) n c,x1,x2,x3,x4,.pointer (some ⟨r,0,none⟩),.int .i64 (k : Int),x7,x8,x9,ab,ad,ae,af,ag,ah,ai,aj,ak,am,ap,aq,au,av,aw,ax,dD,dC,dA,dz,dy,dw,du,.pointer (some ⟨r,0,none⟩),.slice (some ⟨b,off,none⟩) n c,.int .i64 (k : Int),.pointer (some ⟨b,off + k * 19,none⟩),.pointer (some ⟨b,off + k * 19 + 1,none⟩),.int .i64 q.p,.slice (some ⟨b,off,none⟩) n c,.int .i64 (k : Int),.pointer (some ⟨b,off + k * 19,none⟩),.pointer (some ⟨b,off + k * 19 + 2,none⟩),dp,dn,ay,az,aA,aB,aC,aD,aE,aF,aG,aH,aI,aJ,aK,aL,aM,aN,aO,aP,aQ,aR,aS,aT,aU,aV,aW,aX,aY,aZ,bc,bf,bg,bh,bi,bj,bk,bl,bm,bn,bo,bp,bq,br,bu,bv,bw,bx,bz,bA,bB,dG,dH,dI,dJ,dK,dL,bC,bD,bE,bF,bG,bH,bI,bJ,bK,bL,bM,bN,bO,bP,bQ,bR,bS,bT,bU,bV,bW,bX,bY,bZ,ca,cb,cc,cd,ce,cg,ch,cj,ck,cl,cm,co,cp,cq,cu,cv,cw,cx,cy,cz,cA,cB,cC,cD,cE,cF,cG,cH,cI,cJ,cK,cL,cM,cN,cO,cP,cQ,cR,cS,cT,cU,cV,cW,cX,cY,cZ,da,db,dc,dd,de,df,dg,dh,di,dj,dk,dl,dm],defers := [] } from by kernel_rfl]
  refine wpAnyH_take (i := 10) (oi := ui10) (v := unv q.x) (by kernel_rfl) ui_lit (by kernel_rfl) (by kernel_rfl) (fun c a W h => hP c _ _ _ W h) (Or.inl ⟨by kernel_rfl, fun W hW => run_ldI rfl rfl hW.x⟩) S0 ?_
  rw [show Act.put _ ui10.dst _ = { tmps := #[.slice (some ⟨b,off,none⟩) n c,x1,x2,x3,x4,.pointer (some ⟨r,0,none⟩),.int .i64 (k : Int),x7,x8,x9,ab,ad,ae,af,ag,ah,ai,aj,ak,am,ap,aq,au,av,aw,ax,dD,dC,dA,dz,dy,dw,du,.pointer (some ⟨r,0,none⟩),.slice (some ⟨b,off,none⟩) n c,.int .i64 (k : Int),.pointer (some ⟨b,off + k * 19,none⟩),.pointer (some ⟨b,off + k * 19 + 1,none⟩),.int .i64 q.p,.slice (some ⟨b,off,none⟩) n c,.int .i64 (k : Int),.pointer (some ⟨b,off + k * 19,none⟩),.pointer (some ⟨b,off + k * 19 + 2,none⟩),unv q.x,dn,ay,az,aA,aB,aC,aD,aE,aF,aG,aH,aI,aJ,aK,aL,aM,aN,aO,aP,aQ,aR,aS,aT,aU,aV,aW,aX,aY,aZ,bc,bf,bg,bh,bi,bj,bk,bl,bm,bn,bo,bp,bq,br,bu,bv,bw,bx,bz,bA,bB,dG,dH,dI,dJ,dK,dL,bC,bD,bE,bF,bG,bH,bI,bJ,bK,bL,bM,bN,bO,bP,bQ,bR,bS,bT,bU,bV,bW,bX,bY,bZ,ca,cb,cc,cd,ce,cg,ch,cj,ck,cl,cm,co,cp,cq,cu,cv,cw,cx,cy,cz,cA,cB,cC,cD,cE,cF,cG,cH,cI,cJ,cK,cL,cM,cN,cO,cP,cQ,cR,cS,cT,cU,cV,cW,cX,cY,cZ,da,db,dc,dd,de,df,dg,dh,di,dj,dk,dl,dm],defers := [] } from by kernel_rfl]
  refine wpAnyH_all (rs := [11]) (by kernel_rfl) (by simp) (fun i hi => ?_)
  obtain rfl := List.mem_singleton.1 hi
  refine hb_callx (o := ui11) (f := 10) (args := #[.pointer (some ⟨r,0,none⟩),.int .i64 q.p,unv q.x]) (D := fun u V => u = .int .i64 (putE T q.p q.x) ∧ Lr N r (putC T q.p q.x) w0 V ∧ V.heap[b]? = W0.heap[b]?) (by kernel_rfl) (by kernel_rfl) (by kernel_rfl) ((lr_putk KW0 q.p q.x hl hbN).mono fun e V ⟨h1,h2,h3⟩ => ⟨_,h1,rfl,h2,h3⟩) ?_
  rintro _ W1 ⟨rfl, hl2, hb2⟩
  have S1 := S0.kept hb2
  have LW1 := hl2
  rw [show Act.put _ ui11.dst _ = { tmps := #[.slice (some ⟨b,off,none⟩) n c,x1,x2,x3,x4,.pointer (some ⟨r,0,none⟩),.int .i64 (k : Int),x7,x8,x9,ab,ad,ae,af,ag,ah,ai,aj,ak,am,ap,aq,au,av,aw,ax,dD,dC,dA,dz,dy,dw,du,.pointer (some ⟨r,0,none⟩),.slice (some ⟨b,off,none⟩) n c,.int .i64 (k : Int),.pointer (some ⟨b,off + k * 19,none⟩),.pointer (some ⟨b,off + k * 19 + 1,none⟩),.int .i64 q.p,.slice (some ⟨b,off,none⟩) n c,.int .i64 (k : Int),.pointer (some ⟨b,off + k * 19,none⟩),.pointer (some ⟨b,off + k * 19 + 2,none⟩),unv q.x,.int .i64 (putE T q.p q.x),ay,az,aA,aB,aC,aD,aE,aF,aG,aH,aI,aJ,aK,aL,aM,aN,aO,aP,aQ,aR,aS,aT,aU,aV,aW,aX,aY,aZ,bc,bf,bg,bh,bi,bj,bk,bl,bm,bn,bo,bp,bq,br,bu,bv,bw,bx,bz,bA,bB,dG,dH,dI,dJ,dK,dL,bC,bD,bE,bF,bG,bH,bI,bJ,bK,bL,bM,bN,bO,bP,bQ,bR,bS,bT,bU,bV,bW,bX,bY,bZ,ca,cb,cc,cd,ce,cg,ch,cj,ck,cl,cm,co,cp,cq,cu,cv,cw,cx,cy,cz,cA,cB,cC,cD,cE,cF,cG,cH,cI,cJ,cK,cL,cM,cN,cO,cP,cQ,cR,cS,cT,cU,cV,cW,cX,cY,cZ,da,db,dc,dd,de,df,dg,dh,di,dj,dk,dl,dm],defers := [] } from by kernel_rfl]
  refine ⟨S1, ?_⟩
  exact wpAnyH_done (by kernel_rfl) (hQ _ LW1) _

end Go.Proofs.Ytkaphlpohhaacaa

/-
  What At and Find answer, told in the characters of a row; no two characters of a row bear one name ('Uq').
-/
namespace Go.Proofs.Ytkaphlpohhaacaa
open Go.RowKit
set_option linter.unusedVariables false
set_option linter.unusedSimpArgs false
set_option maxRecDepth 100000

theorem flat_mid {xs : List Un} {k : Nat} (hk : k < xs.length) : flat xs = flat (xs.take k) ++ (chs (xs[k]) ++ flat (xs.drop (k + 1))) := by
  conv => lhs; rw [← List.take_append_drop k xs, List.drop_eq_getElem_cons hk]
  rw [flat_app, flat_cons]
theorem flat_get {xs : List Un} {k q : Nat} (hk : k < xs.length) (hq : (q : Int) < (xs[k]).l) : (flat xs)[(flat (xs.take k)).length + q]? = some (chU (xs[k]) q) := by
  have hl : q < (chs (xs[k])).length := by rw [chs_len]; omega
  rw [flat_mid hk, List.getElem?_append_right (Nat.le_add_right _ _), Nat.add_sub_cancel_left, List.getElem?_append_left hl, List.getElem?_eq_getElem hl, chs_at]
section
variable {N r : Nat} {T : List Un} {w w1 : World}
theorem lr_at_yes (h : Lr N r T w w1) (hl : T.length ≤ 20000) (i : Nat) (hi : i < T.length) :
    Calls Try.prog 17 #[.pointer (some ⟨r, 0, none⟩), .int .i64 (i : Int)] w1 fun e w' => e = .returned (.tuple #[unv (T[i]), .bool true]) ∧ Below w1.heap.size w1 w' := by
  obtain ⟨v, ys, h1, h2, h3, h4⟩ := h
  have hn := good_len h2
  subst h3
  have hc := flat_len h2.fis
  obtain ⟨k, q, hk, hs, hq0, hq1, hq2⟩ := (seekU_at h2.fis (p := (i : Int)) (by omega)).1 (by omega)
  refine (at_yes r v ys i w1 h1.b h1.u.us h2.fis (by omega) (by omega) (by omega) k q hk hs hq0 hq1).mono ?_
  rintro e w' ⟨rfl, hb⟩
  refine ⟨?_, hb⟩
  obtain ⟨m, rfl⟩ : ∃ m : Nat, q = m := ⟨q.toNat, by omega⟩
  have hg := flat_get (xs := ys) (k := k) (q := m) hk hq1
  have hc2 := flat_len (h2.fis.take k)
  obtain rfl : (flat (ys.take k)).length + m = i := by omega
  rw [List.getElem?_eq_getElem hi] at hg
  rw [Option.some.inj hg, cutU_one]
end

theorem cutC_name (cr cn cf ct : Int) (x : Un) : (cutC cr cn cf ct x).r = x.r ∧ (cutC cr cn cf ct x).n = x.n ∧ (cutC cr cn cf ct x).f = x.f ∧ (cutC cr cn cf ct x).l = x.l ∧ (cutC cr cn cf ct x).m = x.m ∧ (cutC cr cn cf ct x).t = x.t := by
  unfold cutC
  split <;> exact ⟨rfl, rfl, rfl, rfl, rfl, rfl⟩
end Go.Proofs.Ytkaphlpohhaacaa

/-
  Single operations of the laws' drawn regions: a name held against a name, a text's part, texts held against one another.
-/
namespace Go.Proofs.Ytkaphlpohhaacaa
open Go.RowKit
set_option linter.unusedVariables false
set_option linter.unusedSimpArgs false
set_option maxRecDepth 100000

section
variable {o : Oper} {a : Act} {W : World} {x y z : Operand}
theorem runU_neid {r n s m : Int} {b : Bool} (ho : o.op = .binOp .neq 24 x y 24) (hx : a.eval x = idv r n) (hy : a.eval y = idv s m) (hb : (!sameI r n s m) = b) : (execOp a.eval o).run Try.prog W = .ok (.value (.bool b)) W := by
  unfold execOp
  simp only [ho, hx, hy]
  rw [← hb]
  unfold sameI
  by_cases h1 : r = s
  · by_cases h2 : n = m <;> simp [go_sem, h1, h2]
  · simp [go_sem, h1]
theorem runU_nes {s t : ByteArray} {b : Bool} (ho : o.op = .binOp .neq 9 x y 9) (hx : a.eval x = .string s) (hy : a.eval y = .string t) (hb : decide (¬ s = t) = b) : (execOp a.eval o).run Try.prog W = .ok (.value (.bool b)) W := by
  unfold execOp
  simp only [ho, hx, hy]
  by_cases h : s = t
  · subst h
    simp at hb
    subst hb
    simp [go_sem]
  · simp [h] at hb
    subst hb
    have e : ¬ s.toList = t.toList := fun e => h (ba_ext (by rwa [ByteArray.toList_eq, ByteArray.toList_eq] at e))
    simp [go_sem, e]
end

end Go.Proofs.Ytkaphlpohhaacaa
