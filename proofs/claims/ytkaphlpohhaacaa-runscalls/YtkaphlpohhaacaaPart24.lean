/-
  The program's row and the reference's beside one another ('Bo'): what a call of the one leaves of both; one call of the law in a block of its own ('Zb').
-/
import Derived.Test.YtkaphlpohhaacaaPart22
import Derived.Test.YtkaphlpohhaacaaPart23
namespace Go.Proofs.Ytkaphlpohhaacaa
open Go.RowKit
set_option linter.unusedVariables false
set_option linter.unusedSimpArgs false
set_option maxRecDepth 100000

theorem ChY.below {N r : Nat} {v : Value} {ys : List Un} {w w1 : World} (h : Xl N w1 r v ys) (hb : Below w.heap.size w w1) : ChY N r v ys w w1 := ⟨v, h, Fr.of_below hb, fun k hk => .inl hk⟩
/-- Put, whatever is asked. -/
theorem xput_any (N r : Nat) (v : Value) (T : List Un) (p : Int) (z : Un) (w : World) (h : Xl N w r v T) (hn : T.length ≤ 100000) :
    Calls Try.prog 11 #[.pointer (some ⟨r, 0, none⟩), .int .i64 p, unv z] w fun e w' => e = .returned (.int .i64 (putE T p z)) ∧ ChY N r v (putC T p z) w w' := by
  have same : ∀ c, ¬ c = 0 → putE T p z = c → ∀ e w', (e = Ending.returned (.int .i64 c) ∧ Below w.heap.size w w') → e = .returned (.int .i64 (putE T p z)) ∧ ChY N r v (putC T p z) w w' := by
    rintro c hc he e w' ⟨rfl, hw⟩
    have : putC T p z = T := by unfold putC; rw [he, if_neg hc]
    rw [this, he]
    exact ⟨rfl, ChY.below (h.below hw) hw⟩
  cases hz : rightB z
  · have he : putE T p z = 10 := by unfold putE; rw [if_pos hz]
    exact (xput_form N r v T p z w h hz).mono (fun e w' h => same 10 (by decide) he e w' h)
  · by_cases h0 : p < 0
    · have he : putE T p z = 11 := by unfold putE; rw [if_neg (by simp [hz]), if_pos (.inl h0)]
      exact (xput_low N r v T p z w h hz hn h0).mono (fun e w' h => same 11 (by decide) he e w' h)
    · by_cases h1 : (T.length : Int) < p
      · have he : putE T p z = 11 := by unfold putE; rw [if_neg (by simp [hz]), if_pos (.inr h1)]
        exact (xput_high N r v T p z w h hz hn h0 h1).mono (fun e w' h => same 11 (by decide) he e w' h)
      · obtain ⟨q, rfl⟩ : ∃ q : Nat, p = q := ⟨p.toNat, by omega⟩
        refine (xput_main N r v T q z w h hz hn q rfl (by omega)).mono ?_
        rintro e w' (⟨hh, rfl, hw⟩ | ⟨hh, rfl, hx⟩)
        · have he : putE T q z = 12 := by unfold putE; rw [if_neg (by simp [hz]), if_neg (by omega), if_pos hh]
          exact same 12 (by decide) he _ _ ⟨rfl, hw⟩
        · have he : putE T q z = 0 := by unfold putE; rw [if_neg (by simp [hz]), if_neg (by omega), if_neg (by simp [hh])]
          have hpc : putC T q z = T.take q ++ (chs (ownU z) ++ T.drop q) := by unfold putC; rw [if_pos he]; rfl
          rw [he, hpc]
          exact ⟨rfl, hx⟩

/-- Both rows: the program's characters TP, the reference's TX. -/
def Bo (N rp rr : Nat) (TP TX : List Un) (w0 w : World) : Prop :=
  ∃ v ys u, Rw N w rp v ys ∧ Good ys ∧ flat ys = TP ∧ Xl N w rr u TX ∧ (∀ k, Sr rp v k → Sr rr u k → False) ∧ Below N w0 w
theorem Bo.below {N rp rr : Nat} {TP TX : List Un} {w0 w w' : World} (h : Bo N rp rr TP TX w0 w) (hb : Below w.heap.size w w') : Bo N rp rr TP TX w0 w' := by
  obtain ⟨v, ys, u, h1, h2, h3, h4, h5, h6⟩ := h
  exact ⟨v, ys, u, h1.below hb, h2, h3, h4.below hb, h5, h6.trans (hb.mono h1.le)⟩
theorem Bo.lr {N rp rr : Nat} {TP TX : List Un} {w0 w : World} (h : Bo N rp rr TP TX w0 w) : Lr N rp TP w0 w := by
  obtain ⟨v, ys, u, h1, h2, h3, h4, h5, h6⟩ := h
  exact ⟨v, ys, h1, h2, h3, h6⟩
theorem Bo.xl {N rp rr : Nat} {TP TX : List Un} {w0 w : World} (h : Bo N rp rr TP TX w0 w) : ∃ u, Xl N w rr u TX := by
  obtain ⟨v, ys, u, h1, h2, h3, h4, h5, h6⟩ := h
  exact ⟨u, h4⟩
theorem Bo.old {N rp rr : Nat} {TP TX : List Un} {w0 w : World} (h : Bo N rp rr TP TX w0 w) : Below N w0 w := by
  obtain ⟨v, ys, u, h1, h2, h3, h4, h5, h6⟩ := h
  exact h6
theorem Rw.srlt {N r : Nat} {w : World} {v : Value} {xs : List Un} (h : Rw N w r v xs) {k : Nat} (hk : Sr r v k) : k < w.heap.size := hk.elim (fun e => by rw [e]; exact h.b.lt) (fun e => (h.u.lt k e).2)
theorem Xl.srlt {N r : Nat} {w : World} {v : Value} {xs : List Un} (h : Xl N w r v xs) {k : Nat} (hk : Sr r v k) : k < w.heap.size := hk.elim (fun e => by rw [e]; exact h.b.lt) (fun e => (h.u.lt k e).2)
theorem Rw.srlo {N r : Nat} {w : World} {v : Value} {xs : List Un} (h : Rw N w r v xs) {k : Nat} (hk : Sr r v k) : N ≤ k := hk.elim (fun e => by rw [e]; exact h.lo) (fun e => (h.u.lt k e).1)
theorem Xl.srlo {N r : Nat} {w : World} {v : Value} {xs : List Un} (h : Xl N w r v xs) {k : Nat} (hk : Sr r v k) : N ≤ k := hk.elim (fun e => by rw [e]; exact h.lo) (fun e => (h.u.lt k e).1)

/-- A call in a block of its own. -/
abbrev zql (q : Zq) : Array Value :=
  #[.int .i64 q.w,.int .i64 q.p,.int .i64 q.x.r,.int .i64 q.x.n,.int .i64 q.x.f,.int .i64 q.x.l,.int .i64 q.x.a,.int .i64 q.x.b,.int .i64 q.x.c,.int .i64 q.x.d,.int .i64 q.x.e,.int .i64 q.x.h,.bool q.x.g,.bool q.x.m,.string q.x.t,.int .i64 q.r,.int .i64 q.n,.int .i64 q.f,.int .i64 q.t]
abbrev zqv (q : Zq) : Value := .agg (zql q)
def Zq.zero : Zq := ⟨0, 0, Un.zero, 0, 0, 0, 0⟩
def Zb (w : World) (b : Nat) (q : Zq) : Prop := w.heap[b]? = some (.cells (zql q) 40 (0, 0))
theorem Zb.new (w : World) (q : Zq) : Zb (w.alloc (.cells (zql q) 40)) w.heap.size q := heap_alloc_new w _
theorem Zb.lt {w : World} {b : Nat} {q : Zq} (h : Zb w b q) : b < w.heap.size := (Array.getElem?_eq_some_iff.1 h).1
theorem Zb.fr {S : Nat → Prop} {w w' : World} {b : Nat} {q : Zq} (h : Zb w b q) (hf : Fr S w w') (hs : ¬ S b) : Zb w' b q := by unfold Zb; rw [hf.block b h.lt hs]; exact h
theorem Zb.below {w w' : World} {b : Nat} {q : Zq} (h : Zb w b q) (hb : Below w.heap.size w w') : Zb w' b q := h.fr (S := fun _ => False) (Fr.of_below hb) (fun h => h)
theorem Zb.zk {w : World} {b : Nat} {q : Zq} (h : Zb w b q) : Zk w b 0 q :=
  ⟨cell_of_row w b 0 _ _ _ h, cell_of_row w b 1 _ _ _ h,
    ⟨cell_of_row w b 2 _ _ _ h,cell_of_row w b 3 _ _ _ h,cell_of_row w b 4 _ _ _ h,cell_of_row w b 5 _ _ _ h,cell_of_row w b 6 _ _ _ h,cell_of_row w b 7 _ _ _ h,cell_of_row w b 8 _ _ _ h,cell_of_row w b 9 _ _ _ h,cell_of_row w b 10 _ _ _ h,cell_of_row w b 11 _ _ _ h,cell_of_row w b 12 _ _ _ h,cell_of_row w b 13 _ _ _ h,cell_of_row w b 14 _ _ _ h⟩,
    ⟨cell_of_row w b 15 _ _ _ h, cell_of_row w b 16 _ _ _ h, cell_of_row w b 17 _ _ _ h, cell_of_row w b 18 _ _ _ h⟩⟩
theorem Zk.at' {w : World} {b o : Nat} {q : Zq} (h : Zk w b o q) : ∀ j, j < 19 → w.cell? ⟨b, o + j, none⟩ = (zqc q)[j]? := by
  intro j hj
  match j, hj with
  | 0, _ => exact h.c0
  | 1, _ => exact h.c1
  | 2, _ => exact h.x.c0
  | 3, _ => exact h.x.c1
  | 4, _ => exact h.x.c2
  | 5, _ => exact h.x.c3
  | 6, _ => exact h.x.c4
  | 7, _ => exact h.x.c5
  | 8, _ => exact h.x.c6
  | 9, _ => exact h.x.c7
  | 10, _ => exact h.x.c8
  | 11, _ => exact h.x.c9
  | 12, _ => exact h.x.c10
  | 13, _ => exact h.x.c11
  | 14, _ => exact h.x.c12
  | 15, _ => exact h.k.c0
  | 16, _ => exact h.k.c1
  | 17, _ => exact h.k.c2
  | 18, _ => exact h.k.c3
  | n + 19, hj => exact absurd hj (by omega)
section
variable {o : Oper} {a : Act} {W : World} {x y : Operand} {b i : Nat} {ops : Array Oper} {rest : List Oper} {Q : Exit → Act → World → Prop} {q : Zq}
theorem run_ldC (ho : o.op = .load 40 x) (hx : a.eval x = .pointer (some ⟨b, i, none⟩)) (hc : Zk W b i q) : (execOp a.eval o).run Try.prog W = .ok (.value (zqv q)) W := by
  have h := run_loadAt_mid (P := Try.prog) W b i 40 (zqc q) _ (fun j z hj => by
    have hl : j < 19 := (List.getElem?_eq_some_iff.1 hj).1
    rw [hc.at' j hl]
    exact hj) Try.underlying40 rfl (by kernel_rfl)
  unfold execOp
  simp only [ho, hx, Sem.run_bind, h, Result.andThen_ok, Sem.run_pure]
theorem wl_ldC (hgd : Region.wanted o (yielded ops a.tmps) = true) (ho : o.op = .load 40 x) (hx : a.eval x = .pointer (some ⟨b, i, none⟩)) (hc : Zk W b i q) (hk : wpList Try.prog ops Q rest (a.put o.dst (zqv q)) W) : wpList Try.prog ops Q (o :: rest) a W :=
  BigFrame.wpList_want hgd fun K hK => by unfold Oper.wp; rw [run_ldC ho hx hc]; exact hK _ _ hk
theorem run_alC (ho : o.op = .alloc 40) : (execOp a.eval o).run Try.prog W = .ok (.value (.pointer (some ⟨W.heap.size, 0, none⟩))) (W.alloc (.cells (zql Zq.zero) 40)) := by
  unfold execOp
  simp only [ho]
  kernel_rfl
theorem wl_alC (hgd : Region.wanted o (yielded ops a.tmps) = true) (ho : o.op = .alloc 40) (hk : ∀ W' b, b = W.heap.size → Zb W' b Zq.zero → Below W.heap.size W W' → wpList Try.prog ops Q rest (a.put o.dst (.pointer (some ⟨b, 0, none⟩))) W') : wpList Try.prog ops Q (o :: rest) a W :=
  BigFrame.wpList_want hgd fun K hK => by unfold Oper.wp; rw [run_alC ho]; exact hK _ _ (hk _ _ rfl (Zb.new W _) (ba W _))
theorem wl_stC {z : Zq} (hgd : o.guard = none) (ho : o.op = .store 40 x y) (hx : a.eval x = .pointer (some ⟨b, 0, none⟩)) (hy : a.eval y = zqv q) (h : Zb W b z)
    (hk : ∀ W', Zb W' b q → Fr (fun k => k = b) W W' → wpList Try.prog ops Q rest (a.put o.dst undef) W') : wpList Try.prog ops Q (o :: rest) a W :=
  wpList_store_row hgd 40 x y ho b (zql q) hx hy 40 (zql z) h (by kernel_rfl) rfl (by simp [Value.oneCell']) (hk _ (setRow_heap _ _ _ _ _ _ h) (Fr.of_rowU W b _))
theorem wl_boxX (hgd : Region.wanted o (yielded ops a.tmps) = true) (ho : o.op = .box 34 x) (hx : a.eval x = .agg #[.slice none 0 0]) (hk : ∀ W' b,b = W.heap.size → Xb W' b (.slice none 0 0) → Below W.heap.size W W' → wpList Try.prog ops Q rest (a.put o.dst (.pointer (some ⟨b,0,none⟩))) W') : wpList Try.prog ops Q (o :: rest) a W :=
  BigFrame.wpList_want hgd fun K hK => by
    have hr : (execOp a.eval o).run Try.prog W = .ok (.value (.pointer (some ⟨W.heap.size, 0, none⟩))) (W.alloc (.cells #[.slice none 0 0] 34)) := by
      unfold execOp
      simp only [ho, hx]
      simp [go_sem]
    unfold Oper.wp
    rw [hr]
    exact hK _ _ (hk _ _ rfl (heap_alloc_new W _) (ba W _))
theorem runU_neE {i j : Int} {b : Bool} (ho : o.op = .binOp .neq 41 x y 41) (hx : a.eval x = .int .i64 i) (hy : a.eval y = .int .i64 j) (hb : decide (¬ i = j) = b) : (execOp a.eval o).run Try.prog W = .ok (.value (.bool b)) W := by
  unfold execOp
  simp only [ho, hx, hy]
  by_cases h : i = j
  · subst h
    simp at hb
    subst hb
    simp [go_sem]
  · simp [h] at hb
    subst hb
    simp [go_sem, h]
end

/-- Both rows, and a call in a block apart. -/
def Bc (N rp rr cb : Nat) (q : Zq) (TP TX : List Un) (w0 w : World) : Prop :=
  ∃ v ys u, Rw N w rp v ys ∧ Good ys ∧ flat ys = TP ∧ Xl N w rr u TX ∧ (∀ k, Sr rp v k → Sr rr u k → False) ∧ Below N w0 w ∧ (¬ Sr rp v cb ∧ ¬ Sr rr u cb) ∧ Zb w cb q
theorem Bc.bo {N rp rr cb : Nat} {q : Zq} {TP TX : List Un} {w0 w : World} (h : Bc N rp rr cb q TP TX w0 w) : Bo N rp rr TP TX w0 w := by
  obtain ⟨v, ys, u, h1, h2, h3, h4, h5, h6, _⟩ := h
  exact ⟨v, ys, u, h1, h2, h3, h4, h5, h6⟩
theorem Bc.zb {N rp rr cb : Nat} {q : Zq} {TP TX : List Un} {w0 w : World} (h : Bc N rp rr cb q TP TX w0 w) : Zb w cb q := by
  obtain ⟨v, ys, u, h1, h2, h3, h4, h5, h6, _, h7⟩ := h
  exact h7
theorem Bc.below {N rp rr cb : Nat} {q : Zq} {TP TX : List Un} {w0 w w' : World} (h : Bc N rp rr cb q TP TX w0 w) (hb : Below w.heap.size w w') : Bc N rp rr cb q TP TX w0 w' := by
  obtain ⟨v, ys, u, h1, h2, h3, h4, h5, h6, h7, h8⟩ := h
  exact ⟨v, ys, u, h1.below hb, h2, h3, h4.below hb, h5, h6.trans (hb.mono h1.le), h7, h8.below hb⟩
/-- A new block holds the call. -/
theorem Bo.bc {N rp rr cb : Nat} {q : Zq} {TP TX : List Un} {w0 w w' : World} (h : Bo N rp rr TP TX w0 w) (hb : Below w.heap.size w w') (hc : w.heap.size ≤ cb) (hz : Zb w' cb q) : Bc N rp rr cb q TP TX w0 w' := by
  obtain ⟨v, ys, u, h1, h2, h3, h4, h5, h6⟩ := h
  exact ⟨v, ys, u, h1.below hb, h2, h3, h4.below hb, h5, h6.trans (hb.mono h1.le), ⟨fun h => by have := h1.srlt h; omega, fun h => by have := h4.srlt h; omega⟩, hz⟩
theorem Bc.stepP {N rp rr cb : Nat} {q : Zq} {TX T' : List Un} {w0 w w' : World} {v u : Value} {ys zs : List Un} (h1 : Rw N w rp v ys) (h4 : Xl N w rr u TX) (h5 : ∀ k, Sr rp v k → Sr rr u k → False) (h6 : Below N w0 w) (h7 : ¬ Sr rp v cb ∧ ¬ Sr rr u cb) (h8 : Zb w cb q)
    (hf : flat zs = T') (hg : Good zs) (hx : ChX N rp v zs w w') : Bc N rp rr cb q T' TX w0 w' := by
  obtain ⟨v', g1, g2, g3⟩ := hx
  have key : ∀ k, k < w.heap.size → Sr rp v' k → Sr rp v k := fun k hk hs => hs.elim .inl (fun e => (g3 k e).elim .inr (fun h => by omega))
  refine ⟨v', zs, u, g1, hg, hf, h4.fr g2 (fun h => h5 _ h (.inl rfl)) (fun k hk h => h5 _ h (.inr hk)), fun k hk hr => h5 k (key k (h4.srlt hr) hk) hr, h6.trans (g2.below (fun k hk hs => by have := h1.srlo hs; omega) h1.le), ⟨fun h => h7.1 (key cb h8.lt h), h7.2⟩, h8.fr g2 h7.1⟩
theorem Bc.stepX {N rp rr cb : Nat} {q : Zq} {TP TX T' : List Un} {w0 w w' : World} {v u : Value} {ys : List Un} (h1 : Rw N w rp v ys) (h2 : Good ys) (h3 : flat ys = TP) (h4 : Xl N w rr u TX) (h5 : ∀ k,Sr rp v k → Sr rr u k → False) (h6 : Below N w0 w) (h7 : ¬ Sr rp v cb ∧ ¬ Sr rr u cb) (h8 : Zb w cb q)
    (hx : ChY N rr u T' w w') : Bc N rp rr cb q TP T' w0 w' := by
  obtain ⟨u', g1, g2, g3⟩ := hx
  have key : ∀ k, k < w.heap.size → Sr rr u' k → Sr rr u k := fun k hk hs => hs.elim .inl (fun e => (g3 k e).elim .inr (fun h => by omega))
  refine ⟨v, ys, u', h1.fr g2 (fun h => h5 _ (.inl rfl) h) (fun k hk h => h5 _ (.inr hk) h), h2, h3, g1, fun k hr hk => h5 k hr (key k (h1.srlt hr) hk), h6.trans (g2.below (fun k hk hs => by have := h4.srlo hs; omega) h4.le), ⟨h7.1, fun h => h7.2 (key cb h8.lt h)⟩, h8.fr g2 h7.2⟩
section
variable {N rp rr cb : Nat} {q : Zq} {TP TX : List Un} {w0 w : World}
theorem bc_put (h : Bc N rp rr cb q TP TX w0 w) (p : Int) (z : Un) (hl : TP.length ≤ 20000) :
    Calls Try.prog 10 #[.pointer (some ⟨rp, 0, none⟩), .int .i64 p, unv z] w fun e w' => e = .returned (.int .i64 (putE TP p z)) ∧ Bc N rp rr cb q (putC TP p z) TX w0 w' := by
  obtain ⟨v, ys, u, h1, h2, h3, h4, h5, h6, h7, h8⟩ := h
  subst h3
  exact (put_any N rp v ys p z w h1 h2 hl).mono (fun e w' ⟨e1, zs, e2, e3, e4⟩ => ⟨e1, Bc.stepP h1 h4 h5 h6 h7 h8 e2 e3 e4⟩)
theorem bc_xput (h : Bc N rp rr cb q TP TX w0 w) (p : Int) (z : Un) (hl : TX.length ≤ 20000) :
    Calls Try.prog 11 #[.pointer (some ⟨rr, 0, none⟩), .int .i64 p, unv z] w fun e w' => e = .returned (.int .i64 (putE TX p z)) ∧ Bc N rp rr cb q TP (putC TX p z) w0 w' := by
  obtain ⟨v, ys, u, h1, h2, h3, h4, h5, h6, h7, h8⟩ := h
  exact (xput_any N rr u TX p z w h4 (by omega)).mono (fun e w' ⟨e1, e2⟩ => ⟨e1, Bc.stepX h1 h2 h3 h4 h5 h6 h7 h8 e2⟩)
theorem bc_cut (h : Bc N rp rr cb q TP TX w0 w) (cr cn cf ct : Int) (hl : TP.length ≤ 20000) :
    Calls Try.prog 12 #[.pointer (some ⟨rp, 0, none⟩), cuv cr cn cf ct] w fun e w' => e = .returned (.int .i64 (cntC cr cn cf ct TP)) ∧ Bc N rp rr cb q (TP.map (cutC cr cn cf ct)) TX w0 w' := by
  obtain ⟨v, ys, u, h1, h2, h3, h4, h5, h6, h7, h8⟩ := h
  subst h3
  exact (cutc_any N rp v ys cr cn cf ct w h1 h2 hl).mono (fun e w' ⟨e1, zs, e2, e3, e4⟩ => ⟨e1, Bc.stepP h1 h4 h5 h6 h7 h8 e2 e3 e4⟩)
theorem bc_xcut (h : Bc N rp rr cb q TP TX w0 w) (cr cn cf ct : Int) (hl : TX.length ≤ 20000) :
    Calls Try.prog 13 #[.pointer (some ⟨rr, 0, none⟩), cuv cr cn cf ct] w fun e w' => e = .returned (.int .i64 (cntC cr cn cf ct TX)) ∧ Bc N rp rr cb q TP (TX.map (cutC cr cn cf ct)) w0 w' := by
  obtain ⟨v, ys, u, h1, h2, h3, h4, h5, h6, h7, h8⟩ := h
  exact (xcut_any N rr u TX cr cn cf ct w h4 (by omega)).mono (fun e w' ⟨e1, e2⟩ => ⟨e1, Bc.stepX h1 h2 h3 h4 h5 h6 h7 h8 e2⟩)
end

end Go.Proofs.Ytkaphlpohhaacaa
