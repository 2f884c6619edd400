/-
  Parts of the proof, one behind the other; what each proves stands at its head.
-/
import Derived.Test.YtaojeanoojnknaaDoorPart19
import Derived.Test.YtaojeanoojnknaaDoorPart10
import Derived.Test.YtaojeanoojnknaaDoorPart22
import Derived.Deep.MidRow
import Derived.Test.YtaojeanoojnknaaDoorPart11
import Derived.Test.YtaojeanoojnknaaDoorPart3
import Derived.Test.YtaojeanoojnknaaDoorPart21
import Derived.Test.YtaojeanoojnknaaDoorPart14
import Derived.OrdersHeld

/-
  SameOps' region whose order is drawn, as a lemma; an op in a row of ops, loaded.
-/
namespace Go.Proofs.YtaojeanoojnknaaDoor
open Go.RowKit
set_option linter.unusedVariables false
set_option maxRecDepth 100000

theorem run_load_opat {p : Oper} {a : Act} {W : World} {x : Operand} {b off : Nat} {o : Opn} {v : Value} (ho : p.op = .load 43 x) (hx : a.eval x = .pointer (some ⟨b,off,none⟩)) (hc : ∀ i,i < 20 → W.cell? ⟨b,off + i,none⟩ = (opl o v)[i]?) : (execOp a.eval p).run Tryd.prog W = .ok (.value (opv o v)) W := by
  have h := run_loadAt_mid (P := Tryd.prog) W b off 43 (opl o v).toList _ (fun j u hj => by
    have hl : j < 20 := (List.getElem?_eq_some_iff.1 hj).1
    rw [hc j hl]
    simpa using hj) Tryd.underlying43 rfl (by kernel_rfl)
  unfold execOp
  simp only [ho, hx, Sem.run_bind, h, Result.andThen_ok, Sem.run_pure]
theorem run_idx_ops {p : Oper} {a : Act} {W : World} {x y : Operand} {b off n c j : Nat} (ho : p.op = .indexAddr 28 x y) (hx : a.eval x = .slice (some ⟨b,off,none⟩) n c) (hy : a.eval y = .int .i64 (j : Nat)) (hj : j < n) : (execOp a.eval p).run Tryd.prog W = .ok (.value (.pointer (some ⟨b,off + j * 20,none⟩))) W := by
  have h1 : (j : Int) < (n : Int) := by omega
  have h2 : (0 : Int) ≤ (j : Int) := by omega
  unfold execOp
  simp only [ho, hx, hy]
  simp [go_sem, h1, h2]

end Go.Proofs.YtaojeanoojnknaaDoor

/-
  That offshootref00.SameOps tells whether two rows of ops are one is proved here.
-/
namespace Go.Proofs.YtaojeanoojnknaaDoor
open Go.RowKit
set_option linter.unusedVariables false
set_option maxRecDepth 100000

abbrev fsts (l : List (Opn × Value)) : List Opn := l.map Prod.fst
end Go.Proofs.YtaojeanoojnknaaDoor

/-
  A row of ops that a call makes ('Rw'): what an append of one op to it comes to.
-/
namespace Go.Proofs.YtaojeanoojnknaaDoor
open Go.RowKit
set_option linter.unusedVariables false
set_option maxRecDepth 100000

theorem info_op : (Tryd.prog.info? 43).map (fun i => (i.zero, i.size, i.bytes)) = some (some (opv Opn.zero (.slice none 0 0)), 20, 192) := by kernel_rfl

theorem Cs.blk {w : World} {v : Value} {l : List Ct} (h : Cs w v l) (hl : l ≠ []) {k : Nat} (hk : v.ownBlock = some k) : k < w.heap.size := by
  obtain ⟨b, off, c, rfl, _, _, hb, _⟩ := Sl.inv h (List.length_pos_iff.2 hl) (by decide)
  simp [Value.ownBlock] at hk
  omega
theorem Cs.none {w w' : World} {v : Value} (h : Cs w v []) : Cs w' v [] := by
  obtain ⟨h0, a, c, h1, h2, h3, h4, h5⟩ := h
  exact ⟨h0, a, c, h1, h2, h3, h4, fun j u hu => by simp at hu⟩
/-- The cuts lie elsewhere, if there are any. -/
def Aw (v : Value) (p : Opn × Value) : Prop := p.1.cuts = [] ∨ ∀ k, v.ownBlock = some k → p.2.ownBlock ≠ some k
theorem Aw.kept {w w' : World} {v : Value} {p : Opn × Value} (h : Aw v p) (hc : Cs w p.2 p.1.cuts) (hf : Fr (fun k => v.ownBlock = some k) w w') : Cs w' p.2 p.1.cuts := by
  rcases h with h | h
  · rw [h] at hc ⊢; exact hc.none
  · exact Sl.kept hc (fun k hk hlt => hf.block k hlt (fun e => h k e hk))
theorem Aw.moved {w : World} {v v' : Value} {p : Opn × Value} (h : Aw v p) (hc : Cs w p.2 p.1.cuts) (hv : v'.ownBlock = v.ownBlock ∨ v'.ownBlock = some w.heap.size) : Aw v' p := by
  by_cases he : p.1.cuts = []
  · exact .inl he
  · refine .inr (fun k hk e => ?_)
    rcases hv with hv | hv
    · exact (h.resolve_left he) k (by rw [← hv]; exact hk) e
    · rw [hv] at hk
      simp at hk
      have := hc.blk he e
      omega

theorem opc_one {p : Opn × Value} {w : World} {l : List Ct} (h : Cs w p.2 l) : (∀ u ∈ opc p, u.oneCell' = true) ∧ ∀ u ∈ opc p, NoB u := by
  obtain ⟨o, v⟩ := p
  obtain ⟨a, c, rfl, _⟩ := h.form
  constructor
  · intro u hu
    simp [opl] at hu
    rcases hu with rfl | rfl | rfl | rfl | rfl | rfl | rfl | rfl | rfl | rfl | rfl | rfl | rfl | rfl | rfl | rfl | rfl | rfl | rfl | rfl <;> rfl
  · intro u hu x e
    subst e
    simp [opl] at hu

end Go.Proofs.YtaojeanoojnknaaDoor

/-
  The region of op.DecodeAll in which an op is read, whose order is drawn, is walked here: the op's block is made at any time ahead of its store.
-/
namespace Go.Proofs.YtaojeanoojnknaaDoor
open Go.RowKit
set_option linter.unusedVariables false
set_option maxRecDepth 100000

theorem hb_st {ops : Array Oper} {Q : Exit → Act → World → Prop} {K : Act → World → Prop} {i : Nat} {p : Oper} {a : Act} {W : World} {x y : Operand} {b : Nat} {o o' : Opn} {v v' : Value} (hi : ops[i]? = some p) (hw : Region.wanted p (yielded ops a.tmps) = true) (ho : p.op = .store 43 x y) (hx : a.eval x = .pointer (some ⟨b,0,none⟩)) (hy : a.eval y = opv o v) (hv : ∃ va n vc,v = .slice va n vc) (h : Ob W b o' v')
    (hk : K (a.put p.dst undef) (W.setRow b (opl o v))) : wpOp Tryd.prog ops Q i K a W :=
  wpOp_step hi fun K' hK => by
    rw [if_pos hw]
    exact wp_store_row 43 x y ho b (opl o v) hx hy 43 (opl o' v') h (by kernel_rfl) rfl (by obtain ⟨va, n, vc, rfl⟩ := hv; simp [Value.oneCell']) (hK _ _ hk)

end Go.Proofs.YtaojeanoojnknaaDoor

/-
  What EncodeAll answers is proved here, for every row of at most a thousand ops.
-/
namespace Go.Proofs.YtaojeanoojnknaaDoor
open Go.RowKit
set_option linter.unusedVariables false
set_option maxRecDepth 100000

end Go.Proofs.YtaojeanoojnknaaDoor

/-
  What op.DecodeAll returns is proved here, for all bytes (of at most 2^40).
-/
namespace Go.Proofs.YtaojeanoojnknaaDoor
open Go.RowKit
set_option linter.unusedVariables false
set_option maxRecDepth 100000

end Go.Proofs.YtaojeanoojnknaaDoor
