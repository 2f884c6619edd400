/-
  Parts of the proof, one behind the other; what each proves stands at its head.
-/
import Derived.Test.YtaojeanoojnknaaDoorPart18
import Derived.Test.YtaojeanoojnknaaDoorPart10
import Derived.Test.YtaojeanoojnknaaDoorPart21
import Derived.Deep.MidRow
import Derived.Test.YtaojeanoojnknaaDoorPart11
import Derived.Test.YtaojeanoojnknaaDoorPart3
import Derived.Test.YtaojeanoojnknaaDoorPart20
import Derived.Test.YtaojeanoojnknaaDoorPart14
import Derived.OrdersHeld

/-
  SameOps' region whose order is drawn, as a lemma; an op in a row of ops, loaded.
-/
namespace Go.Proofs.YtaojeanoojnknaaDoor
open Go.RowKit
set_option linter.unusedVariables false
set_option maxRecDepth 100000

theorem run_load_opat {p : Oper} {a : Act} {W : World} {x : Operand} {b off : Nat} {o : Opn} {v : Value} (ho : p.op = .load 43 x) (hx : a.eval x = .pointer (some ⟨b,off,none⟩)) (hc : ∀ i,i < 20 → W.cell? ⟨b,off + i,none⟩ = (opl o v)[i]?) : (execOp a.eval p).run Tryd.prog W = .ok (.value (opv o v)) W := by
  have h := run_loadAt_mid (P := Tryd.prog) W b off 43 (opl o v).toList _ (fun j u hj => by
    have hl : j < 20 := (List.getElem?_eq_some_iff.1 hj).1
    rw [hc j hl]
    simpa using hj) Tryd.underlying43 rfl (by kernel_rfl)
  unfold execOp
  simp only [ho, hx, Sem.run_bind, h, Result.andThen_ok, Sem.run_pure]
end Go.Proofs.YtaojeanoojnknaaDoor

/-
  That offshootref00.SameOps tells whether two rows of ops are one is proved here.
-/
namespace Go.Proofs.YtaojeanoojnknaaDoor
open Go.RowKit
set_option linter.unusedVariables false
set_option maxRecDepth 100000

end Go.Proofs.YtaojeanoojnknaaDoor

/-
  A row of ops that a call makes ('Rw'): what an append of one op to it comes to.
-/
namespace Go.Proofs.YtaojeanoojnknaaDoor
open Go.RowKit
set_option linter.unusedVariables false
set_option maxRecDepth 100000

theorem Cs.none {w w' : World} {v : Value} (h : Cs w v []) : Cs w' v [] := by
  obtain ⟨h0, a, c, h1, h2, h3, h4, h5⟩ := h
  exact ⟨h0, a, c, h1, h2, h3, h4, fun j u hu => by simp at hu⟩
end Go.Proofs.YtaojeanoojnknaaDoor

/-
  The region of op.DecodeAll in which an op is read, whose order is drawn, is walked here: the op's block is made at any time ahead of its store.
-/
namespace Go.Proofs.YtaojeanoojnknaaDoor
open Go.RowKit
set_option linter.unusedVariables false
set_option maxRecDepth 100000

theorem hb_st {ops : Array Oper} {Q : Exit → Act → World → Prop} {K : Act → World → Prop} {i : Nat} {p : Oper} {a : Act} {W : World} {x y : Operand} {b : Nat} {o o' : Opn} {v v' : Value} (hi : ops[i]? = some p) (hw : Region.wanted p (yielded ops a.tmps) = true) (ho : p.op = .store 43 x y) (hx : a.eval x = .pointer (some ⟨b,0,none⟩)) (hy : a.eval y = opv o v) (hv : ∃ va n vc,v = .slice va n vc) (h : Ob W b o' v')
    (hk : K (a.put p.dst undef) (W.setRow b (opl o v))) : wpOp Tryd.prog ops Q i K a W :=
  wpOp_step hi fun K' hK => by
    rw [if_pos hw]
    exact wp_store_row 43 x y ho b (opl o v) hx hy 43 (opl o' v') h (by kernel_rfl) rfl (by obtain ⟨va, n, vc, rfl⟩ := hv; simp [Value.oneCell']) (hK _ _ hk)

end Go.Proofs.YtaojeanoojnknaaDoor
