/-
  What the package variables Root and Trash hold ('Lay'), out of what a row lists; that new memory keeps it.
-/
import Derived.Test.YtaojeanoojnknaaDoorRows
import Derived.Test.YtaojeanoojnknaaDoorPart5
import Derived.ProofKit
import Derived.OpenShut
import Derived.Lib.LaidTab
import Derived.Stop.LaidErr
import Derived.MakeChecks
import Derived.Deep.DeepHandedRow
namespace Go.Proofs.YtaojeanoojnknaaDoor
open Go.RowKit Go.ChangeShapes Go.WideShapes Go.ChangeAt
set_option linter.unusedVariables false
set_option maxRecDepth 100000

structure Lay (w : World) : Prop where
  r0 : w.cell? ⟨0, 0, none⟩ = some (.int .i64 0)
  r1 : w.cell? ⟨0, 1, none⟩ = some (.int .i64 0)
  t0 : w.cell? ⟨1, 0, none⟩ = some (.int .i64 1)
  t1 : w.cell? ⟨1, 1, none⟩ = some (.int .i64 0)

theorem gRoot : Tryd.prog.globalNamed "offshoot/api.Root" = some 0 := by kernel_rfl
theorem gTrash : Tryd.prog.globalNamed "offshoot/api.Trash" = some 1 := by kernel_rfl

theorem Lay.below {w w' : World} (h : Lay w) (hb : Below w.heap.size w w') : Lay w' := by
  have k := Keeps.below hb
  exact ⟨k _ _ _ h.r0, k _ _ _ h.r1, k _ _ _ h.t0, k _ _ _ h.t1⟩
theorem Lay.drewN {w : World} (h : Lay w) (n : Nat) : Lay (w.drewN n) := h.below (bd w n)

theorem list_two {α : Type} {l : List α} (h : l.length = 2) : ∃ a b, l = [a, b] := by
  cases l with
  | nil => cases h
  | cons a l =>
    cases l with
    | nil => cases h
    | cons b l =>
      cases l with
      | nil => exact ⟨a, b, rfl⟩
      | cons c l => simp at h

/-- Two numbers that stand first on the list. -/
theorem pair_of_head {W : World} {name : String} {x y : Int} {rest : List (String × DataW Unit)} {g : Nat} (hg : Tryd.prog.globalNamed name = some g) (hty : (Tryd.prog.globals[g]?).map (·.type) = some 38)
    (h : laidMet Tryd.prog ((name, .agg [.lit (.int .i64 x), .lit (.int .i64 y)]) :: rest) W) : W.cell? ⟨g, 0, none⟩ = some (.int .i64 x) ∧ W.cell? ⟨g, 1, none⟩ = some (.int .i64 y) := by
  obtain ⟨ps, ⟨g', t', cs, fuel, p, q, hg', ht', hvar, hd, _, _⟩, _⟩ := h
  obtain rfl := Option.some.inj (hg.symm.trans hg')
  obtain rfl := Option.some.inj (hty.symm.trans ht')
  obtain ⟨y0, y1, n, hx, hl, h0, h1⟩ := trod_struct2 Tryd.underlying38 hd
  have c1 : Tryd.prog.cellsOf 3 = 1 := by kernel_rfl
  have c2 : Tryd.prog.cellsOf 38 = 2 := by kernel_rfl
  rw [c2] at hl
  obtain ⟨l⟩ := cs
  have hc : ∃ v0 v1, l = [v0, v1] := list_two hl
  obtain ⟨v0, v1, rfl⟩ := hc
  · simp [c1] at h0 h1
    obtain ⟨a, e0, e1, _⟩ := DataW.trod_int Tryd.underlying3 h0
    obtain ⟨b, e2, e3, _⟩ := DataW.trod_int Tryd.underlying3 h1
    simp only [Prod.mk.injEq, DataW.agg.injEq, List.cons.injEq, e1, e3] at hx
    have ha : a = x := by have := hx.1.1; simp at this; exact this.symm
    have hb : b = y := by have := hx.1.2.1; simp at this; exact this.symm
    simp at e0 e2
    subst ha; subst hb; subst e0; subst e2
    exact ⟨by simpa using World.var?_cell hg hvar 0, by simpa using World.var?_cell hg hvar 1⟩

theorem lay_of {W : World} (h : laidMetH Tryd.prog Rows.causeCallsRow.laid W) : Lay W := by
  rw [MakeChecks.laidMetH_plain _ _ _ (by kernel_rfl)] at h
  have hr := pair_of_head gRoot (by kernel_rfl) h
  have ht := pair_of_head gTrash (by kernel_rfl) h.tail
  exact ⟨hr.1, hr.2, ht.1, ht.2⟩

end Go.Proofs.YtaojeanoojnknaaDoor
