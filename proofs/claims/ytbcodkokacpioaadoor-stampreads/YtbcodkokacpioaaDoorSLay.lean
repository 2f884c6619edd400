/-
  What the package variables hold ('Lay'), out of what a row lists; that new memory keeps it; and the library's functions that the program calls, in the words of these texts.
-/
import Derived.Test.YtbcodkokacpioaaDoorRows
import Derived.Test.YtbcodkokacpioaaDoorShelf
import Derived.Test.YtbcodkokacpioaaDoorMem
import Derived.ProofKit
import Derived.OpenShut
import Derived.Lib.LaidTab
import Derived.Stop.LaidErr
import Derived.MakeChecks
import Derived.HandedShaped
import Derived.Deep.DeepHandedRow
namespace Go.Proofs.YtbcodkokacpioaaDoor
open Go.RowKit Go.ChangeShapes Go.WideShapes Go.ChangeAt
set_option linter.unusedVariables false

structure Lay (w : World) : Prop where
  tab : Lib.TabIs Tryd.prog w "internal/strconv.uint64pow10" .u64 Lib.pow10Tab
  r0 : w.cell? ⟨1, 0, none⟩ = some (.int .i64 0)
  r1 : w.cell? ⟨1, 1, none⟩ = some (.int .i64 0)
  t0 : w.cell? ⟨0, 0, none⟩ = some (.int .i64 1)
  t1 : w.cell? ⟨0, 1, none⟩ = some (.int .i64 0)
  mx : ∃ m, w.cell? ⟨3, 0, none⟩ = some (.int .i64 m)
  es : ∃ tp p, w.var? Tryd.prog "strconv.ErrSyntax" = some #[.iface tp p]
  er : ∃ tp p, w.var? Tryd.prog "strconv.ErrRange" = some #[.iface tp p]

theorem gTab : Tryd.prog.globalNamed "internal/strconv.uint64pow10" = some 2 := by kernel_rfl
theorem gRoot : Tryd.prog.globalNamed "offshoot/api.Root" = some 1 := by kernel_rfl
theorem gTrash : Tryd.prog.globalNamed "offshoot/api.Trash" = some 0 := by kernel_rfl
theorem gSyn : Tryd.prog.globalNamed "strconv.ErrSyntax" = some 4 := by kernel_rfl
theorem gRng : Tryd.prog.globalNamed "strconv.ErrRange" = some 5 := by kernel_rfl

theorem var_below {w w' : World} (h : Below w.heap.size w w') {n : String} {cs : Array Value} (hv : w.var? Tryd.prog n = some cs) : w'.var? Tryd.prog n = some cs := by
  unfold World.var? at hv ⊢
  cases hg : Tryd.prog.globalNamed n with
  | none => rw [hg] at hv; cases hv
  | some g =>
    rw [hg] at hv
    simp only [Option.bind_some] at hv ⊢
    have hl : g < w.heap.size := by
      rcases Nat.lt_or_ge g w.heap.size with k | k
      · exact k
      · rw [Array.getElem?_eq_none k] at hv; cases hv
    rw [h.block g hl]
    exact hv
theorem Lay.below {w w' : World} (h : Lay w) (hb : Below w.heap.size w w') : Lay w' := by
  have k := Keeps.below hb
  obtain ⟨m, hm⟩ := h.mx
  obtain ⟨a, b, hs⟩ := h.es
  obtain ⟨c, d, hr⟩ := h.er
  exact ⟨var_below hb h.tab, k _ _ _ h.r0, k _ _ _ h.r1, k _ _ _ h.t0, k _ _ _ h.t1, ⟨m, k _ _ _ hm⟩, ⟨a, b, var_below hb hs⟩, ⟨c, d, var_below hb hr⟩⟩
theorem Lay.drewN {w : World} (h : Lay w) (n : Nat) : Lay (w.drewN n) := h.below (bd w n)

theorem list_two {α : Type} {l : List α} (h : l.length = 2) : ∃ a b, l = [a, b] := by
  cases l with
  | nil => cases h
  | cons a l =>
    cases l with
    | nil => cases h
    | cons b l =>
      cases l with
      | nil => exact ⟨a, b, rfl⟩
      | cons c l => simp at h

/-- Two numbers that stand first on the list. -/
theorem pair_of_head {W : World} {name : String} {x y : Int} {rest : List (String × DataW Unit)} {g : Nat} (hg : Tryd.prog.globalNamed name = some g) (hty : (Tryd.prog.globals[g]?).map (·.type) = some 23)
    (h : laidMet Tryd.prog ((name, .agg [.lit (.int .i64 x), .lit (.int .i64 y)]) :: rest) W) : W.cell? ⟨g, 0, none⟩ = some (.int .i64 x) ∧ W.cell? ⟨g, 1, none⟩ = some (.int .i64 y) := by
  obtain ⟨ps, ⟨g', t', cs, fuel, p, q, hg', ht', hvar, hd, _, _⟩, _⟩ := h
  obtain rfl := Option.some.inj (hg.symm.trans hg')
  obtain rfl := Option.some.inj (hty.symm.trans ht')
  obtain ⟨y0, y1, n, hx, hl, h0, h1⟩ := trod_struct2 Tryd.underlying23 hd
  have c1 : Tryd.prog.cellsOf 3 = 1 := by kernel_rfl
  have c2 : Tryd.prog.cellsOf 23 = 2 := by kernel_rfl
  rw [c2] at hl
  obtain ⟨l⟩ := cs
  have hc : ∃ v0 v1, l = [v0, v1] := list_two hl
  obtain ⟨v0, v1, rfl⟩ := hc
  · simp [c1] at h0 h1
    obtain ⟨a, e0, e1, _⟩ := DataW.trod_int Tryd.underlying3 h0
    obtain ⟨b, e2, e3, _⟩ := DataW.trod_int Tryd.underlying3 h1
    simp only [Prod.mk.injEq, DataW.agg.injEq, List.cons.injEq, e1, e3] at hx
    have ha : a = x := by have := hx.1.1; simp at this; exact this.symm
    have hb : b = y := by have := hx.1.2.1; simp at this; exact this.symm
    simp at e0 e2
    subst ha; subst hb; subst e0; subst e2
    exact ⟨by simpa using World.var?_cell hg hvar 0, by simpa using World.var?_cell hg hvar 1⟩

theorem star : "*" ++ "errors.errorString" = "*errors.errorString" := by decide
/-- The one type of that name. -/
theorem row_err (u : TypeId) (h : Tryd.prog.typeName? 3 u = some "*errors.errorString") : u = 134 :=
  typeName_ptr_named (nm := "errors.errorString") (by rw [star]; kernel_rfl) (by kernel_rfl) (by decide) u (by rw [star]; exact h)

theorem lay_of {W : World} (h : laidMetH Tryd.prog Rows.stampAsksRow.laid W) (hsh : W.ShapedOpen Tryd.prog) : Lay W := by
  rw [MakeChecks.laidMetH_plain _ _ _ (by kernel_rfl)] at h
  have h2 := h.tail.tail
  have htab : Lib.TabIs Tryd.prog W "internal/strconv.uint64pow10" .u64 Lib.pow10Tab :=
    Lib.tabIs_of_head (rest := h2 |> fun _ => _) gTab (by kernel_rfl) Tryd.underlying119 Tryd.underlying101 (by kernel_rfl) (by kernel_rfl) h2
  have h3 := h2.tail
  have hr := pair_of_head gRoot (by kernel_rfl) h3
  have h4 := h3.tail
  have ht := pair_of_head gTrash (by kernel_rfl) h4
  have h5 := h4.tail
  have h6 := h5.tail
  have hm := cell_of_shapedOpen_int (g := 3) (zero := #[.int .i64 0]) (t := 3) hsh (of_decide_eq_true (by kernel_rfl)) (by kernel_rfl) rfl (by kernel_rfl) (by kernel_rfl) Tryd.underlying3
  obtain ⟨a, s, hr5, _⟩ := laid_sentinel h5 gRng (by kernel_rfl) Tryd.underlying80 (tp := 134) (row_err) Tryd.underlying134 Tryd.underlying136 rfl rfl Tryd.underlying9 (by kernel_rfl) (by kernel_rfl)
  obtain ⟨a', s', hr6, _⟩ := laid_sentinel h6 gSyn (by kernel_rfl) Tryd.underlying80 (tp := 134) (row_err) Tryd.underlying134 Tryd.underlying136 rfl rfl Tryd.underlying9 (by kernel_rfl) (by kernel_rfl)
  exact ⟨htab, hr.1, hr.2, ht.1, ht.2, hm, ⟨_, _, hr6⟩, ⟨_, _, hr5⟩⟩

end Go.Proofs.YtbcodkokacpioaaDoor
