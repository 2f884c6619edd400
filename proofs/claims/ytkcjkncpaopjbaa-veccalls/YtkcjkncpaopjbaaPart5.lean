/-
  What the arguments' readings give: a row of numbers, a row of names, a name.
-/
import Derived.Test.YtkcjkncpaopjbaaPart4
import Derived.Deep.SlicePairs
import Derived.ProofKit
import Derived.OpenShut
import Derived.ShutString
import Derived.ChangeOld
import Derived.Below
namespace Go.Proofs.Ytkcjkncpaopjbaa
open Go.RowKit Go.ChangeShapes Go.WideShapes Go.ChangeAt
set_option linter.unusedVariables false
set_option maxRecDepth 100000

theorem cells_idT : Try.prog.cellsOf 24 = 2 := by kernel_rfl
theorem cells_intT : Try.prog.cellsOf 3 = 1 := by kernel_rfl
theorem list_pair {α : Type} {l : List α} (h : l.length = 2) : ∃ a b, l = [a, b] := by
  match l, h with
  | [a, b], _ => exact ⟨a, b, rfl⟩

section
variable {H : Type} {enc : TypeId × Value → H} {W : World} {b0 : Nat} {base : Nat} {spare : Nat → Bool} {held : Bool}
theorem open_id {v : Value} {d : DataW H} {p : List MemPlace} (hv : Value.okWide Try.prog W .any b0 24 v) (h : DataW.Trod enc Try.prog W base spare held 24 v d p) : ∃ x y, v = idv x y := by
  obtain ⟨cs, rfl, hsz⟩ := okWide_struct Try.underlying24 hv
  obtain ⟨fuel, hf⟩ := h
  obtain ⟨y0, y1, n, _, hl, h0, h1⟩ := trod_struct2 Try.underlying24 hf
  rw [cells_idT] at hl
  obtain ⟨l⟩ := cs
  obtain ⟨v0, v1, rfl⟩ := list_pair (l := l) (by simpa [Value.cells] using hl)
  simp [Value.cells, cells_intT] at h0 h1
  obtain ⟨a, e0, _⟩ := DataW.trod_int Try.underlying3 h0
  obtain ⟨b, e1, _⟩ := DataW.trod_int Try.underlying3 h1
  simp at e0 e1
  subst e0; subst e1
  exact ⟨a, b, rfl⟩
theorem Iz.open {a : Option Addr} {len cap : Nat} {d : DataW H} {p : List MemPlace}
    (h : DataW.Trod enc Try.prog W 0 (fun _ => true) true 22 (.slice a len cap) d p) : ∃ zs, Iz W (.slice a len cap) zs := by
  obtain ⟨fuel, hf⟩ := h
  rcases open_ints Try.underlying22 Try.underlying3 (by kernel_rfl) hf with ⟨hcs, _⟩ | ⟨x, l, c, zs, hcs, _, hl, hm, hz, _, hcell, hwz⟩
  · simp [Value.cells] at hcs
    obtain ⟨rfl, rfl, rfl⟩ := hcs
    exact ⟨[], Iz.nil W⟩
  · simp [Value.cells] at hcs
    obtain ⟨rfl, rfl, rfl⟩ := hcs
    have hz' : zs.length = cap := by simpa using hz
    have hlen : (zs.take len).length = len := by rw [List.length_take]; omega
    refine ⟨zs.take len, by simp, some x, cap, by rw [hlen], by omega, hm, (fun e => by cases e), fun j u hu => ?_⟩
    have hj : j < len := by have := (List.getElem?_eq_some_iff.1 hu).1; rw [List.length_map, hlen] at this; exact this
    have h0 := hcell 0 (by omega)
    have hc := hcell j (by omega)
    obtain ⟨b, off, spot⟩ := x
    have hs : spot = none := by simpa [Addr.add] using World.cell?_spot h0
    subst hs
    refine ⟨b, off, rfl, ?_⟩
    rw [Addr.add_lit] at hc
    rw [hc, ← hu]
    simp [hj, show j < zs.length by omega]
theorem Ns.open {a : Option Addr} {len cap : Nat} {d : DataW H} {p : List MemPlace}
    (h : DataW.Trod enc Try.prog W 0 (fun _ => true) true 44 (.slice a len cap) d p) : ∃ qs, Ns W (.slice a len cap) qs := by
  obtain ⟨fuel, hf⟩ := h
  rcases Go.Deep.open_slice_pairs Try.underlying44 Try.underlying24 cells_idT rfl rfl cells_intT cells_intT hf with ⟨hcs, _⟩ | ⟨x, l, c, m, n, V0, V1, D0, D1, P0, P1, hcs, _, hl, hm, hmm, _, hx⟩
  · simp [Value.cells] at hcs
    obtain ⟨rfl, rfl, rfl⟩ := hcs
    exact ⟨[], Sl.nil 2 W⟩
  · simp [Value.cells] at hcs
    obtain ⟨rfl, rfl, rfl⟩ := hcs
    simp at hmm
    subst hmm
    have each : ∀ i, i < len → ∃ q : Int × Int, V0 i = .int .i64 q.1 ∧ V1 i = .int .i64 q.2 := by
      intro i hi
      obtain ⟨_, _, h2, h3⟩ := hx i (by omega)
      obtain ⟨n0, e0, _⟩ := DataW.trod_int Try.underlying3 h2
      obtain ⟨n1, e1, _⟩ := DataW.trod_int Try.underlying3 h3
      simp at e0 e1
      exact ⟨(n0, n1), e0, e1⟩
    obtain ⟨q, hq⟩ := Go.Deep.choose_lt each
    obtain ⟨ql, hql⟩ : ∃ ql, (List.range len).map q = ql := ⟨_, rfl⟩
    have hlq : ql.length = len := by rw [← hql]; simp
    have hat : ∀ i (hi : i < ql.length), ql[i] = q i := by intro i hi; subst hql; simp
    refine ⟨ql, flat_length idc 2 (fun _ => rfl) ql, some x, m, by rw [hlq], by omega, hm, (fun e => by cases e), fun j u hu => ?_⟩
    have hj : j < len * 2 := by have := (List.getElem?_eq_some_iff.1 hu).1; rw [flat_length idc 2 (fun _ => rfl), hlq] at this; exact this
    have hi : j / 2 < len := by omega
    obtain ⟨g0, g1, _, _⟩ := hx (j / 2) (by omega)
    obtain ⟨z0, _, _, _⟩ := hx 0 (by omega)
    obtain ⟨b, off, spot⟩ := x
    have hs : spot = none := by simpa [Addr.add] using World.cell?_spot z0
    subst hs
    rw [Addr.add_lit] at g0 g1
    rw [(hq _ hi).1] at g0
    rw [(hq _ hi).2] at g1
    refine ⟨b, off, rfl, ?_⟩
    have hf0 := flat_at idc 2 (fun _ => rfl) ql (j / 2) (j % 2) (by omega) (by omega)
    rw [show j / 2 * 2 + j % 2 = j by omega, hu, hat _ (by omega)] at hf0
    rcases (show j % 2 = 0 ∨ j % 2 = 1 by omega) with e | e
    · rw [e] at hf0
      have : u = .int .i64 (q (j / 2)).1 := by simpa using hf0
      rw [this, ← g0]
      congr 2
      omega
    · rw [e] at hf0
      have : u = .int .i64 (q (j / 2)).2 := by simpa using hf0
      rw [this, ← g1]
      congr 2
      omega
end

end Go.Proofs.Ytkcjkncpaopjbaa
