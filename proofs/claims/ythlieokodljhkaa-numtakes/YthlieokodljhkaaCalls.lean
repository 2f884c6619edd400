/-
  A list of questions in memory (pairs of numbers): 'Cl w v qs': the slice v reads as qs.
-/
import Derived.Test.YthlieokodljhkaaRows
import Derived.Test.YthlieokodljhkaaMem
import Derived.Deep.SlicePairs
namespace Go.Proofs.Ythlieokodljhkaa
open Go.RowKit
set_option linter.unusedVariables false

def Cl (w : World) (v : Value) (qs : List (Int × Int)) : Prop :=
  ∃ a c, v = .slice a qs.length c ∧ qs.length ≤ c ∧ c ≤ maxLen ∧
    ∀ i, i < qs.length → ∃ b off, a = some ⟨b, off, none⟩ ∧ w.cell? ⟨b, off + i * 2, none⟩ = some (.int .i64 (qs.getD i (0, 0)).1) ∧ w.cell? ⟨b, off + i * 2 + 1, none⟩ = some (.int .i64 (qs.getD i (0, 0)).2)

theorem Cl.keeps {w w' : World} {v : Value} {qs : List (Int × Int)} (h : Cl w v qs) (hk : Keeps w w') : Cl w' v qs := by
  obtain ⟨a, c, h1, h2, h3, h4⟩ := h
  refine ⟨a, c, h1, h2, h3, fun i hi => ?_⟩
  obtain ⟨b, off, e1, e2, e3⟩ := h4 i hi
  exact ⟨b, off, e1, hk _ _ _ e2, hk _ _ _ e3⟩
theorem Cl.nil (w : World) : Cl w (.slice none 0 0) [] := ⟨none, 0, rfl, Nat.le_refl _, Nat.zero_le _, fun i hi => absurd hi (Nat.not_lt_zero _)⟩
theorem Cl.len {w : World} {v : Value} {qs : List (Int × Int)} (h : Cl w v qs) : qs.length ≤ maxLen := by
  obtain ⟨a, c, _, h2, h3, _⟩ := h
  exact Nat.le_trans h2 h3

theorem cells37 : Try.prog.cellsOf 37 = 2 := by kernel_rfl
theorem cells3 : Try.prog.cellsOf 3 = 1 := by kernel_rfl

/-- A list of questions that came in. -/
theorem Cl.open {H : Type} {enc : TypeId × Value → H} {W : World} {a : Option Addr} {len cap : Nat} {d : DataW H} {p : List MemPlace}
    (h : DataW.Trod enc Try.prog W 0 (fun _ => true) true 29 (.slice a len cap) d p) : ∃ qs, Cl W (.slice a len cap) qs := by
  obtain ⟨fuel, hf⟩ := h
  rcases Go.Deep.open_slice_pairs Try.underlying29 Try.underlying37 cells37 rfl rfl cells3 cells3 hf with ⟨hcs, _⟩ | ⟨x, l, c, m, n, V0, V1, D0, D1, P0, P1, hcs, _, hl, hm, hmm, _, hx⟩
  · simp [Value.cells] at hcs
    obtain ⟨rfl, rfl, rfl⟩ := hcs
    exact ⟨[], Cl.nil W⟩
  · simp [Value.cells] at hcs
    obtain ⟨rfl, rfl, rfl⟩ := hcs
    simp at hmm
    subst hmm
    have each : ∀ i, i < len → ∃ q : Int × Int, V0 i = .int .i64 q.1 ∧ V1 i = .int .i64 q.2 := by
      intro i hi
      obtain ⟨_, _, h2, h3⟩ := hx i (by omega)
      obtain ⟨n0, e0, _⟩ := DataW.trod_int Try.underlying3 h2
      obtain ⟨n1, e1, _⟩ := DataW.trod_int Try.underlying3 h3
      simp at e0 e1
      exact ⟨(n0, n1), e0, e1⟩
    obtain ⟨q, hq⟩ := Go.Deep.choose_lt each
    refine ⟨(List.range len).map q, some x, m, by simp, by simpa using hl, hm, fun i hi => ?_⟩
    simp at hi
    obtain ⟨g0, g1, _, _⟩ := hx i (by omega)
    obtain ⟨z0, _, _, _⟩ := hx 0 (by omega)
    obtain ⟨b, off, spot⟩ := x
    have hs : spot = none := by simpa [Addr.add] using World.cell?_spot z0
    subst hs
    rw [Addr.add_lit] at g0 g1
    rw [(hq i hi).1] at g0
    rw [(hq i hi).2, ← Nat.add_assoc] at g1
    refine ⟨b, off, rfl, ?_, ?_⟩
    · rw [g0]; simp [List.getD, hi]
    · rw [g1]; simp [List.getD, hi]

end Go.Proofs.Ythlieokodljhkaa
