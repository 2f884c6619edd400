/-
  Rows of bytes in memory: 'Ls w v xss': the slice v reads as the lists of bytes xss; rows that came in, rows that a call made.
-/
import Derived.Test.YtkbfkdgdommngaaClone
import Derived.Deep.Matrix
import Derived.SizedLaws
namespace Go.Proofs.Ytkbfkdgdommngaa
open Go.RowKit
set_option linter.unusedVariables false

def Ls (w : World) (v : Value) (xss : List (List Int)) : Prop :=
  ∃ a c, v = .slice a xss.length c ∧ xss.length ≤ c ∧ c ≤ maxLen ∧ (a = none → c = 0) ∧
    ∀ i, i < xss.length → ∃ b off u, a = some ⟨b, off, none⟩ ∧ w.cell? ⟨b, off + i, none⟩ = some u ∧ Bs w u (xss.getD i [])

theorem Ls.nil (w : World) : Ls w (.slice none 0 0) [] := ⟨none, 0, rfl, Nat.le_refl _, Nat.zero_le _, fun _ => rfl, fun i hi => absurd hi (Nat.not_lt_zero _)⟩
theorem Ls.form {w : World} {v : Value} {xs : List (List Int)} (h : Ls w v xs) : ∃ a c, v = .slice a xs.length c := by
  obtain ⟨a, c, e, _⟩ := h
  exact ⟨a, c, e⟩
theorem Ls.len {w : World} {v : Value} {xss : List (List Int)} (h : Ls w v xss) : xss.length ≤ maxLen := by
  obtain ⟨a, c, _, h2, h3, _⟩ := h
  exact Nat.le_trans h2 h3
theorem Ls.below {w w' : World} {v : Value} {xss : List (List Int)} (h : Ls w v xss) (hb : Below w.heap.size w w') : Ls w' v xss := by
  obtain ⟨a, c, h1, h2, h3, h4, h5⟩ := h
  refine ⟨a, c, h1, h2, h3, h4, fun i hi => ?_⟩
  obtain ⟨b, off, u, e1, e2, e3⟩ := h5 i hi
  exact ⟨b, off, u, e1, by rw [hb.cell (World.block_lt_of_cell? _ _ e2)]; exact e2, e3.below hb⟩
theorem Ls.drewN {w : World} {v : Value} {xss : List (List Int)} (h : Ls w v xss) (n : Nat) : Ls (w.drewN n) v xss := h
theorem Ls.inv_nil {w : World} {v : Value} (h : Ls w v []) : ∃ a c, v = .slice a 0 c ∧ c ≤ maxLen ∧ (a = none → c = 0) := by
  obtain ⟨a, c, h1, _, h3, h4, _⟩ := h
  exact ⟨a, c, h1, h3, h4⟩
theorem Ls.inv {w : World} {v : Value} {xss : List (List Int)} (h : Ls w v xss) (hx : 0 < xss.length) :
    ∃ b off c, v = .slice (some ⟨b, off, none⟩) xss.length c ∧ xss.length ≤ c ∧ c ≤ maxLen ∧ ∀ i, i < xss.length → ∃ u, w.cell? ⟨b, off + i, none⟩ = some u ∧ Bs w u (xss.getD i []) := by
  obtain ⟨a, c, h1, h2, h3, _, h5⟩ := h
  obtain ⟨b, off, u, e1, _⟩ := h5 0 hx
  refine ⟨b, off, c, by rw [h1, e1], h2, h3, fun i hi => ?_⟩
  obtain ⟨b', off', u', e2, e3, e4⟩ := h5 i hi
  rw [e1] at e2
  simp only [Option.some.injEq, Addr.mk.injEq, and_true] at e2
  obtain ⟨rfl, rfl⟩ := e2
  exact ⟨u', e3, e4⟩
theorem Ls.take {w : World} {a : Option Addr} {xss : List (List Int)} {n c : Nat} (h : Ls w (.slice a n c) xss) (l : Nat) (hl : l ≤ n) : Ls w (.slice a l c) (xss.take l) := by
  obtain ⟨a', c', h1, h2, h3, h4, h5⟩ := h
  simp only [Value.slice.injEq] at h1
  obtain ⟨rfl, rfl, rfl⟩ := h1
  have hlen : (xss.take l).length = l := by rw [List.length_take]; omega
  refine ⟨a, c, by rw [hlen], by omega, h3, h4, fun i hi => ?_⟩
  obtain ⟨b, off, u, e1, e2, e3⟩ := h5 i (by omega)
  refine ⟨b, off, u, e1, e2, ?_⟩
  rw [show (xss.take l).getD i [] = xss.getD i [] by simp [List.getD, show i < l by omega]]
  exact e3
theorem Ls.bytes {w : World} {v : Value} {xss : List (List Int)} (h : Ls w v xss) : ∀ l ∈ xss, ∀ x ∈ l, 0 ≤ x ∧ x < 256 := by
  intro l hl
  obtain ⟨i, hi, rfl⟩ := List.getElem_of_mem hl
  obtain ⟨a, c, _, _, _, _, h5⟩ := h
  obtain ⟨b, off, u, _, _, e3⟩ := h5 i hi
  have := e3.range
  simpa [List.getD, hi] using this

theorem weights_all_mem {H : Type} {P : Program} {e : TypeId} : ∀ {l : List (DataW H)} {d : DataW H}, d ∈ l → ∀ n ∈ d.weights P e, n ∈ DataW.weightsAll P e l
  | d0 :: r, d, h, n, hn => by
    simp only [DataW.weightsAll, List.mem_append]
    rcases List.mem_cons.1 h with rfl | h
    · exact Or.inl hn
    · exact Or.inr (weights_all_mem h n hn)

theorem cells_u8s : Try.prog.cellsOf 22 = 1 := by kernel_rfl
theorem cells_u8 : Try.prog.cellsOf 5 = 1 := by kernel_rfl
theorem bytes_u8 : Try.prog.bytesOf 5 = 1 := by kernel_rfl

/-- Rows of bytes that came in; each takes less than 2^47 bytes. -/
theorem Ls.open {H : Type} {enc : TypeId × Value → H} {W : World} {a : Option Addr} {len cap : Nat} {d : DataW H} {p : List MemPlace}
    (h : DataW.Trod enc Try.prog W 0 (fun _ => true) true 29 (.slice a len cap) d p) (hz : ∀ n ∈ d.weights Try.prog 29, n ≤ reachBytes) : ∃ xss, Ls W (.slice a len cap) xss ∧ ∀ l ∈ xss, l.length ≤ 140737488355328 := by
  obtain ⟨fuel, hf⟩ := h
  rcases Go.Deep.open_int_rows Try.underlying29 Try.underlying22 Try.underlying5 cells_u8s cells_u8 hf with ⟨hcs, _⟩ | ⟨x, l, c, A, L, C, Z, hcs, _, hl, hm, hd, hx⟩
  · simp [Value.cells] at hcs
    obtain ⟨rfl, rfl, rfl⟩ := hcs
    exact ⟨[], Ls.nil W, fun l hl => by cases hl⟩
  · simp [Value.cells] at hcs
    obtain ⟨rfl, rfl, rfl⟩ := hcs
    simp only [Prod.mk.injEq] at hd
    refine ⟨(List.range len).map fun r => (Z r).take (L r), ⟨some x, cap, by simp, by simpa using hl, hm, (fun e => by cases e), fun i hi => ?_⟩, fun l hl' => ?_⟩
    · simp at hi
      obtain ⟨g0, g1, g2, g3, g4, g5, g6⟩ := hx i (by omega)
      obtain ⟨z0, _⟩ := hx 0 (by omega)
      obtain ⟨b, off, spot⟩ := x
      have hs : spot = none := by simpa [Addr.add] using World.cell?_spot z0
      subst hs
      rw [Addr.add_lit] at g0
      refine ⟨b, off, _, rfl, g0, ?_⟩
      rw [show ((List.range len).map fun r => (Z r).take (L r)).getD i [] = (Z i).take (L i) by simp [List.getD, hi]]
      cases hA : A i with
      | none =>
        have h0 := g5 hA
        have hL0 : L i = 0 := by omega
        rw [hL0, h0, List.take_zero]
        exact Bs.nil W
      | some a' =>
        exact Bs.of_row g1 g2 g3 (fun j hj => (g6 a' hA).2 j (by rw [g3] at hj; exact hj)) g4
    · obtain ⟨r, hr, rfl⟩ := List.mem_map.1 hl'
      have hr' : r < len := List.mem_range.1 hr
      obtain ⟨g0, g1, g2, g3, g4, g5, g6⟩ := hx r (by omega)
      show ((Z r).take (L r)).length ≤ _
      rw [List.length_take]
      cases hA : A r with
      | none =>
        have h0 := g5 hA
        omega
      | some a' =>
        have hmem : (Go.Deep.intRow .u8 (A r) (L r) (Z r) : DataW H) ∈ (List.range len).map fun r => Go.Deep.intRow .u8 (A r) (L r) (Z r) := List.mem_map.2 ⟨r, hr, rfl⟩
        have hw : (Z r).length * 1 ∈ (Go.Deep.intRow .u8 (A r) (L r) (Z r) : DataW H).weights Try.prog 22 := by
          rw [hA]
          simp only [Go.Deep.intRow, DataW.weights, Try.underlying22]
          rw [bytes_u8]
          refine List.mem_cons.2 (Or.inl ?_)
          congr 1
          simp [Go.ChangeShapes.lits]
          omega
        have hle := hz _ (by
          rw [hd.1]
          simp only [DataW.weights, Try.underlying29]
          refine List.mem_cons.2 (Or.inr (List.mem_append.2 (Or.inl (weights_all_mem hmem _ hw)))))
        have : reachBytes < 2 ^ 47 := reachBytes_lt
        omega

end Go.Proofs.Ytkbfkdgdommngaa
