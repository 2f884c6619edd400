/-
  Rows of bytes that a call makes: 'OL w B v fs': the slice v, a row of the call's own from block B on, reads as the lists of bytes fs, none of which lies in that row; what an append to it comes to.
-/
import Derived.Test.YtkbfkdgdommngaaLists
import Derived.Maps.AppendAt
namespace Go.Proofs.Ytkbfkdgdommngaa
open Go.RowKit
set_option linter.unusedVariables false

theorem info_u8s : (Try.prog.info? 22).map (fun i => (i.zero, i.size, i.bytes)) = some (some (.slice none 0 0), 1, 24) := by kernel_rfl

/-- A slice that lies in no block 'row'. -/
def Far (row : Option Nat) (u : Value) (l : List Int) : Prop := l ≠ [] → ∀ x n c, u = .slice (some x) n c → some x.block ≠ row

theorem Bs.cell_lt {w : World} {u : Value} {l : List Int} (h : Bs w u l) (hl : l ≠ []) : ∀ x n c, u = .slice (some x) n c → x.block < w.heap.size := by
  intro x n c hu
  have hp : 0 < l.length := by cases l with
    | nil => exact absurd rfl hl
    | cons _ _ => simp
  obtain ⟨b, off, c', e, _, _, hc⟩ := h.inv hp
  have h0 := World.block_lt_of_cell? _ _ (hc 0 hp)
  rw [hu] at e
  simp only [Value.slice.injEq, Option.some.injEq] at e
  rw [e.1]
  exact h0
theorem Bs.grown {w w' : World} {u : Value} {l : List Int} {row : Option Nat} (h : Bs w u l) (hg : w.grownBy w' row) (hf : Far row u l) : Bs w' u l := by
  by_cases hl : l = []
  · subst hl
    obtain ⟨a, c, e, h2, h3⟩ := h.inv_nil
    exact ⟨a, c, e, Nat.zero_le _, h2, h3, fun i hi => absurd hi (Nat.not_lt_zero _), fun x hx => by cases hx⟩
  · obtain ⟨a, c, h1, h2, h3, h4, h5, h6⟩ := h
    refine ⟨a, c, h1, h2, h3, h4, fun i hi => ?_, h6⟩
    obtain ⟨b, off, e1, e2⟩ := h5 i hi
    refine ⟨b, off, e1, hg.cell e2 ?_⟩
    have := hf hl ⟨b, off, none⟩ l.length c (by rw [h1, e1])
    exact this

def OL (w : World) (B : Nat) (v : Value) (fs : List (List Int)) : Prop :=
  ∃ vs : List Value, w.ownsRow B 22 1 v fs.length vs ∧ ∀ i, i < fs.length → ∃ u, vs[i]? = some u ∧ Bs w u (fs.getD i []) ∧ Far v.ownBlock u (fs.getD i [])

theorem OL.nil (w : World) (B : Nat) : OL w B (.slice none 0 0) [] := ⟨[], World.ownsRow_nil _ _ _ _, fun i hi => absurd hi (Nat.not_lt_zero _)⟩
theorem OL.made (w : World) (B : Nat) (hb : B ≤ w.heap.size) : OL (w.alloc (.cells #[] 22)) B (.slice (some ⟨w.heap.size, 0, none⟩) 0 0) [] :=
  ⟨[], World.ownsRow_made w #[] 0 hb (Nat.zero_le _) rfl, fun i hi => absurd hi (Nat.not_lt_zero _)⟩
theorem OL.below {w w' : World} {B : Nat} {v : Value} {fs : List (List Int)} (h : OL w B v fs) (hb : Below w.heap.size w w') : OL w' B v fs := by
  obtain ⟨vs, h1, h3⟩ := h
  refine ⟨vs, own_below h1 hb, fun i hi => ?_⟩
  obtain ⟨u, e1, e2, e3⟩ := h3 i hi
  exact ⟨u, e1, e2.below hb, e3⟩
theorem OL.ls {w : World} {B : Nat} {v : Value} {fs : List (List Int)} (h : OL w B v fs) : Ls w v fs := by
  obtain ⟨vs, h1, h3⟩ := h
  rcases h1.2 with ⟨rfl, h0⟩ | ⟨g, cap, cur, rfl, hb, hg, hnc, hcm, hcs, htake⟩
  · have e : fs = [] := List.eq_nil_of_length_eq_zero h0
    subst e
    exact Ls.nil w
  · refine ⟨some ⟨g, 0, none⟩, cap, rfl, hnc, hcm, (fun e => by cases e), fun i hi => ?_⟩
    obtain ⟨u, e1, e2, _⟩ := h3 i hi
    refine ⟨g, 0, u, rfl, ?_, e2⟩
    rw [Nat.zero_add, h1.cellAt i (by omega)]
    exact e1
/-- Where the row lies. -/
theorem OL.lt {w : World} {B : Nat} {v : Value} {fs : List (List Int)} (h : OL w B v fs) : ∀ k, v.ownBlock = some k → B ≤ k ∧ k < w.heap.size := by
  obtain ⟨vs, h1, _⟩ := h
  exact h1.lt
theorem OL.form {w : World} {B : Nat} {v : Value} {fs : List (List Int)} (h : OL w B v fs) : ∃ a c, v = .slice a fs.length c := by
  obtain ⟨vs, h1, _⟩ := h
  rcases h1.2 with ⟨rfl, h0⟩ | ⟨g, cap, cur, rfl, _⟩
  · exact ⟨none, 0, by rw [h0]⟩
  · exact ⟨_, _, rfl⟩
/-- One list more. -/
theorem OL.snoc {w w' : World} {B : Nat} {v v' u : Value} {fs : List (List Int)} {l : List Int} {vs : List Value}
    (hel : ∀ i, i < fs.length → ∃ u, vs[i]? = some u ∧ Bs w u (fs.getD i []) ∧ Far v.ownBlock u (fs.getD i [])) (hvs : vs.length = fs.length)
    (hu : Bs w u l) (hf : Far v.ownBlock u l)
    (ho : w'.ownsRow B 22 1 v' (fs.length + 1) (vs ++ [u])) (hg : w.grownBy w' v.ownBlock) (hat : v'.ownBlock = v.ownBlock ∨ v'.ownBlock = some w.heap.size) : OL w' B v' (fs ++ [l]) := by
  have far : ∀ u l, Bs w u l → Far v.ownBlock u l → Far v'.ownBlock u l := by
    intro u l h1 h2 hl x n c e
    rcases hat with h | h
    · rw [h]; exact h2 hl x n c e
    · rw [h]
      have := h1.cell_lt hl x n c e
      simp only [ne_eq, Option.some.injEq]
      omega
  refine ⟨vs ++ [u], by rw [List.length_append]; exact ho, fun i hi => ?_⟩
  rw [List.length_append, List.length_singleton] at hi
  by_cases h : i < fs.length
  · obtain ⟨u', e1, e2, e3⟩ := hel i h
    have eg : (fs ++ [l]).getD i [] = fs.getD i [] := by simp [List.getD, List.getElem?_append, h]
    rw [eg]
    refine ⟨u', ?_, e2.grown hg e3, far _ _ e2 e3⟩
    rw [List.getElem?_append_left (by omega)]
    exact e1
  · have hi' : i = fs.length := by omega
    subst hi'
    have eg : (fs ++ [l]).getD fs.length [] = l := by simp [List.getD]
    rw [eg]
    refine ⟨u, ?_, hu.grown hg hf, far _ _ hu hf⟩
    rw [← hvs]
    simp

end Go.Proofs.Ytkbfkdgdommngaa
