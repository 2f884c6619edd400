/-
  What the cuts that are missing tell, one behind the other, and what a vector is once the first ones were added.
-/
import Derived.Test.YtkcjkncpaopjbaaPart7
namespace Go.Proofs.Ytkcjkncpaopjbaa
open Go.RowKit
set_option linter.unusedVariables false
set_option maxRecDepth 100000

theorem of_flag (v : Value) (l : List Int) (w : World) (h : Iz w v l) : Calls Try.prog 30 #[v] w fun e w' => ∃ P, e = .returned (.tuple #[P, .bool (okV l)]) ∧ Below w.heap.size w w' :=
  (of_any v l w h).mono fun e w' h => h.elim (fun ⟨h1, c, h2, _, _, h5⟩ => ⟨_, by rw [h1]; exact h2, h5⟩) (fun ⟨h1, h2, h3⟩ => ⟨_, by rw [h1]; exact h2, h3⟩)
theorem join_cov1 {a b : List Int} : covV (joinV a b) a = true := cov_iff.2 fun i hi => by rw [join_at a b hi]; omega
theorem join_cov2 {a b : List Int} : covV (joinV a b) b = true := cov_iff.2 fun i hi => by rw [join_at a b hi]; omega
theorem miss_step (a b : List Int) (k : Nat) : missTo a b (k + 1) = if a.getD k 0 < b.getD k 0 then missTo a b k ++ [cutV a b k] else missTo a b k := rfl
theorem miss_grow (a b : List Int) {R S : Nat} (h : R ≤ S) : (missTo a b R).length ≤ (missTo a b S).length := by
  induction S with
  | zero => rw [show R = 0 by omega]; exact Nat.le_refl _
  | succ S ih =>
    by_cases e : R = S + 1
    · rw [e]; exact Nat.le_refl _
    · refine Nat.le_trans (ih (by omega)) ?_
      rw [miss_step]
      split
      · rw [List.length_append]; omega
      · exact Nat.le_refl _
theorem mix_same {a b : List Int} (ha : Vk a) (hb : Vk b) {R S : Nat} (h : R ≤ S) (h16 : S ≤ 16) (hl : (missTo a b R).length = (missTo a b S).length) : mixV a b R = mixV a b S := by
  induction S with
  | zero => rw [show R = 0 by omega]
  | succ S ih =>
    by_cases e : R = S + 1
    · rw [e]
    · have h1 := miss_grow a b (show R ≤ S by omega)
      have h2 := miss_grow a b (show S ≤ S + 1 by omega)
      rw [ih (by omega) (by omega) (by omega)]
      have h3 : ¬ a.getD S 0 < b.getD S 0 := by
        intro hlt
        have : (missTo a b (S + 1)).length = (missTo a b S).length + 1 := by rw [miss_step, if_pos hlt, List.length_append]; rfl
        omega
      refine (mix_ok ha hb S).ext (mix_ok ha hb (S + 1)) fun i hi => ?_
      rw [mix_at a b S hi, mix_at a b (S + 1) hi]
      by_cases e2 : i = S
      · subst e2; rw [if_neg (by omega), if_pos (by omega)]; omega
      · by_cases e3 : i < S
        · rw [if_pos e3, if_pos (by omega)]
        · rw [if_neg e3, if_neg (by omega)]
theorem mix_any {a b : List Int} (ha : Vk a) (hb : Vk b) {R S : Nat} (hR : R ≤ 16) (hS : S ≤ 16) (hl : (missTo a b R).length = (missTo a b S).length) : mixV a b R = mixV a b S := by
  by_cases h : R ≤ S
  · exact mix_same ha hb h hS hl
  · exact (mix_same ha hb (by omega) hR hl.symm).symm
theorem miss_get (a b : List Int) (K i : Nat) (hi : i < (missTo a b K).length) : ∃ R, R < K ∧ (missTo a b R).length = i ∧ a.getD R 0 < b.getD R 0 ∧ (missTo a b K)[i]? = some (cutV a b R) := by
  induction K with
  | zero => exact absurd hi (Nat.not_lt_zero _)
  | succ K ih =>
    by_cases h : a.getD K 0 < b.getD K 0
    · rw [miss_step, if_pos h] at hi ⊢
      by_cases h2 : i < (missTo a b K).length
      · obtain ⟨R, h3, h4, h5, h6⟩ := ih h2
        exact ⟨R, by omega, h4, h5, by rw [List.getElem?_append_left h2]; exact h6⟩
      · rw [List.length_append, List.length_singleton] at hi
        have e : i = (missTo a b K).length := by omega
        exact ⟨K, by omega, e.symm, h, by rw [e, List.getElem?_append_right (Nat.le_refl _), Nat.sub_self]; rfl⟩
    · rw [miss_step, if_neg h] at hi ⊢
      obtain ⟨R, h3, h4, h5, h6⟩ := ih hi
      exact ⟨R, by omega, h4, h5, h6⟩
theorem miss_next {a b : List Int} {R i : Nat} (h1 : (missTo a b R).length = i) (h2 : a.getD R 0 < b.getD R 0) : (missTo a b (R + 1)).length = i + 1 := by
  rw [miss_step, if_pos h2, List.length_append, h1]; rfl
theorem miss_none {a b : List Int} : ((missTo a b 16).length = 0) ↔ covV a b = true := by
  rw [cov_iff]
  constructor
  · intro h i hi
    have h1 := miss_grow a b (show i + 1 ≤ 16 by omega)
    by_cases h2 : a.getD i 0 < b.getD i 0
    · have := miss_next (rfl : (missTo a b i).length = _) h2; omega
    · omega
  · intro h
    by_cases h0 : (missTo a b 16).length = 0
    · exact h0
    · obtain ⟨R, h1, _, h2, _⟩ := miss_get a b 16 0 (by omega)
      have := h R h1
      omega
/-- A vector of which one number is on its way. -/
def partV (a b : List Int) (R : Nat) (x : Int) : List Int := (mixV a b R).set R x
theorem part_start {a b : List Int} (ha : Vk a) (hb : Vk b) {R : Nat} (hR : R < 16) : partV a b R (a.getD R 0) = mixV a b R := by
  have hb2 := ha.2 R
  refine ((mix_ok ha hb R).set R _ hb2).ext (mix_ok ha hb R) fun i hi => ?_
  rw [set_at (mix_ok ha hb R).1 R i _ hR]
  by_cases e : R = i
  · subst e; rw [if_pos rfl, mix_self hR]
  · rw [if_neg e]
theorem part_end {a b : List Int} (ha : Vk a) (hb : Vk b) {R : Nat} (hR : R < 16) (h : a.getD R 0 < b.getD R 0) : partV a b R (b.getD R 0) = mixV a b (R + 1) := by
  rw [← mix_set ha hb hR, show max (a.getD R 0) (b.getD R 0) = b.getD R 0 by omega]
  rfl
theorem part_at {a b : List Int} (ha : Vk a) (hb : Vk b) {R : Nat} (hR : R < 16) (x : Int) : (partV a b R x).getD R 0 = x := by
  unfold partV
  rw [set_at (mix_ok ha hb R).1 R R x hR, if_pos rfl]
theorem part_next {a b : List Int} (R : Nat) (x y : Int) : (partV a b R x).set R y = partV a b R y := by
  unfold partV
  rw [List.set_set]
theorem Cs.at {w : World} {g off n c : Nat} {l : List Ct} (h : Cs w (.slice (some ⟨g, off, none⟩) n c) l) (i : Nat) (x : Ct) (hi : l[i]? = some x) :
    w.cell? ⟨g, off + i * 4, none⟩ = some (.int .i64 x.r) ∧ w.cell? ⟨g, off + i * 4 + 1, none⟩ = some (.int .i64 x.n) ∧ w.cell? ⟨g, off + i * 4 + 2, none⟩ = some (.int .i64 x.f) ∧ w.cell? ⟨g, off + i * 4 + 3, none⟩ = some (.int .i64 x.t) := by
  have hlt : i < l.length := (List.getElem?_eq_some_iff.1 hi).1
  have hx : l[i] = x := (List.getElem?_eq_some_iff.1 hi).2
  obtain ⟨g', off', c', e, _, _, _, hc⟩ := h.inv (by omega)
  simp only [Value.slice.injEq, Option.some.injEq, Addr.mk.injEq, and_true] at e
  obtain ⟨⟨rfl, rfl⟩, _, rfl⟩ := e
  have := hc i hlt
  rw [hx] at this
  exact this
theorem Cs.fr {S : Nat → Prop} {w w' : World} {v : Value} {l : List Ct} (h : Cs w v l) (hf : Fr S w w') (hn : ∀ k, v.ownBlock = some k → ¬ S k) : Cs w' v l :=
  Sl.kept h fun k hk hlt => hf.block k hlt (hn k hk)

end Go.Proofs.Ytkcjkncpaopjbaa
