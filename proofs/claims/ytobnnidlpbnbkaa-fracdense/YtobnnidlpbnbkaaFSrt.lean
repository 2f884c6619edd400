/-
  Rows of keys that rise: a key between two neighbours, put between them, leaves a row that rises. Nothing of the program is imported.
-/
import Derived.Test.YtobnnidlpbnbkaaFStr
namespace Go.Proofs.Ytobnnidlpbnbkaa
open Go.RowKit
set_option linter.unusedVariables false

/-- Each is right, and they rise. -/
def Srt (ls : List ByteArray) : Prop := (∀ s ∈ ls, s.size ≤ 32 ∧ K.right (tx s) = true) ∧ ls.Pairwise (fun a b => K.lt (tx a) (tx b) = true)
/-- The one at a place. -/
def nt (ls : List ByteArray) (i : Nat) : ByteArray := ls.getD i ⟨#[]⟩
/-- The neighbours of a place. -/
def lowOf (ls : List ByteArray) (p : Nat) : ByteArray := if 0 < p then nt ls (p - 1) else ⟨#[]⟩
def highOf (ls : List ByteArray) (p : Nat) : ByteArray := if p < ls.length then nt ls p else ⟨#[]⟩

theorem nt_mem {ls : List ByteArray} {i : Nat} (h : i < ls.length) : nt ls i ∈ ls := by
  unfold nt
  rw [List.getD_eq_getElem?_getD, List.getElem?_eq_getElem h]
  exact List.getElem_mem h
theorem nt_eq {ls : List ByteArray} {i : Nat} (h : i < ls.length) : nt ls i = ls[i] := by
  unfold nt
  rw [List.getD_eq_getElem?_getD, List.getElem?_eq_getElem h]
  rfl
theorem Srt.nil : Srt [] := ⟨(fun s hs => by cases hs), List.Pairwise.nil⟩
theorem Srt.lt {ls : List ByteArray} (h : Srt ls) {i j : Nat} (hij : i < j) (hj : j < ls.length) : K.lt (tx (nt ls i)) (tx (nt ls j)) = true := by
  rw [nt_eq (show i < ls.length by omega), nt_eq hj]
  exact (List.pairwise_iff_getElem.1 h.2) i j (by omega) hj hij
theorem low_size {ls : List ByteArray} (h : Srt ls) {p : Nat} (hp : p ≤ ls.length) : (lowOf ls p).size ≤ 32 := by
  unfold lowOf
  split
  · exact (h.1 _ (nt_mem (by omega))).1
  · exact Nat.zero_le _
theorem high_size {ls : List ByteArray} (h : Srt ls) (p : Nat) : (highOf ls p).size ≤ 32 := by
  unfold highOf
  split
  · exact (h.1 _ (nt_mem (by assumption))).1
  · exact Nat.zero_le _
theorem right_ne {s : ByteArray} (h : K.right (tx s) = true) : tx s ≠ [] := by
  intro e
  rw [e] at h
  simp [K.right] at h
/-- Between neighbours a key may be looked for. -/
theorem fine_of {ls : List ByteArray} (h : Srt ls) {p : Nat} (hp : p ≤ ls.length) : K.fine (tx (lowOf ls p)) (tx (highOf ls p)) = true := by
  unfold lowOf highOf K.fine
  by_cases h0 : 0 < p
  · have r1 := (h.1 _ (nt_mem (show p - 1 < ls.length by omega))).2
    by_cases h1 : p < ls.length
    · have r2 := (h.1 _ (nt_mem h1)).2
      have r3 := h.lt (show p - 1 < p by omega) h1
      simp [h0, h1, r1, r2, r3]
    · simp [h0, h1, r1, show tx (⟨#[]⟩ : ByteArray) = [] from rfl]
  · by_cases h1 : p < ls.length
    · have r2 := (h.1 _ (nt_mem h1)).2
      simp [h0, h1, r2, show tx (⟨#[]⟩ : ByteArray) = [] from rfl, K.lt_nil (right_ne r2)]
    · simp [h0, h1, show tx (⟨#[]⟩ : ByteArray) = [] from rfl]
/-- A key between neighbours, put there. -/
theorem Srt.put {ls : List ByteArray} (h : Srt ls) {p : Nat} (hp : p ≤ ls.length) {k : List Int} (hk : K.key (tx (lowOf ls p)) (tx (highOf ls p)) = some k) : Srt (ls.take p ++ [M.str k] ++ ls.drop p) := by
  obtain ⟨k1, k2, k3, k4⟩ := K.key_some (tx_byt _) (tx_byt _) hk
  have hs : tx (M.str k) = k := tx_str k1
  have hsz : (M.str k).size ≤ 32 := by
    rw [size_str k1]
    simp [K.right] at k2
    omega
  have below : ∀ a ∈ ls.take p, K.lt (tx a) k = true := by
    intro a ha
    obtain ⟨j, hj, rfl⟩ := List.getElem_of_mem ha
    rw [List.length_take] at hj
    have h0 : 0 < p := by omega
    rw [lowOf, if_pos h0] at k3
    rw [List.getElem_take, ← nt_eq]
    by_cases e : j = p - 1
    · rw [e]; exact k3
    · exact K.lt_trans (h.lt (show j < p - 1 by omega) (by omega)) k3
  have above : ∀ b ∈ ls.drop p, K.lt k (tx b) = true := by
    intro b hb
    obtain ⟨j, hj, rfl⟩ := List.getElem_of_mem hb
    rw [List.length_drop] at hj
    have h1 : p < ls.length := by omega
    rw [highOf, if_pos h1] at k4
    have k5 := k4.resolve_left (right_ne (h.1 _ (nt_mem h1)).2)
    rw [List.getElem_drop, ← nt_eq]
    by_cases e : j = 0
    · subst e; exact k5
    · exact K.lt_trans k5 (h.lt (show p < p + j by omega) (by omega))
  refine ⟨?_, ?_⟩
  · intro s hs'
    simp only [List.mem_append, List.mem_singleton] at hs'
    rcases hs' with (hs' | rfl) | hs'
    · exact h.1 s (List.mem_of_mem_take hs')
    · exact ⟨hsz, by rw [hs]; exact k2⟩
    · exact h.1 s (List.mem_of_mem_drop hs')
  · rw [List.pairwise_append, List.pairwise_append]
    refine ⟨⟨h.2.sublist (List.take_sublist _ _), List.pairwise_singleton _ _, ?_⟩, h.2.sublist (List.drop_sublist _ _), ?_⟩
    · intro a ha b hb
      rw [List.mem_singleton.1 hb, hs]
      exact below a ha
    · intro a ha b hb
      rcases List.mem_append.1 ha with ha | ha
      · exact K.lt_trans (below a ha) (above b hb)
      · rw [List.mem_singleton.1 ha, hs]
        exact above b hb
/-- Where there is none one neighbour is long. -/
theorem none_long {ls : List ByteArray} (h : Srt ls) {p : Nat} (hp : p ≤ ls.length) (hk : K.key (tx (lowOf ls p)) (tx (highOf ls p)) = none) : 31 ≤ (lowOf ls p).size ∨ 31 ≤ (highOf ls p).size := by
  have := K.key_none (tx_byt _) (tx_byt _) hk
  rw [fine_of h hp, tx_length, tx_length] at this
  simpa using this

end Go.Proofs.Ytobnnidlpbnbkaa
