/-
  Parts of the proof, one behind the other; what each proves stands at its head.
-/
import Derived.Test.YtaojeanoojnknaaDoorPart6
import Derived.Test.YtaojeanoojnknaaDoorPart5
import Derived.Laws.CopyOwn
import Derived.Deep.RegionLaw

/-
  Vectors as data and in memory: 'Vc w b l': block b holds the sixteen numbers l; which are right, what is asked of them, and what changes them.
-/
namespace Go.Proofs.YtaojeanoojnknaaDoor
open Go.RowKit
set_option linter.unusedVariables false
set_option maxRecDepth 100000

/-- Numbers as cells. -/
abbrev is (l : List Int) : List Value := l.map (Value.int .i64)
/-- Sixteen numbers, each 0 to 2^20. -/
def Vk (l : List Int) : Prop := l.length = 16 ∧ ∀ i, 0 ≤ l.getD i 0 ∧ l.getD i 0 ≤ 1048576
def v0 : List Int := List.replicate 16 0
theorem v0_at (i : Nat) : v0.getD i 0 = 0 := by
  unfold v0
  rw [List.getD_eq_getElem?_getD]
  cases h : (List.replicate 16 (0 : Int))[i]? with
  | none => rfl
  | some x => exact List.eq_of_mem_replicate (List.mem_of_getElem? h)
theorem v0_ok : Vk v0 := ⟨rfl, fun i => by rw [v0_at]; omega⟩
theorem Vk.set {l : List Int} (h : Vk l) (i : Nat) (n : Int) (hn : 0 ≤ n ∧ n ≤ 1048576) : Vk (l.set i n) := by
  refine ⟨by rw [List.length_set]; exact h.1, fun j => ?_⟩
  have := h.2 j
  rw [List.getD_eq_getElem?_getD, List.getElem?_set]
  rw [List.getD_eq_getElem?_getD] at this
  split
  · split <;> simp <;> omega
  · exact this
/-- Is it there? The next one's number; what Add answers and leaves. -/
def hasV (l : List Int) (r n : Int) : Bool := ro r n && decide (n ≤ l.getD r.toNat 0)
def nextV (l : List Int) (r : Int) : Int := if r < 0 ∨ 16 ≤ r then 0 else if 1048576 ≤ l.getD r.toNat 0 then 0 else l.getD r.toNat 0 + 1
def addV (l : List Int) (r n : Int) : Int := if ro r n = false then 10 else if n ≤ l.getD r.toNat 0 then 12 else if n = l.getD r.toNat 0 + 1 then 0 else 22
def putV (l : List Int) (r n : Int) : List Int := if addV l r n = 0 then l.set r.toNat n else l
theorem ro_iff {r n : Int} : ro r n = true ↔ 0 ≤ r ∧ r < 16 ∧ 1 ≤ n ∧ n ≤ 1048576 := by simp [ro]
/-- Block b holds these numbers. -/
def Vc (w : World) (b : Nat) (l : List Int) : Prop := Vk l ∧ ∃ T, w.heap[b]? = some (.cells (is l).toArray T (0, 0))
theorem Vc.lt {w : World} {b : Nat} {l : List Int} (h : Vc w b l) : b < w.heap.size := by
  obtain ⟨_, T, e⟩ := h
  exact (Array.getElem?_eq_some_iff.1 e).1
theorem Vc.below {w w' : World} {b : Nat} {l : List Int} (h : Vc w b l) (hb : Below w.heap.size w w') : Vc w' b l := by
  have hl := h.lt
  obtain ⟨hk, T, e⟩ := h
  exact ⟨hk, T, by rw [hb.block b hl]; exact e⟩
theorem Vc.fr {S : Nat → Prop} {w w' : World} {b : Nat} {l : List Int} (h : Vc w b l) (hf : Fr S w w') (hn : ¬ S b) : Vc w' b l := by
  have hl := h.lt
  obtain ⟨hk, T, e⟩ := h
  exact ⟨hk, T, by rw [hf.block b hl hn]; exact e⟩
theorem Vc.cell {w : World} {b : Nat} {l : List Int} (h : Vc w b l) {k : Nat} (hk : k < 16) : w.cell? ⟨b, k, none⟩ = some (.int .i64 (l.getD k 0)) := by
  obtain ⟨⟨h16, _⟩, T, e⟩ := h
  rw [cell_of_row w b k _ T _ e]
  simp [show k < l.length by omega]
theorem Vc.frozen {w : World} {b : Nat} {l : List Int} (h : Vc w b l) (k : Nat) : w.frozen? ⟨b, k, none⟩ = false := by
  obtain ⟨_, T, e⟩ := h
  exact frozen_of_row w b k _ T e
theorem Vc.new (w : World) (l : List Int) (h : Vk l) (T : TypeId) : Vc (w.alloc (.cells (is l).toArray T)) w.heap.size l := ⟨h, T, heap_alloc_new w _⟩
/-- A store. -/
theorem Vc.put {w : World} {b : Nat} {l : List Int} (h : Vc w b l) {k : Nat} (hk : k < 16) (n : Int) (hn : 0 ≤ n ∧ n ≤ 1048576) :
    Vc (w.setCell ⟨b, k, none⟩ (.int .i64 n)) b (l.set k n) ∧ Fr (fun i => i = b) w (w.setCell ⟨b, k, none⟩ (.int .i64 n)) := by
  refine ⟨⟨h.1.set k n hn, ?_⟩, Fr.of_set w b k _⟩
  obtain ⟨⟨h16, _⟩, T, e⟩ := h
  refine ⟨T, ?_⟩
  rw [heap_setCell_same w b k _ T _ e]
  congr 2
  apply Array.ext_getElem?
  intro i
  simp [List.getElem?_set]

end Go.Proofs.YtaojeanoojnknaaDoor

/-
  What an append of bytes to a row of the call's own comes to, as one step of a region whose order is drawn.
-/
namespace Go.Proofs.YtaojeanoojnknaaDoor
open Go.RowKit
set_option linter.unusedVariables false
set_option maxRecDepth 100000

end Go.Proofs.YtaojeanoojnknaaDoor
