/-
  Parts of the proof, one behind the other; what each proves stands at its head.
-/
import Derived.Test.YtkcjkncpaopjbaaPart3
import Derived.Test.YtkcjkncpaopjbaaPart2
import Derived.Laws.CopyOwn

/-
  Vectors as data and in memory: 'Vc w b l': block b holds the sixteen numbers l; which are right, what is asked of them, and what changes them.
-/
namespace Go.Proofs.Ytkcjkncpaopjbaa
open Go.RowKit
set_option linter.unusedVariables false
set_option maxRecDepth 100000

/-- Numbers as cells. -/
abbrev is (l : List Int) : List Value := l.map (Value.int .i64)
/-- A slice of numbers. -/
def Iz (w : World) (v : Value) (l : List Int) : Prop := Sl 1 w v l.length (is l)
theorem Iz.below {w w' : World} {v : Value} {l : List Int} (h : Iz w v l) (hb : Below w.heap.size w w') : Iz w' v l := Sl.below h hb
theorem Iz.nil (w : World) : Iz w (.slice none 0 0) [] := Sl.nil 1 w
theorem Iz.form {w : World} {v : Value} {l : List Int} (h : Iz w v l) : ∃ a c, v = .slice a l.length c ∧ l.length ≤ c ∧ c ≤ maxLen := Sl.form h
theorem Iz.inv {w : World} {v : Value} {l : List Int} (h : Iz w v l) (hn : 0 < l.length) :
    ∃ b off c, v = .slice (some ⟨b, off, none⟩) l.length c ∧ l.length ≤ c ∧ c ≤ maxLen ∧ b < w.heap.size ∧ ∀ i, i < l.length → w.cell? ⟨b, off + i, none⟩ = some (.int .i64 (l.getD i 0)) := by
  obtain ⟨b, off, c, h1, h2, h3, h4, h5⟩ := Sl.inv h hn (by decide)
  exact ⟨b, off, c, h1, h2, h3, h4, fun i hi => h5 i _ (by simp [hi])⟩
theorem Iz.of_own {w : World} {base e : Nat} {v : Value} {n : Nat} {l : List Int} (h : w.ownsRow base e 1 v n (is l)) : Iz w v l := by
  have : l.length = n := by simpa using h.1
  subst this
  exact Sl.of_own h

/-- Sixteen numbers, each 0 to 2^20. -/
def Vk (l : List Int) : Prop := l.length = 16 ∧ ∀ i, 0 ≤ l.getD i 0 ∧ l.getD i 0 ≤ 1048576
def v0 : List Int := List.replicate 16 0
theorem v0_at (i : Nat) : v0.getD i 0 = 0 := by
  unfold v0
  rw [List.getD_eq_getElem?_getD]
  cases h : (List.replicate 16 (0 : Int))[i]? with
  | none => rfl
  | some x => exact List.eq_of_mem_replicate (List.mem_of_getElem? h)
theorem v0_ok : Vk v0 := ⟨rfl, fun i => by rw [v0_at]; omega⟩
theorem Vk.ext {a b : List Int} (ha : Vk a) (hb : Vk b) (h : ∀ i, i < 16 → a.getD i 0 = b.getD i 0) : a = b := by
  apply List.ext_getElem (by rw [ha.1, hb.1])
  intro i h1 h2
  have := h i (by rw [ha.1] at h1; exact h1)
  simpa [h1, h2] using this
theorem Vk.set {l : List Int} (h : Vk l) (i : Nat) (n : Int) (hn : 0 ≤ n ∧ n ≤ 1048576) : Vk (l.set i n) := by
  refine ⟨by rw [List.length_set]; exact h.1, fun j => ?_⟩
  have := h.2 j
  rw [List.getD_eq_getElem?_getD, List.getElem?_set]
  rw [List.getD_eq_getElem?_getD] at this
  split
  · split <;> simp <;> omega
  · exact this
theorem set_at {l : List Int} (h : l.length = 16) (i j : Nat) (n : Int) (hi : i < 16) : (l.set i n).getD j 0 = if i = j then n else l.getD j 0 := by
  rw [List.getD_eq_getElem?_getD, List.getElem?_set, List.getD_eq_getElem?_getD]
  split
  · rw [if_pos (by omega)]; rfl
  · rfl

/-- Which numbers make a vector, and which one. -/
def okV (l : List Int) : Bool := decide (l.length ≤ 16) && l.all (fun x => decide (0 ≤ x ∧ x ≤ 1048576))
def padV (l : List Int) : List Int := l ++ List.replicate (16 - l.length) 0
theorem pad_ok {l : List Int} (h : okV l = true) : Vk (padV l) := by
  simp only [okV, Bool.and_eq_true, decide_eq_true_eq, List.all_eq_true] at h
  refine ⟨by simp [padV]; omega, fun i => ?_⟩
  rw [List.getD_eq_getElem?_getD]
  by_cases hi : i < (padV l).length
  · have hm : (padV l)[i] ∈ padV l := List.getElem_mem hi
    rw [List.getElem?_eq_getElem hi]
    simp only [Option.getD_some]
    rcases List.mem_append.1 hm with hm | hm
    · exact h.2 _ hm
    · have := List.eq_of_mem_replicate hm; omega
  · rw [List.getElem?_eq_none_iff.2 (by omega)]; simp
/-- Is it there? The next one's number; what Add answers and leaves. -/
def hasV (l : List Int) (r n : Int) : Bool := ro r n && decide (n ≤ l.getD r.toNat 0)
def nextV (l : List Int) (r : Int) : Int := if r < 0 ∨ 16 ≤ r then 0 else if 1048576 ≤ l.getD r.toNat 0 then 0 else l.getD r.toNat 0 + 1
def addV (l : List Int) (r n : Int) : Int := if ro r n = false then 10 else if n ≤ l.getD r.toNat 0 then 12 else if n = l.getD r.toNat 0 + 1 then 0 else 22
def putV (l : List Int) (r n : Int) : List Int := if addV l r n = 0 then l.set r.toNat n else l
theorem ro_iff {r n : Int} : ro r n = true ↔ 0 ≤ r ∧ r < 16 ∧ 1 ≤ n ∧ n ≤ 1048576 := by simp [ro]
theorem put_ok {l : List Int} (h : Vk l) (r n : Int) : Vk (putV l r n) := by
  unfold putV
  split
  · rename_i ha
    refine h.set _ _ ?_
    by_cases hr : ro r n = true
    · have := ro_iff.1 hr; omega
    · simp [addV, hr] at ha
  · exact h
/-- What both have; whether one has all that the other has; what it hasn't (of the replicas below k); how many there are. -/
def joinV (a b : List Int) : List Int := (List.range 16).map fun i => max (a.getD i 0) (b.getD i 0)
theorem join_at (a b : List Int) {i : Nat} (h : i < 16) : (joinV a b).getD i 0 = max (a.getD i 0) (b.getD i 0) := by
  simp [joinV, h]
theorem join_ok {a b : List Int} (ha : Vk a) (hb : Vk b) : Vk (joinV a b) := by
  refine ⟨by simp [joinV], fun i => ?_⟩
  by_cases h : i < 16
  · rw [join_at a b h]; have := ha.2 i; have := hb.2 i; omega
  · rw [List.getD_eq_getElem?_getD, List.getElem?_eq_none_iff.2 (by simp [joinV]; omega)]; simp
def covTo (a b : List Int) (k : Nat) : Prop := ∀ i, i < k → b.getD i 0 ≤ a.getD i 0
def covV (a b : List Int) : Bool := (List.range 16).all fun i => decide (b.getD i 0 ≤ a.getD i 0)
theorem cov_iff {a b : List Int} : covV a b = true ↔ covTo a b 16 := by simp [covV, covTo]
theorem cov_not {a b : List Int} (i : Nat) (hi : i < 16) (h : a.getD i 0 < b.getD i 0) : covV a b = false := by
  rw [← Bool.not_eq_true, cov_iff]
  intro hc
  have := hc i hi
  omega
def cutV (a b : List Int) (i : Nat) : Ct := ⟨i, a.getD i 0 + 1, a.getD i 0 + 1, b.getD i 0 + 1⟩
def missTo (a b : List Int) : Nat → List Ct
  | 0 => []
  | k + 1 => if a.getD k 0 < b.getD k 0 then missTo a b k ++ [cutV a b k] else missTo a b k
theorem miss_len (a b : List Int) (k : Nat) : (missTo a b k).length ≤ k := by
  induction k with
  | zero => simp [missTo]
  | succ k ih =>
    unfold missTo
    split
    · rw [List.length_append, List.length_singleton]; omega
    · omega
def sumTo (l : List Int) : Nat → Int
  | 0 => 0
  | k + 1 => sumTo l k + l.getD k 0
theorem sum_le {l : List Int} (h : Vk l) (k : Nat) : 0 ≤ sumTo l k ∧ sumTo l k ≤ k * 1048576 := by
  induction k with
  | zero => simp [sumTo]
  | succ k ih => have := h.2 k; simp only [sumTo]; omega

/-- Block b holds these numbers. -/
def Vc (w : World) (b : Nat) (l : List Int) : Prop := Vk l ∧ ∃ T, w.heap[b]? = some (.cells (is l).toArray T (0, 0))
theorem Vc.lt {w : World} {b : Nat} {l : List Int} (h : Vc w b l) : b < w.heap.size := by
  obtain ⟨_, T, e⟩ := h
  exact (Array.getElem?_eq_some_iff.1 e).1
theorem Vc.below {w w' : World} {b : Nat} {l : List Int} (h : Vc w b l) (hb : Below w.heap.size w w') : Vc w' b l := by
  have hl := h.lt
  obtain ⟨hk, T, e⟩ := h
  exact ⟨hk, T, by rw [hb.block b hl]; exact e⟩
theorem Vc.fr {S : Nat → Prop} {w w' : World} {b : Nat} {l : List Int} (h : Vc w b l) (hf : Fr S w w') (hn : ¬ S b) : Vc w' b l := by
  have hl := h.lt
  obtain ⟨hk, T, e⟩ := h
  exact ⟨hk, T, by rw [hf.block b hl hn]; exact e⟩
theorem Vc.drewN {w : World} {b : Nat} {l : List Int} (h : Vc w b l) (n : Nat) : Vc (w.drewN n) b l := h
theorem Vc.cell {w : World} {b : Nat} {l : List Int} (h : Vc w b l) {k : Nat} (hk : k < 16) : w.cell? ⟨b, k, none⟩ = some (.int .i64 (l.getD k 0)) := by
  obtain ⟨⟨h16, _⟩, T, e⟩ := h
  rw [cell_of_row w b k _ T _ e]
  simp [show k < l.length by omega]
theorem Vc.frozen {w : World} {b : Nat} {l : List Int} (h : Vc w b l) (k : Nat) : w.frozen? ⟨b, k, none⟩ = false := by
  obtain ⟨_, T, e⟩ := h
  exact frozen_of_row w b k _ T e
theorem Vc.new (w : World) (l : List Int) (h : Vk l) (T : TypeId) : Vc (w.alloc (.cells (is l).toArray T)) w.heap.size l := ⟨h, T, heap_alloc_new w _⟩
/-- A store. -/
theorem Vc.put {w : World} {b : Nat} {l : List Int} (h : Vc w b l) {k : Nat} (hk : k < 16) (n : Int) (hn : 0 ≤ n ∧ n ≤ 1048576) :
    Vc (w.setCell ⟨b, k, none⟩ (.int .i64 n)) b (l.set k n) ∧ Fr (fun i => i = b) w (w.setCell ⟨b, k, none⟩ (.int .i64 n)) := by
  refine ⟨⟨h.1.set k n hn, ?_⟩, Fr.of_set w b k _⟩
  obtain ⟨⟨h16, _⟩, T, e⟩ := h
  refine ⟨T, ?_⟩
  rw [heap_setCell_same w b k _ T _ e]
  congr 2
  apply Array.ext_getElem?
  intro i
  simp [List.getElem?_set]

end Go.Proofs.Ytkcjkncpaopjbaa

/-
  Two vectors of which one is brought to the other, replica by replica: what a join and the ops that were missing come to.
-/
namespace Go.Proofs.Ytkcjkncpaopjbaa
open Go.RowKit
set_option linter.unusedVariables false
set_option maxRecDepth 100000

def mixV (a b : List Int) (k : Nat) : List Int := (List.range 16).map fun j => if j < k then max (a.getD j 0) (b.getD j 0) else a.getD j 0
theorem mix_at (a b : List Int) (k : Nat) {j : Nat} (h : j < 16) : (mixV a b k).getD j 0 = if j < k then max (a.getD j 0) (b.getD j 0) else a.getD j 0 := by
  simp [mixV, h]
theorem mix_ok {a b : List Int} (ha : Vk a) (hb : Vk b) (k : Nat) : Vk (mixV a b k) := by
  refine ⟨by simp [mixV], fun i => ?_⟩
  by_cases h : i < 16
  · rw [mix_at a b k h]; have := ha.2 i; have := hb.2 i; split <;> omega
  · rw [List.getD_eq_getElem?_getD, List.getElem?_eq_none_iff.2 (by simp [mixV]; omega)]; simp
theorem mix_zero {a b : List Int} (ha : Vk a) (hb : Vk b) : mixV a b 0 = a := (mix_ok ha hb 0).ext ha fun i hi => by rw [mix_at a b 0 hi, if_neg (by omega)]
theorem mix_full {a b : List Int} (ha : Vk a) (hb : Vk b) : mixV a b 16 = joinV a b := (mix_ok ha hb 16).ext (join_ok ha hb) fun i hi => by rw [mix_at a b 16 hi, if_pos hi, join_at a b hi]
theorem mix_set {a b : List Int} (ha : Vk a) (hb : Vk b) {k : Nat} (hk : k < 16) : (mixV a b k).set k (max (a.getD k 0) (b.getD k 0)) = mixV a b (k + 1) := by
  have h1 := ha.2 k
  have h2 := hb.2 k
  refine ((mix_ok ha hb k).set k _ (by omega)).ext (mix_ok ha hb (k + 1)) fun i hi => ?_
  rw [set_at (mix_ok ha hb k).1 k i _ hk, mix_at a b k hi, mix_at a b (k + 1) hi]
  by_cases e : k = i
  · subst e; rw [if_pos rfl, if_pos (by omega)]
  · rw [if_neg e]
    by_cases e2 : i < k
    · rw [if_pos e2, if_pos (by omega)]
    · rw [if_neg e2, if_neg (by omega)]
theorem mix_self {a b : List Int} {k : Nat} (hk : k < 16) : (mixV a b k).getD k 0 = a.getD k 0 := by rw [mix_at a b k hk, if_neg (by omega)]

end Go.Proofs.Ytkcjkncpaopjbaa
