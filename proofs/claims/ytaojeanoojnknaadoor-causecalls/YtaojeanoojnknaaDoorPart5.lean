/-
  Parts of the proof, one behind the other; what each proves stands at its head.
-/
import Derived.WalkKit
import Derived.WalkSpells
import Derived.WalkLawsBesides
import Derived.Test.YtaojeanoojnknaaDoorPart1
import Derived.Lib.Strings

/-
  Bytes and cursors in memory: 'Bs w v xs': the slice v reads as the bytes xs; 'Cur T w b xs lost': block b is a cursor (of the struct type T) over xs. Nothing of the program is imported.
-/
namespace Go.Proofs.YtaojeanoojnknaaDoor
open Go.RowKit
set_option linter.unusedVariables false
set_option maxRecDepth 100000

/-- A fact that the walk shall not take for a rule. -/
theorem hid {p : Prop} (h : p) : Hid p := h

/-- Bytes as cells. -/
abbrev cs (l : List Int) : List Value := l.map (Value.int .u8)

/-- Steps that write nothing that was there, one behind the other. -/
theorem bt {a b c : World} (h : Below a.heap.size a b) (k : Below b.heap.size b c) : Below a.heap.size a c := h.trans (k.mono h.size)
theorem ba (w : World) (o : Obj) : Below w.heap.size w (w.alloc o) := (Below.refl _ _).alloc (Nat.le_refl _) _
theorem bd (w : World) (n : Nat) : Below w.heap.size w (w.drewN n) := below_drewN (Below.refl _ _) n

/-- Cells of numbers are kept. -/
def Keeps (w w' : World) : Prop := ∀ a k x, w.cell? a = some (.int k x) → w'.cell? a = some (.int k x)

theorem Keeps.below {w w' : World} (h : Below w.heap.size w w') : Keeps w w' := fun a k x e => by
  rw [h.cell (World.block_lt_of_cell? _ _ e)]; exact e
end Go.Proofs.YtaojeanoojnknaaDoor

/-
  Texts as lists of bytes: the order of texts is the order of keys, and what a text's byte at a place is. Nothing of the program is imported.
-/
namespace Go.Proofs.YtaojeanoojnknaaDoor
open Go.RowKit
set_option linter.unusedVariables false
set_option maxRecDepth 100000

/-- A text's bytes. -/
def tx (s : ByteArray) : List Int := s.data.toList.map (fun b => (b.toNat : Int))

theorem tx_length (s : ByteArray) : (tx s).length = s.size := by
  unfold tx; rw [List.length_map, Array.length_toList]; rfl
theorem push_str (l : List UInt8) : ∀ s : ByteArray, (l.map (fun b => (b.toNat : Int))).foldl (fun r n => r.push (UInt8.ofNat n.toNat)) s = ⟨s.data ++ l.toArray⟩ := by
  induction l with
  | nil => intro s; simp
  | cons b l ih =>
    intro s
    simp only [List.map_cons, List.foldl_cons]
    rw [ih]
    simp [ByteArray.push]
theorem str_tx (s : ByteArray) : M.str (tx s) = s := by
  unfold M.str tx
  rw [push_str]
  cases s
  simp [ByteArray.empty, ByteArray.emptyWithCapacity]
  rfl
theorem tx_inj {s t : ByteArray} (h : tx s = tx t) : s = t := by rw [← str_tx s, ← str_tx t, h]
/-- The model's order of texts. -/
theorem less_list : ∀ (x y : List UInt8), Op.bytesLess x y = K.lt (x.map (fun b => (b.toNat : Int))) (y.map (fun b => (b.toNat : Int)))
  | [], [] => rfl
  | _ :: _, [] => rfl
  | [], _ :: _ => rfl
  | a :: x, b :: y => by
    rw [Op.bytesLess, less_list x y]
    simp only [List.map_cons, K.lt]
    congr 1
    · rw [decide_eq_decide, UInt8.lt_iff_toNat_lt]; omega
    · congr 1
      rw [Bool.eq_iff_iff]
      simp only [beq_iff_eq, decide_eq_true_eq]
      rw [← UInt8.toNat_inj]
      omega
theorem beq_tx (s t : ByteArray) : (s.toList == t.toList) = decide (tx s = tx t) := by
  rw [Bool.eq_iff_iff]
  simp only [beq_iff_eq, decide_eq_true_eq, Lib.toList_data]
  constructor
  · intro h; unfold tx; rw [h]
  · intro h; rw [tx_inj h]
theorem tx_getD {s : ByteArray} {k : Nat} (h : k < s.size) : (tx s).getD k 0 = ((s[k]).toNat : Int) := by
  rw [List.getD_eq_getElem?_getD, List.getElem?_eq_getElem (by rw [tx_length]; exact h)]
  simp [tx]
  rfl
end Go.Proofs.YtaojeanoojnknaaDoor

/-
  What a call leaves as it was: all blocks that were there but for some.
-/
namespace Go.Proofs.YtaojeanoojnknaaDoor
open Go.RowKit
set_option linter.unusedVariables false
set_option maxRecDepth 100000

/-- Blocks that were there are as they were, but for some. -/
structure Fr (S : Nat → Prop) (w w' : World) : Prop where
  os : w'.os = w.os
  tape : w'.tape = w.tape
  output : w'.output = w.output
  size : w.heap.size ≤ w'.heap.size
  block : ∀ k, k < w.heap.size → ¬ S k → w'.heap[k]? = w.heap[k]?
theorem Fr.refl (S : Nat → Prop) (w : World) : Fr S w w := ⟨rfl, rfl, rfl, Nat.le_refl _, fun _ _ _ => rfl⟩
theorem Fr.trans {S T : Nat → Prop} {a b c : World} (h : Fr S a b) (k : Fr T b c) (hs : ∀ i, i < a.heap.size → T i → S i) : Fr S a c :=
  ⟨k.os.trans h.os, k.tape.trans h.tape, k.output.trans h.output, Nat.le_trans h.size k.size, fun i hi hn => (k.block i (Nat.lt_of_lt_of_le hi h.size) (fun ht => hn (hs i hi ht))).trans (h.block i hi hn)⟩
theorem Fr.of_below {S : Nat → Prop} {w w' : World} (h : Below w.heap.size w w') : Fr S w w' := ⟨h.os, h.tape, h.output, h.size, fun k hk _ => h.block k hk⟩
theorem Fr.of_grown {S : Nat → Prop} {w w' : World} {row : Option Nat} (h : w.grownBy w' row) (hs : ∀ k, row = some k → S k) : Fr S w w' := ⟨h.os, h.tape, h.output, h.size, fun k hk hn => h.block k hk (fun e => hn (hs k e.symm))⟩
theorem Fr.of_set (w : World) (b i : Nat) (v : Value) : Fr (fun k => k = b) w (w.setCell ⟨b, i, none⟩ v) :=
  ⟨rfl, rfl, rfl, by simp [World.setCell], fun k _ hn => heap_setCell_other w ⟨b, i, none⟩ k v hn⟩
theorem Fr.drewN {S : Nat → Prop} {a w : World} (h : Fr S a w) (n : Nat) : Fr S a (w.drewN n) := ⟨h.os, h.tape, h.output, h.size, h.block⟩
/-- Where all that changes is new. -/
theorem Fr.below {S : Nat → Prop} {B : Nat} {w w' : World} (h : Fr S w w') (hs : ∀ k, k < B → ¬ S k) (hB : B ≤ w.heap.size) : Below B w w' :=
  ⟨h.os, h.tape, h.output, h.size, fun k hk => h.block k (by omega) (hs k hk)⟩

end Go.Proofs.YtaojeanoojnknaaDoor
