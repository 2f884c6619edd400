/-
  Parts of the proof, one behind the other; what each proves stands at its head.
-/
import Derived.WalkKit
import Derived.WalkSpells
import Derived.WalkLawsBesides

/-
  Bytes and cursors in memory: 'Bs w v xs': the slice v reads as the bytes xs; 'Cur T w b xs lost': block b is a cursor (of the struct type T) over xs. Nothing of the program is imported.
-/
namespace Go.Proofs.Ytkaphlpohhaacaa
open Go.RowKit
set_option linter.unusedVariables false
set_option linter.unusedSimpArgs false
set_option maxRecDepth 100000

/-- A fact that the walk shall not take for a rule. -/
theorem hid {p : Prop} (h : p) : Hid p := h

/-- Bytes as cells. -/
abbrev cs (l : List Int) : List Value := l.map (Value.int .u8)

/-- Steps that write nothing that was there, one behind the other. -/
theorem bt {a b c : World} (h : Below a.heap.size a b) (k : Below b.heap.size b c) : Below a.heap.size a c := h.trans (k.mono h.size)
theorem ba (w : World) (o : Obj) : Below w.heap.size w (w.alloc o) := (Below.refl _ _).alloc (Nat.le_refl _) _
theorem bd (w : World) (n : Nat) : Below w.heap.size w (w.drewN n) := below_drewN (Below.refl _ _) n

end Go.Proofs.Ytkaphlpohhaacaa

/-
  Runs and items as values: thirteen cells; a text's parts.
-/
namespace Go.Proofs.Ytkaphlpohhaacaa
open Go.RowKit
set_option linter.unusedVariables false
set_option linter.unusedSimpArgs false
set_option maxRecDepth 100000

/-- Some characters: their op's name, the first one's number, how many; left and right; gone, a mark; the text. -/
structure Un where
  r : Int
  n : Int
  f : Int
  l : Int
  a : Int
  b : Int
  c : Int
  d : Int
  e : Int
  h : Int
  g : Bool
  m : Bool
  t : ByteArray
def Un.zero : Un := ⟨0, 0, 0, 0, 0, 0, 0, 0, 0, 0, false, false, ⟨#[]⟩⟩

abbrev unl (x : Un) : Array Value :=
  #[.int .i64 x.r, .int .i64 x.n, .int .i64 x.f, .int .i64 x.l, .int .i64 x.a, .int .i64 x.b, .int .i64 x.c, .int .i64 x.d, .int .i64 x.e, .int .i64 x.h, .bool x.g, .bool x.m, .string x.t]
abbrev unv (x : Un) : Value := .agg (unl x)
abbrev unc (x : Un) : List Value :=
  [.int .i64 x.r, .int .i64 x.n, .int .i64 x.f, .int .i64 x.l, .int .i64 x.a, .int .i64 x.b, .int .i64 x.c, .int .i64 x.d, .int .i64 x.e, .int .i64 x.h, .bool x.g, .bool x.m, .string x.t]
theorem unc_len (x : Un) : (unc x).length = 13 := rfl
theorem unl_one (x : Un) : ∀ u ∈ unc x, u.oneCell' = true := by
  intro u hu
  simp at hu
  rcases hu with rfl | rfl | rfl | rfl | rfl | rfl | rfl | rfl | rfl | rfl | rfl | rfl | rfl <;> rfl
theorem flat_one (xs : List Un) : ∀ u ∈ xs.flatMap unc, u.oneCell' = true := fun u hu => by
  obtain ⟨x, _, h⟩ := List.mem_flatMap.1 hu
  exact unl_one x u h

/-- Parts of a text. -/
theorem ba_ext {s t : ByteArray} (h : s.data.toList = t.data.toList) : s = t := by
  apply ByteArray.ext
  exact Array.toList_inj.1 h
theorem ba_cut (s : ByteArray) (i j : Nat) : (s.extract i j).data.toList = (s.data.toList.drop i).take (j - i) := by
  rw [ByteArray.data_extract]
  simp [Array.toList_extract, List.extract_eq_take_drop]
theorem ba_size (s : ByteArray) : s.size = s.data.toList.length := by rw [Array.length_toList]; rfl
theorem ba_app (s t : ByteArray) : (s ++ t).data.toList = s.data.toList ++ t.data.toList := by
  rw [ByteArray.data_append]; simp
theorem ba_cut_size {s : ByteArray} {i j : Nat} (hj : j ≤ s.size) : (s.extract i j).size = j - i := by
  rw [ba_size, ba_cut, List.length_take, List.length_drop, ← ba_size]; omega
theorem ba_cut_cut (s : ByteArray) {i j k l : Nat} (h : i + l ≤ j) : (s.extract i j).extract k l = s.extract (i + k) (i + l) := by
  apply ba_ext
  rw [ba_cut, ba_cut, ba_cut, List.drop_take, List.drop_drop, List.take_take]
  congr 1
  omega
theorem ba_cut_app (s : ByteArray) {i j k : Nat} (h : i ≤ j) (h2 : j ≤ k) : s.extract i j ++ s.extract j k = s.extract i k := by
  apply ba_ext
  rw [ba_app, ba_cut, ba_cut, ba_cut]
  have e : s.data.toList.drop j = (s.data.toList.drop i).drop (j - i) := by rw [List.drop_drop]; congr 1; omega
  rw [e, show k - i = (j - i) + (k - j) by omega, List.take_add]
theorem ba_whole (s : ByteArray) : s.extract 0 s.size = s := by
  apply ba_ext
  rw [ba_cut, List.drop_zero, Nat.sub_zero, ba_size, List.take_length]
theorem ba_app_l (s t : ByteArray) {i j : Nat} (h : j ≤ s.size) : (s ++ t).extract i j = s.extract i j := by
  apply ba_ext
  rw [ba_cut, ba_cut, ba_app]
  rw [ba_size] at h
  by_cases hi : i ≤ j
  · rw [List.drop_append_of_le_length (by omega), List.take_append_of_le_length (by rw [List.length_drop]; omega)]
  · rw [show j - i = 0 by omega]; simp
theorem ba_app_r (s t : ByteArray) {i j : Nat} : (s ++ t).extract (s.size + i) (s.size + j) = t.extract i j := by
  apply ba_ext
  have e1 : s.data.toList.drop (s.data.toList.length + i) = [] := List.drop_eq_nil_of_le (by omega)
  rw [ba_cut, ba_cut, ba_app, ba_size, List.drop_append, e1, List.nil_append, show s.data.toList.length + j - (s.data.toList.length + i) = j - i by omega, show s.data.toList.length + i - s.data.toList.length = i by omega]
end Go.Proofs.Ytkaphlpohhaacaa

/-
  What a call leaves as it was: all blocks that were there but for some.
-/
namespace Go.Proofs.Ytkaphlpohhaacaa
open Go.RowKit
set_option linter.unusedVariables false
set_option linter.unusedSimpArgs false
set_option maxRecDepth 100000

/-- Blocks that were there are as they were, but for some. -/
structure Fr (S : Nat → Prop) (w w' : World) : Prop where
  os : w'.os = w.os
  tape : w'.tape = w.tape
  output : w'.output = w.output
  size : w.heap.size ≤ w'.heap.size
  block : ∀ k, k < w.heap.size → ¬ S k → w'.heap[k]? = w.heap[k]?
theorem Fr.refl (S : Nat → Prop) (w : World) : Fr S w w := ⟨rfl, rfl, rfl, Nat.le_refl _, fun _ _ _ => rfl⟩
theorem Fr.trans {S T : Nat → Prop} {a b c : World} (h : Fr S a b) (k : Fr T b c) (hs : ∀ i, i < a.heap.size → T i → S i) : Fr S a c :=
  ⟨k.os.trans h.os, k.tape.trans h.tape, k.output.trans h.output, Nat.le_trans h.size k.size, fun i hi hn => (k.block i (Nat.lt_of_lt_of_le hi h.size) (fun ht => hn (hs i hi ht))).trans (h.block i hi hn)⟩
theorem Fr.of_below {S : Nat → Prop} {w w' : World} (h : Below w.heap.size w w') : Fr S w w' := ⟨h.os, h.tape, h.output, h.size, fun k hk _ => h.block k hk⟩
theorem Fr.of_grown {S : Nat → Prop} {w w' : World} {row : Option Nat} (h : w.grownBy w' row) (hs : ∀ k, row = some k → S k) : Fr S w w' := ⟨h.os, h.tape, h.output, h.size, fun k hk hn => h.block k hk (fun e => hn (hs k e.symm))⟩
theorem Fr.mono {S T : Nat → Prop} {w w' : World} (h : Fr S w w') (hs : ∀ k, S k → T k) : Fr T w w' := ⟨h.os, h.tape, h.output, h.size, fun k hk hn => h.block k hk (fun e => hn (hs k e))⟩
theorem Fr.of_set (w : World) (b i : Nat) (v : Value) : Fr (fun k => k = b) w (w.setCell ⟨b, i, none⟩ v) :=
  ⟨rfl, rfl, rfl, by simp [World.setCell], fun k _ hn => heap_setCell_other w ⟨b, i, none⟩ k v hn⟩
/-- Where all that changes is new. -/
theorem Fr.below {S : Nat → Prop} {B : Nat} {w w' : World} (h : Fr S w w') (hs : ∀ k, k < B → ¬ S k) (hB : B ≤ w.heap.size) : Below B w w' :=
  ⟨h.os, h.tape, h.output, h.size, fun k hk => h.block k (by omega) (hs k hk)⟩

end Go.Proofs.Ytkaphlpohhaacaa
