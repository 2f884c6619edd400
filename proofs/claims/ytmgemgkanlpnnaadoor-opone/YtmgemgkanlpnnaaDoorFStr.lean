/-
  Texts as lists of bytes: the order of texts is the order of keys, and what a text's byte at a place is. Nothing of the program is imported.
-/
import Derived.Test.YtmgemgkanlpnnaaDoorFMath
import Derived.Test.YtmgemgkanlpnnaaDoorMath
import Derived.Test.YtmgemgkanlpnnaaDoorMem
import Derived.Lib.Strings
namespace Go.Proofs.YtmgemgkanlpnnaaDoor
open Go.RowKit
set_option linter.unusedVariables false
set_option maxRecDepth 100000

/-- A text's bytes. -/
def tx (s : ByteArray) : List Int := s.data.toList.map (fun b => (b.toNat : Int))

theorem tx_length (s : ByteArray) : (tx s).length = s.size := by
  unfold tx; rw [List.length_map, Array.length_toList]; rfl
theorem tx_byt (s : ByteArray) : K.Byt (tx s) := by
  intro x hx
  unfold tx at hx
  obtain ⟨b, _, rfl⟩ := List.mem_map.1 hx
  have := b.toNat_lt
  omega
theorem tx_nil {s : ByteArray} : tx s = [] ↔ s.size = 0 := by
  rw [← tx_length]; exact List.length_eq_zero_iff.symm
theorem tx_empty : tx ByteArray.empty = [] := rfl

theorem push_str (l : List UInt8) : ∀ s : ByteArray, (l.map (fun b => (b.toNat : Int))).foldl (fun r n => r.push (UInt8.ofNat n.toNat)) s = ⟨s.data ++ l.toArray⟩ := by
  induction l with
  | nil => intro s; simp
  | cons b l ih =>
    intro s
    simp only [List.map_cons, List.foldl_cons]
    rw [ih]
    simp [ByteArray.push]
theorem str_tx (s : ByteArray) : M.str (tx s) = s := by
  unfold M.str tx
  rw [push_str]
  cases s
  simp [ByteArray.empty, ByteArray.emptyWithCapacity]
  rfl
theorem tx_inj {s t : ByteArray} (h : tx s = tx t) : s = t := by rw [← str_tx s, ← str_tx t, h]
theorem tx_str {k : List Int} (h : K.Byt k) : tx (M.str k) = k := by
  have e : k = (k.map (fun x => UInt8.ofNat x.toNat)).map (fun b => (b.toNat : Int)) := by
    rw [List.map_map]
    conv => lhs; rw [← List.map_id k]
    refine List.map_congr_left fun x hx => ?_
    have := h x hx
    simp only [Function.comp, id, UInt8.toNat_ofNat']
    omega
  have : M.str k = ⟨((k.map (fun x => UInt8.ofNat x.toNat))).toArray⟩ := by
    conv => lhs; rw [e]
    unfold M.str
    rw [push_str]
    simp [ByteArray.empty, ByteArray.emptyWithCapacity]
    rfl
  rw [this]
  unfold tx
  simp only
  exact e.symm
theorem size_str {k : List Int} (h : K.Byt k) : (M.str k).size = k.length := by rw [← tx_length, tx_str h]

/-- The model's order of texts. -/
theorem less_list : ∀ (x y : List UInt8), Op.bytesLess x y = K.lt (x.map (fun b => (b.toNat : Int))) (y.map (fun b => (b.toNat : Int)))
  | [], [] => rfl
  | _ :: _, [] => rfl
  | [], _ :: _ => rfl
  | a :: x, b :: y => by
    rw [Op.bytesLess, less_list x y]
    simp only [List.map_cons, K.lt]
    congr 1
    · rw [decide_eq_decide, UInt8.lt_iff_toNat_lt]; omega
    · congr 1
      rw [Bool.eq_iff_iff]
      simp only [beq_iff_eq, decide_eq_true_eq]
      rw [← UInt8.toNat_inj]
      omega
theorem less_tx (s t : ByteArray) : Op.bytesLess s.toList t.toList = K.lt (tx s) (tx t) := by
  rw [less_list, Lib.toList_data, Lib.toList_data]
  rfl
theorem beq_tx (s t : ByteArray) : (s.toList == t.toList) = decide (tx s = tx t) := by
  rw [Bool.eq_iff_iff]
  simp only [beq_iff_eq, decide_eq_true_eq, Lib.toList_data]
  constructor
  · intro h; unfold tx; rw [h]
  · intro h; rw [tx_inj h]
theorem beq_refl (s : ByteArray) : (s.toList == s.toList) = true := by simp

theorem tx_getD {s : ByteArray} {k : Nat} (h : k < s.size) : (tx s).getD k 0 = ((s[k]).toNat : Int) := by
  rw [List.getD_eq_getElem?_getD, List.getElem?_eq_getElem (by rw [tx_length]; exact h)]
  simp [tx]
  rfl
theorem tx_drop {s : ByteArray} {k : Nat} (h : k < s.size) : (tx s).drop k = ((s[k]).toNat : Int) :: (tx s).drop (k + 1) := by
  rw [List.drop_eq_getElem_cons (by rw [tx_length]; exact h)]
  congr 1
  simp [tx]
  rfl
theorem tx_past {s : ByteArray} {k : Nat} (h : s.size ≤ k) : (tx s).drop k = [] := List.drop_eq_nil_of_le (by rw [tx_length]; exact h)
theorem tx_head {s : ByteArray} {k : Nat} (h : k < s.size) (d : Int) : ((tx s).drop k).headD d = ((s[k]).toNat : Int) := by rw [tx_drop h]; rfl
theorem tx_none {s : ByteArray} {k : Nat} (h : s.size ≤ k) (d : Int) : ((tx s).drop k).headD d = d := by rw [tx_past h]; rfl

end Go.Proofs.YtmgemgkanlpnnaaDoor
