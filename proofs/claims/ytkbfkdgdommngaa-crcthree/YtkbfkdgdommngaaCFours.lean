/-
  What crc.fours returns is proved here: an array of what four bits that fall out do to a sum.
-/
import Derived.Test.YtkbfkdgdommngaaCFall
namespace Go.Proofs.Ytkbfkdgdommngaa
open Go.RowKit
set_option linter.unusedVariables false

/-- The table behind k rounds. -/
def tabL (k : Nat) : List Value := (List.range 16).map fun i => .int .u32 (if i < k then (C.steps 4 i : Int) else 0)
def tabA (k : Nat) : Array Value := (tabL k).toArray

theorem tab_size (k : Nat) : (tabL k).length = 16 := by simp [tabL]
theorem tab_at (k i : Nat) (h : i < 16) : (tabL k)[i]? = some (.int .u32 (if i < k then (C.steps 4 i : Int) else 0)) := by
  simp [tabL, h]
theorem tab_set (k : Nat) : (tabL k).set k (.int .u32 (C.steps 4 k)) = tabL (k + 1) := by
  apply List.ext_getElem?
  intro i
  rw [List.getElem?_set]
  by_cases h : i < 16
  · by_cases e : k = i
    · subst e
      rw [if_pos rfl, tab_at _ _ h, tab_size, if_pos h, if_pos (by omega)]
    · rw [if_neg e, tab_at _ _ h, tab_at _ _ h]
      by_cases h2 : i < k
      · rw [if_pos h2, if_pos (by omega)]
      · rw [if_neg h2, if_neg (by omega)]
  · have h1 : (tabL (k + 1))[i]? = none := List.getElem?_eq_none (by rw [tab_size]; omega)
    have h2 : (tabL k)[i]? = none := List.getElem?_eq_none (by rw [tab_size]; omega)
    rw [h1, h2, tab_size]
    by_cases e : k = i
    · rw [if_pos e, if_neg (by omega)]
    · rw [if_neg e]
theorem tabA_at (k i : Nat) (h : i < 16) : (tabA k)[i]? = some (.int .u32 (if i < k then (C.steps 4 i : Int) else 0)) := by
  rw [tabA, List.getElem?_toArray]; exact tab_at k i h
theorem tabA_set (k : Nat) : (tabA k).setIfInBounds k (.int .u32 (C.steps 4 k)) = tabA (k + 1) := by
  rw [tabA, List.setIfInBounds_toArray, tab_set]; rfl
theorem tabA_0 : tabA 0 = #[.int .u32 0, .int .u32 0, .int .u32 0, .int .u32 0, .int .u32 0, .int .u32 0, .int .u32 0, .int .u32 0, .int .u32 0, .int .u32 0, .int .u32 0, .int .u32 0, .int .u32 0, .int .u32 0, .int .u32 0, .int .u32 0] := by rfl
theorem tabA_16 : tabA 16 = #[.int .u32 0, .int .u32 498536548, .int .u32 997073096, .int .u32 651767980, .int .u32 1994146192, .int .u32 1802195444, .int .u32 1303535960, .int .u32 1342533948, .int .u32 3988292384, .int .u32 4027552580, .int .u32 3604390888, .int .u32 3412177804, .int .u32 2607071920, .int .u32 2262029012, .int .u32 2685067896, .int .u32 3183342108] := by rfl

set_option maxHeartbeats 1000000 in
theorem fours_any (w : World) :
    Calls Try.prog 26 #[] w fun e w' => e = .returned (.agg (tabA 16)) ∧ Below w.heap.size w w' := by
  go_enter Try.func26, Try.ntmps26
  go_wp2
  go_loopw [4] (fun i wr => ∃ k : Nat, k ≤ 16 ∧ i = .int .i64 k ∧ wr = (w.alloc (.cells #[.int .u32 0, .int .u32 0, .int .u32 0, .int .u32 0, .int .u32 0, .int .u32 0, .int .u32 0, .int .u32 0, .int .u32 0, .int .u32 0, .int .u32 0, .int .u32 0, .int .u32 0, .int .u32 0, .int .u32 0, .int .u32 0] 46)).alloc (.cells (tabA k) 46)) (fun i _ => 16 - (intOf i).toNat)
  case atStart => exact ⟨0, by omega, rfl, by rw [tabA_0]⟩
  case round =>
    obtain ⟨k, hk, rfl, rfl⟩ := hrel
    by_cases hlt : k < 16
    · have hc := tabA_at k k hlt
      rw [if_neg (by omega)] at hc
      have hlt' : (k : Int) < 16 := by omega
      go_wp2
      go_loop [9, 3] (fun j s => ∃ m : Nat, m ≤ 4 ∧ j = .int .i64 m ∧ s = .int .u32 (C.steps m k : Nat)) (fun j _ => 4 - (intOf j).toNat)
      case atStart => exact ⟨0, by omega, rfl, by simp [C.steps]⟩
      case round =>
        obtain ⟨m, hm, rfl, rfl⟩ := hrel
        have hs := C.steps_lt m (n := k) (by omega)
        have hsn := C.steps_snoc m k
        obtain ⟨s, hs'⟩ : ∃ s, C.steps m k = s := ⟨_, rfl⟩
        rw [hs'] at hs hsn ⊢
        by_cases hm4 : m < 4
        · have hm4' : (m : Int) < 4 := by omega
          have HS := hid hsn
          clear hsn hs'
          go_wp2_with (go_at_call 28; refine (fall_any _ _ hs).mono ?_; rintro e w' ⟨rfl, rfl⟩)
          go_round
          case rel => exact ⟨m + 1, by omega, by go_num, by rw [HS.out]⟩
          case measure => simp [intOf]; omega
        · obtain rfl : m = 4 := by omega
          have HS := hid hs'
          clear hs' hsn
          go_wp2
          go_roundw
          case rel => exact ⟨k + 1, by omega, by go_num, by rw [← tabA_set, HS.out]⟩
          case measure => simp [intOf]; omega
    · obtain rfl : k = 16 := by omega
      rw [tabA_16]
      go_wp2
      refine bodyPost_ret (v := .agg #[.int .u32 0, .int .u32 498536548, .int .u32 997073096, .int .u32 651767980, .int .u32 1994146192, .int .u32 1802195444, .int .u32 1303535960, .int .u32 1342533948, .int .u32 3988292384, .int .u32 4027552580, .int .u32 3604390888, .int .u32 3412177804, .int .u32 2607071920, .int .u32 2262029012, .int .u32 2685067896, .int .u32 3183342108]) (by simp [results, Try.results26, go_sem]) rfl ⟨rfl, ?_⟩
      exact ((Below.refl _ _).alloc (Nat.le_refl _) _).alloc (by simp) _

end Go.Proofs.Ytkbfkdgdommngaa
