/-
  What Row answers is proved here, for all numbers: so many keys, each the one above the one ahead of it; none for other numbers than 0 to 400.
-/
import Derived.Test.YtobnnidlpbnbkaaFBtw
import Derived.Test.YtobnnidlpbnbkaaFSs
namespace Go.Proofs.Ytobnnidlpbnbkaa
open Go.RowKit
set_option linter.unusedVariables false

/-- The row's keys as texts. -/
def kt (j : Nat) : ByteArray := M.str (K.nth (j + 1))
def kts (n : Nat) : List ByteArray := (List.range n).map kt
/-- How many there are. -/
def rn (n : Int) : Nat := if 0 ≤ n ∧ n ≤ 400 then n.toNat else 0
/-- A row while it is filled. -/
def rowc (n i : Nat) : List Value := (List.range n).map (fun j => if j < i then .string (kt j) else .string ⟨#[]⟩)

theorem kts_length (n : Nat) : (kts n).length = n := by simp [kts]
theorem kts_getD {n i : Nat} (h : i < n) : (kts n).getD i ⟨#[]⟩ = kt i := by simp [kts, List.getD, h]
theorem rowc_start (n : Nat) : rowc n 0 = List.replicate n (.string ⟨#[]⟩) := by
  unfold rowc
  refine List.ext_getElem (by simp) fun i h1 h2 => by simp
theorem rowc_end (n : Nat) : rowc n n = ts (kts n) := by
  unfold rowc kts ts
  refine List.ext_getElem (by simp) fun i h1 h2 => ?_
  simp at h1
  simp [h1]
theorem rowc_set {n i : Nat} (h : i < n) : (rowc n i).set i (.string (kt i)) = rowc n (i + 1) := by
  unfold rowc
  refine List.ext_getElem (by simp) fun j h1 h2 => ?_
  simp at h2
  simp [List.getElem_set]
  by_cases hij : i = j
  · subst hij; simp
  · rw [if_neg hij]
    by_cases hj : j < i
    · rw [if_pos hj, if_pos (by omega)]
    · rw [if_neg hj, if_neg (by omega)]
theorem nth_len {i : Nat} (h : i ≤ 400) : (K.nth i).length ≤ 32 := by
  cases i with
  | zero => simp [K.nth]
  | succ i =>
    have := (K.nth_right (i := i) (by omega)).1
    simp [K.right] at this
    exact this.2.1
theorem nth_size {i : Nat} (h : i ≤ 400) : (M.str (K.nth i)).size ≤ 32 := by
  rw [size_str (K.nth_byt i h)]
  exact nth_len h
theorem nth_next {i : Nat} (h : i < 400) (w : World) : Calls Try.prog 8 #[.string (M.str (K.nth i)), .string ⟨#[]⟩] w fun e w' => e = .returned (.tuple #[.string (kt i), .int .i64 0]) ∧ Below w.heap.size w w' := by
  have := between_any (M.str (K.nth i)) ⟨#[]⟩ w (by have := nth_size (i := i) (by omega); omega) (Nat.zero_le _)
  rw [tx_str (K.nth_byt i (by omega)), show tx ⟨#[]⟩ = [] from rfl, K.nth_key h] at this
  exact this

theorem row_none (n : Int) (w : World) (h : n < 0 ∨ 400 < n) : Calls Try.prog 14 #[.int .i64 n] w fun e w' => e = .returned (.slice none 0 0) ∧ w = w' := by
  rcases h with h | h
  · have h' : decide (n < 0) = true := by simpa using h
    go_enter Try.func14, Try.ntmps14
    go_wp2
    go_ret
    exact ⟨rfl, rfl⟩
  · have h' : decide (n < 0) = false := by simp; omega
    go_enter Try.func14, Try.ntmps14
    go_wp2
    go_ret
    exact ⟨rfl, rfl⟩

set_option maxHeartbeats 2000000 in
theorem row_some (n : Nat) (w : World) (h : n ≤ 400) : Calls Try.prog 14 #[.int .i64 n] w fun e w' => ∃ v, e = .returned v ∧ w'.ownsRow w.heap.size 9 1 v n (ts (kts n)) ∧ Below w.heap.size w w' := by
  obtain ⟨i0, hi, hz0, hz1, hz2⟩ := info_parts info_str
  have hmk : i0.bytes * n ≤ 281474976710656 := by rw [hz2]; omega
  have hkm : n ≤ maxLen := by unfold maxLen; omega
  have h0 : decide ((n : Int) < 0) = false := by simp
  have h4 : decide (400 < (n : Int)) = false := by simp; omega
  go_enter Try.func14, Try.ntmps14
  go_wp2_with (at_make; refine wpList_make_full _ rfl (.tmp 12) (.tmp 12) 28 rfl w.heap.size 9 i0 (.string ⟨#[]⟩) 1 Try.underlying28 hi hz0 hz1 .i64 .i64 _ _ n rfl rfl rfl rfl hmk hkm (Nat.le_refl _) ?_; intro w1 hown hgrow)
  have hrow : w1.ownsRow w.heap.size 9 1 (.slice (some ⟨w.heap.size, 0, none⟩) n n) n (rowc n 0) := by
    have e : (madeCells #[Value.string ⟨#[]⟩] (n * 1)).toList = rowc n 0 := by rw [rowc_start]; simp [toList_madeCells_one]
    rw [← e]; exact hown
  have hbel : Below w.heap.size w w1 := (Below.refl _ w).grown hgrow (Nat.le_refl _) (by intro k hk; cases hk)
  clear hown hgrow
  go_loopw [4, 16] (fun l i wr => ∃ k : Nat, k ≤ n ∧ i = .int .i64 k ∧ l = .string (M.str (K.nth k)) ∧ wr.ownsRow w.heap.size 9 1 (.slice (some ⟨w.heap.size, 0, none⟩) n n) n (rowc n k) ∧ Below w.heap.size w wr) (fun _ i _ => n - (intOf i).toNat)
  case atStart => exact ⟨0, by omega, rfl, rfl, hrow, hbel⟩
  case round =>
    clear hrow hbel
    obtain ⟨k, hk, rfl, rfl, hown, hbel⟩ := hrel
    by_cases hkn : k < n
    · have HN := hid (fun W => nth_next (i := k) (by omega) W)
      have HO := hid hown
      clear hown
      go_wp2_with fail
      refine (HN.out _).mono ?_
      rintro e w2 ⟨rfl, b2⟩
      have hown2 := own_below HO.out b2
      have hfz := hown2.frozenAt k
      have hcell : w2.cell? ⟨w.heap.size, k, none⟩ = some (.string ⟨#[]⟩) := by
        rw [hown2.cellAt k (by omega)]
        simp [rowc, hkn]
      have HS := hid (hown2.stored k)
      have B2 := hid (hbel.trans (b2.mono hbel.size))
      clear hown2 b2
      go_wp2
      go_roundw
      case rel =>
        refine ⟨k + 1, by omega, by go_num, rfl, ?_, B2.out.setCell (Nat.le_refl _) _⟩
        have := (HS.out (.string (kt k))).1
        rw [rowc_set hkn] at this
        exact this
      case measure => simp [intOf]; omega
    · obtain rfl : k = n := by omega
      rw [rowc_end] at hown
      go_wp2
      go_ret
      exact ⟨_, rfl, hown, hbel⟩

theorem row_any (n : Int) (w : World) : Calls Try.prog 14 #[.int .i64 n] w fun e w' => ∃ v, e = .returned v ∧ Ss w' v (kts (rn n)) ∧ Below w.heap.size w w' := by
  unfold rn
  by_cases h : 0 ≤ n ∧ n ≤ 400
  · rw [if_pos h]
    obtain ⟨m, rfl⟩ : ∃ m : Nat, n = m := ⟨n.toNat, by omega⟩
    rw [Int.toNat_natCast]
    exact (row_some m w (by omega)).mono fun _ _ ⟨v, he, ho, hb⟩ => ⟨v, he, Ss.of_own ho, hb⟩
  · rw [if_neg h]
    exact (row_none n w (by omega)).mono fun _ _ ⟨he, hw⟩ => ⟨_, he, Ss.nil _, hw ▸ Below.refl _ _⟩

end Go.Proofs.Ytobnnidlpbnbkaa
