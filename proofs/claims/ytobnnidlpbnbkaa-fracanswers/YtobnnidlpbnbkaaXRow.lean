/-
  What the reference's Row answers is proved here, for all numbers: the same keys as Row's.
-/
import Derived.Test.YtobnnidlpbnbkaaXBtw
import Derived.Test.YtobnnidlpbnbkaaFRow
namespace Go.Proofs.Ytobnnidlpbnbkaa
open Go.RowKit
set_option linter.unusedVariables false

theorem kts_succ (k : Nat) : kts (k + 1) = kts k ++ [kt k] := by simp [kts, List.range_succ]
theorem xnth_next {i : Nat} (h : i < 400) (w : World) : Calls Try.prog 9 #[.string (M.str (K.nth i)), .string ⟨#[]⟩] w fun e w' => e = .returned (.tuple #[.string (kt i), .int .i64 0]) ∧ Below w.heap.size w w' := by
  have := xbetween_any (M.str (K.nth i)) ⟨#[]⟩ w (by have := nth_size (i := i) (by omega); omega) (Nat.zero_le _)
  rw [tx_str (K.nth_byt i (by omega)), show tx ⟨#[]⟩ = [] from rfl, K.nth_key h] at this
  exact this

set_option maxHeartbeats 2000000 in
theorem xrow_none (n : Int) (w : World) (h : n < 0 ∨ 400 < n) : Calls Try.prog 15 #[.int .i64 n] w fun e w' => ∃ v, e = .returned v ∧ Ss w' v [] ∧ Below w.heap.size w w' := by
  have hs0 : Ss (w.alloc (.cells #[] 9)) (.slice (some ⟨w.heap.size, 0, none⟩) 0 0) [] := Ss.of_own (World.ownsRow_made w #[] 0 (Nat.le_refl _) (Nat.zero_le _) rfl)
  have HS := hid hs0
  clear hs0
  have hc : decide (0 < n) = false ∨ (decide (0 < n) = true ∧ decide (n ≤ 400) = false) := by simp; omega
  clear h
  rcases hc with hc | ⟨hc, hd⟩
  all_goals
    go_enter Try.func15, Try.ntmps15
    go_wp2
    go_loopw [3, 4, 5] (fun v l i wr => v = .slice (some ⟨w.heap.size, 0, none⟩) 0 0 ∧ i = .int .i64 0 ∧ wr = w.alloc (.cells #[] 9)) (fun _ _ _ _ => 0)
    · exact ⟨rfl, rfl, rfl⟩
    · obtain ⟨rfl, rfl, rfl⟩ := hrel
      go_wp2
      go_ret
      exact ⟨_, rfl, HS.out, ba _ _⟩

set_option maxHeartbeats 2000000 in
theorem xrow_some (n : Nat) (w : World) (h : n ≤ 400) : Calls Try.prog 15 #[.int .i64 n] w fun e w' => ∃ v, e = .returned v ∧ Ss w' v (kts n) ∧ Below w.heap.size w w' := by
  have h4 : (n : Int) ≤ 400 := by omega
  have hown0 : (w.alloc (.cells #[] 9)).ownsRow w.heap.size 9 1 (.slice (some ⟨w.heap.size, 0, none⟩) 0 0) 0 (ts (kts 0)) := World.ownsRow_made w #[] 0 (Nat.le_refl _) (Nat.zero_le _) rfl
  have HO0 := hid hown0
  clear hown0
  go_enter Try.func15, Try.ntmps15
  go_wp2
  go_loopw [3, 4, 5] (fun v l i wr => ∃ k : Nat, k ≤ n ∧ i = .int .i64 k ∧ l = .string (M.str (K.nth k)) ∧ wr.ownsRow w.heap.size 9 1 v k (ts (kts k)) ∧ Below w.heap.size w wr) (fun _ _ i _ => n - (intOf i).toNat)
  case atStart => exact ⟨0, by omega, rfl, rfl, HO0.out, ba _ _⟩
  case round =>
    clear HO0
    obtain ⟨k, hk, rfl, rfl, hown, hbel⟩ := hrel
    by_cases hkn : k < n
    · have HN := hid (fun W => xnth_next (i := k) (by omega) W)
      have HO := hid hown
      have hkn' : (k : Int) < (n : Int) := by omega
      clear hown
      go_wp2_with fail
      refine (HN.out _).mono ?_
      rintro e w2 ⟨rfl, b2⟩
      have hown2 := (own_below HO.out b2).alloc (.cells #[.string (kt k)] 9)
      have hl2 := Ss.lit w2 (kt k)
      have B2 := hid (hbel.trans (b2.mono hbel.size))
      have hsz : w.heap.size ≤ (w2.alloc (.cells #[.string (kt k)] 9)).heap.size := by have := B2.out.size; simp; omega
      have HOW := hid hown2
      have HL := hid hl2
      clear hown2 hl2 b2
      go_wp2_with (at_builtin; refine wpList_append_ss rfl (.tmp 25) (.tmp 27) rfl w.heap.size _ _ (kts k) rfl HOW.out _ [kt k] rfl HL.out (by simp; omega) hsz ?_; intro v' w3 hown3 hgrow hat3; have B3 := hid (Below.grown (B2.out.alloc B2.out.size _) hgrow hsz (fun k hk => (HO.out.lt k hk).1)); rw [← kts_succ] at hown3; have H3 := hid hown3; clear hown3 hgrow hat3)
      go_roundw
      case rel => exact ⟨k + 1, by omega, by go_num, rfl, H3.out, B3.out⟩
      case measure => simp [intOf]; omega
    · obtain rfl : k = n := by omega
      have hS := hid (Ss.of_own hown)
      clear hown
      go_wp2
      go_ret
      exact ⟨_, rfl, hS.out, hbel⟩

theorem xrow_any (n : Int) (w : World) : Calls Try.prog 15 #[.int .i64 n] w fun e w' => ∃ v, e = .returned v ∧ Ss w' v (kts (rn n)) ∧ Below w.heap.size w w' := by
  unfold rn
  by_cases h : 0 ≤ n ∧ n ≤ 400
  · rw [if_pos h]
    obtain ⟨m, rfl⟩ : ∃ m : Nat, n = m := ⟨n.toNat, by omega⟩
    rw [Int.toNat_natCast]
    exact xrow_some m w (by omega)
  · rw [if_neg h]
    exact xrow_none n w (by omega)

end Go.Proofs.Ytobnnidlpbnbkaa
