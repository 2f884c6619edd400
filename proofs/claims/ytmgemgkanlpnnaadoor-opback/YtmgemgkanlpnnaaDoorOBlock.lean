/-
  What RightBlock and RightChar answer is proved here, of the program and of the reference, for all names and characters; what Right answers of keys, of both.
-/
import Derived.Test.YtmgemgkanlpnnaaDoorOLay
import Derived.Test.YtmgemgkanlpnnaaDoorOMath
import Derived.Laws.Cover1
namespace Go.Proofs.YtmgemgkanlpnnaaDoor
open Go.RowKit
set_option linter.unusedVariables false
set_option maxRecDepth 100000

set_option maxHeartbeats 1000000 in
theorem rb_any (r n : Int) (w : World) (hL : Lay w) :
    Calls Tryd.prog 78 #[idv r n] w fun e w' => e = .returned (.bool (rb r n)) ∧ Below w.heap.size w w' := by
  have HB := hid (ba w (ido 25 r n))
  have r0 := fun o => ((ba w o).cell (p := ⟨0, 0, none⟩) (World.block_lt_of_cell? _ _ hL.r0)).trans hL.r0
  have r1 := fun o => ((ba w o).cell (p := ⟨0, 1, none⟩) (World.block_lt_of_cell? _ _ hL.r1)).trans hL.r1
  have t0 := fun o => ((ba w o).cell (p := ⟨1, 0, none⟩) (World.block_lt_of_cell? _ _ hL.t0)).trans hL.t0
  have t1 := fun o => ((ba w o).cell (p := ⟨1, 1, none⟩) (World.block_lt_of_cell? _ _ hL.t1)).trans hL.t1
  clear hL
  by_cases hn : n = 0
  · subst hn
    by_cases hr : r = 0
    · subst hr
      rw [show rb 0 0 = true by decide]
      go_enter Tryd.func78, Tryd.ntmps78
      go_wp2_with fail
      go_ret
      exact ⟨rfl, HB.out⟩
    · by_cases hr1 : r = 1
      · subst hr1
        rw [show rb 1 0 = true by decide]
        go_enter Tryd.func78, Tryd.ntmps78
        go_wp2_with fail
        go_ret
        exact ⟨rfl, HB.out⟩
      · have e : rb r 0 = ro r 0 := by simp [rb, hr, hr1]
        rw [e]
        have hr' : (r == 0) = false := by simpa using hr
        have hr1' : (r == 1) = false := by simpa using hr1
        clear e hr hr1
        go_enter Tryd.func78, Tryd.ntmps78
        go_wp2_with (go_at_call 46; refine (ro_any _ _ _).mono ?_; rintro e w2 ⟨rfl, rfl⟩)
        go_ret
        exact ⟨rfl, bt HB.out (ba _ _)⟩
  · have e : rb r n = ro r n := by simp [rb, hn]
    rw [e]
    have hn' : (n == 0) = false := by simpa using hn
    clear e hn
    go_enter Tryd.func78, Tryd.ntmps78
    go_wp2_with (go_at_call 46; refine (ro_any _ _ _).mono ?_; rintro e w2 ⟨rfl, rfl⟩)
    go_ret
    exact ⟨rfl, bt HB.out (ba _ _)⟩

set_option maxHeartbeats 1000000 in
theorem xrb_any (r n : Int) (w : World) :
    Calls Tryd.prog 64 #[idv r n] w fun e w' => e = .returned (.bool (rb r n)) ∧ Below w.heap.size w w' := by
  have HB := hid (ba w (ido 25 r n))
  obtain ⟨b, hb⟩ : ∃ b, rb r n = b := ⟨_, rfl⟩
  rw [hb]
  have HR := hid hb
  clear hb
  have hp := heap_alloc_new w (ido 25 r n)
  have k0 := fun o => ((ba (w.alloc (ido 25 r n)) o).cell (p := ⟨w.heap.size, 0, none⟩) (by simp)).trans (by rw [cell_of_row _ _ 0 _ _ _ hp]; rfl : _ = some (.int .i64 r))
  have k1 := fun o => ((ba (w.alloc (ido 25 r n)) o).cell (p := ⟨w.heap.size, 1, none⟩) (by simp)).trans (by rw [cell_of_row _ _ 1 _ _ _ hp]; rfl : _ = some (.int .i64 n))
  clear hp
  cases hro : ro r n
  · cases hn : (n == 0)
    all_goals cases hr : (r == 0)
    all_goals
      have HO := hid hro
      go_enter Tryd.func64, Tryd.ntmps64
      go_wp2_with (go_at_call 62; refine (xro_any _ _ _).mono ?_; rintro e w2 ⟨rfl, rfl⟩; rw [hro])
      go_ret
      refine ⟨retb ?_, bt HB.out (ba _ _)⟩
      rw [← HR.out]
      simp at hn hr
      unfold rb
      rw [HO.out]
      simp [hn, hr]
  · have HO := hid hro
    go_enter Tryd.func64, Tryd.ntmps64
    go_wp2_with (go_at_call 62; refine (xro_any _ _ _).mono ?_; rintro e w2 ⟨rfl, rfl⟩; rw [hro])
    go_ret
    refine ⟨retb ?_, bt HB.out (ba _ _)⟩
    rw [← HR.out]
    simp [rb, HO.out]

abbrev chv (r n i : Int) : Value := .agg #[.int .i64 r, .int .i64 n, .int .i64 i]

set_option maxHeartbeats 1000000 in
theorem rc_any (r n i : Int) (w : World) :
    Calls Tryd.prog 80 #[chv r n i] w fun e w' => e = .returned (.bool (rc r n i)) ∧ Below w.heap.size w w' := by
  have HB := hid (ba w (.cells #[.int .i64 r, .int .i64 n, .int .i64 i] 27))
  obtain ⟨b, hb⟩ : ∃ b, rc r n i = b := ⟨_, rfl⟩
  rw [hb]
  have HR := hid hb
  clear hb
  have hp := heap_alloc_new w (.cells #[.int .i64 r, .int .i64 n, .int .i64 i] 27)
  have k2 := fun o => ((ba (w.alloc (.cells #[.int .i64 r, .int .i64 n, .int .i64 i] 27)) o).cell (p := ⟨w.heap.size, 2, none⟩) (by simp)).trans (by rw [cell_of_row _ _ 2 _ _ _ hp]; rfl : _ = some (.int .i64 i))
  clear hp
  by_cases hz : r = 0 ∧ n = 0 ∧ i = 0
  · obtain ⟨rfl, rfl, rfl⟩ := hz
    go_enter Tryd.func80, Tryd.ntmps80
    go_wp2_with fail
    go_ret
    refine ⟨retb ?_, HB.out⟩
    rw [← HR.out]
    simp [rc]
  · have hz' : ((r == 0) = false) ∨ ((r == 0) = true ∧ (n == 0) = false) ∨ ((r == 0) = true ∧ (n == 0) = true ∧ (i == 0) = false) := by
      simp; omega
    have HZ := hid hz
    clear hz
    cases hro : ro r n
    all_goals cases hi : decide (0 ≤ i)
    all_goals rcases hz' with h1 | ⟨h1, h2⟩ | ⟨h1, h2, h3⟩
    all_goals
      have HO := hid hro
      go_enter Tryd.func80, Tryd.ntmps80
      go_wp2_with (go_at_call 46; refine (ro_any _ _ _).mono ?_; rintro e w2 ⟨rfl, rfl⟩; rw [hro])
      go_ret
      refine ⟨retb ?_, bt HB.out (ba _ _)⟩
      rw [← HR.out]
      simp [rc, HO.out, HZ.out]
      try (simp at hi; omega)

set_option maxHeartbeats 1000000 in
theorem xrc_any (r n i : Int) (w : World) :
    Calls Tryd.prog 66 #[chv r n i] w fun e w' => e = .returned (.bool (rc r n i)) ∧ Below w.heap.size w w' := by
  have HB := hid (ba w (.cells #[.int .i64 r, .int .i64 n, .int .i64 i] 27))
  obtain ⟨b, hb⟩ : ∃ b, rc r n i = b := ⟨_, rfl⟩
  rw [hb]
  have HR := hid hb
  clear hb
  have hp := heap_alloc_new w (.cells #[.int .i64 r, .int .i64 n, .int .i64 i] 27)
  have k2 := fun o => ((ba (w.alloc (.cells #[.int .i64 r, .int .i64 n, .int .i64 i] 27)) o).cell (p := ⟨w.heap.size, 2, none⟩) (by simp)).trans (by rw [cell_of_row _ _ 2 _ _ _ hp]; rfl : _ = some (.int .i64 i))
  clear hp
  by_cases hz : r = 0 ∧ n = 0 ∧ i = 0
  · obtain ⟨rfl, rfl, rfl⟩ := hz
    go_enter Tryd.func66, Tryd.ntmps66
    go_wp2_with fail
    go_ret
    refine ⟨retb ?_, HB.out⟩
    rw [← HR.out]
    simp [rc]
  · have hz' : ((r == 0) = false) ∨ ((r == 0) = true ∧ (n == 0) = false) ∨ ((r == 0) = true ∧ (n == 0) = true ∧ (i == 0) = false) := by
      simp; omega
    have HZ := hid hz
    clear hz
    cases hro : ro r n
    all_goals cases hi : decide (0 ≤ i)
    all_goals rcases hz' with h1 | ⟨h1, h2⟩ | ⟨h1, h2, h3⟩
    all_goals
      have HO := hid hro
      go_enter Tryd.func66, Tryd.ntmps66
      go_wp2_with (go_at_call 62; refine (xro_any _ _ _).mono ?_; rintro e w2 ⟨rfl, rfl⟩; rw [hro])
      go_ret
      refine ⟨retb ?_, bt HB.out (ba _ _)⟩
      rw [← HR.out]
      simp [rc, HO.out, HZ.out]
      try (simp at hi; omega)

theorem key_tx (s : ByteArray) (k : Nat) (h : s.size = k + 1) (h2 : s.size ≤ 32) (hk : k < s.size) : K.right (tx s) = (((s[k]).toNat : Int) != 0) := by
  unfold K.right K.lst
  rw [tx_length, h, Nat.add_sub_cancel, tx_getD hk, Bool.eq_iff_iff]
  simp only [decide_eq_true_eq, bne_iff_ne]
  constructor
  · intro h; exact h.2.2
  · intro h; exact ⟨by omega, by omega, h⟩
theorem key_no (s : ByteArray) (h : s.size < 1 ∨ 32 < s.size) : K.right (tx s) = false := by
  unfold K.right
  rw [tx_length]
  exact decide_eq_false (by omega)

theorem key_any (s : ByteArray) (w : World) (hs : s.size ≤ 1099511627776) : Calls Tryd.prog 79 #[.string s] w fun e w' => e = .returned (.bool (K.right (tx s))) ∧ w = w' := by
  by_cases h1 : s.size < 1
  · rw [key_no s (.inl h1)]
    have h1'' : s.size = 0 := by omega
    go_enter Tryd.func79, Tryd.ntmps79
    go_wp2
    go_ret
    exact ⟨rfl, rfl⟩
  · by_cases h2 : 32 < s.size
    · rw [key_no s (.inr h2)]
      have h1' : 1 ≤ s.size := by omega
      go_enter Tryd.func79, Tryd.ntmps79
      go_wp2
      go_ret
      exact ⟨rfl, rfl⟩
    · obtain ⟨k, hk⟩ : ∃ k, s.size = k + 1 := ⟨s.size - 1, by omega⟩
      have hks : k < s.size := by omega
      rw [key_tx s k hk (by omega) hks]
      have h1' : 1 ≤ s.size := by omega
      have h2' : s.size ≤ 32 := by omega
      go_enter Tryd.func79, Tryd.ntmps79
      go_wp2
      go_ret
      exact ⟨rfl, rfl⟩

theorem xkey_any (s : ByteArray) (w : World) (hs : s.size ≤ 1099511627776) : Calls Tryd.prog 65 #[.string s] w fun e w' => e = .returned (.bool (K.right (tx s))) ∧ w = w' := by
  by_cases h1 : s.size < 1
  · rw [key_no s (.inl h1)]
    have h1'' : s.size = 0 := by omega
    go_enter Tryd.func65, Tryd.ntmps65
    go_wp2
    go_ret
    exact ⟨rfl, rfl⟩
  · by_cases h2 : 32 < s.size
    · rw [key_no s (.inr h2)]
      have h1' : 1 ≤ s.size := by omega
      go_enter Tryd.func65, Tryd.ntmps65
      go_wp2
      go_ret
      exact ⟨rfl, rfl⟩
    · obtain ⟨k, hk⟩ : ∃ k, s.size = k + 1 := ⟨s.size - 1, by omega⟩
      have hks : k < s.size := by omega
      rw [key_tx s k hk (by omega) hks]
      have h1' : 1 ≤ s.size := by omega
      have h2' : s.size ≤ 32 := by omega
      go_enter Tryd.func65, Tryd.ntmps65
      go_wp2
      go_ret
      exact ⟨rfl, rfl⟩

end Go.Proofs.YtmgemgkanlpnnaaDoor
