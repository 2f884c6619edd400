/-
  What RightBlock and RightChar answer is proved here, of the program and of the reference, for all names and characters.
-/
import Derived.Test.YtbcodkokacpioaaDoorSLay
import Derived.Test.YtbcodkokacpioaaDoorSRes
namespace Go.Proofs.YtbcodkokacpioaaDoor
open Go.RowKit
set_option linter.unusedVariables false

/-- A block's name; a character. -/
def rb (r n : Int) : Bool := decide (n = 0 ∧ (r = 0 ∨ r = 1)) || ro r n
def rc (r n i : Int) : Bool := decide (r = 0 ∧ n = 0 ∧ i = 0) || (ro r n && decide (0 ≤ i ∧ i < 64))

set_option maxHeartbeats 1000000 in
theorem rb_any (r n : Int) (w : World) (hL : Lay w) :
    Calls Tryd.prog 12 #[idv r n] w fun e w' => e = .returned (.bool (rb r n)) ∧ Below w.heap.size w w' := by
  have HB := hid (ba w (ido 23 r n))
  have r0 := fun o => ((ba w o).cell (p := ⟨1, 0, none⟩) (World.block_lt_of_cell? _ _ hL.r0)).trans hL.r0
  have r1 := fun o => ((ba w o).cell (p := ⟨1, 1, none⟩) (World.block_lt_of_cell? _ _ hL.r1)).trans hL.r1
  have t0 := fun o => ((ba w o).cell (p := ⟨0, 0, none⟩) (World.block_lt_of_cell? _ _ hL.t0)).trans hL.t0
  have t1 := fun o => ((ba w o).cell (p := ⟨0, 1, none⟩) (World.block_lt_of_cell? _ _ hL.t1)).trans hL.t1
  clear hL
  by_cases hn : n = 0
  · subst hn
    by_cases hr : r = 0
    · subst hr
      rw [show rb 0 0 = true by decide]
      go_enter Tryd.func12, Tryd.ntmps12
      go_wp2_with fail
      go_ret
      exact ⟨rfl, HB.out⟩
    · by_cases hr1 : r = 1
      · subst hr1
        rw [show rb 1 0 = true by decide]
        go_enter Tryd.func12, Tryd.ntmps12
        go_wp2_with fail
        go_ret
        exact ⟨rfl, HB.out⟩
      · have e : rb r 0 = ro r 0 := by simp [rb, hr, hr1]
        rw [e]
        have hr' : (r == 0) = false := by simpa using hr
        have hr1' : (r == 1) = false := by simpa using hr1
        clear e hr hr1
        go_enter Tryd.func12, Tryd.ntmps12
        go_wp2_with (go_at_call 10; refine (ro_any _ _ _).mono ?_; rintro e w2 ⟨rfl, rfl⟩)
        go_ret
        exact ⟨rfl, bt HB.out (ba _ _)⟩
  · have e : rb r n = ro r n := by simp [rb, hn]
    rw [e]
    have hn' : (n == 0) = false := by simpa using hn
    clear e hn
    go_enter Tryd.func12, Tryd.ntmps12
    go_wp2_with (go_at_call 10; refine (ro_any _ _ _).mono ?_; rintro e w2 ⟨rfl, rfl⟩)
    go_ret
    exact ⟨rfl, bt HB.out (ba _ _)⟩

set_option maxHeartbeats 1000000 in
theorem xrb_any (r n : Int) (w : World) :
    Calls Tryd.prog 13 #[idv r n] w fun e w' => e = .returned (.bool (rb r n)) ∧ Below w.heap.size w w' := by
  have HB := hid (ba w (ido 23 r n))
  obtain ⟨b, hb⟩ : ∃ b, rb r n = b := ⟨_, rfl⟩
  rw [hb]
  have HR := hid hb
  clear hb
  have hp := Pr.new 23 w r n
  have k0 := fun o => ((ba (w.alloc (ido 23 r n)) o).cell (p := ⟨w.heap.size, 0, none⟩) hp.lt).trans hp.c0
  have k1 := fun o => ((ba (w.alloc (ido 23 r n)) o).cell (p := ⟨w.heap.size, 1, none⟩) hp.lt).trans hp.c1
  clear hp
  cases hro : ro r n
  · cases hn : (n == 0)
    all_goals cases hr : (r == 0)
    all_goals
      have HO := hid hro
      go_enter Tryd.func13, Tryd.ntmps13
      go_wp2_with (go_at_call 11; refine (xro_any _ _ _).mono ?_; rintro e w2 ⟨rfl, rfl⟩; rw [hro])
      go_ret
      refine ⟨retb ?_, bt HB.out (ba _ _)⟩
      rw [← HR.out]
      simp at hn hr
      unfold rb
      rw [HO.out]
      simp [hn, hr]
  · have HO := hid hro
    go_enter Tryd.func13, Tryd.ntmps13
    go_wp2_with (go_at_call 11; refine (xro_any _ _ _).mono ?_; rintro e w2 ⟨rfl, rfl⟩; rw [hro])
    go_ret
    refine ⟨retb ?_, bt HB.out (ba _ _)⟩
    rw [← HR.out]
    simp [rb, HO.out]

abbrev chv (r n i : Int) : Value := .agg #[.int .i64 r, .int .i64 n, .int .i64 i]

set_option maxHeartbeats 1000000 in
theorem rc_any (r n i : Int) (w : World) :
    Calls Tryd.prog 16 #[chv r n i] w fun e w' => e = .returned (.bool (rc r n i)) ∧ Below w.heap.size w w' := by
  have HB := hid (ba w (.cells #[.int .i64 r, .int .i64 n, .int .i64 i] 27))
  obtain ⟨b, hb⟩ : ∃ b, rc r n i = b := ⟨_, rfl⟩
  rw [hb]
  have HR := hid hb
  clear hb
  have hp := heap_alloc_new w (.cells #[.int .i64 r, .int .i64 n, .int .i64 i] 27)
  have k2 := fun o => ((ba (w.alloc (.cells #[.int .i64 r, .int .i64 n, .int .i64 i] 27)) o).cell (p := ⟨w.heap.size, 2, none⟩) (by simp)).trans (by rw [cell_of_row _ _ 2 _ _ _ hp]; rfl : _ = some (.int .i64 i))
  clear hp
  by_cases hz : r = 0 ∧ n = 0 ∧ i = 0
  · obtain ⟨rfl, rfl, rfl⟩ := hz
    go_enter Tryd.func16, Tryd.ntmps16
    go_wp2_with fail
    go_ret
    refine ⟨retb ?_, HB.out⟩
    rw [← HR.out]
    simp [rc]
  · have hz' : ((r == 0) = false) ∨ ((r == 0) = true ∧ (n == 0) = false) ∨ ((r == 0) = true ∧ (n == 0) = true ∧ (i == 0) = false) := by
      simp; omega
    have HZ := hid hz
    clear hz
    cases hro : ro r n
    all_goals cases hi : decide (0 ≤ i)
    all_goals rcases hz' with h1 | ⟨h1, h2⟩ | ⟨h1, h2, h3⟩
    all_goals
      have HO := hid hro
      go_enter Tryd.func16, Tryd.ntmps16
      go_wp2_with (go_at_call 10; refine (ro_any _ _ _).mono ?_; rintro e w2 ⟨rfl, rfl⟩; rw [hro])
      go_ret
      refine ⟨retb ?_, bt HB.out (ba _ _)⟩
      rw [← HR.out]
      simp [rc, HO.out, HZ.out]
      try (simp at hi; omega)

set_option maxHeartbeats 1000000 in
theorem xrc_any (r n i : Int) (w : World) :
    Calls Tryd.prog 17 #[chv r n i] w fun e w' => e = .returned (.bool (rc r n i)) ∧ Below w.heap.size w w' := by
  have HB := hid (ba w (.cells #[.int .i64 r, .int .i64 n, .int .i64 i] 27))
  obtain ⟨b, hb⟩ : ∃ b, rc r n i = b := ⟨_, rfl⟩
  rw [hb]
  have HR := hid hb
  clear hb
  have hp := heap_alloc_new w (.cells #[.int .i64 r, .int .i64 n, .int .i64 i] 27)
  have k2 := fun o => ((ba (w.alloc (.cells #[.int .i64 r, .int .i64 n, .int .i64 i] 27)) o).cell (p := ⟨w.heap.size, 2, none⟩) (by simp)).trans (by rw [cell_of_row _ _ 2 _ _ _ hp]; rfl : _ = some (.int .i64 i))
  clear hp
  by_cases hz : r = 0 ∧ n = 0 ∧ i = 0
  · obtain ⟨rfl, rfl, rfl⟩ := hz
    go_enter Tryd.func17, Tryd.ntmps17
    go_wp2_with fail
    go_ret
    refine ⟨retb ?_, HB.out⟩
    rw [← HR.out]
    simp [rc]
  · have hz' : ((r == 0) = false) ∨ ((r == 0) = true ∧ (n == 0) = false) ∨ ((r == 0) = true ∧ (n == 0) = true ∧ (i == 0) = false) := by
      simp; omega
    have HZ := hid hz
    clear hz
    cases hro : ro r n
    all_goals cases hi : decide (0 ≤ i)
    all_goals rcases hz' with h1 | ⟨h1, h2⟩ | ⟨h1, h2, h3⟩
    all_goals
      have HO := hid hro
      go_enter Tryd.func17, Tryd.ntmps17
      go_wp2_with (go_at_call 11; refine (xro_any _ _ _).mono ?_; rintro e w2 ⟨rfl, rfl⟩; rw [hro])
      go_ret
      refine ⟨retb ?_, bt HB.out (ba _ _)⟩
      rw [← HR.out]
      simp [rc, HO.out, HZ.out]
      try (simp at hi; omega)

end Go.Proofs.YtbcodkokacpioaaDoor
