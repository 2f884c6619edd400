/-
  What OrderIds and the reference's Order of names answer is proved here, for all names.
-/
import Derived.Test.YtaojeanoojnknaaDoorRows
import Derived.Test.YtaojeanoojnknaaDoorPart4
import Derived.Test.YtaojeanoojnknaaDoorPart5
import Derived.Test.YtaojeanoojnknaaDoorPart6
import Derived.Deep.QuietTactic
import Derived.BigQuiet
import Derived.Deep.RegionWith
import Derived.StillTailTactics
namespace Go.Proofs.YtaojeanoojnknaaDoor
open Go.RowKit
set_option linter.unusedVariables false
set_option maxRecDepth 100000

/-- The order of pairs: by the first, then the second. -/
def od (a b c d : Int) : Int := if Lib.compareInt a c ≠ 0 then Lib.compareInt a c else Lib.compareInt b d

theorem reti {a b : Int} (h : a = b) : Ending.returned (.int .i64 a) = .returned (.int .i64 b) := by rw [h]

theorem row3 (w : World) (A B C : Obj) : (((w.alloc A).alloc B).alloc C).drew.heap[w.heap.size + 1 + 1]? = some C := by
  have e : ((w.alloc A).alloc B).heap.size = w.heap.size + 1 + 1 := by simp
  have h := heap_alloc_new ((w.alloc A).alloc B) C
  rw [e] at h
  exact h

/-- A slice of two numbers. -/
theorem or2_any (s : Nat) (x y : Int) (w : World) (h : w.heap[s]? = some (.cells #[.int .i64 x, .int .i64 y] 3 (0, 0))) :
    Calls Tryd.prog 69 #[.slice (some ⟨s, 0, none⟩) 2 2] w fun e w' => e = .returned (.int .i64 (if x ≠ 0 then x else y)) ∧ w = w' := by
  have c0 : w.cell? ⟨s, 0, none⟩ = some (.int .i64 x) := by rw [cell_of_row w s 0 _ _ _ h]; rfl
  have c1 : w.cell? ⟨s, 1, none⟩ = some (.int .i64 y) := by rw [cell_of_row w s 1 _ _ _ h]; rfl
  clear h
  cases hx : (x != 0)
  · have ex : x = 0 := by simpa using hx
    subst ex
    clear hx
    rw [if_neg (by simp)]
    cases hy : (y != 0)
    · have ey : y = 0 := by simpa using hy
      subst ey
      clear hy
      go_enter Tryd.func69, Tryd.ntmps69
      go_wp2
      refine wp_loop_rounds 3 ?_
      rw [rounds_succ]
      go_wp2
      rw [rounds_succ]
      go_wp2
      rw [rounds_succ]
      go_wp2
      go_ret
      exact ⟨rfl, rfl⟩
    · go_enter Tryd.func69, Tryd.ntmps69
      go_wp2
      refine wp_loop_rounds 2 ?_
      rw [rounds_succ]
      go_wp2
      rw [rounds_succ]
      go_wp2
      go_ret
      exact ⟨rfl, rfl⟩
  · have ex : ¬ x = 0 := by simpa using hx
    rw [if_pos ex]
    clear ex
    go_enter Tryd.func69, Tryd.ntmps69
    go_wp2
    refine wp_loop_rounds 1 ?_
    rw [rounds_succ]
    go_wp2
    go_ret
    exact ⟨rfl, rfl⟩

set_option maxHeartbeats 600000 in
set_option maxRecDepth 100000 in
theorem oi_world (a b c d : Int) (w : World) :
    Calls Tryd.prog 51 #[idv a b, idv c d] w fun e w' => e = .returned (.int .i64 (od a b c d)) ∧ ∃ x y, w' = (((w.alloc (ido 38 a b)).alloc (ido 38 c d)).alloc (ido 3 x y)).drew := by
  obtain ⟨x, hx⟩ : ∃ x, Lib.compareInt a c = x := ⟨_, rfl⟩
  obtain ⟨y, hy⟩ : ∃ y, Lib.compareInt b d = y := ⟨_, rfl⟩
  have hod : od a b c d = if x ≠ 0 then x else y := by unfold od; rw [hx, hy]
  rw [hod]
  have HX := hid (fun W => hx ▸ Tryd.cmp_Compare_int a c W)
  have HY := hid (fun W => hy ▸ Tryd.cmp_Compare_int b d W)
  have HO := hid (or2_any (w.heap.size + 1 + 1) x y ((((w.alloc (ido 38 a b)).alloc (ido 38 c d)).alloc (ido 3 x y)).drew) (row3 w _ _ _))
  obtain ⟨z, hz⟩ : ∃ z, (if x ≠ 0 then x else y) = z := ⟨_, rfl⟩
  rw [hz] at HO ⊢
  clear hx hy hod hz
  go_enter Tryd.func51, Tryd.ntmps51
  go_wp2_with fail
  refine wp_region_still_tail 10 (by kernel_rfl) (by kernel_rfl) ?_
  change wpStill _ _ (World.drew _) (fun a' => wpList _ _ _ _ a' (World.drew _)) _ _
  simp only [List.take_succ_cons, List.take_zero, List.drop_succ_cons, List.drop_zero]
  still_step
  still_step
  still_step
  still_step
  still_call (HX.out _)
  still_step
  still_step
  still_step
  still_step
  still_call (HY.out _)
  refine wpStill_nil ?_
  go_wp2_with (go_at_call 69; refine HO.out.mono ?_; rintro e w2 ⟨rfl, rfl⟩)
  go_ret
  exact ⟨rfl, x, y, rfl⟩
theorem cmp_zero {a b : Int} : Lib.compareInt a b = 0 ↔ a = b := by
  unfold Lib.compareInt
  split
  · simp; omega
  · split
    · simp; omega
    · simp; omega
set_option maxHeartbeats 1000000 in
theorem xoi_any (a b c d : Int) (w : World) :
    Calls Tryd.prog 35 #[idv a b, idv c d] w fun e w' => e = .returned (.int .i64 (od a b c d)) ∧ Below w.heap.size w w' := by
  have HB := hid (bt (ba w (ido 38 a b)) (ba _ (ido 38 c d)))
  obtain ⟨z, hz⟩ : ∃ z, od a b c d = z := ⟨_, rfl⟩
  rw [hz]
  have HZ := hid hz
  clear hz
  rcases (by omega : a < c ∨ a > c ∨ a = c) with h1 | h1 | h1
  · have n1 : (a != c) = true := by simp; omega
    go_enter Tryd.func35, Tryd.ntmps35
    go_wp2
    go_ret
    refine ⟨reti ?_, HB.out⟩
    rw [← HZ.out]; simp [od, Lib.compareInt, h1]
  · have n1 : (a != c) = true := by simp; omega
    have n2 : ¬ a < c := by omega
    go_enter Tryd.func35, Tryd.ntmps35
    go_wp2
    go_ret
    refine ⟨reti ?_, HB.out⟩
    rw [← HZ.out]
    unfold od Lib.compareInt
    rw [if_neg (by omega : ¬ a < c), if_pos (by omega : a > c)]; simp
  · subst h1
    rcases (by omega : b < d ∨ b > d ∨ b = d) with h2 | h2 | h2
    · have n1 : (b != d) = true := by simp; omega
      go_enter Tryd.func35, Tryd.ntmps35
      go_wp2
      go_ret
      refine ⟨reti ?_, HB.out⟩
      rw [← HZ.out]; simp [od, Lib.compareInt, h2]
    · have n1 : (b != d) = true := by simp; omega
      have n2 : ¬ b < d := by omega
      go_enter Tryd.func35, Tryd.ntmps35
      go_wp2
      go_ret
      refine ⟨reti ?_, HB.out⟩
      rw [← HZ.out]
      unfold od
      rw [cmp_zero.2 rfl]
      unfold Lib.compareInt
      rw [if_neg (by omega : ¬ b < d), if_pos (by omega : b > d)]; simp
    · subst h2
      go_enter Tryd.func35, Tryd.ntmps35
      go_wp2
      go_ret
      refine ⟨reti ?_, HB.out⟩
      rw [← HZ.out]; simp [od, Lib.compareInt]

end Go.Proofs.YtaojeanoojnknaaDoor
