/-
  That offshootlaw02.alive returns true is proved here. No condition.
-/
import Derived.Test.YtkbfkdgdommngaaCNext
import Derived.Test.YtkbfkdgdommngaaCFrameGo
import Derived.Test.YtkbfkdgdommngaaConv
import Derived.Lib.SlBytesConst
namespace Go.Proofs.Ytkbfkdgdommngaa
open Go.RowKit
set_option linter.unusedVariables false

theorem alive_frame : C.wh (C.frame [97, 98]) = 0 ∧ C.bd (C.frame [97, 98]) = [97, 98] ∧ C.wd (C.frame [97, 98]) = 2 ∧ C.sum [49, 50, 51, 52, 53, 54, 55, 56, 57] = 3421780262 := by decide +kernel

/-- A row of bytes that is a block by itself. -/
theorem Bs.block {w : World} {b e : Nat} {fr : Nat × Nat} (xs : List Int) (h : w.heap[b]? = some (.cells (cs xs).toArray e fr)) (hl : xs.length ≤ maxLen) (hr : ∀ x ∈ xs, 0 ≤ x ∧ x < 256) :
    Bs w (.slice (some ⟨b, 0, none⟩) xs.length xs.length) xs := by
  refine ⟨_, _, rfl, Nat.le_refl _, hl, (fun e => by cases e), fun i hi => ⟨b, 0, rfl, ?_⟩, hr⟩
  rw [Nat.zero_add, cell_of_row w b i _ e fr h]
  simp [hi]

set_option maxHeartbeats 1000000 in
theorem alive_any (w : World) : Calls Try.prog 8 #[] w fun e w' => e = .returned (.bool true) ∧ Below w.heap.size w w' := by
  go_enter Try.func8, Try.ntmps8
  go_wp2_with fail
  refine (frame_bs _ [] _ (Bs.nil _) (by decide)).mono ?_
  rintro e w1 ⟨va, rfl, hva, b1⟩
  have ha : ∃ a c, va = .slice a 8 c := by
    obtain ⟨a, c, e, _⟩ := hva
    exact ⟨a, c, e⟩
  obtain ⟨aa, ca, rfl⟩ := ha
  clear hva
  have kc := fun (w : World) (C : Array Value) (n c : Nat) => Lib.run_convert_bytes_const (P := Try.prog) w 22 5 C n c Try.underlying22 Try.underlying5
  go_wp2_with fail
  have b2 := ba w1 (.cells (cs [97, 98]).toArray 5 (2, 3))
  refine (frame_bs _ [97, 98] _ (Bs.block (e := 5) (fr := (2, 3)) [97, 98] (heap_alloc_new w1 _) (by decide) (by decide)) (by decide)).mono ?_
  rintro e w3 ⟨vb, rfl, hvb, b3⟩
  have b13 : Below w.heap.size w w3 := bt b1 (bt b2 b3)
  clear b1 b2 b3
  go_wp2_with fail
  refine (next_any vb (C.frame [97, 98]) 0 _ hvb (Nat.zero_le _) (by rw [C.frame_length]; decide)).mono ?_
  rintro e w4 ⟨vx, rfl, hvx, b4, _⟩
  have e1 : nxV (C.frame [97, 98]) 0 = [97, 98] := by rw [nxV, List.drop_zero, alive_frame.1, if_pos rfl, alive_frame.2.1]
  have e2 : nxP (C.frame [97, 98]) 0 = 10 := by rw [nxP, List.drop_zero, alive_frame.1, if_pos rfl, alive_frame.2.2.1]
  rw [e1] at hvx
  rw [e2, List.drop_zero, alive_frame.1]
  have b14 := bt b13 b4
  have hx : ∃ a c, vx = .slice a 2 c := by
    obtain ⟨a, c, e, _⟩ := hvx
    exact ⟨a, c, e⟩
  obtain ⟨ax, cx, rfl⟩ := hx
  have HX := hid hvx
  clear hvx b13 b4 hvb e1 e2
  go_wp2_with fail
  have b5 := ba w4 (.cells (cs [49, 50, 51, 52, 53, 54, 55, 56, 57]).toArray 5 (9, 10))
  refine (sum_any _ [49, 50, 51, 52, 53, 54, 55, 56, 57] _ (Bs.block (e := 5) (fr := (9, 10)) [49, 50, 51, 52, 53, 54, 55, 56, 57] (heap_alloc_new w4 _) (by decide) (by decide))).mono ?_
  rintro e w6 ⟨rfl, b6⟩
  rw [alive_frame.2.2.2]
  have hcv := conv_str (HX.out.below (bt b5 b6))
  have hst : M.str [97, 98] = ⟨#[97, 98]⟩ := rfl
  rw [hst] at hcv
  clear kc hst
  go_wp2
  go_ret
  exact ⟨rfl, bt b14 (bt b5 b6)⟩

end Go.Proofs.Ytkbfkdgdommngaa
