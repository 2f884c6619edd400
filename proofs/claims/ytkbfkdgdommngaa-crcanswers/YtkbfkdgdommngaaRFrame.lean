/-
  What the reference's four and Frame, and offshootref00.CopyBytes, return is proved here, for all slices that read as bytes (of at most 2^47, to be copied).
-/
import Derived.Test.YtkbfkdgdommngaaRSum
import Derived.Test.YtkbfkdgdommngaaAppend
namespace Go.Proofs.Ytkbfkdgdommngaa
open Go.RowKit
set_option linter.unusedVariables false

set_option maxHeartbeats 400000 in
theorem four_any (n : Nat) (w : World) (hn : n < 4294967296) :
    Calls Try.prog 22 #[.int .i64 n] w fun e w' => ∃ v, e = .returned v ∧ w'.ownsRow w.heap.size 5 1 v 4 (cs (C.le n)) ∧ Below w.heap.size w w' := by
  go_enter Try.func22, Try.ntmps22
  go_wp2
  go_ret
  refine ⟨_, rfl, ?_, ba w _⟩
  have h := World.ownsRow_lit (base := w.heap.size) (e := 5) (size := 1) w (cs (C.le n)).toArray 4 (Nat.le_refl _) (by decide) (by simp [C.le])
  simpa [C.le, cs] using h

set_option maxHeartbeats 400000 in
theorem copy_any (v : Value) (xs : List Int) (w : World) (h : Bs w v xs) (hl : xs.length ≤ 140737488355328) :
    Calls Try.prog 10 #[v] w fun e w' => ∃ v', e = .returned v' ∧ Bs w' v' xs ∧ Below w.heap.size w w' := by
  have hB := hid h
  have hv : ∃ a c, v = .slice a xs.length c := by
    obtain ⟨a, c, e, _⟩ := h
    exact ⟨a, c, e⟩
  obtain ⟨a, c, rfl⟩ := hv
  clear h
  have hb := ba w (.cells #[] 5)
  have hown0 : (w.alloc (.cells #[] 5)).ownsRow w.heap.size 5 1 (.slice (some ⟨w.heap.size, 0, none⟩) 0 0) 0 (cs []) := World.ownsRow_made w #[] 0 (Nat.le_refl _) (Nat.zero_le _) rfl
  go_enter Try.func10, Try.ntmps10
  go_wp2_with (at_builtin; refine wpList_append_bs rfl (.tmp 5) (.tmp 6) rfl w.heap.size _ _ [] rfl hown0 _ xs rfl (hB.out.below hb) (by omega) hb.size ?_; intro v' w3 hown3 hgrow hat)
  go_ret
  refine ⟨_, rfl, Bs.of_own (by simpa using hown3) hB.out.range, hb.grown hgrow hb.size (fun k hk => (hown0.lt k hk).1)⟩

set_option maxHeartbeats 400000 in
theorem refframe_bs (v : Value) (xs : List Int) (w : World) (h : Bs w v xs) (hl : xs.length ≤ 65536) :
    Calls Try.prog 11 #[v] w fun e w' => ∃ v', e = .returned (.tuple #[v', .bool true]) ∧ Bs w' v' (C.frame xs) ∧ Below w.heap.size w w' := by
  have hB := hid h
  have hr := hid h.range
  have hv : ∃ a c, v = .slice a xs.length c := by
    obtain ⟨a, c, e, _⟩ := h
    exact ⟨a, c, e⟩
  obtain ⟨a, c, rfl⟩ := hv
  clear h
  have hs := C.sum_lt hr.out
  have HF := hid (show C.frame xs = C.le xs.length ++ C.le (C.sum xs) ++ xs by rw [C.frame, List.append_assoc])
  obtain ⟨n, hn⟩ : ∃ n, xs.length = n := ⟨_, rfl⟩
  rw [hn] at hl hB HF ⊢
  have HN := hid hn
  clear hn
  have hl' : ¬ (65536 : Int) < (n : Int) := by omega
  go_enter Try.func11, Try.ntmps11
  go_wp2_with fail
  refine (four_any n _ (by omega)).mono ?_
  rintro e w1 ⟨v1, rfl, hown1, b1⟩
  go_wp2_with fail
  refine (refsum_any _ xs _ (hB.out.below b1)).mono ?_
  rintro e w1' ⟨rfl, rfl⟩
  go_wp2_with fail
  refine (four_any (C.sum xs) _ hs).mono ?_
  rintro e w2 ⟨v2, rfl, hown2, b2⟩
  have hown1' := own_below hown1 b2
  have b12 := bt b1 b2
  have hv2 := Bs.of_own hown2 (C.le_bytes _)
  obtain ⟨a1, c1, rfl, _⟩ := own_form hown1
  obtain ⟨a2, c2, rfl, _⟩ := own_form hown2
  have HV2 := hid hv2
  clear hown1 hown2 hv2 b1 b2
  go_wp2_with (at_builtin; first
    | (refine wpList_append_bs rfl (.tmp 10) (.tmp 13) rfl w.heap.size _ _ (C.le n) rfl hown1' _ (C.le (C.sum xs)) rfl HV2.out (by rw [C.le_length]; omega) b12.size ?_; intro v3 w3 hown3 hgrow3 hat3; rw [C.le_length] at hown3; obtain ⟨a3, c3, rfl, _⟩ := own_form hown3; have b13 : Below w.heap.size w w3 := b12.grown hgrow3 b12.size (fun k hk => (hown1'.lt k hk).1); have hB3 := hid (hB.out.below b13))
    | (refine wpList_append_bs rfl (.tmp 15) (.tmp 16) rfl w.heap.size _ _ _ rfl hown3 _ xs rfl hB3.out (by rw [HN.out]; omega) b13.size ?_; intro v4 w4 hown4 hgrow4 hat4))
  go_ret2
  refine ⟨_, rfl, ?_, b13.grown hgrow4 b13.size (fun k hk => (hown3.lt k hk).1)⟩
  rw [HF.out]
  exact Bs.of_own hown4 (by rw [← HF.out]; exact C.frame_bytes hr.out)

end Go.Proofs.Ytkbfkdgdommngaa
