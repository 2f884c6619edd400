/-
  What crc.Next returns is proved here, for all slices that read as bytes, of at most 2^47 of them, and every place.
-/
import Derived.Test.YtkbfkdgdommngaaCFirst
import Derived.Test.YtkbfkdgdommngaaClone
namespace Go.Proofs.Ytkbfkdgdommngaa
open Go.RowKit
set_option linter.unusedVariables false

set_option maxHeartbeats 400000 in
theorem next_wrong (v : Value) (xs : List Int) (n : Int) (w : World) (h : Bs w v xs) (hn : n < 0 ∨ (xs.length : Int) < n) :
    Calls Try.prog 12 #[v, .int .i64 n] w fun e w' => e = .returned (.tuple #[.slice none 0 0, .int .i64 0, .int .i64 2]) ∧ w = w' := by
  have hl := h.len
  unfold maxLen at hl
  obtain ⟨a, c, rfl, _⟩ := h
  by_cases h0 : n < 0
  · clear hn
    go_enter Try.func12, Try.ntmps12
    go_wp2
    go_ret3
    exact ⟨rfl, rfl⟩
  · have h1 : (xs.length : Int) < n := by omega
    have h0' : decide (n < 0) = false := by simpa using h0
    clear hn
    go_enter Try.func12, Try.ntmps12
    go_wp2
    go_ret3
    exact ⟨rfl, rfl⟩

theorem ret3_eq {v : Value} {a b : Int} {k : Value} (h : a = b) : Ending.returned (.tuple #[v, .int .i64 a, k]) = .returned (.tuple #[v, .int .i64 b, k]) := by rw [h]

/-- What stands at a place within bytes: the bytes, the place behind. -/
def nxV (xs : List Int) (p : Nat) : List Int := if C.wh (xs.drop p) = 0 then C.bd (xs.drop p) else []
def nxP (xs : List Int) (p : Nat) : Nat := if C.wh (xs.drop p) = 0 then p + 8 + C.wd (xs.drop p) else p

theorem wh_0 {xs : List Int} (h : C.wh xs = 0) : 8 ≤ xs.length ∧ C.wd xs ≤ xs.length - 8 ∧ C.wd xs ≤ 65536 ∧ C.sum (C.bd xs) = C.wd (xs.drop 4) ∧ (C.bd xs).length = C.wd xs := by
  unfold C.wh at h
  split at h
  · simp at h
  · split at h
    · simp at h
    · split at h
      · simp at h
      · split at h
        · refine ⟨by omega, by omega, by omega, by assumption, ?_⟩
          rw [C.bd, List.length_take, List.length_drop]
          omega
        · simp at h

set_option maxHeartbeats 1000000 in
theorem next_any (v : Value) (xs : List Int) (p : Nat) (w : World) (h : Bs w v xs) (hp : p ≤ xs.length) (hl : xs.length ≤ 140737488355328) :
    Calls Try.prog 12 #[v, .int .i64 p] w fun e w' => ∃ v', e = .returned (.tuple #[v', .int .i64 (nxP xs p), .int .i64 (C.wh (xs.drop p) : Nat)]) ∧ Bs w' v' (nxV xs p) ∧ Below w.heap.size w w' ∧ Fresh w.heap.size v' := by
  have hB := hid h
  have hv : ∃ a c, v = .slice a xs.length c ∧ xs.length ≤ c := by
    obtain ⟨a, c, e, h2, _⟩ := h
    exact ⟨a, c, e, h2⟩
  obtain ⟨a, c, rfl, hlc⟩ := hv
  have hD := hid (Bs.drop h p hp)
  clear h
  have hpn : ¬ (xs.length : Int) < (p : Int) := by omega
  have hp0 : decide ((p : Int) < 0) = false := by simp
  have hpc : (p : Int) ≤ (c : Int) := by omega
  have hpl : (p : Int) ≤ (xs.length : Int) := by omega
  have hV := hid (show nxV xs p = if C.wh (xs.drop p) = 0 then C.bd (xs.drop p) else [] from rfl)
  have hP := hid (show nxP xs p = if C.wh (xs.drop p) = 0 then p + 8 + C.wd (xs.drop p) else p from rfl)
  have hW := hid (fun e => wh_0 (xs := xs.drop p) e)
  have hfit : (C.bd (xs.drop p)).length ≤ 140737488355328 := by
    rw [C.bd, List.length_take, List.length_drop, List.length_drop]; omega
  obtain ⟨W, hW'⟩ : ∃ W, C.wh (xs.drop p) = W := ⟨_, rfl⟩
  have hfirst := hid (fun (w' : World) (v : Value) (h' : Bs w' v (xs.drop p)) => cfirst_any v (xs.drop p) w' h')
  rw [hW'] at hV hP hW hfirst ⊢
  by_cases hcp : c = p
  · subst hcp
    have hxc : xs.length = c := by omega
    rw [if_pos rfl, hxc, Nat.sub_self] at hD
    rw [hxc] at hpn hpl hlc hl hp ⊢
    clear hxc
    go_enter Try.func12, Try.ntmps12
    go_wp2_with fail
    refine (hfirst.out _ _ hD.out).mono ?_
    rintro e w1 ⟨v1, rfl, hB1, b1⟩
    by_cases h0 : W = 0
    · subst h0
      rw [if_pos rfl] at hB1 hP hV
      have hW0 := hid (hW.out rfl)
      clear hfirst hD hB
      have hv1 : ∃ a1 c1, v1 = .slice a1 (C.bd (xs.drop c)).length c1 := by
        obtain ⟨a1, c1, e1, _⟩ := hB1
        exact ⟨a1, c1, e1⟩
      obtain ⟨a1, c1, rfl⟩ := hv1
      have HB1 := hid hB1
      clear hB1
      have hbl : (C.bd (xs.drop c)).length ≤ 65536 := by have := hW0.out; omega
      obtain ⟨m, hm⟩ : ∃ m, (C.bd (xs.drop c)).length = m := ⟨_, rfl⟩
      rw [hm] at hfit HB1 hbl ⊢
      have HM := hid hm
      clear hm
      go_wp2_with fail
      refine (clone_fresh _ _ _ HB1.out (by rw [HM.out]; exact hfit)).mono ?_
      rintro e w2 ⟨v2, rfl, hB2, b2, hf2⟩
      go_wp2
      go_ret3
      rw [hP.out, hV.out]
      refine ⟨_, ret3_eq ?_, hB2, bt b1 b2, fun x n c e => Nat.le_trans b1.size (hf2 x n c e)⟩
      have := hW0.out
      have := HM.out
      omega
    · rw [if_neg h0] at hB1 hP hV
      have h0' : ((W : Int) != 0) = true := by simp; omega
      clear h0 hfirst hD hB hW
      have HB1 := hid hB1
      clear hB1
      have hv1 : ∃ a1 n1 c1, v1 = .slice a1 n1 c1 := by
        obtain ⟨a1, c1, e1, _⟩ := HB1.out
        exact ⟨a1, _, c1, e1⟩
      obtain ⟨a1, n1, c1, rfl⟩ := hv1
      go_wp2
      go_ret3
      rw [hP.out, hV.out]
      exact ⟨_, rfl, Bs.nil _, b1, fun x n c e => by cases e⟩
  · rw [if_neg hcp] at hD
    go_enter Try.func12, Try.ntmps12
    go_wp2_with fail
    refine (hfirst.out _ _ hD.out).mono ?_
    rintro e w1 ⟨v1, rfl, hB1, b1⟩
    by_cases h0 : W = 0
    · subst h0
      rw [if_pos rfl] at hB1 hP hV
      have hW0 := hid (hW.out rfl)
      clear hfirst hD hB
      have hv1 : ∃ a1 c1, v1 = .slice a1 (C.bd (xs.drop p)).length c1 := by
        obtain ⟨a1, c1, e1, _⟩ := hB1
        exact ⟨a1, c1, e1⟩
      obtain ⟨a1, c1, rfl⟩ := hv1
      have HB1 := hid hB1
      clear hB1
      have hbl : (C.bd (xs.drop p)).length ≤ 65536 := by have := hW0.out; omega
      obtain ⟨m, hm⟩ : ∃ m, (C.bd (xs.drop p)).length = m := ⟨_, rfl⟩
      rw [hm] at hfit HB1 hbl ⊢
      have HM := hid hm
      clear hm
      go_wp2_with fail
      refine (clone_fresh _ _ _ HB1.out (by rw [HM.out]; exact hfit)).mono ?_
      rintro e w2 ⟨v2, rfl, hB2, b2, hf2⟩
      go_wp2
      go_ret3
      rw [hP.out, hV.out]
      refine ⟨_, ret3_eq ?_, hB2, bt b1 b2, fun x n c e => Nat.le_trans b1.size (hf2 x n c e)⟩
      have := hW0.out
      have := HM.out
      omega
    · rw [if_neg h0] at hB1 hP hV
      have h0' : ((W : Int) != 0) = true := by simp; omega
      clear h0 hfirst hD hB hW
      have HB1 := hid hB1
      clear hB1
      have hv1 : ∃ a1 n1 c1, v1 = .slice a1 n1 c1 := by
        obtain ⟨a1, c1, e1, _⟩ := HB1.out
        exact ⟨a1, _, c1, e1⟩
      obtain ⟨a1, n1, c1, rfl⟩ := hv1
      go_wp2
      go_ret3
      rw [hP.out, hV.out]
      exact ⟨_, rfl, Bs.nil _, b1, fun x n c e => by cases e⟩

end Go.Proofs.Ytkbfkdgdommngaa
