/-
  What the reference's Sum and number return is proved here, for all slices that read as bytes.
-/
import Derived.Test.YtkbfkdgdommngaaCSum
import Derived.Deep.QuietTactic
import Derived.BigQuiet
namespace Go.Proofs.Ytkbfkdgdommngaa
open Go.RowKit
set_option linter.unusedVariables false

theorem step_odd {s : Nat} (h : s % 2 = 1) (hs : s < 4294967296) : bits .xor .i64 ((s : Int) / 2) 3988292384 = ((C.step s : Nat) : Int) := by
  have := xor_i64 (s / 2) 3988292384 (by omega) (by decide)
  rw [show C.step s = (s / 2) ^^^ 3988292384 by unfold C.step; rw [if_pos h]]
  rw [← this]
  rfl
theorem step_even' {s : Nat} (h : ¬ s % 2 = 1) : ((s : Int) / 2) = ((C.step s : Nat) : Int) := by
  rw [show C.step s = s / 2 by unfold C.step; rw [if_neg h]]
  rfl

set_option maxHeartbeats 1000000 in
theorem refsum_any (v : Value) (xs : List Int) (w : World) (h : Bs w v xs) :
    Calls Try.prog 17 #[v] w fun e w' => e = .returned (.int .i64 (C.sum xs : Nat)) ∧ w = w' := by
  have hr : C.Bytes xs := h.range
  have hl := h.len
  unfold maxLen at hl
  have hB := hid h
  have hv : ∃ a c, v = .slice a xs.length c := by
    obtain ⟨a, c, e, _⟩ := h
    exact ⟨a, c, e⟩
  obtain ⟨a, c, rfl⟩ := hv
  clear h
  have HR := hid hr
  clear hr
  obtain ⟨n, hn⟩ : ∃ n, xs.length = n := ⟨_, rfl⟩
  rw [hn] at hl hB ⊢
  have HN := hid hn
  clear hn
  go_enter Try.func17, Try.ntmps17
  go_wp2
  go_loop [3, 4] (fun s i => ∃ k : Nat, k ≤ n ∧ i = .int .i64 k ∧ s = .int .i64 (C.run 4294967295 (xs.take k) : Nat)) (fun _ i => n - (intOf i).toNat)
  case atStart => exact ⟨0, Nat.zero_le _, rfl, rfl⟩
  case round =>
    obtain ⟨k, hk, rfl, rfl⟩ := hrel
    have hN := C.run_lt (n := 4294967295) (l := xs.take k) (by decide) (C.Bytes.take HR.out k)
    by_cases hlt : k < n
    · have hlt' : (k : Int) < (n : Int) := by omega
      have hst := run_take_succ (xs := xs) (k := k) (by rw [HN.out]; exact hlt) 4294967295
      have hx := C.getD_byte HR.out k
      obtain ⟨b, off, c', e1, _, _, hc⟩ := hB.out.inv (by rw [HN.out]; omega)
      simp only [Value.slice.injEq] at e1
      obtain ⟨rfl, -, rfl⟩ := e1
      have hck := hc k (by rw [HN.out]; exact hlt)
      clear hc
      obtain ⟨N, hN'⟩ : ∃ N, C.run 4294967295 (xs.take k) = N := ⟨_, rfl⟩
      rw [hN'] at hN hst ⊢
      obtain ⟨x, hx'⟩ : ∃ x, xs.getD k 0 = x := ⟨_, rfl⟩
      rw [hx'] at hx hst hck
      obtain ⟨y, rfl⟩ := Int.eq_ofNat_of_zero_le hx.1
      have hy : y < 256 := by omega
      have hxor := xor_i64 N y hN (by omega)
      have hM := C.xor_lt hN (show y < 4294967296 by omega)
      obtain ⟨M, hM'⟩ : ∃ M, N ^^^ y = M := ⟨_, rfl⟩
      rw [hM'] at hxor hM
      have HST := hid hst
      have HM := hid hM'
      clear hst hM' hN' hx' hx
      go_wp2
      go_loop [3, 5] (fun s j => ∃ m : Nat, m ≤ 8 ∧ j = .int .i64 m ∧ s = .int .i64 (C.steps m M : Nat)) (fun _ j => 8 - (intOf j).toNat)
      case atStart => exact ⟨0, by omega, rfl, rfl⟩
      case round =>
        obtain ⟨m, hm, rfl, rfl⟩ := hrel
        have hs := C.steps_lt m hM
        have hsn := C.steps_snoc m M
        obtain ⟨s, hs'⟩ : ∃ s, C.steps m M = s := ⟨_, rfl⟩
        rw [hs'] at hs hsn ⊢
        by_cases hm8 : m < 8
        · have hm8' : (m : Int) < 8 := by omega
          have HS := hid hsn
          clear hsn hs'
          by_cases ho : s % 2 = 1
          · have ho' : ((s : Int) % 2 == 1) = true := by simp; omega
            have hx2 := step_odd ho hs
            clear ho
            go_wp2
            go_round
            case rel => exact ⟨m + 1, by omega, by go_num, by rw [HS.out]⟩
            case measure => simp [intOf]; omega
          · have ho' : ((s : Int) % 2 == 1) = false := by simp; omega
            have hx2 := hid (step_even' ho)
            clear ho
            go_wp2
            go_round
            case rel => exact ⟨m + 1, by omega, by go_num, by rw [HS.out, ← hx2.out]⟩
            case measure => simp [intOf]; omega
        · obtain rfl : m = 8 := by omega
          have HS := hid hs'
          clear hs' hsn
          go_wp2
          go_round
          case rel => exact ⟨k + 1, by omega, by go_num, by rw [HST.out, ← HS.out, C.eat, Int.toNat_natCast, HM.out]⟩
          case measure => simp [intOf]; omega
    · obtain rfl : k = n := by omega
      have hs : C.sum xs = C.run 4294967295 (xs.take k) ^^^ 4294967295 := by
        rw [List.take_of_length_le (by rw [HN.out]; exact Nat.le_refl _)]; rfl
      obtain ⟨N, hN'⟩ : ∃ N, C.run 4294967295 (xs.take k) = N := ⟨_, rfl⟩
      rw [hN'] at hN hs ⊢
      have hx := xor_i64 N 4294967295 hN (by decide)
      rw [← hs] at hx
      have hx2 : bits .xor .i64 (N : Int) 4294967295 = ((C.sum xs : Nat) : Int) := hx
      clear hN' hs hx
      go_wp2
      go_ret
      exact ⟨rfl, rfl⟩

set_option maxHeartbeats 1000000 in
theorem number_any (v : Value) (xs : List Int) (w : World) (h : Bs w v xs) (h4 : 4 ≤ xs.length) :
    Calls Try.prog 25 #[v] w fun e w' => e = .returned (.int .i64 (C.wi xs)) ∧ ∃ n, w' = w.drewN n := by
  have hr : C.Bytes xs := h.range
  have hl := h.len
  unfold maxLen at hl
  obtain ⟨b, off, c, rfl, _, _, hc⟩ := h.inv (by omega)
  have g0 := hc 0 (by omega)
  rw [Nat.add_zero] at g0
  have g1 := hc 1 (by omega)
  have g2 := hc 2 (by omega)
  have g3 := hc 3 (by omega)
  have r0 := C.getD_byte hr 0
  have r1 := C.getD_byte hr 1
  have r2 := C.getD_byte hr 2
  have r3 := C.getD_byte hr 3
  have hw := hid (show C.wi xs = xs.getD 0 0 + 256 * xs.getD 1 0 + 65536 * xs.getD 2 0 + 16777216 * xs.getD 3 0 from rfl)
  obtain ⟨x0, e0⟩ : ∃ x, xs.getD 0 0 = x := ⟨_, rfl⟩
  obtain ⟨x1, e1⟩ : ∃ x, xs.getD 1 0 = x := ⟨_, rfl⟩
  obtain ⟨x2, e2⟩ : ∃ x, xs.getD 2 0 = x := ⟨_, rfl⟩
  obtain ⟨x3, e3⟩ : ∃ x, xs.getD 3 0 = x := ⟨_, rfl⟩
  rw [e0] at g0 r0
  rw [e1] at g1 r1
  rw [e2] at g2 r2
  rw [e3] at g3 r3
  rw [e0, e1, e2, e3] at hw
  clear e0 e1 e2 e3 hc h hr
  obtain ⟨n, hn⟩ : ∃ n, xs.length = n := ⟨_, rfl⟩
  rw [hn] at hl h4 ⊢
  clear hn
  obtain ⟨r00, r01⟩ := r0
  obtain ⟨r10, r11⟩ := r1
  obtain ⟨r20, r21⟩ := r2
  obtain ⟨r30, r31⟩ := r3
  have l0 : (0 : Int) < (n : Int) := by omega
  have l0n : 0 < n := by omega
  have l1 : (1 : Int) < (n : Int) := by omega
  have l2 : (2 : Int) < (n : Int) := by omega
  have l3 : (3 : Int) < (n : Int) := by omega
  rw [hw.out]
  go_enter Try.func25, Try.ntmps25
  go_wp2
  go_quiet (fail)
  go_wp2
  go_ret
  exact ⟨rfl, _, rfl⟩

end Go.Proofs.Ytkbfkdgdommngaa
