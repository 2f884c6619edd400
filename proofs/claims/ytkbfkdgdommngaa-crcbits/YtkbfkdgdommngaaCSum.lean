/-
  What crc.Sum returns is proved here, for all slices that read as bytes: their sum.
-/
import Derived.Test.YtkbfkdgdommngaaCFours
import Derived.Test.YtkbfkdgdommngaaCFrame
namespace Go.Proofs.Ytkbfkdgdommngaa
open Go.RowKit
set_option linter.unusedVariables false

theorem run_take_succ {xs : List Int} {k : Nat} (h : k < xs.length) (n : Nat) : C.run n (xs.take (k + 1)) = C.eat (C.run n (xs.take k)) (xs.getD k 0) := by
  rw [List.take_succ_eq_append_getElem h, C.run_snoc]
  congr 1
  simp [List.getD, h]

theorem quad (n r : Nat) (hn : n < 4294967296) (hr : n % 16 = r) : bits .xor .u32 ((n : Int) / 16) ((C.steps 4 r : Nat) : Int) = ((C.steps 4 n : Nat) : Int) := by
  subst hr
  have h := xor_u32 (n / 16) (C.steps 4 (n % 16)) (by omega) (C.steps_lt 4 (by omega))
  rw [C.nibble] at h
  rw [← h]
  rfl

theorem wrap64_nat {n : Nat} (h : n < 4294967296) : wrap64 (n : Int) = (n : Int) := by unfold wrap64; omega

set_option maxHeartbeats 1000000 in
theorem sum_any (v : Value) (xs : List Int) (w : World) (h : Bs w v xs) :
    Calls Try.prog 16 #[v] w fun e w' => e = .returned (.int .i64 (C.sum xs : Nat)) ∧ Below w.heap.size w w' := by
  have hr : C.Bytes xs := h.range
  have hl := h.len
  unfold maxLen at hl
  have hB := hid h
  have hv : ∃ a c, v = .slice a xs.length c := by
    obtain ⟨a, c, e, _⟩ := h
    exact ⟨a, c, e⟩
  obtain ⟨a, c, rfl⟩ := hv
  clear h
  have HR := hid hr
  clear hr
  go_enter Try.func16, Try.ntmps16
  go_wp2_with fail
  refine (fours_any _).mono ?_
  rintro e w1 ⟨rfl, b1⟩
  rw [tabA_16]
  go_wp2
  rw [← tabA_16]
  have b2 := ba w1 (.cells (tabA 16) 46)
  have hB2 := hid (hB.out.below (bt b1 b2))
  obtain ⟨n, hn⟩ : ∃ n, xs.length = n := ⟨_, rfl⟩
  rw [hn] at hl hB2 ⊢
  have HN := hid hn
  clear hn hB
  go_loop [4, 10] (fun s i => ∃ k : Nat, k ≤ n ∧ i = .int .i64 k ∧ s = .int .u32 (C.run 4294967295 (xs.take k) : Nat)) (fun _ i => n - (intOf i).toNat)
  case atStart => exact ⟨0, Nat.zero_le _, rfl, rfl⟩
  case round =>
    obtain ⟨k, hk, rfl, rfl⟩ := hrel
    have hN := C.run_lt (n := 4294967295) (l := xs.take k) (by decide) (C.Bytes.take HR.out k)
    by_cases hlt : k < n
    · have hlt' : (k : Int) < (n : Int) := by omega
      have hst := run_take_succ (xs := xs) (k := k) (by rw [HN.out]; exact hlt) 4294967295
      have hx := C.getD_byte HR.out k
      obtain ⟨b, off, c', e1, _, _, hc⟩ := hB2.out.inv (by rw [HN.out]; omega)
      simp only [Value.slice.injEq] at e1
      obtain ⟨rfl, -, rfl⟩ := e1
      have hck := hc k (by rw [HN.out]; exact hlt)
      clear hc
      obtain ⟨N, hN'⟩ : ∃ N, C.run 4294967295 (xs.take k) = N := ⟨_, rfl⟩
      rw [hN'] at hN hst ⊢
      obtain ⟨x, hx'⟩ : ∃ x, xs.getD k 0 = x := ⟨_, rfl⟩
      rw [hx'] at hx hst hck
      obtain ⟨y, rfl⟩ := Int.eq_ofNat_of_zero_le hx.1
      have hy : y < 256 := by omega
      have hxor := xor_u32 N y hN (by omega)
      have hM := C.xor_lt hN (show y < 4294967296 by omega)
      obtain ⟨M, hM'⟩ : ∃ M, N ^^^ y = M := ⟨_, rfl⟩
      rw [hM'] at hxor hM
      have HST := hid hst
      have HM := hid hM'
      clear hst hM' hN' hx' hx
      go_wp2
      go_loop [4, 18] (fun s j => ∃ m : Nat, m ≤ 2 ∧ j = .int .i64 m ∧ s = .int .u32 (C.steps (4 * m) M : Nat)) (fun _ j => 2 - (intOf j).toNat)
      case atStart => exact ⟨0, by omega, rfl, rfl⟩
      case round =>
        obtain ⟨m, hm, rfl, rfl⟩ := hrel
        have hs := C.steps_lt (4 * m) hM
        have hsn := C.steps_add (4 * m) 4 M
        obtain ⟨s, hs'⟩ : ∃ s, C.steps (4 * m) M = s := ⟨_, rfl⟩
        rw [hs'] at hs hsn ⊢
        by_cases hm2 : m < 2
        · have hm2' : (m : Int) < 2 := by omega
          have HS := hid hsn
          clear hsn hs'
          have hand := and15_u32 s hs
          obtain ⟨r, hr⟩ : ∃ r, s % 16 = r := ⟨_, rfl⟩
          rw [hr] at hand
          have hr16 : r < 16 := by omega
          have hq := quad s r hs hr
          have ht := tabA_at 16 r hr16
          rw [if_pos hr16] at ht
          have hr16' : (r : Int) < 16 := by omega
          clear hr
          go_wp2
          go_round
          case rel => exact ⟨m + 1, by omega, by go_num, by rw [show 4 * (m + 1) = 4 * m + 4 by omega, HS.out]⟩
          case measure => simp [intOf]; omega
        · obtain rfl : m = 2 := by omega
          have HS := hid hs'
          clear hs' hsn
          go_wp2
          go_round
          case rel => exact ⟨k + 1, by omega, by go_num, by rw [HST.out, ← HS.out, C.eat, Int.toNat_natCast, HM.out]⟩
          case measure => simp [intOf]; omega
    · obtain rfl : k = n := by omega
      have hs : C.sum xs = C.run 4294967295 (xs.take k) ^^^ 4294967295 := by
        rw [List.take_of_length_le (by rw [HN.out]; exact Nat.le_refl _)]; rfl
      obtain ⟨N, hN'⟩ : ∃ N, C.run 4294967295 (xs.take k) = N := ⟨_, rfl⟩
      rw [hN'] at hN hs ⊢
      have hx := not_u32 N hN
      have hlt2 := C.xor_lt hN (show 4294967295 < 4294967296 by decide)
      rw [← hs] at hx hlt2
      clear hN' hs
      have HL := hid hlt2
      clear hlt2
      go_wp2
      go_ret
      exact ⟨by show Ending.returned (.int .i64 (wrap64 (C.sum xs : Nat))) = _; rw [wrap64_nat HL.out], bt b1 b2⟩

end Go.Proofs.Ytkbfkdgdommngaa
