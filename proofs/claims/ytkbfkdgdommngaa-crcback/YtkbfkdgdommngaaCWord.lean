/-
  What crc.word returns is proved here, for all slices that read as at least four bytes: the number that the first four tell.
-/
import Derived.Test.YtkbfkdgdommngaaRows
import Derived.Test.YtkbfkdgdommngaaMem
import Derived.Test.YtkbfkdgdommngaaCFrame
import Derived.Test.YtkbfkdgdommngaaCBits
namespace Go.Proofs.Ytkbfkdgdommngaa
open Go.RowKit
set_option linter.unusedVariables false

/-- The number behind k rounds. -/
def part (xs : List Int) : Nat → Int
  | 0 => 0
  | k + 1 => part xs k + xs.getD k 0 * 2 ^ (8 * k)

theorem part_4 (xs : List Int) : part xs 4 = C.wi xs := by
  simp only [part, C.wi]
  omega
theorem join_i64 (i : Nat) (hi : i ≤ 54) (y x : Int) (hy₀ : 0 ≤ y) (hy : y < 2 ^ i) (hx₀ : 0 ≤ x) (hx : x < 256) : bits .or .i64 y (x * 2 ^ i) = y + x * 2 ^ i := by
  obtain ⟨a, rfl⟩ := Int.eq_ofNat_of_zero_le hx₀
  obtain ⟨b, rfl⟩ := Int.eq_ofNat_of_zero_le hy₀
  have ha : a < 256 := by omega
  have hb : b < 2 ^ i := by exact_mod_cast hy
  have e : ((a : Int) * 2 ^ i) = ((2 ^ i * a : Nat) : Int) := by push_cast; rw [Int.mul_comm]
  have h1 : 2 ^ i ≤ 2 ^ 54 := Nat.pow_le_pow_right (by decide) hi
  have h2 : 2 ^ i * a < 2 ^ 62 := by
    have : 2 ^ i * a ≤ 2 ^ 54 * a := Nat.mul_le_mul_right a h1
    omega
  rw [e, (bits_nat .i64 62 (by decide) wraps_i64' b (2 ^ i * a) (by omega) h2).2, Nat.or_comm, ← Nat.two_pow_add_eq_or_of_lt hb]
  omega

theorem part_lt {xs : List Int} (h : C.Bytes xs) {k : Nat} (hk : k < 4) : 0 ≤ part xs k ∧ part xs k < 2 ^ (8 * k) := by
  have h0 := C.getD_byte h 0
  have h1 := C.getD_byte h 1
  have h2 := C.getD_byte h 2
  have : k = 0 ∨ k = 1 ∨ k = 2 ∨ k = 3 := by omega
  rcases this with rfl | rfl | rfl | rfl <;> simp only [part] <;> omega
theorem or_part {xs : List Int} (h : C.Bytes xs) {k : Nat} (hk : k < 4) : bits .or .i64 (part xs k) (wrap64 (xs.getD k 0 * 2 ^ (8 * k))) = part xs k + xs.getD k 0 * 2 ^ (8 * k) := by
  have hp := part_lt h hk
  have hx := C.getD_byte h k
  rw [show wrap64 (xs.getD k 0 * 2 ^ (8 * k)) = xs.getD k 0 * 2 ^ (8 * k) by
    have : k = 0 ∨ k = 1 ∨ k = 2 ∨ k = 3 := by omega
    unfold wrap64
    rcases this with rfl | rfl | rfl | rfl <;> omega]
  exact join_i64 (8 * k) (by omega) _ _ hp.1 hp.2 hx.1 hx.2

set_option maxHeartbeats 1000000 in
theorem word_any (v : Value) (xs : List Int) (w : World) (h : Bs w v xs) (h4 : 4 ≤ xs.length) :
    Calls Try.prog 27 #[v] w fun e w' => e = .returned (.int .i64 (C.wi xs)) ∧ w = w' := by
  have hr : C.Bytes xs := h.range
  have hl := h.len
  unfold maxLen at hl
  obtain ⟨b, off, c, rfl, _, _, hc⟩ := h.inv (by omega)
  obtain ⟨n, hn⟩ : ∃ n, xs.length = n := ⟨_, rfl⟩
  rw [hn] at hl h4 hc ⊢
  have HC := hid hc
  have HR := hid hr
  clear hr hn h hc
  go_enter Try.func27, Try.ntmps27
  go_wp2
  go_loop [3, 5] (fun s i => ∃ k : Nat, k ≤ 4 ∧ i = .int .i64 k ∧ s = .int .i64 (part xs k)) (fun _ i => 4 - (intOf i).toNat)
  case atStart => exact ⟨0, Nat.zero_le _, rfl, rfl⟩
  case round =>
    obtain ⟨k, hk, rfl, rfl⟩ := hrel
    by_cases hlt : k < 4
    · have hck := HC.out k (by omega)
      have hx := C.getD_byte HR.out k
      obtain ⟨x, hx'⟩ : ∃ x, xs.getD k 0 = x := ⟨_, rfl⟩
      rw [hx'] at hx hck
      have hlt' : (k : Int) < 4 := by omega
      have hn4 : (k : Int) < (n : Int) := by omega
      have hp := part_lt HR.out hlt
      have hj := hid (or_part HR.out hlt)
      go_wp2
      go_round
      case rel => exact ⟨k + 1, by omega, by go_num, by rw [part, ← hj.out, hx']⟩
      case measure => simp [intOf]; omega
    · obtain rfl : k = 4 := by omega
      rw [part_4]
      go_wp2
      go_ret
      exact ⟨rfl, rfl⟩

end Go.Proofs.Ytkbfkdgdommngaa
