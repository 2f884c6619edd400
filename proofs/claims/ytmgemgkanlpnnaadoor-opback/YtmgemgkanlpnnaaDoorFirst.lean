/-
  What num.first returns is proved here, for all slices that read as bytes: the number that they begin with, and how many of them it takes.
-/
import Derived.Test.YtmgemgkanlpnnaaDoorSize
import Derived.Test.YtmgemgkanlpnnaaDoorMem
import Derived.Lib.Strings
import Derived.Lib.Slices
import Derived.Lib.Small
import Derived.Lib.Walk
import Derived.Lib.BitFns
import Derived.Deep.QuietTactic
import Derived.BigQuiet
namespace Go.Proofs.YtmgemgkanlpnnaaDoor
open Go.RowKit
set_option linter.unusedVariables false
set_option maxRecDepth 100000

theorem len8_any (x : Int) (w : World) (h0 : 0 ≤ x) (h1 : x ≤ 255) :
    Calls Tryd.prog 88 #[.int .u8 x] w fun e w' => e = .returned (.int .i64 (Lib.bitLen x.toNat)) ∧ w = w' := by
  have e : wrap64 (Lib.len8 x) = (Lib.bitLen x.toNat : Int) := by
    rw [Lib.len8_of x h0 h1]
    have := Lib.bitLen_le8' x h0 h1
    unfold wrap64
    omega
  rw [← e]
  clear e
  go_enter Tryd.func88, Tryd.ntmps88
  go_wp2
  go_ret
  exact ⟨rfl, rfl⟩

theorem lead_all : ∀ b : Nat, b < 256 → 8 - (Lib.bitLen (255 - b) : Int) = (M.cnt b : Int) - 1 := by decide +kernel

theorem lead_any (b : Int) (w : World) (hb0 : 0 ≤ b) (hb1 : b < 256) :
    Calls Tryd.prog 83 #[.int .u8 (255 - b)] w fun e w' => e = .returned (.int .i64 ((M.cnt b : Int) - 1)) ∧ w = w' := by
  obtain ⟨x, hx⟩ : ∃ x, 255 - b = x := ⟨_, rfl⟩
  have h0 : 0 ≤ x := by omega
  have h1 : x ≤ 255 := by omega
  rw [hx, show b = 255 - x by omega]
  clear hx hb0 hb1
  have l := Lib.bitLen_le8 ⟨x.toNat, by omega⟩
  simp only at l
  have e8 : 8 - (Lib.bitLen x.toNat : Int) = (M.cnt (255 - x) : Int) - 1 := by
    have := lead_all (255 - x).toNat (by omega)
    rw [show 255 - (255 - x).toNat = x.toNat by omega, show (((255 - x).toNat : Nat) : Int) = 255 - x by omega] at this
    exact this
  rw [← e8]
  clear e8
  go_enter Tryd.func83, Tryd.ntmps83
  go_wp2_with (go_at_call 88; refine (len8_any x _ h0 h1).mono ?_; rintro e w' ⟨rfl, rfl⟩)
  go_ret
  exact ⟨rfl, rfl⟩

theorem or_low (n : Nat) (x : Nat) (hn : n < 36028797018963968) (hx : x < 256) : bits BinOp.or IntKind.i64 ((n : Int) * 256) (x : Int) = (n : Int) * 256 + x := by
  have e1 : ((n : Int) * 256) = ((2 ^ 8 * n : Nat) : Int) := by omega
  rw [e1]
  unfold bits
  have h1 : (BitVec.ofInt IntKind.i64.bits ((2 ^ 8 * n : Nat) : Int)).toNat = 2 ^ 8 * n := by
    rw [BitVec.ofInt_natCast, BitVec.toNat_ofNat]
    exact Nat.mod_eq_of_lt (by simp [IntKind.bits]; omega)
  have h2 : (BitVec.ofInt IntKind.i64.bits (x : Int)).toNat = x := by
    rw [BitVec.ofInt_natCast, BitVec.toNat_ofNat]
    exact Nat.mod_eq_of_lt (by simp [IntKind.bits]; omega)
  simp only [BitVec.toNat_or, h1, h2]
  rw [← Nat.two_pow_add_eq_or_of_lt (by omega)]
  rw [IntKind.wrap_i64]
  omega
theorem or_low' (n x : Int) (h0 : 0 ≤ n) (hn : n < 36028797018963968) (hx0 : 0 ≤ x) (hx : x < 256) : bits BinOp.or IntKind.i64 (n * 256) x = n * 256 + x := by
  obtain ⟨a, rfl⟩ := Int.eq_ofNat_of_zero_le h0
  obtain ⟨b, rfl⟩ := Int.eq_ofNat_of_zero_le hx0
  exact or_low a b (by omega) (by omega)

theorem and_low_all : ∀ k : Nat, k < 8 → ∀ b : Nat, b < 256 → bits BinOp.and IntKind.u8 (b : Int) (255 / 2 ^ k) = (b : Int) % 2 ^ (8 - k) := by decide +kernel
theorem not_all : ∀ b : Nat, b < 256 → bits BinOp.xor IntKind.u8 IntKind.u8.max (b : Int) = 255 - (b : Int) := by decide +kernel
theorem not_byte (b : Int) (h0 : 0 ≤ b) (h1 : b < 256) : bits BinOp.xor IntKind.u8 IntKind.u8.max b = 255 - b := by
  obtain ⟨a, rfl⟩ := Int.eq_ofNat_of_zero_le h0
  exact not_all a (by omega)
theorem and_low (b : Int) (k : Nat) (hk : k < 8) (h0 : 0 ≤ b) (h1 : b < 256) : bits BinOp.and IntKind.u8 b (255 / 2 ^ k) = b % 2 ^ (8 - k) := by
  obtain ⟨a, rfl⟩ := Int.eq_ofNat_of_zero_le h0
  exact and_low_all k hk a (by omega)


theorem first_none {xs : List Int} (h : M.first xs = none) : M.fn xs = 0 ∧ M.fc xs = 0 ∧ M.fo xs = false := by
  simp [M.fn, M.fc, M.fo, h]

theorem n0_bound (b : Int) (k : Nat) (hk : 1 ≤ k) (h0 : 0 ≤ b) (h1 : b < 256) : 0 ≤ b % 2 ^ (8 - k) ∧ b % 2 ^ (8 - k) < 256 ∧ (k = 1 ∨ b % 2 ^ (8 - k) < 64) := by
  have hp : (0 : Int) < 2 ^ (8 - k) := Int.pow_pos (by decide)
  have h2 := Int.emod_nonneg b (Int.ne_of_gt hp)
  have h3 := Int.emod_lt_of_pos b hp
  refine ⟨h2, ?_, ?_⟩
  · have : (2 : Int) ^ (8 - k) ≤ 2 ^ 7 := M.pow2_le (by omega)
    omega
  · by_cases e : k = 1
    · exact .inl e
    · have : (2 : Int) ^ (8 - k) ≤ 2 ^ 6 := M.pow2_le (by omega)
      exact .inr (by omega)

theorem fold_small (n0 : Int) (r : List Int) (j : Nat) (h0 : 0 ≤ n0) (h1 : n0 < 64) (hr : ∀ x ∈ r, 0 ≤ x ∧ x < 256) (hj : j ≤ 6) :
    (0 ≤ M.fold n0 (r.take j) ∧ M.fold n0 (r.take j) < 18014398509481984) ∧ (j ≤ 5 → 0 ≤ M.fold n0 (r.take j) ∧ M.fold n0 (r.take j) < 70368744177664) := by
  have h := M.fold_bound 64 (r.take j) (fun x hx => hr x (List.mem_of_mem_take hx)) n0 h0 h1
  have hl : (r.take j).length ≤ j := List.length_take_le _ _
  constructor
  · have : (256 : Int) ^ (r.take j).length ≤ 256 ^ 6 := M.pow256_le (by omega)
    omega
  · intro hj5
    have : (256 : Int) ^ (r.take j).length ≤ 256 ^ 5 := M.pow256_le (by omega)
    omega

set_option maxHeartbeats 2000000 in
theorem first_any (v : Value) (xs : List Int) (w : World) (h : Bs w v xs) :
    Calls Tryd.prog 55 #[v] w fun e w' => e = .returned (.tuple #[.int .i64 (M.fn xs), .int .i64 (M.fc xs), .bool (M.fo xs)]) ∧ ∃ n, w' = w.drewN n := by
  have hlen := h.len
  unfold maxLen at hlen
  cases xs with
  | nil =>
    obtain ⟨e1, e2, e3⟩ := first_none (xs := []) rfl
    rw [e1, e2, e3]
    clear e1 e2 e3
    obtain ⟨a, c, rfl, _⟩ := h.inv_nil
    go_enter Tryd.func55, Tryd.ntmps55
    go_wp2
    go_ret3
    exact ⟨rfl, 0, rfl⟩
  | cons b r =>
    have hb := h.range b (by simp)
    have hr : ∀ x ∈ r, 0 ≤ x ∧ x < 256 := fun x hx => h.range x (by simp [hx])
    obtain ⟨bl, off, c, rfl, hc1, hc2, hcell⟩ := h.inv (by simp)
    have hc0 : w.cell? ⟨bl, off, none⟩ = some (.int .u8 b) := by simpa using hcell 0 (by simp)
    have hcr : ∀ j, j < r.length → w.cell? ⟨bl, off + 1 + j, none⟩ = some (.int .u8 (r.getD j 0)) := fun j hj => by
      have := hcell (j + 1) (by simpa using hj)
      rw [Nat.add_assoc, Nat.add_comm 1 j, this]; simp
    simp only [List.length_cons] at hc1 hlen ⊢
    obtain ⟨n, hn⟩ : ∃ n, r.length = n := ⟨_, rfl⟩
    rw [hn] at hc1 hlen ⊢
    have HN := hid hn
    have HR := hid hr
    have HCR := hid hcr
    clear hcell h hn hr hcr
    have hnot := not_byte b hb.1 hb.2
    obtain ⟨k, hk⟩ : ∃ k, M.cnt b = k := ⟨_, rfl⟩
    have hk1 := M.cnt_pos b
    rw [hk] at hk1
    have hlead := fun w => lead_any b w hb.1 hb.2
    rw [hk] at hlead
    have HLD := hid hlead
    have HK := hid hk
    clear hlead hk
    by_cases hbad : 7 < k ∨ n + 1 < k
    · have hf : M.first (b :: r) = none := by
        rw [M.first, HK.out, HN.out, if_pos hbad]
      obtain ⟨e1, e2, e3⟩ := first_none hf
      rw [e1, e2, e3]
      clear e1 e2 e3 hf
      by_cases h7 : 7 < k
      · go_enter Tryd.func55, Tryd.ntmps55
        go_wp2_with (go_at_call 83; refine (HLD.out _).mono ?_; rintro e w' ⟨rfl, rfl⟩)
        go_ret3
        exact ⟨rfl, 0, rfl⟩
      · go_enter Tryd.func55, Tryd.ntmps55
        go_wp2_with (go_at_call 83; refine (HLD.out _).mono ?_; rintro e w' ⟨rfl, rfl⟩)
        go_ret3
        exact ⟨rfl, 0, rfl⟩
    · have hk7 : k ≤ 7 := by omega
      have hkn : k ≤ n + 1 := by omega
      clear hbad
      have hand := and_low b k (by omega) hb.1 hb.2
      have hmin : min k 8 = k := by omega
      go_enter Tryd.func55, Tryd.ntmps55
      go_wp2_with (go_at_call 83; refine (HLD.out _).mono ?_; rintro e w' ⟨rfl, rfl⟩)
      obtain ⟨n0, hn0⟩ : ∃ n0, b % 2 ^ (8 - k) = n0 := ⟨_, rfl⟩
      have hb0 := n0_bound b k hk1.1 hb.1 hb.2
      rw [hn0] at hand hb0
      have HN0 := hid hn0
      clear hn0
      have h00 : 0 ≤ n0 := hb0.1
      have h01 : n0 < 256 := hb0.2.1
      have h02 := hb0.2.2
      clear hb0
      by_cases hk1 : k = 1
      · subst hk1
        clear h02
        have hand1 : bits BinOp.and IntKind.u8 b 127 = n0 := by simpa using hand
        clear hand
        by_cases hc1 : c = 1
        all_goals
          go_quiet (fail)
          go_wp2
          refine wp_loop_rounds 1 ?_
          rw [rounds_succ]
          by_cases hs : M.sz n0 = 1
          · have hs' : ((M.sz n0 : Int) != 1) = false := by simp; omega
            have HS := hid hs
            clear hs
            go_wp2_with (go_at_call 84; refine (size_any _ _ (by omega)).mono ?_; rintro e w' ⟨rfl, rfl⟩)
            go_ret3
            have hf : M.first (b :: r) = some (n0, 1) := by
              rw [M.first, HK.out, HN.out, if_neg (by omega), HN0.out]
              simp only [Nat.sub_self, List.take_zero, M.fold, List.foldl_nil]
              rw [if_pos HS.out]
            exact ⟨by simp only [M.fn, M.fc, M.fo, hf]; rfl, _, rfl⟩
          · have hs' : ((M.sz n0 : Int) != 1) = true := by simp; omega
            have HS := hid hs
            clear hs
            go_wp2_with (go_at_call 84; refine (size_any _ _ (by omega)).mono ?_; rintro e w' ⟨rfl, rfl⟩)
            go_ret3
            have hf : M.first (b :: r) = none := by
              rw [M.first, HK.out, HN.out, if_neg (by omega), HN0.out]
              simp only [Nat.sub_self, List.take_zero, M.fold, List.foldl_nil]
              rw [if_neg HS.out]
            exact ⟨by simp only [M.fn, M.fc, M.fo, hf]; rfl, _, rfl⟩
      · have hc2 : 2 ≤ c := by omega
        have hc3 : ¬ c = 1 := by omega
        have hb64 : n0 < 64 := by omega
        have hbd := fun j (hj : j ≤ 6) => fold_small n0 r j h00 hb64 HR.out hj
        have HBD := hid hbd
        clear hbd
        go_quiet (fail)
        go_wp2
        go_loop [2, 35] (fun m i => ∃ j : Nat, j ≤ k - 1 ∧ i = .int .i64 j ∧ m = .int .i64 (M.fold n0 (r.take j))) (fun _ i => k - (intOf i).toNat)
        case atStart => exact ⟨0, by omega, rfl, by simp [M.fold]⟩
        case round =>
          obtain ⟨j, hj, rfl, rfl⟩ := hrel
          by_cases hlt : j < k - 1
          · have hcj := HCR.out j (by have := HN.out; omega)
            have hsn : M.fold n0 (r.take (j + 1)) = M.fold n0 (r.take j) * 256 + r.getD j 0 := by
              rw [List.take_succ_eq_append_getElem (by have := HN.out; omega), M.fold_snoc]
              simp [List.getD, show j < r.length by have := HN.out; omega]
            have hxr : 0 ≤ r.getD j 0 ∧ r.getD j 0 < 256 := HR.out _ (by simp [List.getD, show j < r.length by have := HN.out; omega])
            have hNb := (HBD.out j (by omega)).2 (by omega)
            obtain ⟨x, hx⟩ : ∃ x, r.getD j 0 = x := ⟨_, rfl⟩
            rw [hx] at hcj hsn hxr
            obtain ⟨N, hN⟩ : ∃ N, M.fold n0 (r.take j) = N := ⟨_, rfl⟩
            rw [hN] at hsn hNb ⊢
            have hor := or_low' N x hNb.1 (by omega) hxr.1 hxr.2
            have HSN := hid hsn
            clear hx hsn hN
            go_wp2
            go_round
            case rel => exact ⟨j + 1, by omega, by go_num, by rw [HSN.out]⟩
            case measure => simp [intOf]; omega
          · obtain rfl : j = k - 1 := by omega
            have hNb := (HBD.out (k - 1) (by omega)).1
            obtain ⟨N, hN⟩ : ∃ N, M.fold n0 (r.take (k - 1)) = N := ⟨_, rfl⟩
            rw [hN] at hNb ⊢
            have HFN := hid hN
            clear hN
            by_cases hs : M.sz N = k
            · have hs' : ((M.sz N : Int) != (k : Int)) = false := by simp; omega
              have HS := hid hs
              clear hs
              go_wp2_with (go_at_call 84; refine (size_any _ _ (by omega)).mono ?_; rintro e w' ⟨rfl, rfl⟩)
              go_ret3
              have hf : M.first (b :: r) = some (N, k) := by
                rw [M.first, HK.out, HN.out, if_neg (by omega), HN0.out, HFN.out, if_pos HS.out]
              exact ⟨by simp only [M.fn, M.fc, M.fo, hf]; rfl, _, rfl⟩
            · have hs' : ((M.sz N : Int) != (k : Int)) = true := by simp; omega
              have HS := hid hs
              clear hs
              go_wp2_with (go_at_call 84; refine (size_any _ _ (by omega)).mono ?_; rintro e w' ⟨rfl, rfl⟩)
              go_ret3
              have hf : M.first (b :: r) = none := by
                rw [M.first, HK.out, HN.out, if_neg (by omega), HN0.out, HFN.out, if_neg HS.out]
              exact ⟨by simp only [M.fn, M.fc, M.fo, hf]; rfl, _, rfl⟩

end Go.Proofs.YtmgemgkanlpnnaaDoor
