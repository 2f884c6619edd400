/-
  Parts of the proof, one behind the other; what each proves stands at its head.
-/
import Derived.Test.YteckjkblngmenaaGreatDoorRows
import Derived.Test.YteckjkblngmenaaGreatDoorPart1
import Derived.WalkKit
import Derived.WalkSpells
import Derived.WalkLawsBesides
import Derived.Lib.Strings
import Derived.Lib.Slices
import Derived.Lib.Small
import Derived.Lib.Walk
import Derived.Lib.BitFns
import Derived.Deep.QuietTactic
import Derived.BigQuiet
import Derived.Laws.BytesString

/-
  What num.bound and num.size return is proved here, for counts from 1 to 7 and numbers from 0 on.
-/
namespace Go.Proofs.YteckjkblngmenaaGreatDoor
open Go.RowKit
set_option linter.unusedVariables false
set_option maxRecDepth 100000

set_option maxHeartbeats 400000 in
theorem bound_any (c : Int) (w : World) (h1 : 1 ≤ c) (h7 : c ≤ 7) :
    Calls Tryz.prog 106 #[.int .i64 c] w fun e w' => e = .returned (.int .i64 (M.bd c.toNat)) ∧ w = w' := by
  have : c = 1 ∨ c = 2 ∨ c = 3 ∨ c = 4 ∨ c = 5 ∨ c = 6 ∨ c = 7 := by omega
  rcases this with rfl | rfl | rfl | rfl | rfl | rfl | rfl
  all_goals
    go_enter Tryz.func106, Tryz.ntmps106
    go_wp2
    go_ret
    exact ⟨rfl, rfl⟩


set_option maxHeartbeats 1000000 in
theorem size_any (n : Int) (w : World) (h0 : 0 ≤ n) :
    Calls Tryz.prog 107 #[.int .i64 n] w fun e w' => e = .returned (.int .i64 (M.sz n)) ∧ w = w' := by
  go_enter Tryz.func107, Tryz.ntmps107
  go_wp2
  go_loop [3] (fun c => ∃ k : Nat, 1 ≤ k ∧ k ≤ 7 ∧ c = .int .i64 k ∧ (k = 1 ∨ M.bd (k - 1) ≤ n)) (fun c => 7 - (intOf c).toNat)
  case atStart => exact ⟨1, by omega, by omega, rfl, .inl rfl⟩
  case round =>
    obtain ⟨k, hk1, hk7, rfl, hb⟩ := hrel
    by_cases h7 : k < 7
    · by_cases hn : M.bd k ≤ n
      · have hB : M.bd (k : Int).toNat = M.bd k := by simp
        go_wp2_with (go_at_call 106; refine (bound_any _ _ (by omega) (by omega)).mono ?_; rintro e w' ⟨rfl, rfl⟩)
        go_round
        case rel => exact ⟨k + 1, by omega, by omega, by go_num, .inr (by simpa using hn)⟩
        case measure => simp [intOf]; omega
      · have hB : M.bd (k : Int).toNat = M.bd k := by simp
        have HB : Hid (k = 1 ∨ M.bd (k - 1) ≤ n) := hb
        clear hb
        go_wp2_with (go_at_call 106; refine (bound_any _ _ (by omega) (by omega)).mono ?_; rintro e w' ⟨rfl, rfl⟩)
        go_ret
        refine ⟨?_, rfl⟩
        rw [M.sz_of hk1 (by omega) HB.out (.inr (by omega))]; rfl
    · obtain rfl : k = 7 := by omega
      have HB : Hid (7 = 1 ∨ M.bd (7 - 1) ≤ n) := hb
      clear hb
      go_wp2_with (go_at_call 106; refine (bound_any _ _ (by omega) (by omega)).mono ?_; rintro e w' ⟨rfl, rfl⟩)
      go_ret
      refine ⟨?_, rfl⟩
      rw [M.sz_of (by omega) (by omega) HB.out (.inl rfl)]; rfl

end Go.Proofs.YteckjkblngmenaaGreatDoor

/-
  What num.first returns is proved here, for all slices that read as bytes: the number that they begin with, and how many of them it takes.
-/
namespace Go.Proofs.YteckjkblngmenaaGreatDoor
open Go.RowKit
set_option linter.unusedVariables false
set_option maxRecDepth 100000

theorem len8_any (x : Int) (w : World) (h0 : 0 ≤ x) (h1 : x ≤ 255) :
    Calls Tryz.prog 142 #[.int .u8 x] w fun e w' => e = .returned (.int .i64 (Lib.bitLen x.toNat)) ∧ w = w' := by
  have e : wrap64 (Lib.len8 x) = (Lib.bitLen x.toNat : Int) := by
    rw [Lib.len8_of x h0 h1]
    have := Lib.bitLen_le8' x h0 h1
    unfold wrap64
    omega
  rw [← e]
  clear e
  go_enter Tryz.func142, Tryz.ntmps142
  go_wp2
  go_ret
  exact ⟨rfl, rfl⟩

theorem lead_all : ∀ b : Nat, b < 256 → 8 - (Lib.bitLen (255 - b) : Int) = (M.cnt b : Int) - 1 := by decide +kernel

theorem lead_any (b : Int) (w : World) (hb0 : 0 ≤ b) (hb1 : b < 256) :
    Calls Tryz.prog 129 #[.int .u8 (255 - b)] w fun e w' => e = .returned (.int .i64 ((M.cnt b : Int) - 1)) ∧ w = w' := by
  obtain ⟨x, hx⟩ : ∃ x, 255 - b = x := ⟨_, rfl⟩
  have h0 : 0 ≤ x := by omega
  have h1 : x ≤ 255 := by omega
  rw [hx, show b = 255 - x by omega]
  clear hx hb0 hb1
  have l := Lib.bitLen_le8 ⟨x.toNat, by omega⟩
  simp only at l
  have e8 : 8 - (Lib.bitLen x.toNat : Int) = (M.cnt (255 - x) : Int) - 1 := by
    have := lead_all (255 - x).toNat (by omega)
    rw [show 255 - (255 - x).toNat = x.toNat by omega, show (((255 - x).toNat : Nat) : Int) = 255 - x by omega] at this
    exact this
  rw [← e8]
  clear e8
  go_enter Tryz.func129, Tryz.ntmps129
  go_wp2_with (go_at_call 142; refine (len8_any x _ h0 h1).mono ?_; rintro e w' ⟨rfl, rfl⟩)
  go_ret
  exact ⟨rfl, rfl⟩

theorem or_low (n : Nat) (x : Nat) (hn : n < 36028797018963968) (hx : x < 256) : bits BinOp.or IntKind.i64 ((n : Int) * 256) (x : Int) = (n : Int) * 256 + x := by
  have e1 : ((n : Int) * 256) = ((2 ^ 8 * n : Nat) : Int) := by omega
  rw [e1]
  unfold bits
  have h1 : (BitVec.ofInt IntKind.i64.bits ((2 ^ 8 * n : Nat) : Int)).toNat = 2 ^ 8 * n := by
    rw [BitVec.ofInt_natCast, BitVec.toNat_ofNat]
    exact Nat.mod_eq_of_lt (by simp [IntKind.bits]; omega)
  have h2 : (BitVec.ofInt IntKind.i64.bits (x : Int)).toNat = x := by
    rw [BitVec.ofInt_natCast, BitVec.toNat_ofNat]
    exact Nat.mod_eq_of_lt (by simp [IntKind.bits]; omega)
  simp only [BitVec.toNat_or, h1, h2]
  rw [← Nat.two_pow_add_eq_or_of_lt (by omega)]
  rw [IntKind.wrap_i64]
  omega
theorem or_low' (n x : Int) (h0 : 0 ≤ n) (hn : n < 36028797018963968) (hx0 : 0 ≤ x) (hx : x < 256) : bits BinOp.or IntKind.i64 (n * 256) x = n * 256 + x := by
  obtain ⟨a, rfl⟩ := Int.eq_ofNat_of_zero_le h0
  obtain ⟨b, rfl⟩ := Int.eq_ofNat_of_zero_le hx0
  exact or_low a b (by omega) (by omega)

theorem and_low_all : ∀ k : Nat, k < 8 → ∀ b : Nat, b < 256 → bits BinOp.and IntKind.u8 (b : Int) (255 / 2 ^ k) = (b : Int) % 2 ^ (8 - k) := by decide +kernel
theorem not_all : ∀ b : Nat, b < 256 → bits BinOp.xor IntKind.u8 IntKind.u8.max (b : Int) = 255 - (b : Int) := by decide +kernel
theorem not_byte (b : Int) (h0 : 0 ≤ b) (h1 : b < 256) : bits BinOp.xor IntKind.u8 IntKind.u8.max b = 255 - b := by
  obtain ⟨a, rfl⟩ := Int.eq_ofNat_of_zero_le h0
  exact not_all a (by omega)
theorem and_low (b : Int) (k : Nat) (hk : k < 8) (h0 : 0 ≤ b) (h1 : b < 256) : bits BinOp.and IntKind.u8 b (255 / 2 ^ k) = b % 2 ^ (8 - k) := by
  obtain ⟨a, rfl⟩ := Int.eq_ofNat_of_zero_le h0
  exact and_low_all k hk a (by omega)


theorem first_none {xs : List Int} (h : M.first xs = none) : M.fn xs = 0 ∧ M.fc xs = 0 ∧ M.fo xs = false := by
  simp [M.fn, M.fc, M.fo, h]

theorem n0_bound (b : Int) (k : Nat) (hk : 1 ≤ k) (h0 : 0 ≤ b) (h1 : b < 256) : 0 ≤ b % 2 ^ (8 - k) ∧ b % 2 ^ (8 - k) < 256 ∧ (k = 1 ∨ b % 2 ^ (8 - k) < 64) := by
  have hp : (0 : Int) < 2 ^ (8 - k) := Int.pow_pos (by decide)
  have h2 := Int.emod_nonneg b (Int.ne_of_gt hp)
  have h3 := Int.emod_lt_of_pos b hp
  refine ⟨h2, ?_, ?_⟩
  · have : (2 : Int) ^ (8 - k) ≤ 2 ^ 7 := M.pow2_le (by omega)
    omega
  · by_cases e : k = 1
    · exact .inl e
    · have : (2 : Int) ^ (8 - k) ≤ 2 ^ 6 := M.pow2_le (by omega)
      exact .inr (by omega)

theorem fold_small (n0 : Int) (r : List Int) (j : Nat) (h0 : 0 ≤ n0) (h1 : n0 < 64) (hr : ∀ x ∈ r, 0 ≤ x ∧ x < 256) (hj : j ≤ 6) :
    (0 ≤ M.fold n0 (r.take j) ∧ M.fold n0 (r.take j) < 18014398509481984) ∧ (j ≤ 5 → 0 ≤ M.fold n0 (r.take j) ∧ M.fold n0 (r.take j) < 70368744177664) := by
  have h := M.fold_bound 64 (r.take j) (fun x hx => hr x (List.mem_of_mem_take hx)) n0 h0 h1
  have hl : (r.take j).length ≤ j := List.length_take_le _ _
  constructor
  · have : (256 : Int) ^ (r.take j).length ≤ 256 ^ 6 := M.pow256_le (by omega)
    omega
  · intro hj5
    have : (256 : Int) ^ (r.take j).length ≤ 256 ^ 5 := M.pow256_le (by omega)
    omega

set_option maxHeartbeats 2000000 in
theorem first_any (v : Value) (xs : List Int) (w : World) (h : Bs w v xs) :
    Calls Tryz.prog 115 #[v] w fun e w' => e = .returned (.tuple #[.int .i64 (M.fn xs), .int .i64 (M.fc xs), .bool (M.fo xs)]) ∧ ∃ n, w' = w.drewN n := by
  have hlen := h.len
  unfold maxLen at hlen
  cases xs with
  | nil =>
    obtain ⟨e1, e2, e3⟩ := first_none (xs := []) rfl
    rw [e1, e2, e3]
    clear e1 e2 e3
    obtain ⟨a, c, rfl, _⟩ := h.inv_nil
    go_enter Tryz.func115, Tryz.ntmps115
    go_wp2
    go_ret3
    exact ⟨rfl, 0, rfl⟩
  | cons b r =>
    have hb := h.range b (by simp)
    have hr : ∀ x ∈ r, 0 ≤ x ∧ x < 256 := fun x hx => h.range x (by simp [hx])
    obtain ⟨bl, off, c, rfl, hc1, hc2, hcell⟩ := h.inv (by simp)
    have hc0 : w.cell? ⟨bl, off, none⟩ = some (.int .u8 b) := by simpa using hcell 0 (by simp)
    have hcr : ∀ j, j < r.length → w.cell? ⟨bl, off + 1 + j, none⟩ = some (.int .u8 (r.getD j 0)) := fun j hj => by
      have := hcell (j + 1) (by simpa using hj)
      rw [Nat.add_assoc, Nat.add_comm 1 j, this]; simp
    simp only [List.length_cons] at hc1 hlen ⊢
    obtain ⟨n, hn⟩ : ∃ n, r.length = n := ⟨_, rfl⟩
    rw [hn] at hc1 hlen ⊢
    have HN := hid hn
    have HR := hid hr
    have HCR := hid hcr
    clear hcell h hn hr hcr
    have hnot := not_byte b hb.1 hb.2
    obtain ⟨k, hk⟩ : ∃ k, M.cnt b = k := ⟨_, rfl⟩
    have hk1 := M.cnt_pos b
    rw [hk] at hk1
    have hlead := fun w => lead_any b w hb.1 hb.2
    rw [hk] at hlead
    have HLD := hid hlead
    have HK := hid hk
    clear hlead hk
    by_cases hbad : 7 < k ∨ n + 1 < k
    · have hf : M.first (b :: r) = none := by
        rw [M.first, HK.out, HN.out, if_pos hbad]
      obtain ⟨e1, e2, e3⟩ := first_none hf
      rw [e1, e2, e3]
      clear e1 e2 e3 hf
      by_cases h7 : 7 < k
      · go_enter Tryz.func115, Tryz.ntmps115
        go_wp2_with (go_at_call 129; refine (HLD.out _).mono ?_; rintro e w' ⟨rfl, rfl⟩)
        go_ret3
        exact ⟨rfl, 0, rfl⟩
      · go_enter Tryz.func115, Tryz.ntmps115
        go_wp2_with (go_at_call 129; refine (HLD.out _).mono ?_; rintro e w' ⟨rfl, rfl⟩)
        go_ret3
        exact ⟨rfl, 0, rfl⟩
    · have hk7 : k ≤ 7 := by omega
      have hkn : k ≤ n + 1 := by omega
      clear hbad
      have hand := and_low b k (by omega) hb.1 hb.2
      have hmin : min k 8 = k := by omega
      go_enter Tryz.func115, Tryz.ntmps115
      go_wp2_with (go_at_call 129; refine (HLD.out _).mono ?_; rintro e w' ⟨rfl, rfl⟩)
      obtain ⟨n0, hn0⟩ : ∃ n0, b % 2 ^ (8 - k) = n0 := ⟨_, rfl⟩
      have hb0 := n0_bound b k hk1.1 hb.1 hb.2
      rw [hn0] at hand hb0
      have HN0 := hid hn0
      clear hn0
      have h00 : 0 ≤ n0 := hb0.1
      have h01 : n0 < 256 := hb0.2.1
      have h02 := hb0.2.2
      clear hb0
      by_cases hk1 : k = 1
      · subst hk1
        clear h02
        have hand1 : bits BinOp.and IntKind.u8 b 127 = n0 := by simpa using hand
        clear hand
        by_cases hc1 : c = 1
        all_goals
          go_quiet (fail)
          go_wp2
          refine wp_loop_rounds 1 ?_
          rw [rounds_succ]
          by_cases hs : M.sz n0 = 1
          · have hs' : ((M.sz n0 : Int) != 1) = false := by simp; omega
            have HS := hid hs
            clear hs
            go_wp2_with (go_at_call 107; refine (size_any _ _ (by omega)).mono ?_; rintro e w' ⟨rfl, rfl⟩)
            go_ret3
            have hf : M.first (b :: r) = some (n0, 1) := by
              rw [M.first, HK.out, HN.out, if_neg (by omega), HN0.out]
              simp only [Nat.sub_self, List.take_zero, M.fold, List.foldl_nil]
              rw [if_pos HS.out]
            exact ⟨by simp only [M.fn, M.fc, M.fo, hf]; rfl, _, rfl⟩
          · have hs' : ((M.sz n0 : Int) != 1) = true := by simp; omega
            have HS := hid hs
            clear hs
            go_wp2_with (go_at_call 107; refine (size_any _ _ (by omega)).mono ?_; rintro e w' ⟨rfl, rfl⟩)
            go_ret3
            have hf : M.first (b :: r) = none := by
              rw [M.first, HK.out, HN.out, if_neg (by omega), HN0.out]
              simp only [Nat.sub_self, List.take_zero, M.fold, List.foldl_nil]
              rw [if_neg HS.out]
            exact ⟨by simp only [M.fn, M.fc, M.fo, hf]; rfl, _, rfl⟩
      · have hc2 : 2 ≤ c := by omega
        have hc3 : ¬ c = 1 := by omega
        have hb64 : n0 < 64 := by omega
        have hbd := fun j (hj : j ≤ 6) => fold_small n0 r j h00 hb64 HR.out hj
        have HBD := hid hbd
        clear hbd
        go_quiet (fail)
        go_wp2
        go_loop [2, 35] (fun m i => ∃ j : Nat, j ≤ k - 1 ∧ i = .int .i64 j ∧ m = .int .i64 (M.fold n0 (r.take j))) (fun _ i => k - (intOf i).toNat)
        case atStart => exact ⟨0, by omega, rfl, by simp [M.fold]⟩
        case round =>
          obtain ⟨j, hj, rfl, rfl⟩ := hrel
          by_cases hlt : j < k - 1
          · have hcj := HCR.out j (by have := HN.out; omega)
            have hsn : M.fold n0 (r.take (j + 1)) = M.fold n0 (r.take j) * 256 + r.getD j 0 := by
              rw [List.take_succ_eq_append_getElem (by have := HN.out; omega), M.fold_snoc]
              simp [List.getD, show j < r.length by have := HN.out; omega]
            have hxr : 0 ≤ r.getD j 0 ∧ r.getD j 0 < 256 := HR.out _ (by simp [List.getD, show j < r.length by have := HN.out; omega])
            have hNb := (HBD.out j (by omega)).2 (by omega)
            obtain ⟨x, hx⟩ : ∃ x, r.getD j 0 = x := ⟨_, rfl⟩
            rw [hx] at hcj hsn hxr
            obtain ⟨N, hN⟩ : ∃ N, M.fold n0 (r.take j) = N := ⟨_, rfl⟩
            rw [hN] at hsn hNb ⊢
            have hor := or_low' N x hNb.1 (by omega) hxr.1 hxr.2
            have HSN := hid hsn
            clear hx hsn hN
            go_wp2
            go_round
            case rel => exact ⟨j + 1, by omega, by go_num, by rw [HSN.out]⟩
            case measure => simp [intOf]; omega
          · obtain rfl : j = k - 1 := by omega
            have hNb := (HBD.out (k - 1) (by omega)).1
            obtain ⟨N, hN⟩ : ∃ N, M.fold n0 (r.take (k - 1)) = N := ⟨_, rfl⟩
            rw [hN] at hNb ⊢
            have HFN := hid hN
            clear hN
            by_cases hs : M.sz N = k
            · have hs' : ((M.sz N : Int) != (k : Int)) = false := by simp; omega
              have HS := hid hs
              clear hs
              go_wp2_with (go_at_call 107; refine (size_any _ _ (by omega)).mono ?_; rintro e w' ⟨rfl, rfl⟩)
              go_ret3
              have hf : M.first (b :: r) = some (N, k) := by
                rw [M.first, HK.out, HN.out, if_neg (by omega), HN0.out, HFN.out, if_pos HS.out]
              exact ⟨by simp only [M.fn, M.fc, M.fo, hf]; rfl, _, rfl⟩
            · have hs' : ((M.sz N : Int) != (k : Int)) = true := by simp; omega
              have HS := hid hs
              clear hs
              go_wp2_with (go_at_call 107; refine (size_any _ _ (by omega)).mono ?_; rintro e w' ⟨rfl, rfl⟩)
              go_ret3
              have hf : M.first (b :: r) = none := by
                rw [M.first, HK.out, HN.out, if_neg (by omega), HN0.out, HFN.out, if_neg HS.out]
              exact ⟨by simp only [M.fn, M.fc, M.fo, hf]; rfl, _, rfl⟩

end Go.Proofs.YteckjkblngmenaaGreatDoor

/-
  What the methods of num.Cursor return, and what the cursor is then over, is proved here, for every cursor.
-/
namespace Go.Proofs.YteckjkblngmenaaGreatDoor
open Go.RowKit
set_option linter.unusedVariables false
set_option maxRecDepth 100000

set_option maxHeartbeats 400000 in
theorem lose_any (b : Nat) (xs : List Int) (lost : Bool) (w : World) (h : Cur 143 w b xs lost) :
    Calls Tryz.prog 116 #[.pointer (some ⟨b, 0, none⟩)] w fun e w' => e = .returned (.tuple #[]) ∧ Cur 143 w' b [] true ∧ w.grownBy w' (some b) := by
  obtain ⟨a, c, hB, hc0, hc1, hf0, hf1⟩ := h.cells
  have h1 := h.set0 (Bs.nil w)
  have h2 := h1.1.set1 (l' := true)
  have H1 := hid h1
  have H2 := hid h2
  clear h1 h2 hB h
  go_enter Tryz.func116, Tryz.ntmps116
  go_wp2
  go_end0
  exact ⟨rfl, H2.out.1, H1.out.2.trans H2.out.2⟩

set_option maxHeartbeats 1000000 in
theorem num_any (b : Nat) (xs : List Int) (lost : Bool) (most : Int) (w : World) (h : Cur 143 w b xs lost) :
    Calls Tryz.prog 92 #[.pointer (some ⟨b, 0, none⟩), .int .i64 most] w fun e w' =>
      e = .returned (.int .i64 (M.numV most xs)) ∧ Cur 143 w' b (M.numS most xs) (M.numL most xs lost) ∧ w.grownBy w' (some b) := by
  obtain ⟨a, c, hB, hc0, hc1, hf0, hf1⟩ := h.cells
  have HB := hid hB
  have HC := hid h
  have HF := fun w => first_any (.slice a xs.length c) xs w
  have HFH := hid HF
  clear hB h HF
  by_cases hok : M.numOk most xs = true
  · have hfo : M.fo xs = true := by unfold M.numOk at hok; simp at hok; exact hok.1
    have hle : M.fn xs ≤ most := by unfold M.numOk at hok; simp at hok; exact hok.2
    have hfc := M.fo_spec hfo
    have hfl := hfc.2.1
    have hf1 := hfc.1
    have e1 : M.numV most xs = M.fn xs := by simp [M.numV, hok]
    have e2 : M.numS most xs = xs.drop (M.fc xs) := by simp [M.numS, hok]
    have e3 : M.numL most xs lost = lost := by simp [M.numL, hok]
    rw [e1, e2, e3]
    clear e1 e2 e3 hfc hok
    have hD := Bs.drop HB.out (M.fc xs) hfl
    have hl := HB.out.len
    unfold maxLen at hl
    obtain ⟨bl, off, c', hv, hcc, _⟩ := HB.out.inv (by omega)
    simp only [Value.slice.injEq, true_and] at hv
    obtain ⟨rfl, rfl⟩ := hv
    have HD := hid hD
    clear hD
    by_cases hcf : c = M.fc xs
    · subst hcf
      go_enter Tryz.func92, Tryz.ntmps92
      go_wp2_with fail
      refine (HFH.out _ HB.out).mono ?_
      rintro e w1 ⟨rfl, nd, rfl⟩
      go_wp2
      go_ret
      have hs := (HC.out.drewN nd).set0 (v := _) (HD.out.drewN nd)
      simp only [if_pos] at hs
      rw [show xs.length - M.fc xs = 0 by omega, Nat.sub_self] at hs
      exact ⟨rfl, hs.1, World.grownBy.of_drewN hs.2⟩
    · skip
      go_enter Tryz.func92, Tryz.ntmps92
      go_wp2_with fail
      refine (HFH.out _ HB.out).mono ?_
      rintro e w1 ⟨rfl, nd, rfl⟩
      go_wp2
      go_ret
      have hs := (HC.out.drewN nd).set0 (v := _) (HD.out.drewN nd)
      simp only [if_neg hcf, Option.map_some, Addr.add_lit] at hs
      exact ⟨rfl, hs.1, World.grownBy.of_drewN hs.2⟩
  · have e1 : M.numV most xs = 0 := by simp [M.numV, hok]
    have e2 : M.numS most xs = [] := by simp [M.numS, hok]
    have e3 : M.numL most xs lost = true := by simp [M.numL, hok]
    rw [e1, e2, e3]
    clear e1 e2 e3
    have hl := HB.out.len
    unfold maxLen at hl
    by_cases hfo : M.fo xs = true
    · have hgt : most < M.fn xs := by unfold M.numOk at hok; simp [hfo] at hok; exact hok
      clear hok
      go_enter Tryz.func92, Tryz.ntmps92
      go_wp2_with fail
      refine (HFH.out _ HB.out).mono ?_
      rintro e w1 ⟨rfl, nd, rfl⟩
      go_wp2_with fail
      refine (lose_any b xs lost _ (HC.out.drewN nd)).mono ?_
      rintro e w1 ⟨rfl, hc, hg⟩
      go_wp2
      go_ret
      exact ⟨rfl, hc, World.grownBy.of_drewN hg⟩
    · have hfo' : M.fo xs = false := by simpa using hfo
      clear hok hfo
      go_enter Tryz.func92, Tryz.ntmps92
      go_wp2_with fail
      refine (HFH.out _ HB.out).mono ?_
      rintro e w1 ⟨rfl, nd, rfl⟩
      go_wp2_with fail
      refine (lose_any b xs lost _ (HC.out.drewN nd)).mono ?_
      rintro e w1 ⟨rfl, hc, hg⟩
      go_wp2
      go_ret
      exact ⟨rfl, hc, World.grownBy.of_drewN hg⟩


set_option maxHeartbeats 1000000 in
theorem take_any (b : Nat) (xs : List Int) (lost : Bool) (n : Int) (w : World) (h : Cur 143 w b xs lost) :
    Calls Tryz.prog 121 #[.pointer (some ⟨b, 0, none⟩), .int .i64 n] w fun e w' =>
      ∃ v, e = .returned v ∧ Bs w' v (M.takeV n xs) ∧ Cur 143 w' b (M.takeS n xs) (M.takeL n xs lost) ∧ w.grownBy w' (some b) := by
  obtain ⟨a, c, hB, hc0, hc1, hf0, hf1⟩ := h.cells
  have HB := hid hB
  have HC := hid h
  have hl := hB.len
  have hlc : xs.length ≤ c := by
    obtain ⟨a', c', hv, h2, _⟩ := hB
    simp only [Value.slice.injEq, true_and] at hv
    omega
  unfold maxLen at hl
  clear hB h
  by_cases hok : M.takeOk n xs = true
  · have hn : 0 ≤ n ∧ n ≤ xs.length := by unfold M.takeOk at hok; simpa using hok
    obtain ⟨h0, h1⟩ := hn
    rw [show M.takeV n xs = xs.take n.toNat by simp [M.takeV, hok], show M.takeS n xs = xs.drop n.toNat by simp [M.takeS, hok], show M.takeL n xs lost = lost by simp [M.takeL, hok]]
    clear hok
    obtain ⟨k, rfl⟩ := Int.eq_ofNat_of_zero_le h0
    rw [Int.toNat_natCast]
    have hk : k ≤ xs.length := by omega
    have hD := Bs.drop HB.out k hk
    have hT := Bs.take HB.out k hk
    have HD := hid hD
    have HT := hid hT
    clear hD hT h0
    by_cases hcf : c = k
    · subst hcf
      have hck : (c : Int) ≤ (c : Int) := by omega
      go_enter Tryz.func121, Tryz.ntmps121
      go_wp2
      go_ret
      have hs := HC.out.set0 HD.out
      simp only [if_pos] at hs
      rw [show xs.length - c = 0 by omega, Nat.sub_self] at hs
      exact ⟨_, rfl, HT.out.keeps (HC.out.keeps hs.2), hs.1, hs.2⟩
    · have hck : (k : Int) ≤ (c : Int) := by omega
      go_enter Tryz.func121, Tryz.ntmps121
      go_wp2
      go_ret
      have hs := HC.out.set0 HD.out
      simp only [if_neg hcf] at hs
      exact ⟨_, rfl, HT.out.keeps (HC.out.keeps hs.2), hs.1, hs.2⟩
  · have hn : ¬ (0 ≤ n ∧ n ≤ xs.length) := by unfold M.takeOk at hok; simpa using hok
    rw [show M.takeV n xs = [] by simp [M.takeV, hok], show M.takeS n xs = [] by simp [M.takeS, hok], show M.takeL n xs lost = true by simp [M.takeL, hok]]
    clear hok
    by_cases h0 : n < 0
    · clear hn
      go_enter Tryz.func121, Tryz.ntmps121
      go_wp2_with fail
      refine (lose_any b xs lost _ HC.out).mono ?_
      rintro e w1 ⟨rfl, hc, hg⟩
      go_wp2
      go_ret
      exact ⟨_, rfl, Bs.nil _, hc, hg⟩
    · have h1 : (xs.length : Int) < n := by omega
      clear hn
      go_enter Tryz.func121, Tryz.ntmps121
      go_wp2_with fail
      refine (lose_any b xs lost _ HC.out).mono ?_
      rintro e w1 ⟨rfl, hc, hg⟩
      go_wp2
      go_ret
      exact ⟨_, rfl, Bs.nil _, hc, hg⟩


/-- What a text of a cursor comes to. -/
def M.textV (most : Int) (xs : List Int) : List Int := M.takeV (M.numV most xs) (M.numS most xs)
def M.textS (most : Int) (xs : List Int) : List Int := M.takeS (M.numV most xs) (M.numS most xs)
def M.textL (most : Int) (xs : List Int) (lost : Bool) : Bool := M.takeL (M.numV most xs) (M.numS most xs) (M.numL most xs lost)

set_option maxHeartbeats 400000 in
theorem text_any (b : Nat) (xs : List Int) (lost : Bool) (most : Int) (w : World) (h : Cur 143 w b xs lost) :
    Calls Tryz.prog 95 #[.pointer (some ⟨b, 0, none⟩), .int .i64 most] w fun e w' =>
      e = .returned (.string (M.str (M.textV most xs))) ∧ Cur 143 w' b (M.textS most xs) (M.textL most xs lost) ∧ w.grownBy w' (some b) := by
  go_enter Tryz.func95, Tryz.ntmps95
  go_wp2_with fail
  refine (num_any b xs lost most _ h).mono ?_
  rintro e w1 ⟨rfl, hc1, hg1⟩
  go_wp2_with fail
  refine (take_any b _ _ _ _ hc1).mono ?_
  rintro e w2 ⟨v, rfl, hB, hc2, hg2⟩
  have hcv := conv_str hB
  go_wp2
  go_ret
  exact ⟨rfl, hc2, hg1.trans hg2⟩

set_option maxHeartbeats 400000 in
theorem left_any (b : Nat) (xs : List Int) (lost : Bool) (w : World) (h : Cur 143 w b xs lost) :
    Calls Tryz.prog 96 #[.pointer (some ⟨b, 0, none⟩)] w fun e w' => e = .returned (.int .i64 xs.length) ∧ w = w' := by
  obtain ⟨a, c, hB, hc0, hc1, hf0, hf1⟩ := h.cells
  clear hB h
  go_enter Tryz.func96, Tryz.ntmps96
  go_wp2
  go_ret
  exact ⟨rfl, rfl⟩

set_option maxHeartbeats 400000 in
theorem end_any (b : Nat) (xs : List Int) (lost : Bool) (w : World) (h : Cur 143 w b xs lost) :
    Calls Tryz.prog 93 #[.pointer (some ⟨b, 0, none⟩)] w fun e w' => e = .returned (.bool (!lost && xs.isEmpty)) ∧ w = w' := by
  obtain ⟨a, c, hB, hc0, hc1, hf0, hf1⟩ := h.cells
  clear hB h
  have he : ((xs.length : Int) == 0) = xs.isEmpty := by cases xs <;> simp; omega
  cases lost
  · go_enter Tryz.func93, Tryz.ntmps93
    go_wp2
    go_ret
    exact ⟨rfl, rfl⟩
  · go_enter Tryz.func93, Tryz.ntmps93
    go_wp2
    go_ret
    exact ⟨rfl, rfl⟩

end Go.Proofs.YteckjkblngmenaaGreatDoor

/-
  Ops as data: which are right, their bytes, and what is read of bytes. Nothing of the program is walked here.
-/
namespace Go.Proofs.YteckjkblngmenaaGreatDoor
open Go.RowKit
set_option linter.unusedVariables false
set_option maxRecDepth 100000

/-- A cut; an op. -/
structure Ct where
  (r n f t : Int)
structure Opn where
  (k ir im t br bm pr pm : Int)
  (key : ByteArray)
  (sr sm lr lm li gr gm gi : Int)
  (text : ByteArray)
  (cuts : List Ct)
  (flag : Bool)
def Opn.zero : Opn := ⟨0, 0, 0, 0, 0, 0, 0, 0, ⟨#[]⟩, 0, 0, 0, 0, 0, 0, 0, 0, ⟨#[]⟩, [], false⟩

/-- A block's name; a character; a cut. -/
def rb (r n : Int) : Bool := decide (n = 0 ∧ (r = 0 ∨ r = 1)) || ro r n
def rc (r n i : Int) : Bool := decide (r = 0 ∧ n = 0 ∧ i = 0) || (ro r n && decide (0 ≤ i ∧ i < 64))
def rct (c : Ct) : Bool := ro c.r c.n && decide (0 ≤ c.f ∧ c.f < c.t ∧ c.t ≤ 64)

/-- The fields that a kind tells, by their numbers. -/
def told (k : Int) : List Nat :=
  if k = 1 then [1, 2] else if k = 2 then [0, 1, 2] else if k = 3 then [3, 4, 5, 6] else if k = 4 then [7] else if k = 5 then [3, 4, 5, 1, 2] else if k = 6 then [0, 8] else []

def rightF (o : Opn) : Nat → Bool
  | 0 => ro o.br o.bm
  | 1 => rb o.pr o.pm
  | 2 => K.right (tx o.key)
  | 3 => ro o.sr o.sm
  | 4 => rc o.lr o.lm o.li
  | 5 => rc o.gr o.gm o.gi
  | 6 => decide (1 ≤ o.text.size ∧ o.text.size ≤ 64)
  | 7 => decide (1 ≤ o.cuts.length ∧ o.cuts.length ≤ 16) && o.cuts.all rct
  | _ => true
def noughtF (o : Opn) : Nat → Bool
  | 0 => decide (o.br = 0 ∧ o.bm = 0)
  | 1 => decide (o.pr = 0 ∧ o.pm = 0)
  | 2 => decide (o.key.size = 0)
  | 3 => decide (o.sr = 0 ∧ o.sm = 0)
  | 4 => decide (o.lr = 0 ∧ o.lm = 0 ∧ o.li = 0)
  | 5 => decide (o.gr = 0 ∧ o.gm = 0 ∧ o.gi = 0)
  | 6 => decide (o.text.size = 0)
  | 7 => decide (o.cuts.length = 0)
  | _ => !o.flag
def goodF (o : Opn) (f : Nat) : Bool := if f ∈ told o.k then rightF o f else noughtF o f
def rightO (o : Opn) : Bool := ro o.ir o.im && rs o.t o.ir && (List.range 9).all (goodF o) && !(told o.k).isEmpty

/-- Bytes. -/
def en2 (a b : Int) : List Int := M.enc a ++ M.enc b
def en3 (a b c : Int) : List Int := M.enc a ++ M.enc b ++ M.enc c
def enC (c : Ct) : List Int := M.enc c.r ++ M.enc c.n ++ M.enc c.f ++ M.enc c.t
def encF (o : Opn) : Nat → List Int
  | 0 => en2 o.br o.bm
  | 1 => en2 o.pr o.pm
  | 2 => M.encText o.key
  | 3 => en2 o.sr o.sm
  | 4 => en3 o.lr o.lm o.li
  | 5 => en3 o.gr o.gm o.gi
  | 6 => M.encText o.text
  | 7 => M.enc o.cuts.length ++ o.cuts.flatMap enC
  | _ => M.enc (if o.flag then 1 else 0)
def encO (o : Opn) : List Int := (M.enc o.k ++ M.enc o.ir ++ M.enc o.im ++ M.enc o.t) ++ (told o.k).flatMap (encF o)

/-- What is left to read, and whether the cursor is lost. -/
abbrev St := List Int × Bool
def rn (m : Int) (s : St) : Int × St := (M.numV m s.1, (M.numS m s.1, M.numL m s.1 s.2))
def rt (m : Int) (s : St) : ByteArray × St := (M.str (M.textV m s.1), (M.textS m s.1, M.textL m s.1 s.2))
/-- The bounds by which numbers and texts are read. -/
structure Bnd where
  (k t r n i key text ft : Int)
def rcut (B : Bnd) (s : St) : Ct × St :=
  (⟨(rn B.r s).1, (rn B.n (rn B.r s).2).1, (rn B.ft (rn B.n (rn B.r s).2).2).1, (rn B.ft (rn B.ft (rn B.n (rn B.r s).2).2).2).1⟩, (rn B.ft (rn B.ft (rn B.n (rn B.r s).2).2).2).2)
def rcuts (B : Bnd) : Nat → St → List Ct × St
  | 0, s => ([], s)
  | j + 1, s => ((rcuts B j s).1 ++ [(rcut B (rcuts B j s).2).1], (rcut B (rcuts B j s).2).2)
def rdF (B : Bnd) (f : Nat) (p : Opn × St) : Opn × St :=
  match f with
  | 0 => ({ p.1 with br := (rn B.r p.2).1, bm := (rn B.n (rn B.r p.2).2).1 }, (rn B.n (rn B.r p.2).2).2)
  | 1 => ({ p.1 with pr := (rn B.r p.2).1, pm := (rn B.n (rn B.r p.2).2).1 }, (rn B.n (rn B.r p.2).2).2)
  | 2 => ({ p.1 with key := (rt B.key p.2).1 }, (rt B.key p.2).2)
  | 3 => ({ p.1 with sr := (rn B.r p.2).1, sm := (rn B.n (rn B.r p.2).2).1 }, (rn B.n (rn B.r p.2).2).2)
  | 4 => ({ p.1 with lr := (rn B.r p.2).1, lm := (rn B.n (rn B.r p.2).2).1, li := (rn B.i (rn B.n (rn B.r p.2).2).2).1 }, (rn B.i (rn B.n (rn B.r p.2).2).2).2)
  | 5 => ({ p.1 with gr := (rn B.r p.2).1, gm := (rn B.n (rn B.r p.2).2).1, gi := (rn B.i (rn B.n (rn B.r p.2).2).2).1 }, (rn B.i (rn B.n (rn B.r p.2).2).2).2)
  | 6 => ({ p.1 with text := (rt B.text p.2).1 }, (rt B.text p.2).2)
  | 7 => ({ p.1 with cuts := (rcuts B (rn 16 p.2).1.toNat (rn 16 p.2).2).1 }, (rcuts B (rn 16 p.2).1.toNat (rn 16 p.2).2).2)
  | _ => ({ p.1 with flag := (rn 1 p.2).1 == 1 }, (rn 1 p.2).2)
def rdH (B : Bnd) (b : List Int) : Opn × St :=
  ({ Opn.zero with k := (rn B.k (b, false)).1, ir := (rn B.r (rn B.k (b, false)).2).1, im := (rn B.n (rn B.r (rn B.k (b, false)).2).2).1, t := (rn B.t (rn B.n (rn B.r (rn B.k (b, false)).2).2).2).1 }, (rn B.t (rn B.n (rn B.r (rn B.k (b, false)).2).2).2).2)
def rdO (B : Bnd) (b : List Int) : Opn × St := (told (rdH B b).1.k).foldl (fun p f => rdF B f p) (rdH B b)
def decB (p : Opn × St) : Bool := !p.2.2 && p.2.1.isEmpty && rightO p.1
def decO (B : Bnd) (b : List Int) : Opn × Bool := if decB (rdO B b) then ((rdO B b).1, true) else (Opn.zero, false)

end Go.Proofs.YteckjkblngmenaaGreatDoor

/-
  What is read of bytes is what they were made of: of right ops, whatever the bounds (if they are wide enough); one right op's bytes are never the beginning of another's. Nothing of the program is walked here.
-/
namespace Go.Proofs.YteckjkblngmenaaGreatDoor
open Go.RowKit
set_option linter.unusedVariables false
set_option maxRecDepth 100000

/-- A state of a cursor: bytes; nothing when it is lost. -/
def Vl (s : St) : Prop := K.Byt s.1 ∧ (s.2 = true → s.1 = [])
/-- Where the cursor isn't lost behind a step, these bytes were read. -/
def Sd (e : List Int) (s s' : St) : Prop := Vl s' ∧ (s'.2 = false → s.2 = false ∧ s.1 = e ++ s'.1)
theorem Sd.trans {e e' : List Int} {a b c : St} (h : Sd e a b) (k : Sd e' b c) : Sd (e ++ e') a c := by
  refine ⟨k.1, fun hc => ?_⟩
  obtain ⟨h1, h2⟩ := k.2 hc
  obtain ⟨h3, h4⟩ := h.2 h1
  exact ⟨h3, by rw [h4, h2, List.append_assoc]⟩
theorem Sd.refl {s : St} (h : Vl s) : Sd [] s s := ⟨h, fun hc => ⟨hc, rfl⟩⟩

theorem first_of_fo {xs : List Int} (h : M.fo xs = true) : M.first xs = some (M.fn xs, M.fc xs) := by
  unfold M.fo at h
  obtain ⟨⟨n, k⟩, hnk⟩ := Option.isSome_iff_exists.1 h
  unfold M.fn M.fc
  rw [hnk]
theorem numOk_fo {m : Int} {xs : List Int} (h : M.numOk m xs = true) : M.fo xs = true ∧ M.fn xs ≤ m := by
  unfold M.numOk at h
  simpa using h
theorem rn_val {m : Int} {s : St} (h : K.Byt s.1) : 0 ≤ (rn m s).1 ∧ (rn m s).1 < 562949953421312 ∧ (0 ≤ m → (rn m s).1 ≤ m) := by
  unfold rn M.numV
  dsimp only
  split
  · rename_i hok
    have h1 := numOk_fo hok
    have := M.enc_first_eq h (first_of_fo h1.1)
    exact ⟨this.1, this.2.1, fun _ => h1.2⟩
  · exact ⟨Int.le_refl _, by decide, fun h => h⟩
theorem rn_vl {m : Int} {s : St} (h : Vl s) : Vl (rn m s).2 := by
  obtain ⟨xs, l⟩ := s
  unfold rn
  refine ⟨?_, ?_⟩
  · intro x hx
    unfold M.numS at hx
    dsimp only at hx
    split at hx
    · exact h.1 x (List.mem_of_mem_drop hx)
    · cases hx
  · dsimp only
    unfold M.numL M.numS
    by_cases hok : M.numOk m xs = true
    · rw [if_pos hok, if_pos hok]
      intro hl
      rw [show xs = [] from h.2 hl]; simp
    · rw [if_neg hok, if_neg hok]
      intro _; rfl
theorem rn_sound (m : Int) {s : St} (h : Vl s) : Sd (M.enc (rn m s).1) s (rn m s).2 := by
  refine ⟨rn_vl h, ?_⟩
  obtain ⟨xs, l⟩ := s
  unfold rn
  intro hl
  dsimp only at hl ⊢
  unfold M.numL at hl
  by_cases hok : M.numOk m xs = true
  · rw [if_pos hok] at hl
    refine ⟨hl, ?_⟩
    unfold M.numV M.numS
    rw [if_pos hok, if_pos hok]
    have := M.enc_first_eq h.1 (first_of_fo (numOk_fo hok).1)
    rw [this.2.2.2.1, List.take_append_drop]
  · rw [if_neg hok] at hl; cases hl
theorem rn_full {m n : Int} (h0 : 0 ≤ n) (hm : n ≤ m) (hn : n < 562949953421312) (r : List Int) : rn m (M.enc n ++ r, false) = (n, (r, false)) := by
  have hf := M.first_enc h0 hn r
  have e1 : M.fn (M.enc n ++ r) = n := by unfold M.fn; rw [hf]
  have e2 : M.fc (M.enc n ++ r) = M.sz n := by unfold M.fc; rw [hf]
  have hok : M.numOk m (M.enc n ++ r) = true := by
    unfold M.numOk M.fo
    rw [hf, e1]
    simpa using hm
  unfold rn M.numV M.numS M.numL
  dsimp only
  rw [if_pos hok, if_pos hok, if_pos hok, e1, e2, ← M.enc_length, List.drop_left]

theorem rt_text {m : Int} {s : St} : (rt m s).2 = (M.takeS (rn m s).1 (rn m s).2.1, M.takeL (rn m s).1 (rn m s).2.1 (rn m s).2.2) ∧ (rt m s).1 = M.str (M.takeV (rn m s).1 (rn m s).2.1) := ⟨rfl, rfl⟩
theorem takeV_byt {n : Int} {xs : List Int} (h : K.Byt xs) : K.Byt (M.takeV n xs) := by
  intro x hx
  unfold M.takeV at hx
  split at hx
  · exact h x (List.mem_of_mem_take hx)
  · cases hx
theorem ofStr_tx (s : ByteArray) : M.ofStr s = tx s := rfl
theorem rt_sound (m : Int) {s : St} (h : Vl s) : Sd (M.encText (rt m s).1) s (rt m s).2 := by
  have h1 := rn_sound m h
  have hv := rn_val (m := m) h.1
  rw [rt_text.1, rt_text.2]
  generalize rn m s = p at h1 hv ⊢
  obtain ⟨n, xs, l⟩ := p
  dsimp only at h1 hv ⊢
  refine ⟨⟨?_, ?_⟩, ?_⟩
  · intro x hx
    unfold M.takeS at hx
    dsimp only at hx
    split at hx
    · exact h1.1.1 x (List.mem_of_mem_drop hx)
    · cases hx
  · dsimp only
    unfold M.takeL M.takeS
    by_cases hok : M.takeOk n xs = true
    · rw [if_pos hok, if_pos hok]
      intro hl
      rw [show xs = [] from h1.1.2 hl]; simp
    · rw [if_neg hok, if_neg hok]
      intro _; rfl
  · intro hl
    dsimp only at hl ⊢
    unfold M.takeL at hl
    by_cases hok : M.takeOk n xs = true
    · rw [if_pos hok] at hl
      obtain ⟨h2, h3⟩ := h1.2 hl
      refine ⟨h2, ?_⟩
      have ht : 0 ≤ n ∧ n ≤ xs.length := by unfold M.takeOk at hok; simpa using hok
      unfold M.takeV M.takeS M.encText
      rw [if_pos hok, if_pos hok, ofStr_tx]
      have hb : K.Byt (xs.take n.toNat) := fun x hx => h1.1.1 x (List.mem_of_mem_take hx)
      rw [tx_str hb, size_str hb, List.length_take, Nat.min_eq_left (by omega), Int.toNat_of_nonneg ht.1, List.append_assoc, List.take_append_drop]
      exact h3
    · rw [if_neg hok] at hl; cases hl
theorem rt_full {m : Int} {s : ByteArray} (hm : (s.size : Int) ≤ m) (hn : (s.size : Int) < 562949953421312) (r : List Int) : rt m (M.encText s ++ r, false) = (s, (r, false)) := by
  have h1 := rn_full (m := m) (n := s.size) (by omega) hm hn (M.ofStr s ++ r)
  unfold M.encText
  rw [List.append_assoc]
  have e := rt_text (m := m) (s := (M.enc s.size ++ (M.ofStr s ++ r), false))
  rw [h1] at e
  dsimp only at e
  have hok : M.takeOk (s.size : Int) (M.ofStr s ++ r) = true := by
    unfold M.takeOk
    rw [List.length_append, M.ofStr_length]
    simp
    omega
  unfold M.takeS M.takeL M.takeV at e
  rw [if_pos hok, if_pos hok, if_pos hok, Int.toNat_natCast, List.drop_left' (M.ofStr_length s), List.take_left' (M.ofStr_length s), M.str_ofStr] at e
  exact Prod.ext e.2 e.1

/-- A cut, cuts. -/
theorem rcut_sound (B : Bnd) {s : St} (h : Vl s) : Sd (enC (rcut B s).1) s (rcut B s).2 := by
  unfold enC rcut
  have h1 := rn_sound B.r h
  have h2 := rn_sound B.n h1.1
  have h3 := rn_sound B.ft h2.1
  exact ((h1.trans h2).trans h3).trans (rn_sound B.ft h3.1)
theorem rcuts_sound (B : Bnd) (j : Nat) {s : St} (h : Vl s) : Sd ((rcuts B j s).1.flatMap enC) s (rcuts B j s).2 ∧ (rcuts B j s).1.length = j := by
  induction j with
  | zero => exact ⟨Sd.refl h, rfl⟩
  | succ j ih =>
    refine ⟨?_, by unfold rcuts; simp [ih.2]⟩
    unfold rcuts
    rw [List.flatMap_append]
    have := ih.1.trans (rcut_sound B ih.1.1)
    simpa using this
/-- The bounds let all through that right ops tell. -/
def Bnd.ok (B : Bnd) : Prop := 6 ≤ B.k ∧ 1099511627776 ≤ B.t ∧ 15 ≤ B.r ∧ 1048576 ≤ B.n ∧ 63 ≤ B.i ∧ 32 ≤ B.key ∧ 64 ≤ B.text ∧ 64 ≤ B.ft
theorem rcut_full {B : Bnd} (hB : B.ok) {c : Ct} (hc : rct c = true) (r : List Int) : rcut B (enC c ++ r, false) = (c, (r, false)) := by
  obtain ⟨_, _, h1, h2, _, _, _, h3⟩ := hB
  simp [rct, ro] at hc
  unfold enC rcut
  simp only [List.append_assoc]
  rw [rn_full (by omega) (by omega) (by omega)]
  dsimp only
  rw [rn_full (by omega) (by omega) (by omega)]
  dsimp only
  rw [rn_full (by omega) (by omega) (by omega)]
  dsimp only
  rw [rn_full (by omega) (by omega) (by omega)]
theorem rcuts_full {B : Bnd} (hB : B.ok) : ∀ (j : Nat) (l : List Ct) (r : List Int), l.length = j → (∀ c ∈ l, rct c = true) → rcuts B j (l.flatMap enC ++ r, false) = (l, (r, false)) := by
  intro j
  induction j with
  | zero =>
    intro l r hl _
    obtain rfl := List.eq_nil_of_length_eq_zero hl
    rfl
  | succ j ih =>
    intro l r hl hc
    have hne : l ≠ [] := by intro h; subst h; simp at hl
    obtain ⟨l', c, rfl⟩ : ∃ l' c, l = l' ++ [c] := ⟨l.dropLast, l.getLast hne, (List.dropLast_concat_getLast hne).symm⟩
    have hl' : l'.length = j := by simpa using hl
    unfold rcuts
    rw [List.flatMap_append, List.append_assoc, ih l' _ hl' (fun c hc' => hc c (by simp [hc']))]
    simp only [List.flatMap_cons, List.flatMap_nil, List.append_nil]
    rw [rcut_full hB (hc c (by simp))]

theorem ro_bounds {r n : Int} (h : ro r n = true) : 0 ≤ r ∧ r < 16 ∧ 1 ≤ n ∧ n ≤ 1048576 := by simpa [ro] using h
theorem rb_bounds {r n : Int} (h : rb r n = true) : 0 ≤ r ∧ r < 16 ∧ 0 ≤ n ∧ n ≤ 1048576 := by
  simp [rb] at h
  rcases h with h | h
  · omega
  · have := ro_bounds h; omega
theorem rc_bounds {r n i : Int} (h : rc r n i = true) : 0 ≤ r ∧ r < 16 ∧ 0 ≤ n ∧ n ≤ 1048576 ∧ 0 ≤ i ∧ i < 64 := by
  simp [rc] at h
  rcases h with h | ⟨h, h2⟩
  · omega
  · have := ro_bounds h; omega

/-- A field, copied. -/
def cpF (f : Nat) (q o : Opn) : Opn :=
  match f with
  | 0 => { o with br := q.br, bm := q.bm }
  | 1 => { o with pr := q.pr, pm := q.pm }
  | 2 => { o with key := q.key }
  | 3 => { o with sr := q.sr, sm := q.sm }
  | 4 => { o with lr := q.lr, lm := q.lm, li := q.li }
  | 5 => { o with gr := q.gr, gm := q.gm, gi := q.gi }
  | 6 => { o with text := q.text }
  | 7 => { o with cuts := q.cuts }
  | _ => { o with flag := q.flag }

theorem nine {f : Nat} (h : f ≤ 8) : f = 0 ∨ f = 1 ∨ f = 2 ∨ f = 3 ∨ f = 4 ∨ f = 5 ∨ f = 6 ∨ f = 7 ∨ f = 8 := by omega
theorem rdF_sound (B : Bnd) (f : Nat) (hf : f ≤ 8) (p : Opn × St) (h : Vl p.2) (hb : (rdF B f p).2.2 = false) : Sd (encF (rdF B f p).1 f) p.2 (rdF B f p).2 := by
  obtain ⟨o, s⟩ := p
  dsimp only at h
  have h1 := rn_sound B.r h
  have h2 := rn_sound B.n h1.1
  have h3 := rn_sound B.i h2.1
  rcases nine hf with rfl | rfl | rfl | rfl | rfl | rfl | rfl | rfl | rfl
  · exact h1.trans h2
  · exact h1.trans h2
  · exact rt_sound B.key h
  · exact h1.trans h2
  · exact (h1.trans h2).trans h3
  · exact (h1.trans h2).trans h3
  · exact rt_sound B.text h
  · have h4 := rn_sound 16 h
    have hv := rn_val (m := 16) h.1
    have h5 := rcuts_sound B (rn 16 s).1.toNat h4.1
    have := h4.trans h5.1
    simp only [encF, rdF]
    rw [h5.2, Int.toNat_of_nonneg hv.1]
    exact this
  · have h4 := rn_sound 1 h
    have hv := rn_val (m := 1) h.1
    simp only [encF, rdF]
    have e : (if ((rn 1 s).1 == 1) = true then (1 : Int) else 0) = (rn 1 s).1 := by
      by_cases hc : (rn 1 s).1 = 1
      · simp [hc]
      · simp [hc]; omega
    rw [e]
    exact h4
theorem rdF_vl (B : Bnd) (f : Nat) (hf : f ≤ 8) (p : Opn × St) (h : Vl p.2) : Vl (rdF B f p).2 := by
  obtain ⟨o, s⟩ := p
  dsimp only at h
  have h1 := rn_sound B.r h
  have h2 := rn_sound B.n h1.1
  have h3 := rn_sound B.i h2.1
  rcases nine hf with rfl | rfl | rfl | rfl | rfl | rfl | rfl | rfl | rfl
  · exact h2.1
  · exact h2.1
  · exact (rt_sound B.key h).1
  · exact h2.1
  · exact h3.1
  · exact h3.1
  · exact (rt_sound B.text h).1
  · exact (rcuts_sound B _ (rn_sound 16 h).1).1.1
  · exact (rn_sound 1 h).1
theorem rdF_other (B : Bnd) {f g : Nat} (hf : f ≤ 8) (hg : g ≤ 8) (hne : f ≠ g) (p : Opn × St) : encF (rdF B g p).1 f = encF p.1 f := by
  rcases nine hf with rfl | rfl | rfl | rfl | rfl | rfl | rfl | rfl | rfl <;> rcases nine hg with rfl | rfl | rfl | rfl | rfl | rfl | rfl | rfl | rfl <;> first | exact absurd rfl hne | simp only [encF, rdF]
theorem rdF_full {B : Bnd} (hB : B.ok) (f : Nat) (hf : f ≤ 8) (q o : Opn) (hq : rightF q f = true) (r : List Int) : rdF B f (o, (encF q f ++ r, false)) = (cpF f q o, (r, false)) := by
  have hB' := hB
  obtain ⟨b1, b2, b3, b4, b5, b6, b7, b8⟩ := hB
  rcases nine hf with rfl | rfl | rfl | rfl | rfl | rfl | rfl | rfl | rfl
  · have := ro_bounds hq
    simp only [rdF, encF, en2, cpF, List.append_assoc]
    rw [rn_full (by omega) (by omega) (by omega)]
    dsimp only
    rw [rn_full (by omega) (by omega) (by omega)]
  · have := rb_bounds hq
    simp only [rdF, encF, en2, cpF, List.append_assoc]
    rw [rn_full (by omega) (by omega) (by omega)]
    dsimp only
    rw [rn_full (by omega) (by omega) (by omega)]
  · have : q.key.size ≤ 32 := by
      simp [rightF, K.right, tx_length] at hq
      exact hq.2.1
    simp only [rdF, encF, cpF]
    rw [rt_full (by omega) (by omega)]
  · have := ro_bounds hq
    simp only [rdF, encF, en2, cpF, List.append_assoc]
    rw [rn_full (by omega) (by omega) (by omega)]
    dsimp only
    rw [rn_full (by omega) (by omega) (by omega)]
  · have := rc_bounds hq
    simp only [rdF, encF, en3, cpF, List.append_assoc]
    rw [rn_full (by omega) (by omega) (by omega)]
    dsimp only
    rw [rn_full (by omega) (by omega) (by omega)]
    dsimp only
    rw [rn_full (by omega) (by omega) (by omega)]
  · have := rc_bounds hq
    simp only [rdF, encF, en3, cpF, List.append_assoc]
    rw [rn_full (by omega) (by omega) (by omega)]
    dsimp only
    rw [rn_full (by omega) (by omega) (by omega)]
    dsimp only
    rw [rn_full (by omega) (by omega) (by omega)]
  · have : q.text.size ≤ 64 := by
      simp [rightF] at hq
      exact hq.2
    simp only [rdF, encF, cpF]
    rw [rt_full (by omega) (by omega)]
  · simp [rightF] at hq
    simp only [rdF, encF, cpF, List.append_assoc]
    rw [rn_full (by omega) (by omega) (by omega)]
    dsimp only
    rw [rcuts_full hB' _ q.cuts r (by simp) hq.2]
  · simp only [rdF, encF, cpF]
    rw [rn_full (by split <;> decide) (by split <;> decide) (by split <;> decide)]
    dsimp only
    cases q.flag <;> rfl

/-- All fields of a list, one behind the other. -/
theorem told_le (k : Int) : ∀ f ∈ told k, f ≤ 8 := by
  unfold told
  intro f
  repeat' split
  all_goals simp
  all_goals omega
theorem told_nodup (k : Int) : (told k).Nodup := by
  unfold told
  repeat' split
  all_goals decide
theorem fold_sound (B : Bnd) : ∀ (L : List Nat) (p : Opn × St), (∀ f ∈ L, f ≤ 8) → L.Nodup → Vl p.2 →
    Vl (L.foldl (fun p f => rdF B f p) p).2 ∧ (∀ g, g ≤ 8 → g ∉ L → encF (L.foldl (fun p f => rdF B f p) p).1 g = encF p.1 g) ∧
    Sd (L.flatMap (encF (L.foldl (fun p f => rdF B f p) p).1)) p.2 (L.foldl (fun p f => rdF B f p) p).2 := by
  intro L
  induction L with
  | nil => intro p _ _ h; exact ⟨h, fun _ _ _ => rfl, Sd.refl h⟩
  | cons f L ih =>
    intro p hL hN hv
    have hf := hL f (by simp)
    have hv' := rdF_vl B f hf p hv
    have hN' := List.nodup_cons.1 hN
    obtain ⟨i1, i2, i3⟩ := ih (rdF B f p) (fun g hg => hL g (by simp [hg])) hN'.2 hv'
    rw [List.foldl_cons]
    refine ⟨i1, fun g hg hn => ?_, ?_⟩
    · rw [i2 g hg (fun h => hn (by simp [h]))]
      exact rdF_other B hg hf (fun e => hn (by simp [e])) p
    · rw [List.flatMap_cons, i2 f hf hN'.1]
      refine ⟨i3.1, fun hl => ?_⟩
      obtain ⟨e1, e2⟩ := i3.2 hl
      exact ((rdF_sound B f hf p hv e1).trans i3).2 hl
theorem fold_full {B : Bnd} (hB : B.ok) (q : Opn) : ∀ (L : List Nat) (o : Opn) (r : List Int), (∀ f ∈ L, f ≤ 8) → (∀ f ∈ L, rightF q f = true) →
    L.foldl (fun p f => rdF B f p) (o, (L.flatMap (encF q) ++ r, false)) = (L.foldl (fun o f => cpF f q o) o, (r, false)) := by
  intro L
  induction L with
  | nil => intro o r _ _; rfl
  | cons f L ih =>
    intro o r hL hq
    rw [List.flatMap_cons, List.append_assoc, List.foldl_cons, rdF_full hB f (hL f (by simp)) q o (hq f (by simp))]
    exact ih _ r (fun g hg => hL g (by simp [hg])) (fun g hg => hq g (by simp [hg]))

theorem six {k : Int} (h : told k ≠ []) : k = 1 ∨ k = 2 ∨ k = 3 ∨ k = 4 ∨ k = 5 ∨ k = 6 := by
  unfold told at h
  by_cases h1 : k = 1; · exact .inl h1
  by_cases h2 : k = 2; · exact .inr (.inl h2)
  by_cases h3 : k = 3; · exact .inr (.inr (.inl h3))
  by_cases h4 : k = 4; · exact .inr (.inr (.inr (.inl h4)))
  by_cases h5 : k = 5; · exact .inr (.inr (.inr (.inr (.inl h5))))
  by_cases h6 : k = 6; · exact .inr (.inr (.inr (.inr (.inr h6))))
  simp [h1, h2, h3, h4, h5, h6] at h
theorem right_parts {o : Opn} (h : rightO o = true) : (ro o.ir o.im = true ∧ rs o.t o.ir = true ∧ told o.k ≠ []) ∧ ∀ f, f ≤ 8 → goodF o f = true := by
  unfold rightO at h
  simp only [Bool.and_eq_true, List.all_eq_true, List.mem_range, Bool.not_eq_true'] at h
  obtain ⟨⟨⟨h1, h2⟩, h3⟩, h4⟩ := h
  exact ⟨⟨h1, h2, by simpa using h4⟩, fun f hf => h3 f (by omega)⟩
theorem right_told {o : Opn} (h : rightO o = true) : ∀ f ∈ told o.k, rightF o f = true := fun f hf => by
  have := (right_parts h).2 f (told_le _ f hf)
  unfold goodF at this
  rwa [if_pos hf] at this
theorem right_not {o : Opn} (h : rightO o = true) {f : Nat} (h8 : f ≤ 8) (hf : f ∉ told o.k) : noughtF o f = true := by
  have := (right_parts h).2 f h8
  unfold goodF at this
  rwa [if_neg hf] at this
theorem ba_nil {s : ByteArray} (h : s.size = 0) : s = ⟨#[]⟩ := by
  obtain ⟨d⟩ := s
  have : d.size = 0 := h
  rw [Array.eq_empty_of_size_eq_zero this]
theorem told_cp {o : Opn} (h : rightO o = true) : (told o.k).foldl (fun p f => cpF f o p) { Opn.zero with k := o.k, ir := o.ir, im := o.im, t := o.t } = o := by
  have hk := six (right_parts h).1.2.2
  have hn := fun f (h8 : f ≤ 8) (hf : f ∉ told o.k) => right_not h h8 hf
  clear h
  obtain ⟨k, ir, im, t, br, bm, pr, pm, key, sr, sm, lr, lm, li, gr, gm, gi, text, cuts, flag⟩ := o
  dsimp only at hk hn ⊢
  rcases hk with rfl | rfl | rfl | rfl | rfl | rfl
  all_goals
    have n0 := hn 0 (by decide)
    have n1 := hn 1 (by decide)
    have n2 := hn 2 (by decide)
    have n3 := hn 3 (by decide)
    have n4 := hn 4 (by decide)
    have n5 := hn 5 (by decide)
    have n6 := hn 6 (by decide)
    have n7 := hn 7 (by decide)
    have n8 := hn 8 (by decide)
    clear hn
    simp [told, noughtF] at n0 n1 n2 n3 n4 n5 n6 n7 n8
    simp [told, cpF, Opn.zero, *]
    try rfl

/-- The whole of it: a right op, whatever follows. -/
theorem rdO_full {B : Bnd} (hB : B.ok) {o : Opn} (h : rightO o = true) (r : List Int) : rdO B (encO o ++ r) = (o, (r, false)) := by
  have hB' := hB
  obtain ⟨b1, b2, b3, b4, b5, b6, b7, b8⟩ := hB
  have hp := (right_parts h).1
  have h1 := ro_bounds hp.1
  have h2 : 0 ≤ o.ir ∧ o.ir < 16 ∧ 1 ≤ o.t ∧ o.t ≤ 1099511627776 := by simpa [rs] using hp.2.1
  have h3 := six hp.2.2
  have e : rdH B (encO o ++ r) = ({ Opn.zero with k := o.k, ir := o.ir, im := o.im, t := o.t }, ((told o.k).flatMap (encF o) ++ r, false)) := by
    unfold rdH encO
    simp only [List.append_assoc]
    rw [rn_full (by omega) (by omega) (by omega)]
    dsimp only
    rw [rn_full (by omega) (by omega) (by omega)]
    dsimp only
    rw [rn_full (by omega) (by omega) (by omega)]
    dsimp only
    rw [rn_full (by omega) (by omega) (by omega)]
  unfold rdO
  rw [e]
  dsimp only
  rw [fold_full hB' o _ _ r (told_le _) (right_told h), told_cp h]
theorem decO_full {B : Bnd} (hB : B.ok) {o : Opn} (h : rightO o = true) : decO B (encO o) = (o, true) := by
  have := rdO_full hB h []
  rw [List.append_nil] at this
  unfold decO decB
  rw [this]
  simp [h]
theorem cp_head (B : Bnd) : ∀ (L : List Nat) (p : Opn × St), (∀ f ∈ L, f ≤ 8) → (L.foldl (fun p f => rdF B f p) p).1.k = p.1.k ∧ (L.foldl (fun p f => rdF B f p) p).1.ir = p.1.ir ∧ (L.foldl (fun p f => rdF B f p) p).1.im = p.1.im ∧ (L.foldl (fun p f => rdF B f p) p).1.t = p.1.t := by
  intro L
  induction L with
  | nil => intro p _; exact ⟨rfl, rfl, rfl, rfl⟩
  | cons f L ih =>
    intro p hL
    obtain ⟨h1, h2, h3, h4⟩ := ih (rdF B f p) (fun g hg => hL g (by simp [hg]))
    rw [List.foldl_cons, h1, h2, h3, h4]
    rcases nine (hL f (by simp)) with rfl | rfl | rfl | rfl | rfl | rfl | rfl | rfl | rfl <;> exact ⟨rfl, rfl, rfl, rfl⟩
theorem decO_sound (B : Bnd) {b : List Int} (hb : K.Byt b) (h : (decO B b).2 = true) : rightO (decO B b).1 = true ∧ encO (decO B b).1 = b := by
  unfold decO at h ⊢
  by_cases hd : decB (rdO B b) = true
  · rw [if_pos hd] at h ⊢
    dsimp only
    unfold decB at hd
    simp only [Bool.and_eq_true, Bool.not_eq_true', List.isEmpty_iff] at hd
    obtain ⟨⟨h1, h2⟩, h3⟩ := hd
    refine ⟨h3, ?_⟩
    have hv : Vl ((b, false) : St) := ⟨hb, fun h => by cases h⟩
    have s1 := rn_sound B.k hv
    have s2 := rn_sound B.r s1.1
    have s3 := rn_sound B.n s2.1
    have s4 := rn_sound B.t s3.1
    have hs := ((s1.trans s2).trans s3).trans s4
    have hf := fold_sound B (told (rdH B b).1.k) (rdH B b) (told_le _) (told_nodup _) hs.1
    have hc := cp_head B (told (rdH B b).1.k) (rdH B b) (told_le _)
    have := (hs.trans hf.2.2).2 h1
    unfold encO
    rw [show (rdO B b).1.k = (rdH B b).1.k from hc.1, show (rdO B b).1.ir = (rdH B b).1.ir from hc.2.1, show (rdO B b).1.im = (rdH B b).1.im from hc.2.2.1, show (rdO B b).1.t = (rdH B b).1.t from hc.2.2.2]
    have e := this.2
    dsimp only at e
    rw [show ((told (rdH B b).1.k).foldl (fun p f => rdF B f p) (rdH B b)).2.1 = [] from h2, List.append_nil] at e
    exact e.symm
  · rw [if_neg hd] at h; cases h
theorem decO_same {B B' : Bnd} (hB : B.ok) (hB' : B'.ok) {b : List Int} (hb : K.Byt b) : decO B b = decO B' b := by
  cases h : (decO B b).2 with
  | true =>
    obtain ⟨h1, h2⟩ := decO_sound B hb h
    have := decO_full hB' h1
    rw [h2] at this
    rw [this]
    exact Prod.ext rfl h
  | false =>
    cases h' : (decO B' b).2 with
    | true =>
      obtain ⟨h1, h2⟩ := decO_sound B' hb h'
      have := decO_full hB h1
      rw [h2] at this
      rw [this] at h
      cases h
    | false =>
      unfold decO at h h' ⊢
      split at h
      · cases h
      · split at h'
        · cases h'
        · rename_i x y
          rw [if_neg x, if_neg y]
/-- The program's bounds, the reference's. -/
def Bnd.own : Bnd := ⟨6, 1099511627776, 15, 1048576, 63, 32, 64, 64⟩
def Bnd.ref : Bnd := ⟨281474976710656, 281474976710656, 281474976710656, 281474976710656, 281474976710656, 281474976710656, 281474976710656, 281474976710656⟩
theorem own_ok : Bnd.own.ok := by unfold Bnd.ok Bnd.own; decide
theorem ref_ok : Bnd.ref.ok := by unfold Bnd.ok Bnd.ref; decide
end Go.Proofs.YteckjkblngmenaaGreatDoor

/-
  Ops as values: twenty cells.
-/
namespace Go.Proofs.YteckjkblngmenaaGreatDoor
open Go.RowKit
set_option linter.unusedVariables false
set_option maxRecDepth 100000

/-- An op's cells, its cuts' slice being v. -/
abbrev opl (o : Opn) (v : Value) : Array Value :=
  #[.int .i64 o.k,.int .i64 o.ir,.int .i64 o.im,.int .i64 o.t,.int .i64 o.br,.int .i64 o.bm,.int .i64 o.pr,.int .i64 o.pm,.string o.key,.int .i64 o.sr,.int .i64 o.sm,.int .i64 o.lr,.int .i64 o.lm,.int .i64 o.li,.int .i64 o.gr,.int .i64 o.gm,.int .i64 o.gi,.string o.text,v,.bool o.flag]
abbrev opv (o : Opn) (v : Value) : Value := .agg (opl o v)
abbrev opo (o : Opn) (v : Value) : Obj := .cells (opl o v) 77

end Go.Proofs.YteckjkblngmenaaGreatDoor
