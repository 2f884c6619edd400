/-
  What num.Put returns is proved here, for every number: nothing and false for one that isn't right; else its bytes, in a row of the call's own.
-/
import Derived.Test.YtmgemgkanlpnnaaDoorSize
import Derived.Test.YtmgemgkanlpnnaaDoorMem
namespace Go.Proofs.YtmgemgkanlpnnaaDoor
open Go.RowKit
set_option linter.unusedVariables false
set_option maxRecDepth 100000

theorem Tryd.info5 : (Tryd.prog.info? 5).map (fun i => (i.zero, i.size, i.bytes)) = some (some (.int .u8 0), 1, 1) := by kernel_rfl

theorem row_at (m j : Nat) (n : Int) : (cs (List.replicate (m + 1) 0 ++ M.be j n))[m]? = some (.int .u8 0) := by
  simp [List.getElem?_append, cs]
theorem row_set (m j : Nat) (n x : Int) : (cs (List.replicate (m + 1) 0 ++ M.be j n)).set m (.int .u8 x) = cs (List.replicate m 0 ++ x :: M.be j n) := by
  have e : List.replicate (m + 1) (0 : Int) ++ M.be j n = List.replicate m 0 ++ 0 :: M.be j n := by
    rw [List.replicate_succ', List.append_assoc]; rfl
  rw [e]
  simp [cs]

theorem or_mask_all : ∀ j : Nat, j < 8 → 1 ≤ j → ∀ x : Nat, x < 128 → x < 2 ^ (8 - j) →
    bits BinOp.or IntKind.u8 (x : Int) (bits BinOp.xor IntKind.u8 IntKind.u8.max (255 / 2 ^ (j - 1))) = x + M.mask j := by
  decide +kernel
theorem or_mask {x c : Int} {j : Nat} (h0 : 0 ≤ x) (h1 : x < 2 ^ (8 - j)) (hc : c = 255 / 2 ^ (j - 1)) (hj : 1 ≤ j ∧ j ≤ 7) :
    bits BinOp.or IntKind.u8 x (bits BinOp.xor IntKind.u8 IntKind.u8.max c) = x + M.mask j := by
  subst hc
  obtain ⟨y, rfl⟩ := Int.eq_ofNat_of_zero_le h0
  have h2 : y < 2 ^ (8 - j) := by exact_mod_cast h1
  have h3 : 2 ^ (8 - j) ≤ 2 ^ 7 := Nat.pow_le_pow_right (by decide) (by omega)
  exact or_mask_all j (by omega) hj.1 y (by omega) h2

set_option maxHeartbeats 400000 in
theorem put_wrong (n : Int) (w : World) (h : n < 0 ∨ 562949953421312 ≤ n) :
    Calls Tryd.prog 68 #[.int .i64 n] w fun e w' => e = .returned (.tuple #[.slice none 0 0, .bool false]) ∧ w = w' := by
  have hb : M.bd 7 = 562949953421312 := by rfl
  by_cases h0 : n < 0
  · go_enter Tryd.func68, Tryd.ntmps68
    go_wp2_with (go_at_call 85; refine (bound_any _ _ (by omega) (by omega)).mono ?_; rintro e w' ⟨rfl, rfl⟩)
    go_ret2
    exact ⟨rfl, rfl⟩
  · have h1 : 562949953421312 ≤ n := by omega
    clear h
    go_enter Tryd.func68, Tryd.ntmps68
    go_wp2_with (go_at_call 85; refine (bound_any _ _ (by omega) (by omega)).mono ?_; rintro e w' ⟨rfl, rfl⟩)
    go_ret2
    exact ⟨rfl, rfl⟩

set_option maxHeartbeats 1000000 in
theorem put_right (n : Int) (w : World) (h0 : 0 ≤ n) (h1 : n < 562949953421312) :
    Calls Tryd.prog 68 #[.int .i64 n] w fun e w' => ∃ g, e = .returned (.tuple #[.slice (some ⟨g, 0, none⟩) (M.sz n) (M.sz n), .bool true]) ∧
      w'.ownsRow w.heap.size 5 1 (.slice (some ⟨g, 0, none⟩) (M.sz n) (M.sz n)) (M.sz n) (cs (M.enc n)) ∧ Below w.heap.size w w' := by
  have hb : M.bd 7 = 562949953421312 := by rfl
  obtain ⟨k, hk⟩ : ∃ k, M.sz n = k := ⟨_, rfl⟩
  have hk1 := M.sz_pos n
  rw [hk] at hk1
  obtain ⟨i0, hi, hz0, hz1, hz2⟩ := info_parts Tryd.info5
  have hkb : i0.bytes * k ≤ 281474976710656 := by rw [hz2]; omega
  have hkm : k ≤ maxLen := by unfold maxLen; omega
  go_enter Tryd.func68, Tryd.ntmps68
  go_wp2_with (first
    | (go_at_call 85; refine (bound_any _ _ (by omega) (by omega)).mono ?_; rintro e w' ⟨rfl, rfl⟩)
    | (go_at_call 84; refine (size_any _ _ (by omega)).mono ?_; rintro e w' ⟨rfl, rfl⟩)
    | (at_make; refine wpList_make_full _ rfl (.tmp 16) (.tmp 16) 22 rfl _ 5 i0 (.int .u8 0) 1 Tryd.underlying22 hi hz0 hz1 .i64 .i64 _ _ k rfl rfl (by simp) (by simp) hkb hkm (Nat.le_refl _) ?_; intro w1 hown hgrow))
  have hrow : w1.ownsRow w.heap.size 5 1 (.slice (some ⟨w.heap.size, 0, none⟩) k k) k (cs (List.replicate (k - 0) 0 ++ M.be 0 n)) := by
    have e : (madeCells #[Value.int .u8 0] (k * 1)).toList = cs (List.replicate (k - 0) 0 ++ M.be 0 n) := by simp [toList_madeCells_one, M.be]
    rw [← e]; exact hown
  have hbel : Below w.heap.size w w1 := (Below.refl _ w).grown hgrow (Nat.le_refl _) (by intro k hk; cases hk)
  clear hown hgrow
  go_loopw [0, 6] (fun nn i wr => ∃ m j : Nat, m + j = k ∧ i = .int .i64 ((m : Int) - 1) ∧ nn = .int .i64 (n / 256 ^ j) ∧
      wr.ownsRow w.heap.size 5 1 (.slice (some ⟨w.heap.size, 0, none⟩) k k) k (cs (List.replicate m 0 ++ M.be j n)) ∧ Below w.heap.size w wr) (fun _ i _ => (intOf i + 1).toNat)
  case atStart => exact ⟨k, 0, by omega, rfl, by simp, by simpa using hrow, hbel⟩
  case round =>
    clear hrow hbel
    obtain ⟨m, j, hmj, rfl, rfl, hrow, hbel⟩ := hrel
    by_cases hm : m = 0
    · subst hm
      go_wp2
      obtain rfl : j = k := by omega
      obtain ⟨x, r, hx⟩ : ∃ x r, M.be j n = x :: r := by
        cases j with
        | zero => omega
        | succ j => exact ⟨_, _, rfl⟩
      have hrow2 := hrow
      rw [List.replicate_zero, List.nil_append, hx] at hrow2
      have hcell : wr.cell? ⟨w.heap.size, 0, none⟩ = some (.int .u8 x) := by rw [hrow2.cellAt 0 (by omega)]; rfl
      have hfz := hrow2.frozenAt 0
      have HX := hid hx
      have HR := hid hrow2
      have HK := hid hk
      clear hx hrow hrow2 hk hkb hkm
      have hp : (0 : Int) < (j : Int) := by omega
      have : j = 1 ∨ j = 2 ∨ j = 3 ∨ j = 4 ∨ j = 5 ∨ j = 6 ∨ j = 7 := by omega
      rcases this with rfl | rfl | rfl | rfl | rfl | rfl | rfl
      all_goals
        have hxr := M.be_head h0 h1 HK.out HX.out
        go_region
        go_wp2
        go_ret2
        have hs := (World.ownsRow.stored HR.out 0 (.int .u8 (x + M.mask (M.sz n)))).1
        refine ⟨w.heap.size, by rw [HK.out]; rfl, ?_, (hbel.setCell (Nat.le_refl _) _).drew⟩
        rw [or_mask (by omega) (by rw [HK.out]; exact hxr.2) (by rw [HK.out]; rfl) (M.sz_pos n)]
        rw [M.enc, M.encK, HK.out, HX.out]
        rw [HK.out] at hs
        exact hs
    · obtain ⟨m', rfl⟩ : ∃ m', m = m' + 1 := ⟨m - 1, by omega⟩
      rw [show (((m' + 1 : Nat) : Int) - 1) = (m' : Int) from by omega]
      have hcell := hrow.cellAt m' (by omega)
      have hfz := hrow.frozenAt m'
      have hst := hrow.stored m'
      have HS := hid hst
      clear hst
      have hc2 : wr.cell? ⟨w.heap.size, m', none⟩ = some (.int .u8 0) := by rw [hcell]; exact row_at _ _ _
      clear hcell
      go_wp2
      go_roundw
      case rel =>
        have hs := HS.out (.int .u8 (n / 256 ^ j % 256))
        refine ⟨m', j + 1, by omega, rfl, ?_, ?_, hbel.setCell (Nat.le_refl _) _⟩
        · rw [Int.pow_succ, Int.ediv_ediv_of_nonneg (by exact Int.le_of_lt (Int.pow_pos (by decide)))]
        · have e := hs.1
          rw [row_set] at e
          exact e
      case measure => simp [intOf]

theorem put_bs (n : Int) (w : World) (h0 : 0 ≤ n) (h1 : n < 562949953421312) :
    Calls Tryd.prog 68 #[.int .i64 n] w fun e w' => ∃ v, e = .returned (.tuple #[v, .bool true]) ∧ Bs w' v (M.enc n) ∧ Below w.heap.size w w' :=
  (put_right n w h0 h1).mono fun _ _ ⟨_, he, ho, hb⟩ => ⟨_, he, Bs.of_own ho (M.enc_byte n h0 h1), hb⟩

theorem below_size {w w' : World} (h : Below w.heap.size w w') {B : Nat} (hB : B ≤ w.heap.size) : B ≤ w'.heap.size := Nat.le_trans hB h.size

end Go.Proofs.YtmgemgkanlpnnaaDoor
