/-
  What Show answers is proved here, of the program and of the reference, for all names.
-/
import Derived.Test.YtbcodkokacpioaaDoorSBlock
import Derived.Deep.QuietTactic
import Derived.BigQuiet
import Derived.Deep.RegionWith
import Derived.Lib.ItoaLen
namespace Go.Proofs.YtbcodkokacpioaaDoor
open Go.RowKit
set_option linter.unusedVariables false

/-- A name as text. -/
def sh (r n : Int) : List UInt8 :=
  if r = 0 ∧ n = 0 then [114, 111, 111, 116] else if r = 1 ∧ n = 0 then [116, 114, 97, 115, 104] else
  if ro r n = true then Lib.decDigits r.toNat ++ [46] ++ Lib.decDigits n.toNat else [63]

theorem below_grow (w : World) (k : Nat) (os : Array Obj) : Below w.heap.size w (Sort.grow (w.drewN k) os) :=
  ⟨rfl, rfl, rfl, by simp [Sort.grow], fun i hi => by simp only [Sort.grow, World.drewN]; exact Array.getElem?_append_left hi⟩

theorem itoa_any (n : Int) (w : World) (hL : Lay w) (h0 : 0 ≤ n) (h1 : n ≤ 9223372036854775807) :
    Calls Tryd.prog 37 #[.int .i64 n] w fun e w' => e = .returned (.string ⟨(Lib.decDigits n.toNat).toArray⟩) ∧ Below w.heap.size w w' :=
  (Tryd.strconv_Itoa n (by omega) h1 w hL.tab).mono fun e w' ⟨he, k, os, hw⟩ => by
    refine ⟨?_, hw ▸ below_grow w k os⟩
    rw [he]
    unfold Lib.itoa
    rw [if_neg (by omega)]

theorem nd20 {n : Int} (h0 : 0 ≤ n) (h1 : n ≤ 9223372036854775807) : (Lib.decDigits n.toNat).length ≤ 21 := by
  have := Lib.itoa_length_le n (by omega) h1
  unfold Lib.itoa at this
  rw [if_neg (by omega)] at this
  exact this
theorem sh_op {r n : Int} (h : ro r n = true) : sh r n = Lib.decDigits r.toNat ++ [46] ++ Lib.decDigits n.toNat := by
  have hb := h
  simp [ro] at hb
  unfold sh
  rw [if_neg (by omega), if_neg (by omega), if_pos h]
/-- Putting the parts together. -/
theorem join3 (x y : List UInt8) (hx : x.length ≤ 21) (hy : y.length ≤ 21) :
    ∃ (a b c d : ByteArray), a = ⟨x.toArray⟩ ∧ b = ⟨y.toArray⟩ ∧ d = ⟨(x ++ [46] ++ y).toArray⟩ ∧
      (∀ W, (Op.stringOp .add a ⟨#[46]⟩).run Tryd.prog W = .ok (.string c) W) ∧ ∀ W, (Op.stringOp .add c b).run Tryd.prog W = .ok (.string d) W :=
  ⟨⟨x.toArray⟩, ⟨y.toArray⟩, ⟨(x ++ [46]).toArray⟩, ⟨(x ++ [46] ++ y).toArray⟩, rfl, rfl, rfl,
    fun W => run_string_add_lists W x [46] (by omega) (by simp), fun W => run_string_add_lists W (x ++ [46]) y (by simp; omega) (by omega)⟩

set_option maxHeartbeats 1000000 in
theorem show_op (r n : Int) (w : World) (hL : Lay w) (h : ro r n = true) :
    Calls Tryd.prog 22 #[idv r n] w fun e w' => e = .returned (.string ⟨(sh r n).toArray⟩) ∧ Below w.heap.size w w' := by
  rw [sh_op h]
  have HR : Hid (0 ≤ r ∧ r ≤ 9223372036854775807 ∧ 0 ≤ n ∧ n ≤ 9223372036854775807) := by
    have hb := h
    simp [ro] at hb
    unfold Hid; omega
  obtain ⟨sa, sb, sc, sd, ha, hb, hd, hac, hcd⟩ := join3 (Lib.decDigits r.toNat) (Lib.decDigits n.toNat) (nd20 HR.out.1 HR.out.2.1) (nd20 HR.out.2.2.1 HR.out.2.2.2)
  rw [← hd]
  have HI := hid (fun W (hW : Lay W) => itoa_any r W hW HR.out.1 HR.out.2.1)
  have HJ := hid (fun W (hW : Lay W) => itoa_any n W hW HR.out.2.2.1 HR.out.2.2.2)
  rw [← ha] at HI
  rw [← hb] at HJ
  have hn' : (n == 0) = false := by
    have hb := h
    simp [ro] at hb
    simp; omega
  clear ha hb hd
  have HB := hid (ba w (ido 23 r n))
  have r0 := fun o => ((ba w o).cell (p := ⟨1, 0, none⟩) (World.block_lt_of_cell? _ _ hL.r0)).trans hL.r0
  have r1 := fun o => ((ba w o).cell (p := ⟨1, 1, none⟩) (World.block_lt_of_cell? _ _ hL.r1)).trans hL.r1
  have t0 := fun o => ((ba w o).cell (p := ⟨0, 0, none⟩) (World.block_lt_of_cell? _ _ hL.t0)).trans hL.t0
  have t1 := fun o => ((ba w o).cell (p := ⟨0, 1, none⟩) (World.block_lt_of_cell? _ _ hL.t1)).trans hL.t1
  have HL := hid hL
  clear hL
  go_enter Tryd.func22, Tryd.ntmps22
  go_wp2_with (go_at_call 10; refine (ro_any _ _ _).mono ?_; rintro e w2 ⟨rfl, rfl⟩; rw [h])
  have B2 := hid (bt HB.out (ba (w.alloc (ido 23 r n)) (ido 23 r n)) |>.drew)
  have L2 := hid (HL.out.below B2.out)
  have hp2 := ((Pr.new 23 w r n).below (ba _ (ido 23 r n))).drew
  have k0 := hp2.c0
  have k1 := hp2.c1
  have HP2 := hid hp2
  clear hp2
  go_region_with (first
    | (go_at_call_of 37 (Value.int .i64 r); refine (HI.out _ ?_).mono ?_; (exact L2.out); rintro e w3 ⟨rfl, b3⟩; have k3 := (HP2.out.below b3).c1; have B3 := hid b3; clear b3)
    | (go_at_call_of 37 (Value.int .i64 n); refine (HJ.out _ ?_).mono ?_; (exact L2.out.below B3.out); rintro e w4 ⟨rfl, b4⟩; have B4 := hid b4; clear b4))
  all_goals
    go_wp2_with fail
    go_ret
    exact ⟨rfl, bt B2.out (bt B3.out B4.out)⟩

set_option maxHeartbeats 1000000 in
theorem show_no (r n : Int) (w : World) (hL : Lay w) (h : ro r n = false) :
    Calls Tryd.prog 22 #[idv r n] w fun e w' => e = .returned (.string ⟨(sh r n).toArray⟩) ∧ Below w.heap.size w w' := by
  have HB := hid (ba w (ido 23 r n))
  have r0 := fun o => ((ba w o).cell (p := ⟨1, 0, none⟩) (World.block_lt_of_cell? _ _ hL.r0)).trans hL.r0
  have r1 := fun o => ((ba w o).cell (p := ⟨1, 1, none⟩) (World.block_lt_of_cell? _ _ hL.r1)).trans hL.r1
  have t0 := fun o => ((ba w o).cell (p := ⟨0, 0, none⟩) (World.block_lt_of_cell? _ _ hL.t0)).trans hL.t0
  have t1 := fun o => ((ba w o).cell (p := ⟨0, 1, none⟩) (World.block_lt_of_cell? _ _ hL.t1)).trans hL.t1
  clear hL
  by_cases h0 : r = 0 ∧ n = 0
  · obtain ⟨rfl, rfl⟩ := h0
    rw [show sh 0 0 = [114, 111, 111, 116] by unfold sh; rw [if_pos ⟨rfl, rfl⟩]]
    go_enter Tryd.func22, Tryd.ntmps22
    go_wp2_with fail
    go_ret
    exact ⟨rfl, HB.out⟩
  · by_cases h1 : r = 1 ∧ n = 0
    · obtain ⟨rfl, rfl⟩ := h1
      rw [show sh 1 0 = [116, 114, 97, 115, 104] by unfold sh; rw [if_neg (by omega), if_pos ⟨rfl, rfl⟩]]
      clear h0
      go_enter Tryd.func22, Tryd.ntmps22
      go_wp2_with fail
      go_ret
      exact ⟨rfl, HB.out⟩
    · rw [show sh r n = [63] by unfold sh; rw [if_neg h0, if_neg h1, if_neg (by rw [h]; simp)]]
      have hh : (n == 0) = false ∨ ((n == 0) = true ∧ (r == 0) = false ∧ (r == 1) = false) := by simp; omega
      clear h0 h1
      rcases hh with h2 | ⟨h2, h3, h4⟩
      all_goals
        go_enter Tryd.func22, Tryd.ntmps22
        go_wp2_with (go_at_call 10; refine (ro_any _ _ _).mono ?_; rintro e w2 ⟨rfl, rfl⟩; rw [h])
        go_ret
        exact ⟨rfl, bt HB.out (ba _ _)⟩
theorem show_any (r n : Int) (w : World) (hL : Lay w) :
    Calls Tryd.prog 22 #[idv r n] w fun e w' => e = .returned (.string ⟨(sh r n).toArray⟩) ∧ Below w.heap.size w w' := by
  cases h : ro r n
  · exact show_no r n w hL h
  · exact show_op r n w hL h

end Go.Proofs.YtbcodkokacpioaaDoor
