/-
  That offshootlaw01.alive returns true is proved here. No condition.
-/
import Derived.Test.YthlieokodljhkaaPut
import Derived.Test.YthlieokodljhkaaCur
import Derived.Test.YthlieokodljhkaaSame
namespace Go.Proofs.Ythlieokodljhkaa
open Go.RowKit
set_option linter.unusedVariables false

theorem put_bs (n : Int) (w : World) (h0 : 0 ≤ n) (h1 : n < 562949953421312) :
    Calls Try.prog 10 #[.int .i64 n] w fun e w' => ∃ v, e = .returned (.tuple #[v, .bool true]) ∧ Bs w' v (M.enc n) ∧ Below w.heap.size w w' :=
  (put_right n w h0 h1).mono fun _ _ ⟨_, he, ho, hb⟩ => ⟨_, he, Bs.of_own ho (M.enc_byte n h0 h1), hb⟩

theorem below_size {w w' : World} (h : Below w.heap.size w w') {B : Nat} (hB : B ≤ w.heap.size) : B ≤ w'.heap.size := Nat.le_trans hB h.size

set_option maxHeartbeats 1000000 in
theorem alive_any (w : World) : Calls Try.prog 9 #[] w fun e w' => e = .returned (.bool true) ∧ Below w.heap.size w w' := by
  go_enter Try.func9, Try.ntmps9
  go_wp2_with fail
  refine (put_bs 128 _ (by decide) (by decide)).mono ?_
  rintro e w1 ⟨va, rfl, hva, b1⟩
  go_wp2_with fail
  refine (put_bs 16384 _ (by decide) (by decide)).mono ?_
  rintro e w2 ⟨vb, rfl, hvb, b2⟩
  go_wp2_with fail
  refine (put_wrong (-1) _ (by decide)).mono ?_
  rintro e w2' ⟨rfl, rfl⟩
  go_wp2_with fail
  have b3 : Below w2.heap.size w2 (w2.alloc (.cells (cs [2, 97, 98, 5]).toArray 5)) := (Below.refl _ _).alloc (Nat.le_refl _) _
  refine (at_any _ [2, 97, 98, 5] _ (Bs.lit w2 5 [2, 97, 98, 5] (by decide) (by decide)) (by decide)).mono ?_
  rintro e w4 ⟨bc, rfl, hbc, hcur, b4⟩
  go_wp2_with fail
  have b14 : Below w1.heap.size w1 w4 := bt b2 (bt b3 b4)
  have b24 : Below w2.heap.size w2 w4 := bt b3 b4
  have b5 := ba w4 (.cells (cs [128, 128]).toArray 5)
  refine (same_b va _ (M.enc 128) [128, 128] _ (hva.below (bt b14 b5)) (Bs.lit w4 5 [128, 128] (by decide) (by decide))).mono ?_
  rintro e w5 ⟨rfl, b6⟩
  rw [show decide (M.enc 128 = [128, 128]) = true by decide]
  have hcur5 := hcur.below (bt b5 b6)
  have b25 : Below w2.heap.size w2 w5 := bt b24 (bt b5 b6)
  have b05 : Below w.heap.size w w5 := bt b1 (bt b14 (bt b5 b6))
  have hbc0 : w.heap.size ≤ bc := Nat.le_trans (bt b1 (bt b2 b3)).size hbc
  clear hcur b14 b24 b5 b6 b3 b4 b1 b2 hbc hva
  go_wp2_with fail
  have b6 := ba w5 (.cells (cs [192, 64, 0]).toArray 5)
  refine (same_b vb _ (M.enc 16384) [192, 64, 0] _ (hvb.below (bt b25 b6)) (Bs.lit w5 5 [192, 64, 0] (by decide) (by decide))).mono ?_
  rintro e w6 ⟨rfl, b7⟩
  rw [show decide (M.enc 16384 = [192, 64, 0]) = true by decide]
  have hcur6 := hcur5.below (bt b6 b7)
  have b06 : Below w.heap.size w w6 := bt b05 (bt b6 b7)
  clear hcur5 b25 b05 b6 b7 hvb
  go_wp2_with fail
  refine (text_any bc _ _ 9 _ hcur6).mono ?_
  rintro e w7 ⟨rfl, hcur7, g7⟩
  rw [show M.str (M.textV 9 [2, 97, 98, 5]) = ⟨#[97, 98]⟩ from rfl]
  rw [show M.textS 9 [2, 97, 98, 5] = [5] by decide, show M.textL 9 [2, 97, 98, 5] false = false by decide] at hcur7
  have b07 := bg b06 g7 hbc0
  clear g7 hcur6 b06
  go_wp2_with fail
  refine (num_any bc _ _ 9 _ hcur7).mono ?_
  rintro e w8 ⟨rfl, hcur8, g8⟩
  rw [show M.numV 9 [5] = 5 by decide]
  rw [show M.numS 9 [5] = [] by decide, show M.numL 9 [5] false = false by decide] at hcur8
  have b08 := bg b07 g8 hbc0
  clear g8 hcur7 b07
  go_wp2_with fail
  refine (end_any bc _ _ _ hcur8).mono ?_
  rintro e w9 ⟨rfl, rfl⟩
  go_wp2
  go_ret
  exact ⟨rfl, b08⟩

end Go.Proofs.Ythlieokodljhkaa
