/-
  Parts of the proof, one behind the other; what each proves stands at its head.
-/
import Derived.Test.YteckjkblngmenaaGreatDoorPart4
import Derived.Test.YteckjkblngmenaaGreatDoorPart2
import Derived.Laws.Cover1
import Derived.Test.YteckjkblngmenaaGreatDoorPart3
import Derived.BigFrame
import Derived.Deep.WholeRow
import Derived.RangeFuncRecord
import Derived.BigQuiet
import Derived.Deep.CutRange

/-
  What RightBlock and RightChar answer is proved here, of the program and of the reference, for all names and characters; what Right answers of keys, of both.
-/
namespace Go.Proofs.YteckjkblngmenaaGreatDoor
open Go.RowKit
set_option linter.unusedVariables false
set_option maxRecDepth 100000

set_option maxHeartbeats 1000000 in
theorem rb_any (r n : Int) (w : World) (hL : Lay w) :
    Calls Tryz.prog 145 #[idv r n] w fun e w' => e = .returned (.bool (rb r n)) ∧ Below w.heap.size w w' := by
  have HB := hid (ba w (ido 72 r n))
  have r0 := fun o => ((ba w o).cell (p := ⟨0, 0, none⟩) (World.block_lt_of_cell? _ _ hL.r0)).trans hL.r0
  have r1 := fun o => ((ba w o).cell (p := ⟨0, 1, none⟩) (World.block_lt_of_cell? _ _ hL.r1)).trans hL.r1
  have t0 := fun o => ((ba w o).cell (p := ⟨1, 0, none⟩) (World.block_lt_of_cell? _ _ hL.t0)).trans hL.t0
  have t1 := fun o => ((ba w o).cell (p := ⟨1, 1, none⟩) (World.block_lt_of_cell? _ _ hL.t1)).trans hL.t1
  clear hL
  by_cases hn : n = 0
  · subst hn
    by_cases hr : r = 0
    · subst hr
      rw [show rb 0 0 = true by decide]
      go_enter Tryz.func145, Tryz.ntmps145
      go_wp2_with fail
      go_ret
      exact ⟨rfl, HB.out⟩
    · by_cases hr1 : r = 1
      · subst hr1
        rw [show rb 1 0 = true by decide]
        go_enter Tryz.func145, Tryz.ntmps145
        go_wp2_with fail
        go_ret
        exact ⟨rfl, HB.out⟩
      · have e : rb r 0 = ro r 0 := by simp [rb, hr, hr1]
        rw [e]
        have hr' : (r == 0) = false := by simpa using hr
        have hr1' : (r == 1) = false := by simpa using hr1
        clear e hr hr1
        go_enter Tryz.func145, Tryz.ntmps145
        go_wp2_with (go_at_call 132; refine (ro_any _ _ _).mono ?_; rintro e w2 ⟨rfl, rfl⟩)
        go_ret
        exact ⟨rfl, bt HB.out (ba _ _)⟩
  · have e : rb r n = ro r n := by simp [rb, hn]
    rw [e]
    have hn' : (n == 0) = false := by simpa using hn
    clear e hn
    go_enter Tryz.func145, Tryz.ntmps145
    go_wp2_with (go_at_call 132; refine (ro_any _ _ _).mono ?_; rintro e w2 ⟨rfl, rfl⟩)
    go_ret
    exact ⟨rfl, bt HB.out (ba _ _)⟩

set_option maxHeartbeats 1000000 in
theorem xrb_any (r n : Int) (w : World) :
    Calls Tryz.prog 80 #[idv r n] w fun e w' => e = .returned (.bool (rb r n)) ∧ Below w.heap.size w w' := by
  have HB := hid (ba w (ido 72 r n))
  obtain ⟨b, hb⟩ : ∃ b, rb r n = b := ⟨_, rfl⟩
  rw [hb]
  have HR := hid hb
  clear hb
  have hp := heap_alloc_new w (ido 72 r n)
  have k0 := fun o => ((ba (w.alloc (ido 72 r n)) o).cell (p := ⟨w.heap.size, 0, none⟩) (by simp)).trans (by rw [cell_of_row _ _ 0 _ _ _ hp]; rfl : _ = some (.int .i64 r))
  have k1 := fun o => ((ba (w.alloc (ido 72 r n)) o).cell (p := ⟨w.heap.size, 1, none⟩) (by simp)).trans (by rw [cell_of_row _ _ 1 _ _ _ hp]; rfl : _ = some (.int .i64 n))
  clear hp
  cases hro : ro r n
  · cases hn : (n == 0)
    all_goals cases hr : (r == 0)
    all_goals
      have HO := hid hro
      go_enter Tryz.func80, Tryz.ntmps80
      go_wp2_with (go_at_call 78; refine (xro_any _ _ _).mono ?_; rintro e w2 ⟨rfl, rfl⟩; rw [hro])
      go_ret
      refine ⟨retb ?_, bt HB.out (ba _ _)⟩
      rw [← HR.out]
      simp at hn hr
      unfold rb
      rw [HO.out]
      simp [hn, hr]
  · have HO := hid hro
    go_enter Tryz.func80, Tryz.ntmps80
    go_wp2_with (go_at_call 78; refine (xro_any _ _ _).mono ?_; rintro e w2 ⟨rfl, rfl⟩; rw [hro])
    go_ret
    refine ⟨retb ?_, bt HB.out (ba _ _)⟩
    rw [← HR.out]
    simp [rb, HO.out]

abbrev chv (r n i : Int) : Value := .agg #[.int .i64 r, .int .i64 n, .int .i64 i]

set_option maxHeartbeats 1000000 in
theorem rc_any (r n i : Int) (w : World) :
    Calls Tryz.prog 147 #[chv r n i] w fun e w' => e = .returned (.bool (rc r n i)) ∧ Below w.heap.size w w' := by
  have HB := hid (ba w (.cells #[.int .i64 r, .int .i64 n, .int .i64 i] 74))
  obtain ⟨b, hb⟩ : ∃ b, rc r n i = b := ⟨_, rfl⟩
  rw [hb]
  have HR := hid hb
  clear hb
  have hp := heap_alloc_new w (.cells #[.int .i64 r, .int .i64 n, .int .i64 i] 74)
  have k2 := fun o => ((ba (w.alloc (.cells #[.int .i64 r, .int .i64 n, .int .i64 i] 74)) o).cell (p := ⟨w.heap.size, 2, none⟩) (by simp)).trans (by rw [cell_of_row _ _ 2 _ _ _ hp]; rfl : _ = some (.int .i64 i))
  clear hp
  by_cases hz : r = 0 ∧ n = 0 ∧ i = 0
  · obtain ⟨rfl, rfl, rfl⟩ := hz
    go_enter Tryz.func147, Tryz.ntmps147
    go_wp2_with fail
    go_ret
    refine ⟨retb ?_, HB.out⟩
    rw [← HR.out]
    simp [rc]
  · have hz' : ((r == 0) = false) ∨ ((r == 0) = true ∧ (n == 0) = false) ∨ ((r == 0) = true ∧ (n == 0) = true ∧ (i == 0) = false) := by
      simp; omega
    have HZ := hid hz
    clear hz
    cases hro : ro r n
    all_goals cases hi : decide (0 ≤ i)
    all_goals rcases hz' with h1 | ⟨h1, h2⟩ | ⟨h1, h2, h3⟩
    all_goals
      have HO := hid hro
      go_enter Tryz.func147, Tryz.ntmps147
      go_wp2_with (go_at_call 132; refine (ro_any _ _ _).mono ?_; rintro e w2 ⟨rfl, rfl⟩; rw [hro])
      go_ret
      refine ⟨retb ?_, bt HB.out (ba _ _)⟩
      rw [← HR.out]
      simp [rc, HO.out, HZ.out]
      try (simp at hi; omega)

set_option maxHeartbeats 1000000 in
theorem xrc_any (r n i : Int) (w : World) :
    Calls Tryz.prog 82 #[chv r n i] w fun e w' => e = .returned (.bool (rc r n i)) ∧ Below w.heap.size w w' := by
  have HB := hid (ba w (.cells #[.int .i64 r, .int .i64 n, .int .i64 i] 74))
  obtain ⟨b, hb⟩ : ∃ b, rc r n i = b := ⟨_, rfl⟩
  rw [hb]
  have HR := hid hb
  clear hb
  have hp := heap_alloc_new w (.cells #[.int .i64 r, .int .i64 n, .int .i64 i] 74)
  have k2 := fun o => ((ba (w.alloc (.cells #[.int .i64 r, .int .i64 n, .int .i64 i] 74)) o).cell (p := ⟨w.heap.size, 2, none⟩) (by simp)).trans (by rw [cell_of_row _ _ 2 _ _ _ hp]; rfl : _ = some (.int .i64 i))
  clear hp
  by_cases hz : r = 0 ∧ n = 0 ∧ i = 0
  · obtain ⟨rfl, rfl, rfl⟩ := hz
    go_enter Tryz.func82, Tryz.ntmps82
    go_wp2_with fail
    go_ret
    refine ⟨retb ?_, HB.out⟩
    rw [← HR.out]
    simp [rc]
  · have hz' : ((r == 0) = false) ∨ ((r == 0) = true ∧ (n == 0) = false) ∨ ((r == 0) = true ∧ (n == 0) = true ∧ (i == 0) = false) := by
      simp; omega
    have HZ := hid hz
    clear hz
    cases hro : ro r n
    all_goals cases hi : decide (0 ≤ i)
    all_goals rcases hz' with h1 | ⟨h1, h2⟩ | ⟨h1, h2, h3⟩
    all_goals
      have HO := hid hro
      go_enter Tryz.func82, Tryz.ntmps82
      go_wp2_with (go_at_call 78; refine (xro_any _ _ _).mono ?_; rintro e w2 ⟨rfl, rfl⟩; rw [hro])
      go_ret
      refine ⟨retb ?_, bt HB.out (ba _ _)⟩
      rw [← HR.out]
      simp [rc, HO.out, HZ.out]
      try (simp at hi; omega)

theorem key_tx (s : ByteArray) (k : Nat) (h : s.size = k + 1) (h2 : s.size ≤ 32) (hk : k < s.size) : K.right (tx s) = (((s[k]).toNat : Int) != 0) := by
  unfold K.right K.lst
  rw [tx_length, h, Nat.add_sub_cancel, tx_getD hk, Bool.eq_iff_iff]
  simp only [decide_eq_true_eq, bne_iff_ne]
  constructor
  · intro h; exact h.2.2
  · intro h; exact ⟨by omega, by omega, h⟩
theorem key_no (s : ByteArray) (h : s.size < 1 ∨ 32 < s.size) : K.right (tx s) = false := by
  unfold K.right
  rw [tx_length]
  exact decide_eq_false (by omega)

theorem key_any (s : ByteArray) (w : World) (hs : s.size ≤ 1099511627776) : Calls Tryz.prog 146 #[.string s] w fun e w' => e = .returned (.bool (K.right (tx s))) ∧ w = w' := by
  by_cases h1 : s.size < 1
  · rw [key_no s (.inl h1)]
    have h1'' : s.size = 0 := by omega
    go_enter Tryz.func146, Tryz.ntmps146
    go_wp2
    go_ret
    exact ⟨rfl, rfl⟩
  · by_cases h2 : 32 < s.size
    · rw [key_no s (.inr h2)]
      have h1' : 1 ≤ s.size := by omega
      go_enter Tryz.func146, Tryz.ntmps146
      go_wp2
      go_ret
      exact ⟨rfl, rfl⟩
    · obtain ⟨k, hk⟩ : ∃ k, s.size = k + 1 := ⟨s.size - 1, by omega⟩
      have hks : k < s.size := by omega
      rw [key_tx s k hk (by omega) hks]
      have h1' : 1 ≤ s.size := by omega
      have h2' : s.size ≤ 32 := by omega
      go_enter Tryz.func146, Tryz.ntmps146
      go_wp2
      go_ret
      exact ⟨rfl, rfl⟩

theorem xkey_any (s : ByteArray) (w : World) (hs : s.size ≤ 1099511627776) : Calls Tryz.prog 81 #[.string s] w fun e w' => e = .returned (.bool (K.right (tx s))) ∧ w = w' := by
  by_cases h1 : s.size < 1
  · rw [key_no s (.inl h1)]
    have h1'' : s.size = 0 := by omega
    go_enter Tryz.func81, Tryz.ntmps81
    go_wp2
    go_ret
    exact ⟨rfl, rfl⟩
  · by_cases h2 : 32 < s.size
    · rw [key_no s (.inr h2)]
      have h1' : 1 ≤ s.size := by omega
      go_enter Tryz.func81, Tryz.ntmps81
      go_wp2
      go_ret
      exact ⟨rfl, rfl⟩
    · obtain ⟨k, hk⟩ : ∃ k, s.size = k + 1 := ⟨s.size - 1, by omega⟩
      have hks : k < s.size := by omega
      rw [key_tx s k hk (by omega) hks]
      have h1' : 1 ≤ s.size := by omega
      have h2' : s.size ≤ 32 := by omega
      go_enter Tryz.func81, Tryz.ntmps81
      go_wp2
      go_ret
      exact ⟨rfl, rfl⟩

end Go.Proofs.YteckjkblngmenaaGreatDoor

/-
  What nought answers is proved here, for all ops and fields.
-/
namespace Go.Proofs.YteckjkblngmenaaGreatDoor
open Go.RowKit
set_option linter.unusedVariables false
set_option maxRecDepth 100000

theorem beq_no (s : ByteArray) : (s.toList == ByteArray.toList ⟨#[]⟩) = decide (s.size = 0) := by
  rw [beq_tx, Bool.eq_iff_iff]
  simp only [decide_eq_true_eq]
  rw [← tx_length]
  constructor <;> intro h
  · rw [h]; rfl
  · rw [List.eq_nil_of_length_eq_zero h]; rfl

theorem toList_nil (s : ByteArray) : s.toList = [] ↔ s = ByteArray.empty := by
  have := beq_no s
  constructor <;> intro h
  · have e : (s.toList == ByteArray.toList ⟨#[]⟩) = true := by rw [h]; unfold ByteArray.toList ByteArray.toList.loop; decide
    rw [this] at e
    exact ba_nil (by simpa using e)
  · rw [h]; unfold ByteArray.toList ByteArray.toList.loop; decide
theorem nought_any (f : Nat) (hf : f ≤ 8) (o : Opn) (a : Option Addr) (c : Nat) (w : World) : Calls Tryz.prog 134 #[opv o (.slice a o.cuts.length c), .int .i64 f] w fun e w' => e = .returned (.bool (noughtF o f)) ∧ Below w.heap.size w w' := by
  have HB := hid (ba w (opo o (.slice a o.cuts.length c)))
  obtain ⟨b, hb⟩ : ∃ b, noughtF o f = b := ⟨_, rfl⟩
  rw [hb]
  have HR := hid hb
  clear hb
  rcases nine hf with rfl | rfl | rfl | rfl | rfl | rfl | rfl | rfl | rfl
  all_goals
    go_enter Tryz.func134, Tryz.ntmps134
    go_wp2_with fail
    all_goals
      go_ret
      refine ⟨retb ?_, HB.out⟩
      rw [← HR.out]
      simp [noughtF, toList_nil, *]
end Go.Proofs.YteckjkblngmenaaGreatDoor

/-
  What right (of a field) and Right answer is proved here, for all ops whose texts are of at most 2^40 bytes.
-/
namespace Go.Proofs.YteckjkblngmenaaGreatDoor
open Go.RowKit
set_option linter.unusedVariables false
set_option maxRecDepth 100000

/-- Texts that are not too long to count. -/
def Opn.fine (o : Opn) : Prop := o.key.size ≤ 1099511627776 ∧ o.text.size ≤ 1099511627776

theorem rightf_any (f : Nat) (hf : f ≤ 8) (o : Opn) (v : Value) (w : World) (hL : Lay w) (hC : Cs w v o.cuts) (hfin : o.fine) :
    Calls Tryz.prog 136 #[opv o v, .int .i64 f] w fun e w' => e = .returned (.bool (rightF o f)) ∧ Below w.heap.size w w' := by
  obtain ⟨a, c, rfl, _, _⟩ := hC.form
  have HB := hid (ba w (opo o (.slice a o.cuts.length c)))
  have HL := hid (hL.below HB.out)
  have HC := hid (hC.below HB.out)
  have HF := hid hfin
  clear hL hC hfin
  rcases nine hf with rfl | rfl | rfl | rfl | rfl | rfl | rfl | rfl | rfl
  · go_enter Tryz.func136, Tryz.ntmps136
    go_wp2_with (go_at_call 132; refine (ro_any _ _ _).mono ?_; rintro e w2 ⟨rfl, rfl⟩)
    go_ret
    exact ⟨rfl, bt HB.out (ba _ _)⟩
  · go_enter Tryz.func136, Tryz.ntmps136
    go_wp2_with fail
    refine (rb_any _ _ _ HL.out).mono ?_
    rintro e w2 ⟨rfl, hb⟩
    have HB2 := hid hb
    clear hb
    go_wp2
    go_ret
    exact ⟨rfl, bt HB.out HB2.out⟩
  · go_enter Tryz.func136, Tryz.ntmps136
    go_wp2_with (go_at_call 146; refine (key_any _ _ HF.out.1).mono ?_; rintro e w2 ⟨rfl, rfl⟩)
    go_ret
    exact ⟨rfl, HB.out⟩
  · go_enter Tryz.func136, Tryz.ntmps136
    go_wp2_with (go_at_call 132; refine (ro_any _ _ _).mono ?_; rintro e w2 ⟨rfl, rfl⟩)
    go_ret
    exact ⟨rfl, bt HB.out (ba _ _)⟩
  · go_enter Tryz.func136, Tryz.ntmps136
    go_wp2_with fail
    refine (rc_any _ _ _ _).mono ?_
    rintro e w2 ⟨rfl, hb⟩
    have HB2 := hid hb
    clear hb
    go_wp2
    go_ret
    exact ⟨rfl, bt HB.out HB2.out⟩
  · go_enter Tryz.func136, Tryz.ntmps136
    go_wp2_with fail
    refine (rc_any _ _ _ _).mono ?_
    rintro e w2 ⟨rfl, hb⟩
    have HB2 := hid hb
    clear hb
    go_wp2
    go_ret
    exact ⟨rfl, bt HB.out HB2.out⟩
  · have hs := HF.out.2
    by_cases h1 : 1 ≤ o.text.size
    · have h1' : decide ((1 : Int) ≤ o.text.size) = true := by simp; omega
      go_enter Tryz.func136, Tryz.ntmps136
      go_wp2
      go_ret
      refine ⟨retb ?_, HB.out⟩
      simp [rightF]
      omega
    · have h1' : decide ((1 : Int) ≤ o.text.size) = false := by simp; omega
      go_enter Tryz.func136, Tryz.ntmps136
      go_wp2
      go_ret
      refine ⟨retb ?_, HB.out⟩
      simp [rightF]
      omega
  · go_enter Tryz.func136, Tryz.ntmps136
    go_wp2_with fail
    refine (cuts_any _ o.cuts _ HC.out).mono ?_
    rintro e w2 ⟨rfl, hb⟩
    have HB2 := hid hb
    clear hb
    go_wp2
    go_ret
    refine ⟨retb ?_, bt HB.out HB2.out⟩
    simp [rightF]
  · go_enter Tryz.func136, Tryz.ntmps136
    go_wp2
    go_ret
    exact ⟨rfl, HB.out⟩


theorem rightO_at (o : Opn) (h1 : ro o.ir o.im = true) (h2 : rs o.t o.ir = true) (h : ∀ j, j < 9 → goodF o j = true) : rightO o = !(told o.k).isEmpty := by
  unfold rightO
  rw [h1, h2]
  have : (List.range 9).all (goodF o) = true := by
    rw [List.all_eq_true]
    intro j hj
    exact h j (by simpa using hj)
  rw [this]
  simp
theorem rightO_not (o : Opn) {j : Nat} (hj : j < 9) (h : goodF o j = false) : rightO o = false := by
  unfold rightO
  have : (List.range 9).all (goodF o) = false := by
    rw [List.all_eq_false]
    exact ⟨j, by simpa using hj, by rw [h]; decide⟩
  rw [this]
  simp
theorem told_len (k : Int) : (told k).length ≤ 9 := by
  unfold told
  repeat' split
  all_goals decide

set_option maxHeartbeats 4000000 in
theorem right_any (o : Opn) (v : Value) (w : World) (hL : Lay w) (hC : Cs w v o.cuts) (hfin : o.fine) :
    Calls Tryz.prog 120 #[opv o v] w fun e w' => e = .returned (.bool (rightO o)) ∧ Below w.heap.size w w' := by
  have HNO : ∀ (k : Nat) (hk : k ≤ 8) (W : World), Calls Tryz.prog 134 #[opv o v, .int .i64 k] W fun e w' => e = .returned (.bool (noughtF o k)) ∧ Below W.heap.size W w' := by
    intro k hk W
    obtain ⟨a, c, rfl, _, _⟩ := hC.form
    exact nought_any k hk o a c W
  obtain ⟨r, hr⟩ : ∃ r, rightO o = r := ⟨_, rfl⟩
  rw [hr]
  have HR := hid hr
  have HNO := hid HNO
  have HB := hid (ba w (opo o v))
  have HL := hid (hL.below HB.out)
  have HC := hid (hC.below HB.out)
  have HF := hid hfin
  have HO := hid (Ob.new w o v)
  have k0 := fun o' => ((ba (w.alloc (opo o v)) o').cell (p := ⟨w.heap.size, 1, none⟩) (by simp)).trans (HO.out.cells.c1)
  have k1 := fun o' => ((ba (w.alloc (opo o v)) o').cell (p := ⟨w.heap.size, 3, none⟩) (by simp)).trans (HO.out.cells.c3)
  have k2 := fun o' o'' => ((ba ((w.alloc (opo o v)).alloc o') o'').cell (p := ⟨w.heap.size, 0, none⟩) (by simp; omega)).trans (((ba (w.alloc (opo o v)) o').cell (p := ⟨w.heap.size, 0, none⟩) (by simp)).trans (HO.out.cells.c0))
  clear hL hC hfin hr
  cases hro : ro o.ir o.im
  · have H1 := hid hro
    go_enter Tryz.func120, Tryz.ntmps120
    go_wp2_with (go_at_call 132; refine (ro_any _ _ _).mono ?_; rintro e w2 ⟨rfl, rfl⟩; rw [hro])
    go_ret
    refine ⟨retb ?_, bt HB.out (ba _ _)⟩
    rw [← HR.out]
    simp [rightO, H1.out]
  cases hrs : rs o.t o.ir
  · have H1 := hid hrs
    go_enter Tryz.func120, Tryz.ntmps120
    go_wp2_with (first | (go_at_call 132; refine (ro_any _ _ _).mono ?_; rintro e w2 ⟨rfl, rfl⟩; rw [hro]) | (go_at_call 133; refine (rs_any _ _ _).mono ?_; rintro e w2 ⟨rfl, rfl⟩; rw [hrs]))
    go_ret
    refine ⟨retb ?_, bt HB.out (bt (ba _ _) (ba _ _))⟩
    rw [← HR.out]
    simp [rightO, H1.out]
  have H1 := hid hro
  have H2 := hid hrs
  go_enter Tryz.func120, Tryz.ntmps120
  go_wp2_with (first | (go_at_call 132; refine (ro_any _ _ _).mono ?_; rintro e w2 ⟨rfl, rfl⟩; rw [hro]) | (go_at_call 133; refine (rs_any _ _ _).mono ?_; rintro e w2 ⟨rfl, rfl⟩; rw [hrs]))
  refine (told_any o.k _).mono ?_
  rintro e w1 ⟨vt, rfl, hFs, hbt, _⟩
  have hb1 : Below w.heap.size w w1 := bt HB.out (bt (bt (ba _ _) (ba _ _)) hbt)
  have hb0 : Below (w.alloc (opo o v)).heap.size (w.alloc (opo o v)) w1 := bt (bt (ba _ _) (ba _ _)) hbt
  have HB1 := hid hb1
  have HO1 := hid (HO.out.below hb0)
  have HL1 := hid (HL.out.below hb0)
  have HC1 := hid (HC.out.below hb0)
  have HF1 := hid hFs
  obtain ⟨ta, tc, rfl, _, _⟩ := Sl.form hFs
  clear hb1 hb0 hbt hFs k0 k1 k2 HO HL HC HB
  go_wp2
  go_loopw [23] (fun i wr => ∃ k : Nat, k ≤ 9 ∧ i = .int .i64 k ∧ Below w1.heap.size w1 wr ∧ ∀ j, j < k → goodF o j = true) (fun i _ => 9 - (intOf i).toNat)
  case atStart => exact ⟨0, Nat.zero_le _, rfl, Below.refl _ _, fun j h => absurd h (Nat.not_lt_zero _)⟩
  case round =>
    obtain ⟨k, hk, rfl, hbel, ht⟩ := hrel
    have HT := hid ht
    have HBE := hid hbel
    clear ht hbel
    by_cases hlt : k < 9
    · have b1' : (k : Int) < 9 := by omega
      have hld := hid (HO1.out.below HBE.out)
      go_wp2_with (refine wpList_load_op rfl _ rfl _ rfl _ _ hld.out ?_)
      refine (HNO.out k (by omega) _).mono ?_
      rintro e w2 ⟨rfl, hb2⟩
      have HB2 := hid (bt HBE.out hb2)
      clear hb2 hld
      by_cases hm : k ∈ told o.k
      · go_wp2_with fail
        refine (contains_any _ _ k _ (HF1.out.below HB2.out) (told_len _) (by omega) (told_le _)).mono ?_
        rintro e w3 ⟨rfl, rfl⟩
        rw [decide_eq_true hm]
        have hld := hid (HO1.out.below HB2.out)
        go_wp2_with (refine wpList_load_op rfl _ rfl _ rfl _ _ hld.out ?_)
        refine (rightf_any k (by omega) o v _ (HL1.out.below HB2.out) (HC1.out.below HB2.out) HF.out).mono ?_
        rintro e w4 ⟨rfl, hb4⟩
        have HB4 := hid (bt HB2.out hb4)
        clear hb4 hld
        have hg : goodF o k = rightF o k := by unfold goodF; rw [if_pos hm]
        rw [← hg]
        have HM := hid hm
        clear hg hm
        cases hgk : goodF o k
        · have HG := hid hgk
          clear hgk
          go_wp2
          go_ret
          refine ⟨retb ?_, bt HB1.out HB4.out⟩
          rw [← HR.out, rightO_not o hlt HG.out]
        · have HG := hid hgk
          clear hgk
          go_wp2
          go_roundw
          case rel =>
            refine ⟨k + 1, by omega, by go_num, HB4.out, fun j hjk => ?_⟩
            by_cases e : j = k
            · subst e; exact HG.out
            · exact HT.out j (by omega)
          case measure => simp [intOf]; omega
      · go_wp2_with fail
        refine (contains_any _ _ k _ (HF1.out.below HB2.out) (told_len _) (by omega) (told_le _)).mono ?_
        rintro e w3 ⟨rfl, rfl⟩
        rw [decide_eq_false hm]
        have hg : goodF o k = noughtF o k := by unfold goodF; rw [if_neg hm]
        rw [← hg]
        have HM := hid hm
        clear hg hm
        cases hgk : goodF o k
        · have HG := hid hgk
          clear hgk
          go_wp2
          go_ret
          refine ⟨retb ?_, bt HB1.out HB2.out⟩
          rw [← HR.out, rightO_not o hlt HG.out]
        · have HG := hid hgk
          clear hgk
          go_wp2
          go_roundw
          case rel =>
            refine ⟨k + 1, by omega, by go_num, HB2.out, fun j hjk => ?_⟩
            by_cases e : j = k
            · subst e; exact HG.out
            · exact HT.out j (by omega)
          case measure => simp [intOf]; omega
    · go_wp2
      go_ret
      refine ⟨retb ?_, bt HB1.out HBE.out⟩
      rw [← HR.out, rightO_at o H1.out H2.out (fun j hj => HT.out j (by omega))]
      cases told o.k <;> simp
      try omega

end Go.Proofs.YteckjkblngmenaaGreatDoor

/-
  What Encode answers is proved here, for all ops whose texts are of at most 2^40 bytes: of a right one its bytes, in a row of the call's own.
-/
namespace Go.Proofs.YteckjkblngmenaaGreatDoor
open Go.RowKit
set_option linter.unusedVariables false
set_option maxRecDepth 100000

theorem encF_len {o : Opn} {f : Nat} (hf : f ≤ 8) (h : rightF o f = true) : (encF o f).length ≤ 500 := by
  have s1 := fun n => (M.sz_pos n).2
  rcases nine hf with rfl | rfl | rfl | rfl | rfl | rfl | rfl | rfl | rfl
  · have := s1 o.br; have := s1 o.bm; simp [encF, en2, M.enc_length]; omega
  · have := s1 o.pr; have := s1 o.pm; simp [encF, en2, M.enc_length]; omega
  · have := s1 o.key.size
    simp [rightF, K.right, tx_length] at h
    simp only [encF, encText_length]; omega
  · have := s1 o.sr; have := s1 o.sm; simp [encF, en2, M.enc_length]; omega
  · have := s1 o.lr; have := s1 o.lm; have := s1 o.li; simp [encF, en3, M.enc_length]; omega
  · have := s1 o.gr; have := s1 o.gm; have := s1 o.gi; simp [encF, en3, M.enc_length]; omega
  · have := s1 o.text.size
    simp [rightF] at h
    simp only [encF, encText_length]; omega
  · have := s1 o.cuts.length
    have := cuts_len o.cuts
    simp [rightF] at h
    simp only [encF, List.length_append, M.enc_length]; omega
  · have := s1 (if o.flag then 1 else 0)
    simp only [encF, M.enc_length]; omega
theorem encFs_len (o : Opn) : ∀ (L : List Nat), (∀ f ∈ L, f ≤ 8) → (∀ f ∈ L, rightF o f = true) → (L.flatMap (encF o)).length ≤ 500 * L.length := by
  intro L
  induction L with
  | nil => intro _ _; simp
  | cons f L ih =>
    intro h1 h2
    rw [List.flatMap_cons, List.length_append, List.length_cons]
    have := encF_len (h1 f (by simp)) (h2 f (by simp))
    have := ih (fun g hg => h1 g (by simp [hg])) (fun g hg => h2 g (by simp [hg]))
    omega
theorem encF_step (o : Opn) (l : List Nat) (k : Nat) (hk : k < l.length) : (l.take (k + 1)).flatMap (encF o) = (l.take k).flatMap (encF o) ++ encF o l[k] := by
  rw [List.take_succ_eq_append_getElem hk, List.flatMap_append]
  simp
theorem own_base {w : World} {B B' e sz : Nat} {v : Value} {n : Nat} {xs : List Value} (h : w.ownsRow B e sz v n xs) (hB : B' ≤ B) : w.ownsRow B' e sz v n xs := by
  refine ⟨h.1, ?_⟩
  rcases h.2 with h0 | ⟨g, cap, cur, hv, hg, r⟩
  · exact .inl h0
  · exact .inr ⟨g, cap, cur, hv, by omega, r⟩

theorem encode_no (o : Opn) (v : Value) (w : World) (hL : Lay w) (hC : Cs w v o.cuts) (hfin : o.fine) (hr : rightO o = false) :
    Calls Tryz.prog 104 #[opv o v] w fun e w' => e = .returned (.tuple #[.slice none 0 0, .bool false]) ∧ Below w.heap.size w w' := by
  have HB := hid (ba w (opo o v))
  have HR := hid (right_any o v _ (hL.below HB.out) (hC.below HB.out) hfin)
  rw [hr] at HR
  have HO := hid (Ob.new w o v)
  clear hL hC hfin hr
  go_enter Tryz.func104, Tryz.ntmps104
  go_wp2_with (refine wpList_load_op rfl _ rfl _ rfl _ _ HO.out ?_)
  refine HR.out.mono ?_
  rintro e w1 ⟨rfl, hb⟩
  have HB1 := hid hb
  clear hb
  go_wp2
  go_ret2
  exact ⟨rfl, bt HB.out HB1.out⟩

set_option maxHeartbeats 4000000 in
theorem encode_yes (o : Opn) (v : Value) (w : World) (hL : Lay w) (hC : Cs w v o.cuts) (hfin : o.fine) (hr : rightO o = true) :
    Calls Tryz.prog 104 #[opv o v] w fun e w' => ∃ u, e = .returned (.tuple #[u, .bool true]) ∧ w'.ownsRow w.heap.size 5 1 u (encO o).length (cs (encO o)) ∧ Below w.heap.size w w' := by
  have HB := hid (ba w (opo o v))
  have HRi := hid (right_any o v _ (hL.below HB.out) (hC.below HB.out) hfin)
  rw [hr] at HRi
  have HO := hid (Ob.new w o v)
  have HC := hid (hC.below HB.out)
  have HCb := hid (hC.block)
  have HR := hid hr
  clear hL hC hfin hr
  go_enter Tryz.func104, Tryz.ntmps104
  go_wp2_with (refine wpList_load_op rfl _ rfl _ rfl _ _ HO.out ?_)
  refine HRi.out.mono ?_
  rintro e w1 ⟨rfl, hb⟩
  have HB1 := hid hb
  have HO1 := hid (HO.out.below hb)
  have HC1 := hid (HC.out.below hb)
  clear hb HO HC HRi
  -- the writer
  have HA := hid (ba w1 (.cells #[.slice none 0 0] 135))
  have hW1 : Wr w1.heap.size (w1.alloc (.cells #[.slice none 0 0] 135)) w1.heap.size (.slice none 0 0) [] := ⟨heap_alloc_new w1 _, World.ownsRow_nil _ _ _ _, fun x hx => by cases hx⟩
  have HO2 := hid (HO1.out.below HA.out)
  have c0 := HO2.out.cells.c0
  have c1 := HO2.out.cells.c1
  have c2 := HO2.out.cells.c2
  have c3 := HO2.out.cells.c3
  have hnum : ∀ x ∈ [o.k, o.ir, o.im, o.t], Num49 x := by
    have hp := (right_parts HR.out).1
    have h1 := ro_bounds hp.1
    have h2 : 0 ≤ o.ir ∧ o.ir < 16 ∧ 1 ≤ o.t ∧ o.t ≤ 1099511627776 := by simpa [rs] using hp.2.1
    have h3 := six hp.2.2
    intro x hx
    unfold Num49
    simp at hx
    rcases hx with rfl | rfl | rfl | rfl <;> omega
  have HI := hid (numbers_new w1.heap.size w1.heap.size (.slice none 0 0) [] [o.k, o.ir, o.im, o.t] _ hW1 HA.out.size hnum (by simp) (by simp) (by simp))
  rw [show (w1.alloc (.cells #[.slice none 0 0] 135)).heap.size = w1.heap.size + 1 by simp] at HI
  have hsz1 := HB1.out.size
  rw [show (w.alloc (opo o v)).heap.size = w.heap.size + 1 by simp] at hsz1
  clear hnum hW1
  go_wp2_with fail
  refine HI.out.mono ?_
  rintro e w2 ⟨rfl, v2, hW2, hx2⟩
  have HW2 := hid hW2
  have HX2 := hid hx2
  clear hW2 hx2 HI c0 c1 c2 c3
  have hb2 : Below w1.heap.size (w1.alloc (.cells #[.slice none 0 0] 135)) w2 := HX2.out.1.below (fun k hk hs => by
    rcases hs with hs | hs
    · omega
    · cases hs) HA.out.size
  have HB2 := hid ((HA.out.trans hb2 : Below w1.heap.size w1 w2))
  have HO3 := hid (HO1.out.below HB2.out)
  have HC3 := hid (HC1.out.below HB2.out)
  have c0 := HO3.out.cells.c0
  clear hb2
  go_wp2_with fail
  refine (told_any o.k _).mono ?_
  rintro e w3 ⟨vt, rfl, hFs, hbt, hfr⟩
  have hpos : 0 < (told o.k).length := by
    have := (right_parts HR.out).1.2.2
    exact List.length_pos_iff.2 this
  obtain ⟨tb, toff, tc, rfl, htc, htm, htl, _⟩ := hFs.inv hpos
  have htb : w2.heap.size ≤ tb := hfr tb rfl
  obtain ⟨n, hn⟩ : ∃ n, (told o.k).length = n := ⟨_, rfl⟩
  have HN := hid hn
  have HFs := hid hFs
  have HBT := hid hbt
  have HW3 := hid (HW2.out.below hbt)
  have hs3 := hbt.size
  have hs2 := HB2.out.size
  have HTV : Hid (v2.ownBlock ≠ some tb) := by
    intro e
    have := (HW2.out.2.1.lt tb e).2
    omega
  have hlw := HW2.out.lt
  unfold maxLen at htm
  rw [hn] at HFs hpos htc ⊢
  clear hFs hbt hfr c0 hn
  go_wp2
  go_loopw [27] (fun i wr => ∃ (k : Nat) (v' : Value), k ≤ n ∧ i = .int .i64 k ∧ Wr w1.heap.size wr w1.heap.size v' (([o.k, o.ir, o.im, o.t].flatMap M.enc) ++ ((told o.k).take k).flatMap (encF o)) ∧ Wx w1.heap.size v2 v' w3 wr) (fun i _ => n - (intOf i).toNat)
  case atStart => exact ⟨0, v2, Nat.zero_le _, rfl, by simpa using HW3.out, Wx.refl _ _ _⟩
  case round =>
    obtain ⟨k, v4, hk, rfl, hw4, hx4⟩ := hrel
    obtain ⟨ys, hys⟩ : ∃ ys, ([o.k, o.ir, o.im, o.t].flatMap M.enc) ++ ((told o.k).take k).flatMap (encF o) = ys := ⟨_, rfl⟩
    rw [hys] at hw4
    have HY := hid hys
    have HX4 := hid hx4
    have HW4 := hid hw4
    clear hx4 hw4 hys
    have hb4 : Below w1.heap.size w3 wr := HX4.out.old HW3.out (Nat.le_refl _) (by omega)
    have HB4 := hid (HB2.out.trans ((HBT.out.mono hs2).trans hb4))
    clear hb4
    by_cases hlt : k < n
    · have hkl : k < (told o.k).length := by rw [HN.out]; exact hlt
      have hF : Fs wr (.slice (some ⟨tb, toff, none⟩) n tc) (told o.k) := Sl.kept HFs.out (fun j hj hjl => by
        simp [Value.ownBlock] at hj
        subst hj
        exact HX4.out.block hjl (by omega) HTV.out)
      obtain ⟨tb', toff', tc', hv', _, _, _, hcell⟩ := hF.inv (by omega)
      simp only [Value.slice.injEq, Option.some.injEq, Addr.mk.injEq, and_true] at hv'
      obtain ⟨⟨rfl, rfl⟩, -, rfl⟩ := hv'
      have g1 := hcell k hkl
      obtain ⟨f, hf⟩ : ∃ f, (told o.k)[k] = f := ⟨_, rfl⟩
      rw [hf] at g1
      have hf8 : f ≤ 8 := by rw [← hf]; exact told_le _ _ (List.getElem_mem hkl)
      have hfr : rightF o f = true := by rw [← hf]; exact right_told HR.out _ (List.getElem_mem hkl)
      have HF := hid hf
      have hya : ys.length ≤ 549755813888 := by
        rw [← HY.out]
        have h1 := encs_len [o.k, o.ir, o.im, o.t]
        have h2 := encFs_len o ((told o.k).take k) (fun g hg => told_le _ _ (List.mem_of_mem_take hg)) (fun g hg => right_told HR.out _ (List.mem_of_mem_take hg))
        have h3 := told_len o.k
        rw [List.length_append]
        rw [List.length_take] at h2
        simp only [List.length_cons, List.length_nil] at h1
        omega
      have HI := hid (field_w f hf8 w1.heap.size w1.heap.size v4 v ys o _ HW4.out (by have := HX4.out.size; omega) (Nat.le_refl _) (HC1.out.below HB4.out) (fun h j hj => by have := HCb.out h j hj; omega) hfr hya)
      have HOr := hid (HO1.out.below HB4.out)
      have b1' : (k : Int) < (n : Int) := by omega
      clear hcell hF hfr hya hf
      go_wp2_with (refine wpList_load_op rfl _ rfl _ rfl _ _ HOr.out ?_)
      refine HI.out.mono ?_
      rintro e w5 ⟨rfl, v5, hW5, hx5⟩
      have HW5 := hid hW5
      have HX5 := hid (HX4.out.trans hx5)
      clear hW5 hx5 HI g1
      go_wp2
      go_roundw
      case rel =>
        refine ⟨k + 1, v5, by omega, by go_num, ?_, HX5.out⟩
        have := HW5.out
        rw [← HY.out] at this
        rw [encF_step o _ k hkl, HF.out, ← List.append_assoc]
        exact this
      case measure => simp [intOf]; omega
    · have e1 : k = n := by omega
      obtain ⟨hcw, _, a6, c6, rfl, _⟩ := HW4.out.cell
      go_wp2
      go_ret2
      refine ⟨_, rfl, ?_, ?_⟩
      · have := HW4.out.2.1
        have e2 : ys = encO o := by
          rw [← HY.out, List.take_of_length_le (l := told o.k) (i := k) (by have := HN.out; omega)]
          simp [encO]
        rw [← e2]
        exact own_base (B' := w.heap.size) this (by omega)
      · exact HB.out.trans ((HB1.out.mono (B' := w.heap.size) (by simp)).trans (HB4.out.mono (B' := w.heap.size) (by omega)))

end Go.Proofs.YteckjkblngmenaaGreatDoor

/-
  What Decode answers is proved here, for all bytes of which there are at most 2^40.
-/
namespace Go.Proofs.YteckjkblngmenaaGreatDoor
open Go.RowKit
set_option linter.unusedVariables false
set_option maxRecDepth 100000

/-- An op of which the kind alone is told. -/
abbrev zopc (k : Int) : Array Value := #[.int .i64 k,.int .i64 0,.int .i64 0,.int .i64 0,.int .i64 0,.int .i64 0,.int .i64 0,.int .i64 0,.string ⟨#[]⟩,.int .i64 0,.int .i64 0,.int .i64 0,.int .i64 0,.int .i64 0,.int .i64 0,.int .i64 0,.int .i64 0,.string ⟨#[]⟩,.slice none 0 0,.bool false]
abbrev zop (k : Int) : Obj := .cells (zopc k) 77

/-- A load of a whole op where a guard stands ahead of it. -/
theorem wpList_load_opg {ops : Array Oper} {rest : List Oper} {p : Oper} {a : Act} {w : World} {Q : Exit → Act → World → Prop} (hgd : Region.wanted p (yielded ops a.tmps) = true) (x : Operand) (ho : p.op = .load 77 x)
    (b : Nat) (hx : a.eval x = .pointer (some ⟨b, 0, none⟩)) (o : Opn) (v : Value) (h : Ob w b o v)
    (hk : wpList Tryz.prog ops Q rest (a.put p.dst (opv o v)) w) : wpList Tryz.prog ops Q (p :: rest) a w :=
  BigFrame.wpList_want hgd fun _ hK => wp_load_row 77 x ho b hx 77 (opl o v) (0, 0) _ h Tryz.underlying77 rfl (by kernel_rfl) (hK _ _ hk)
/-- A store of a whole op. -/
theorem wpList_store_op {ops : Array Oper} {rest : List Oper} {p : Oper} {a : Act} {w : World} {Q : Exit → Act → World → Prop} (hgd : p.guard = none) (x y : Operand) (ho : p.op = .store 77 x y)
    (b : Nat) (hx : a.eval x = .pointer (some ⟨b, 0, none⟩)) (o : Opn) (v : Value) (hv : ∃ va n vc, v = .slice va n vc) (hy : a.eval y = opv o v) (o' : Opn) (v' : Value) (h : Ob w b o' v')
    (hk : wpList Tryz.prog ops Q rest (a.put p.dst undef) (w.setRow b (opl o v))) : wpList Tryz.prog ops Q (p :: rest) a w :=
  wpList_store_row hgd 77 x y ho b (opl o v) hx hy 77 (opl o' v') h (by kernel_rfl) rfl (by obtain ⟨va, n, vc, rfl⟩ := hv; simp [Value.oneCell']) hk
/-- An op of which the kind alone is told, built. -/
theorem built_kind (n : Int) : Tryz.prog.built 77 [(0,.int .i64 n)] = some #[.int .i64 n,.int .i64 0,.int .i64 0,.int .i64 0,.int .i64 0,.int .i64 0,.int .i64 0,.int .i64 0,.string ⟨#[]⟩,.int .i64 0,.int .i64 0,.int .i64 0,.int .i64 0,.int .i64 0,.int .i64 0,.int .i64 0,.int .i64 0,.string ⟨#[]⟩,.slice none 0 0,.bool false] := by kernel_rfl
theorem wpList_build_kind {ops : Array Oper} {rest : List Oper} {p : Oper} {a : Act} {w : World} {Q : Exit → Act → World → Prop} (hgd : p.guard = none) (x : Operand) (ho : p.op = .build 77 #[(0, x)]) (n : Int) (hx : a.eval x = .int .i64 n)
    (hk : wpList Tryz.prog ops Q rest (a.put p.dst (.agg #[.int .i64 n,.int .i64 0,.int .i64 0,.int .i64 0,.int .i64 0,.int .i64 0,.int .i64 0,.int .i64 0,.string ⟨#[]⟩,.int .i64 0,.int .i64 0,.int .i64 0,.int .i64 0,.int .i64 0,.int .i64 0,.int .i64 0,.int .i64 0,.string ⟨#[]⟩,.slice none 0 0,.bool false])) w) : wpList Tryz.prog ops Q (p :: rest) a w := by
  have e : (Array.map (fun (i, x) => (i, a.eval x)) #[(0, x)]).toList = [(0, Value.int .i64 n)] := by simp [hx]
  refine wpList_build hgd 77 #[(0, x)] ho ?_ ?_
  · rw [e, built_kind]; rfl
  · rw [e, built_kind]; exact hk
theorem built_zero : Tryz.prog.built 77 [] = some (zopc 0) := by kernel_rfl
theorem wpList_build_zero {ops : Array Oper} {rest : List Oper} {p : Oper} {a : Act} {w : World} {Q : Exit → Act → World → Prop} (hgd : p.guard = none) (ho : p.op = .build 77 #[])
    (hk : wpList Tryz.prog ops Q rest (a.put p.dst (.agg (zopc 0))) w) : wpList Tryz.prog ops Q (p :: rest) a w := by
  have e : (Array.map (fun ((i, x) : Nat × Operand) => (i, a.eval x)) #[]).toList = [] := by simp
  refine wpList_build hgd 77 #[] ho ?_ ?_
  · rw [e, built_zero]; rfl
  · rw [e, built_zero]; exact hk
theorem Fr.up {S : Nat → Prop} {N : Nat} {a w w' : World} (h : Fr (fun k => N ≤ k) a w) (k : Fr S w w') (hs : ∀ j, S j → N ≤ j) : Fr (fun k => N ≤ k) a w' := h.trans k (fun _ _ hj => hs _ hj)
/-- A store of a whole op into the block that was made last. -/
theorem wpList_store_opn {ops : Array Oper} {rest : List Oper} {p : Oper} {a : Act} {W : World} {Q : Exit → Act → World → Prop} (hgd : p.guard = none) (x y : Operand) (ho : p.op = .store 77 x y)
    (z cells : Array Value) (hx : a.eval x = .pointer (some ⟨W.heap.size, 0, none⟩)) (hy : a.eval y = .agg cells) (hz : z.size = cells.size) (hi : cells.size = 20) (h1 : cells.all (·.oneCell') = true)
    (hk : wpList Tryz.prog ops Q rest (a.put p.dst undef) (W.alloc (.cells cells 77))) : wpList Tryz.prog ops Q (p :: rest) a (W.alloc (.cells z 77)) := by
  have hi' : (Tryz.prog.info? 77).map (·.size) = some cells.size := by rw [hi]; kernel_rfl
  refine wpList_store_row hgd 77 x y ho W.heap.size cells hx hy 77 z (heap_alloc_new W _) hi' hz h1 ?_
  rw [World.setRow_alloc_new]
  exact hk
theorem wpList_store_zop {ops : Array Oper} {rest : List Oper} {p : Oper} {a : Act} {W : World} {Q : Exit → Act → World → Prop} (hgd : p.guard = none) (x y : Operand) (ho : p.op = .store 77 x y) (k0 n : Int)
    (hx : a.eval x = .pointer (some ⟨W.heap.size, 0, none⟩)) (hy : a.eval y = .agg (zopc n))
    (hk : wpList Tryz.prog ops Q rest (a.put p.dst undef) (W.alloc (.cells (zopc n) 77))) : wpList Tryz.prog ops Q (p :: rest) a (W.alloc (.cells (zopc k0) 77)) :=
  wpList_store_opn hgd x y ho (zopc k0) (zopc n) hx hy rfl rfl (by simp [Value.oneCell']) hk
theorem size_set (w : World) (a : Addr) (v : Value) : (w.setCell a v).heap.size = w.heap.size := by simp [World.setCell]
theorem Fr.of_row (w : World) (b : Nat) (cs : Array Value) : Fr (fun k => k = b) w (w.setRow b cs) :=
  ⟨rfl, rfl, rfl, by simp [World.setRow], fun k _ hn => setRow_other w b k cs hn⟩

/-- Texts that are read are no longer than the bytes. -/
theorem rn_short (m : Int) (s : St) : (rn m s).2.1.length ≤ s.1.length := by
  unfold rn M.numS
  dsimp only
  split
  · rw [List.length_drop]; omega
  · simp
theorem rt_short (m : Int) (s : St) (h : K.Byt s.1) : (rt m s).1.size ≤ s.1.length ∧ (rt m s).2.1.length ≤ s.1.length := by
  have h1 := rn_short m s
  have hb : K.Byt (rn m s).2.1 := by
    unfold rn M.numS
    dsimp only
    split
    · exact fun x hx => h x (List.mem_of_mem_drop hx)
    · exact fun x hx => by cases hx
  rw [rt_text.1, rt_text.2, size_str (takeV_byt hb)]
  constructor
  · unfold M.takeV
    split
    · rw [List.length_take]; omega
    · simp
  · unfold M.takeS
    split
    · rw [List.length_drop]; omega
    · simp
theorem rcuts_short (B : Bnd) (j : Nat) (s : St) : (rcuts B j s).2.1.length ≤ s.1.length := by
  induction j with
  | zero => exact Nat.le_refl _
  | succ j ih =>
    unfold rcuts rcut
    dsimp only
    exact Nat.le_trans (rn_short _ _) (Nat.le_trans (rn_short _ _) (Nat.le_trans (rn_short _ _) (Nat.le_trans (rn_short _ _) ih)))
def Shrt (N : Nat) (p : Opn × St) : Prop := p.1.key.size ≤ N ∧ p.1.text.size ≤ N ∧ p.2.1.length ≤ N
theorem rdF_short (B : Bnd) (f : Nat) (hf : f ≤ 8) (p : Opn × St) (N : Nat) (hv : Vl p.2) (h : Shrt N p) : Shrt N (rdF B f p) := by
  obtain ⟨o, s⟩ := p
  obtain ⟨h1, h2, h3⟩ := h
  have k1 := rn_short B.n (rn B.r s).2
  have k2 := rn_short B.r s
  have k3 := rn_short B.i (rn B.n (rn B.r s).2).2
  dsimp only at h1 h2 h3 hv
  rcases nine hf with rfl | rfl | rfl | rfl | rfl | rfl | rfl | rfl | rfl
  · exact ⟨h1, h2, Nat.le_trans k1 (Nat.le_trans k2 h3)⟩
  · exact ⟨h1, h2, Nat.le_trans k1 (Nat.le_trans k2 h3)⟩
  · have := rt_short B.key s hv.1
    exact ⟨Nat.le_trans this.1 h3, h2, Nat.le_trans this.2 h3⟩
  · exact ⟨h1, h2, Nat.le_trans k1 (Nat.le_trans k2 h3)⟩
  · exact ⟨h1, h2, Nat.le_trans k3 (Nat.le_trans k1 (Nat.le_trans k2 h3))⟩
  · exact ⟨h1, h2, Nat.le_trans k3 (Nat.le_trans k1 (Nat.le_trans k2 h3))⟩
  · have := rt_short B.text s hv.1
    exact ⟨h1, Nat.le_trans this.1 h3, Nat.le_trans this.2 h3⟩
  · exact ⟨h1, h2, Nat.le_trans (rcuts_short B _ _) (Nat.le_trans (rn_short 16 s) h3)⟩
  · exact ⟨h1, h2, Nat.le_trans (rn_short 1 s) h3⟩
theorem rdH_short (B : Bnd) (b : List Int) : Shrt b.length (rdH B b) :=
  ⟨Nat.zero_le _, Nat.zero_le _, Nat.le_trans (rn_short _ _) (Nat.le_trans (rn_short _ _) (Nat.le_trans (rn_short _ _) (rn_short _ _)))⟩
theorem rdH_vl (B : Bnd) {b : List Int} (hb : K.Byt b) : Vl (rdH B b).2 := rn_vl (rn_vl (rn_vl (rn_vl (s := (b, false)) ⟨hb, fun h => by cases h⟩)))
/-- The fields that are read so far. -/
def rdK (B : Bnd) (b : List Int) (k : Nat) : Opn × St := ((told (rdH B b).1.k).take k).foldl (fun p f => rdF B f p) (rdH B b)
theorem rdK_zero (B : Bnd) (b : List Int) : rdK B b 0 = rdH B b := rfl
theorem rdK_step (B : Bnd) (b : List Int) (k : Nat) (hk : k < (told (rdH B b).1.k).length) : rdK B b (k + 1) = rdF B ((told (rdH B b).1.k)[k]) (rdK B b k) := by
  unfold rdK
  rw [List.take_succ_eq_append_getElem hk, List.foldl_append]
  rfl
theorem rdK_all (B : Bnd) (b : List Int) (k : Nat) (hk : (told (rdH B b).1.k).length ≤ k) : rdK B b k = rdO B b := by
  unfold rdK rdO
  rw [List.take_of_length_le hk]
theorem rdK_ok (B : Bnd) {b : List Int} (hb : K.Byt b) (k : Nat) : Vl (rdK B b k).2 ∧ Shrt b.length (rdK B b k) := by
  induction k with
  | zero => exact ⟨rdH_vl B hb, rdH_short B b⟩
  | succ k ih =>
    by_cases hk : k < (told (rdH B b).1.k).length
    · rw [rdK_step B b k hk]
      have h8 := told_le _ _ (List.getElem_mem hk)
      exact ⟨rdF_vl B _ h8 _ ih.1, rdF_short B _ h8 _ _ ih.1 ih.2⟩
    · rw [rdK_all B b (k + 1) (by omega), ← rdK_all B b k (by omega)]
      exact ih

/-- Results: an op in a block, and a slot. -/
theorem results_op2 {fn : Func} {p u : Tmp} (h : fn.results = #[.cell p 77, .tmp u]) (tmps : Array Value) (w : World) {b : Nat} {o : Opn} {v : Value} (hp : tmps.getD p undef = .pointer (some ⟨b, 0, none⟩)) (hs : Ob w b o v) :
    (results fn tmps).run Tryz.prog w = .ok (.tuple #[opv o v, tmps.getD u undef]) w := by
  have hl := hs.load
  have hp' : tmps[p]?.getD undef = .pointer (some ⟨b, 0, none⟩) := by simpa using hp
  simp [results, h, hp', asAddr, hl]


theorem Ob.zop (w : World) (k : Int) : Ob (w.alloc (zop k)) w.heap.size { Opn.zero with k := k } (.slice none 0 0) := heap_alloc_new w _

set_option maxHeartbeats 8000000 in
theorem decode_any (vb : Value) (xs : List Int) (w : World) (hL : Lay w) (h : Bs w vb xs) (hn : xs.length ≤ 1099511627776) :
    Calls Tryz.prog 94 #[vb] w fun e w' => ∃ v, e = .returned (.tuple #[opv (decO Bnd.own xs).1 v, .bool (decO Bnd.own xs).2]) ∧ Cs w' v (decO Bnd.own xs).1.cuts ∧ Below w.heap.size w w' ∧ ∀ k, v.ownBlock = some k → w.heap.size ≤ k := by
  have hby := h.range
  have HBY := hid hby
  have HA := hid (ba w (opo Opn.zero (.slice none 0 0)))
  have HB := hid (h.below HA.out)
  have HL := hid hL
  have R0 := hid (Ob.new w Opn.zero (.slice none 0 0))
  obtain ⟨dec, hdec⟩ : ∃ d, decO Bnd.own xs = d := ⟨_, rfl⟩
  rw [hdec]
  have HD := hid hdec
  have N0 := hid (fun W c => num_s c (xs, false) 6 W)
  have hH : rdH Bnd.own xs = ({ Opn.zero with k := (rn 6 (xs,false)).1,ir := (rn 15 (rn 6 (xs,false)).2).1,im := (rn 1048576 (rn 15 (rn 6 (xs,false)).2).2).1,t := (rn 1099511627776 (rn 1048576 (rn 15 (rn 6 (xs,false)).2).2).2).1 },(rn 1099511627776 (rn 1048576 (rn 15 (rn 6 (xs,false)).2).2).2).2) := rfl
  obtain ⟨p0, hp0⟩ : ∃ p, rn 6 (xs, false) = p := ⟨_, rfl⟩
  rw [hp0] at N0 hH
  have N1 := hid (fun W c => name_r c p0.2 W)
  obtain ⟨p1, hp1⟩ : ∃ p, rn 15 p0.2 = p := ⟨_, rfl⟩
  rw [hp1] at N1 hH
  obtain ⟨p2, hp2⟩ : ∃ p, rn 1048576 p1.2 = p := ⟨_, rfl⟩
  rw [hp2] at N1 hH
  have N2 := hid (fun W c => num_s c p2.2 1099511627776 W)
  obtain ⟨p3, hp3⟩ : ∃ p, rn 1099511627776 p2.2 = p := ⟨_, rfl⟩
  rw [hp3] at N2 hH
  have HH := hid hH
  obtain ⟨a, cc, rfl⟩ := h.form
  clear h hL hby hdec hp0 hp1 hp2 hp3 hH
  go_enter Tryz.func94, Tryz.ntmps94
  go_wp2_with fail
  refine (at_any _ xs _ HB.out (by omega)).mono ?_
  rintro e w1 ⟨c, rfl, hcn, hc1, hb1⟩
  have hsz0 : (w.alloc (opo Opn.zero (.slice none 0 0))).heap.size = w.heap.size + 1 := by simp
  rw [hsz0] at hcn
  have hcl := hc1.lt
  have HA2 := hid (ba w1 (rdo c))
  have HC2 := hid (hc1.below HA2.out)
  have HB2 := hid (bt hb1 HA2.out)
  have R2 := hid (R0.out.below HB2.out)
  have K2 := hid (heap_alloc_new w1 (rdo c))
  have HBb := hid ((HA.out.trans (hb1.mono HA.out.size)).trans (HA2.out.mono (by omega)) : Below w.heap.size w _)
  have d1 := cell_of_row _ _ 0 _ _ _ K2.out
  simp at d1
  clear hc1 hb1
  go_wp2_with fail
  refine (N0.out _ c HC2.out).mono ?_
  rintro e w3 ⟨rfl, hc3, hg3⟩
  have HG3 := hid hg3
  have HC3 := hid hc3
  have R3 := hid (grown_row hg3 R2.out (by omega))
  have K3 := hid (grown_row hg3 K2.out (by omega))
  have hs3 := hg3.size
  rw [show (w1.alloc (rdo c)).heap.size = w1.heap.size + 1 by simp] at hs3
  clear hc3 hg3 d1
  have HA4 := hid (ba w3 (zop p0.1))
  have HC4 := hid (HC3.out.below HA4.out)
  have R4 := hid ((Fr.of_below HA4.out : Fr (fun k => k = c) _ _).rows R3.out (by omega))
  have K4 := hid ((Fr.of_below HA4.out : Fr (fun k => k = c) _ _).rows K3.out (by omega))
  have O4 := hid (Ob.zop w3 p0.1)
  have d2 := cell_of_row _ _ 0 _ _ _ K4.out
  simp at d2
  go_wp2_with (first | (refine wpList_build_kind rfl _ rfl _ rfl ?_) | (refine wpList_store_zop rfl _ _ rfl 0 p0.1 rfl rfl ?_))
  refine (N1.out _ c HC4.out).mono ?_
  rintro e w5 ⟨rfl, hc5, hf5⟩
  have HF5 := hid hf5
  have HC5 := hid hc5
  have R5 := hid (hf5.rows R4.out (by omega))
  have K5 := hid (hf5.rows K4.out (by omega))
  have O5 := hid (hf5.rows O4.out (by omega))
  have hs5 := hf5.size
  rw [show (w3.alloc (zop p0.1)).heap.size = w3.heap.size + 1 by simp] at hs5
  have e1 : w5.cell? ⟨w3.heap.size, 1, none⟩ = some (.int .i64 0) := Ob.cell (w := w5) O5.out 1
  have e2 : w5.cell? ⟨w3.heap.size, 2, none⟩ = some (.int .i64 0) := Ob.cell (w := w5) O5.out 2
  have f1 := Ob.frozen (w := w5) O5.out 1
  have f2 := Ob.frozen (w := w5) O5.out 2
  have d3 := cell_of_row _ w1.heap.size 0 _ _ _ K5.out
  simp at d3
  clear hc5 hf5 d2
  have K6a := hid (set_row (i := 1) O5.out (.int .i64 p1.1))
  have O6 := hid (set_row (i := 2) K6a.out (.int .i64 p2.1))
  have HC6 := hid (Cur.set_row (i := 2) (Cur.set_row (i := 1) HC5.out O5.out (by omega) ⟨_, rfl, fun x => by simp⟩ (.int .i64 p1.1)) K6a.out (by omega) ⟨_, rfl, fun x => by simp⟩ (.int .i64 p2.1))
  have F6 := hid ((Fr.of_set w5 w3.heap.size 1 (.int .i64 p1.1)).set 2 (.int .i64 p2.1) (.inr rfl))
  have R6 := hid (F6.out.rows R5.out (by omega))
  have K6 := hid (F6.out.rows K5.out (by omega))
  go_wp2_with fail
  refine (N2.out _ c HC6.out).mono ?_
  rintro e w7 ⟨rfl, hc7, hg7⟩
  have HC7 := hid hc7
  have O7 := hid (grown_row hg7 O6.out (by omega))
  have R7 := hid (grown_row hg7 R6.out (by omega))
  have K7 := hid (grown_row hg7 K6.out (by omega))
  have HG7 := hid hg7
  have e3 : w7.cell? ⟨w3.heap.size, 3, none⟩ = some (.int .i64 0) := cell_of_row w7 _ 3 _ _ _ O7.out
  have f3 := frozen_of_row w7 w3.heap.size 3 _ _ O7.out
  have e0 : w7.cell? ⟨w3.heap.size, 0, none⟩ = some (.int .i64 p0.1) := cell_of_row w7 _ 0 _ _ _ O7.out
  have hs7 := hg7.size
  simp only [size_set] at hs7
  clear hc7 hg7 d3 e1 e2 f1 f2
  have O8 : Hid (Ob (w7.setCell ⟨w3.heap.size, 3, none⟩ (.int .i64 p3.1)) w3.heap.size (rdH Bnd.own xs).1 (.slice none 0 0)) := hid (by rw [HH.out]; exact set_row (i := 3) O7.out (.int .i64 p3.1))
  have HC8 : Hid (Cu (w7.setCell ⟨w3.heap.size, 3, none⟩ (.int .i64 p3.1)) c (rdH Bnd.own xs).2) := hid (by rw [HH.out]; exact Cur.set_row HC7.out O7.out (by omega) ⟨_, rfl, fun x => by simp⟩ (.int .i64 p3.1))
  have F8 := hid (Fr.of_set w7 w3.heap.size 3 (.int .i64 p3.1))
  have R8 := hid (F8.out.rows R7.out (by omega))
  have K8 := hid (F8.out.rows K7.out (by omega))
  have hkk : (rdH Bnd.own xs).1.k = p0.1 := by rw [HH.out]
  have G8 : Fr (fun k => w.heap.size ≤ k) w (w7.setCell ⟨w3.heap.size, 3, none⟩ (.int .i64 p3.1)) := by
    have g1 : Fr (fun k => w.heap.size ≤ k) w (w1.alloc (rdo c)) := Fr.of_below HBb.out
    have g2 := (g1.up (Fr.grown HG3.out) (by omega)).up (Fr.of_below HA4.out : Fr (fun k => k = c) _ _) (by omega)
    have g3 := (g2.up HF5.out (by omega)).up F6.out (by omega)
    exact (g3.up (Fr.grown HG7.out) (by omega)).up F8.out (by omega)
  have HG8 := hid G8
  clear G8
  go_wp2_with fail
  refine (told_any p0.1 _).mono ?_
  rintro e w9 ⟨vt, rfl, hFs, hbt, hfr⟩
  have hs9 := hbt.size
  simp only [size_set] at hs9 hfr
  have O9 := hid (O8.out.below hbt)
  have HC9 := hid (HC8.out.below hbt)
  have R9 := hid ((Fr.of_below hbt : Fr (fun k => k = c) _ _).rows R8.out (by omega))
  have K9 := hid ((Fr.of_below hbt : Fr (fun k => k = c) _ _).rows K8.out (by omega))
  have HG9 := hid (HG8.out.up (Fr.of_below hbt : Fr (fun k => k = c) _ _) (by omega))
  obtain ⟨ta, tc, hvt, htc, htm⟩ := Sl.form hFs
  obtain ⟨n, hn⟩ : ∃ n, (told p0.1).length = n := ⟨_, rfl⟩
  have HN := hid hn
  rw [hn] at hvt htc
  subst hvt
  have HFs := hid hFs
  have HFR := hid hfr
  unfold maxLen at htm
  clear hFs hbt hfr hn O8 HC8 R8 K8 O7 R7 K7 HC7 O6 R6 K6 K6a HC6 O5 R5 K5 HC5 O4 R4 K4 HC4 R3 K3 HC3 R2 K2 HC2 e0 e3 f3 N0 N1 N2 HG8 F8 HG7 F6 HF5 HG3 HB R0
  go_wp2
  go_loopw [26] (fun i wr => ∃ k : Nat, k ≤ n ∧ i = .int .i64 k ∧ Oi w.heap.size c wr w3.heap.size (rdK Bnd.own xs k).1 ∧ Cu wr c (rdK Bnd.own xs k).2 ∧ Fr (fun j => j = w3.heap.size ∨ j = c) w9 wr) (fun i _ => n - (intOf i).toNat)
  case atStart => exact ⟨0, Nat.zero_le _, rfl, ⟨.slice none 0 0, by rw [rdK_zero]; exact O9.out, Cs.nil _, fun h => absurd h (Nat.not_lt_zero _), fun k hk => by cases hk⟩, by rw [rdK_zero]; exact HC9.out, Fr.refl _ _⟩
  case round =>
    obtain ⟨k, hk, rfl, hok, hck, hfk⟩ := hrel
    have HOK := hid hok
    have HCK := hid hck
    have HFK := hid hfk
    have K10 := hid (hfk.rows K9.out (by omega))
    have R10 := hid (hfk.rows R9.out (by omega))
    have HG10 := hid (HG9.out.up hfk (by omega))
    have d4 := cell_of_row wr w1.heap.size 0 _ _ _ K10.out
    simp at d4
    clear hok hck hfk
    by_cases hlt : k < n
    · have hkl : k < (told p0.1).length := by rw [HN.out]; exact hlt
      have hkl' : k < (told (rdH Bnd.own xs).1.k).length := by rw [hkk]; exact hkl
      have hF : Fs wr (.slice ta n tc) (told p0.1) := Sl.kept HFs.out (fun j hj hjl => HFK.out.block j hjl (by have := HFR.out j hj; omega))
      obtain ⟨tb, toff, tc', hv', _, _, _, hcell⟩ := hF.inv (by omega)
      simp only [Value.slice.injEq] at hv'
      obtain ⟨rfl, -, rfl⟩ := hv'
      have g1 := hcell k hkl
      obtain ⟨f, hf⟩ : ∃ f, (told p0.1)[k] = f := ⟨_, rfl⟩
      rw [hf] at g1
      have hf8 : f ≤ 8 := by rw [← hf]; exact told_le _ _ (List.getElem_mem hkl)
      have hst : rdK Bnd.own xs (k + 1) = rdF Bnd.own f (rdK Bnd.own xs k) := by
        rw [rdK_step Bnd.own xs k hkl']
        simp only [hkk, hf]
      have HST := hid hst
      have HI := hid (field_r f hf8 w.heap.size c w3.heap.size (rdK Bnd.own xs k).1 (rdK Bnd.own xs k).2 wr (by have := HFK.out.size; omega) HOK.out HCK.out (by omega) (rdK_ok Bnd.own HBY.out k).1.1)
      have b1' : (k : Int) < (n : Int) := by omega
      clear hcell hF hf hst
      go_wp2_with fail
      refine HI.out.mono ?_
      rintro e w11 ⟨rfl, ho11, hc11, hf11⟩
      have HO11 := hid ho11
      have HC11 := hid hc11
      have HF11 := hid (HFK.out.trans hf11 (fun _ _ h => h))
      clear ho11 hc11 hf11 HI g1 d4
      go_wp2
      go_roundw
      case rel =>
        refine ⟨k + 1, by omega, by go_num, ?_, ?_, HF11.out⟩
        · rw [HST.out]; exact HO11.out
        · rw [HST.out]; exact HC11.out
      case measure => simp [intOf]; omega
    · have e1 : k = n := by omega
      have hall : rdK Bnd.own xs k = rdO Bnd.own xs := rdK_all Bnd.own xs k (by rw [hkk, HN.out]; omega)
      have hsh := (rdK_ok Bnd.own HBY.out k).2
      obtain ⟨r, hr⟩ : ∃ r, rdK Bnd.own xs k = r := ⟨_, rfl⟩
      rw [hr] at HOK HCK hall hsh
      have HR := hid hall
      have hfin : r.1.fine := ⟨by have := hsh.1; omega, by have := hsh.2.1; omega⟩
      have HFI := hid hfin
      obtain ⟨v, hob, hcs, hvb, hvB⟩ := HOK.out
      have HVB := hid hvB
      clear hvB
      have HOB := hid hob
      have HCS := hid hcs
      have hbel : Below w.heap.size w wr := HG10.out.below (fun j hj hs => by omega) (Nat.le_refl _)
      have HBE := hid hbel
      have hvf : ∃ va n vc, v = .slice va n vc := by
        obtain ⟨va, vc, e, _⟩ := hcs.form
        exact ⟨va, _, vc, e⟩
      have HVF := hid hvf
      clear hr hall hsh hfin hob hcs hvb hbel HOK hvf
      go_wp2_with fail
      refine (end_any c _ _ _ HCK.out).mono ?_
      rintro e w12 ⟨rfl, rfl⟩
      cases hE : (!r.2.2 && r.2.1.isEmpty)
      · have HE := hid hE
        clear hE
        go_wp2_with (first | (refine wpList_build_zero rfl rfl ?_) | (refine wpList_store_op rfl _ _ rfl _ rfl Opn.zero (.slice none 0 0) ⟨_, _, _, rfl⟩ rfl _ _ R10.out ?_))
        refine bodyPost_ret (results_op2 rfl _ _ rfl (b := w.heap.size) (o := Opn.zero) (v := .slice none 0 0) (setRow_heap _ _ _ _ _ _ R10.out)) rfl ?_
        have hd : dec = (Opn.zero, false) := by
          rw [← HD.out]
          unfold decO decB
          rw [← HR.out, HE.out]
          rfl
        rw [hd]
        exact ⟨_, rfl, Cs.nil _, HBE.out.trans ((Fr.of_row wr w.heap.size _).below (fun k hk e => by omega) HBE.out.size), fun k hk => by cases hk⟩
      · have HE := hid hE
        clear hE
        have HRI := hid (right_any r.1 v wr (HL.out.below HBE.out) HCS.out HFI.out)
        go_wp2_with (refine wpList_load_opg ?_ _ rfl _ rfl _ _ HOB.out ?_; (· kernel_rfl))
        refine HRI.out.mono ?_
        rintro e w13 ⟨rfl, hb13⟩
        have HB13 := hid hb13
        have HOB13 := hid (HOB.out.below hb13)
        have R13 := hid ((Fr.of_below hb13 : Fr (fun k => k = c) _ _).rows R10.out (by omega))
        have HCS13 := hid (HCS.out.below hb13)
        clear hb13
        cases hri : rightO r.1
        · have HRR := hid hri
          clear hri
          go_wp2_with (first | (refine wpList_build_zero rfl rfl ?_) | (refine wpList_store_op rfl _ _ rfl _ rfl Opn.zero (.slice none 0 0) ⟨_, _, _, rfl⟩ rfl _ _ R13.out ?_))
          refine bodyPost_ret (results_op2 rfl _ _ rfl (b := w.heap.size) (o := Opn.zero) (v := .slice none 0 0) (setRow_heap _ _ _ _ _ _ R13.out)) rfl ?_
          have hd : dec = (Opn.zero, false) := by
            rw [← HD.out]
            unfold decO decB
            rw [← HR.out, HE.out, HRR.out]
            rfl
          rw [hd]
          have hbl := bt HBE.out HB13.out
          exact ⟨_, rfl, Cs.nil _, hbl.trans ((Fr.of_row w13 w.heap.size _).below (fun k hk e => by omega) hbl.size), fun k hk => by cases hk⟩
        · have HRR := hid hri
          clear hri
          go_wp2_with (first | (refine wpList_load_op rfl _ rfl _ rfl _ _ HOB13.out ?_) | (refine wpList_store_op rfl _ _ rfl _ rfl r.1 v HVF.out rfl _ _ R13.out ?_))
          refine bodyPost_ret (results_op2 rfl _ _ rfl (b := w.heap.size) (o := r.1) (v := v) (setRow_heap _ _ _ _ _ _ R13.out)) rfl ?_
          have hd : dec = (r.1, true) := by
            rw [← HD.out]
            unfold decO decB
            rw [← HR.out, HE.out, HRR.out]
            rfl
          rw [hd]
          have hbl := bt HBE.out HB13.out
          refine ⟨_, rfl, ?_, hbl.trans ((Fr.of_row w13 w.heap.size _).below (fun k hk e => by omega) hbl.size), ?_⟩
          · exact HCS13.out.fr (Fr.of_row w13 w.heap.size _) (fun _ k hk e => by have := HVB.out k hk; omega)
          · intro k hk
            exact Nat.le_of_lt (HVB.out k hk)

end Go.Proofs.YteckjkblngmenaaGreatDoor

/-
  A set of names as a map in memory: what a look-up and a store come to; an append to rows of whatever elements.
-/
namespace Go.Proofs.YteckjkblngmenaaGreatDoor
open Go.RowKit
set_option linter.unusedVariables false
set_option maxRecDepth 100000

/-- An append to a row of the call's own, whatever its elements. -/
theorem wpList_append_sl {w : World} {ops : Array Oper} {rest : List Oper} {o : Oper} {a : Act} {Q : Exit → Act → World → Prop} (t e : TypeId) (sz bytes : Nat) (z : Value) (ht : Tryz.prog.underlying t = some (.slice e))
    (hinfo : (Tryz.prog.info? e).map (fun i => (i.zero, i.size, i.bytes)) = some (some z, sz, bytes)) (hzs : z.cells.size = sz) (hsz : 0 < sz) (hgd : o.guard = none) (s x : Operand)
    (ho : o.op = .call { callee := .builtin .append, args := #[s, x], argTypes := #[t, t] })
    (base : Nat) (v : Value) (n : Nat) (cells : List Value) (hs : a.eval s = v) (hown : w.ownsRow base e sz v n cells) (u : Value) (m : Nat) (news : List Value) (hx : a.eval x = u) (hu : Sl sz w u m news) (h1c : ∀ u ∈ news, u.oneCell' = true)
    (hb : (n + m) * bytes ≤ 140737488355328) (hl : n + m ≤ maxLen) (hbase : base ≤ w.heap.size)
    (h : ∀ v' w', w'.ownsRow base e sz v' (n + m) (cells ++ news) → w.grownBy w' v.ownBlock → (v'.ownBlock = v.ownBlock ∨ v'.ownBlock = some w.heap.size) → wpList Tryz.prog ops Q rest (a.put o.dst v') w') :
    wpList Tryz.prog ops Q (o :: rest) a w := by
  obtain ⟨i0, hi, hz0, hz1, hz2⟩ := info_parts hinfo
  obtain ⟨A, c, rfl, _, _⟩ := hu.form
  cases A with
  | none =>
    obtain ⟨rfl, rfl, rfl⟩ := hu.none_nil
    refine wpList_append_own_none hgd s x t ho base e i0 sz ht hi v n cells hs hown hx ?_
    exact h v w (by simpa using hown) ⟨rfl, rfl, rfl, Nat.le_refl _, fun _ _ _ => rfl⟩ (Or.inl rfl)
  | some A =>
    refine wpList_append_own_at _ hgd s x t ho base e i0 z sz bytes ht hi hz0 hz1 hz2 hzs hsz v n cells hs hown A m c news hx hu.1 hu.cells_at h1c hl hb hbase ?_
    intro v' w' h1 h2 _ h4
    exact h v' w' h1 h2 h4

end Go.Proofs.YteckjkblngmenaaGreatDoor

/-
  What the function inside Needs does, for all names: proved here by what the map and the list hold behind it.
-/
namespace Go.Proofs.YteckjkblngmenaaGreatDoor
open Go.RowKit
set_option linter.unusedVariables false
set_option maxRecDepth 100000

theorem own_shape {w : World} {B e sz n : Nat} {v : Value} {xs : List Value} (h : w.ownsRow B e sz v n xs) : ∃ a c, v = .slice a n c := by
  rcases h.2 with ⟨rfl, h0⟩ | ⟨g, cap, cur, rfl, _⟩
  · exact ⟨none, 0, by rw [h0]⟩
  · exact ⟨_, _, rfl⟩
end Go.Proofs.YteckjkblngmenaaGreatDoor

/-
  A whole op, boxed: for the walk.
-/
namespace Go.Proofs.YteckjkblngmenaaGreatDoor
open Go.RowKit
set_option linter.unusedVariables false
set_option maxRecDepth 100000

/-- A whole op, boxed: the world behind it by a name. -/
theorem wpList_box_op {ops : Array Oper} {rest : List Oper} {p : Oper} {a : Act} {w : World} {Q : Exit → Act → World → Prop} (hgd : p.guard = none) (x : Operand) (ho : p.op = .box 77 x) (A : Value) (hx : a.eval x = A) (o : Opn) (v : Value) (hA : A = opv o v)
    (hk : ∀ w', Ob w' w.heap.size o v → Below w.heap.size w w' → w.heap.size < w'.heap.size → wpList Tryz.prog ops Q rest (a.put p.dst (.pointer (some ⟨w.heap.size, 0, none⟩))) w') : wpList Tryz.prog ops Q (p :: rest) a w := by
  subst hA
  have h := hk (w.alloc (opo o v)) (Ob.new w o v) (ba w _) (by simp)
  refine wpList_plain hgd fun K hK => ?_
  unfold Oper.wp execOp
  simp only [ho, hx]
  simp [Instr.box, go_sem]
  exact hK _ _ h

end Go.Proofs.YteckjkblngmenaaGreatDoor

/-
  What Needs answers is proved here, for all ops of at most 100,000 cuts.
-/
namespace Go.Proofs.YteckjkblngmenaaGreatDoor
open Go.RowKit
set_option linter.unusedVariables false
set_option maxRecDepth 100000

end Go.Proofs.YteckjkblngmenaaGreatDoor

/-
  The op that the law fixes: what fold answers, its bytes, what it names.
-/
namespace Go.Proofs.YteckjkblngmenaaGreatDoor
open Go.RowKit
set_option linter.unusedVariables false
set_option maxRecDepth 100000

end Go.Proofs.YteckjkblngmenaaGreatDoor
