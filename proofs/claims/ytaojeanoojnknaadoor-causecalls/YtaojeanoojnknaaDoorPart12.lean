/-
  Parts of the proof, one behind the other; what each proves stands at its head.
-/
import Derived.Test.YtaojeanoojnknaaDoorPart7
import Derived.Test.YtaojeanoojnknaaDoorPart10
import Derived.Laws.Cover1
import Derived.Test.YtaojeanoojnknaaDoorCards
import Derived.Test.YtaojeanoojnknaaDoorTie
import Derived.Deep.SlicePairs
import Derived.LaidMore
import Derived.Deep.DeepWitnessRowRef
import Derived.SevenTiedAt

/-
  What RightBlock and RightChar answer is proved here, of the program and of the reference, for all names and characters; what Right answers of keys, of both.
-/
namespace Go.Proofs.YtaojeanoojnknaaDoor
open Go.RowKit
set_option linter.unusedVariables false
set_option maxRecDepth 100000

set_option maxHeartbeats 1000000 in
theorem rb_any (r n : Int) (w : World) (hL : Lay w) :
    Calls Tryd.prog 72 #[idv r n] w fun e w' => e = .returned (.bool (rb r n)) ∧ Below w.heap.size w w' := by
  have HB := hid (ba w (ido 38 r n))
  have r0 := fun o => ((ba w o).cell (p := ⟨0, 0, none⟩) (World.block_lt_of_cell? _ _ hL.r0)).trans hL.r0
  have r1 := fun o => ((ba w o).cell (p := ⟨0, 1, none⟩) (World.block_lt_of_cell? _ _ hL.r1)).trans hL.r1
  have t0 := fun o => ((ba w o).cell (p := ⟨1, 0, none⟩) (World.block_lt_of_cell? _ _ hL.t0)).trans hL.t0
  have t1 := fun o => ((ba w o).cell (p := ⟨1, 1, none⟩) (World.block_lt_of_cell? _ _ hL.t1)).trans hL.t1
  clear hL
  by_cases hn : n = 0
  · subst hn
    by_cases hr : r = 0
    · subst hr
      rw [show rb 0 0 = true by decide]
      go_enter Tryd.func72, Tryd.ntmps72
      go_wp2_with fail
      go_ret
      exact ⟨rfl, HB.out⟩
    · by_cases hr1 : r = 1
      · subst hr1
        rw [show rb 1 0 = true by decide]
        go_enter Tryd.func72, Tryd.ntmps72
        go_wp2_with fail
        go_ret
        exact ⟨rfl, HB.out⟩
      · have e : rb r 0 = ro r 0 := by simp [rb, hr, hr1]
        rw [e]
        have hr' : (r == 0) = false := by simpa using hr
        have hr1' : (r == 1) = false := by simpa using hr1
        clear e hr hr1
        go_enter Tryd.func72, Tryd.ntmps72
        go_wp2_with (go_at_call 47; refine (ro_any _ _ _).mono ?_; rintro e w2 ⟨rfl, rfl⟩)
        go_ret
        exact ⟨rfl, bt HB.out (ba _ _)⟩
  · have e : rb r n = ro r n := by simp [rb, hn]
    rw [e]
    have hn' : (n == 0) = false := by simpa using hn
    clear e hn
    go_enter Tryd.func72, Tryd.ntmps72
    go_wp2_with (go_at_call 47; refine (ro_any _ _ _).mono ?_; rintro e w2 ⟨rfl, rfl⟩)
    go_ret
    exact ⟨rfl, bt HB.out (ba _ _)⟩

set_option maxHeartbeats 1000000 in
theorem xrb_any (r n : Int) (w : World) :
    Calls Tryd.prog 61 #[idv r n] w fun e w' => e = .returned (.bool (rb r n)) ∧ Below w.heap.size w w' := by
  have HB := hid (ba w (ido 38 r n))
  obtain ⟨b, hb⟩ : ∃ b, rb r n = b := ⟨_, rfl⟩
  rw [hb]
  have HR := hid hb
  clear hb
  have hp := heap_alloc_new w (ido 38 r n)
  have k0 := fun o => ((ba (w.alloc (ido 38 r n)) o).cell (p := ⟨w.heap.size, 0, none⟩) (by simp)).trans (by rw [cell_of_row _ _ 0 _ _ _ hp]; rfl : _ = some (.int .i64 r))
  have k1 := fun o => ((ba (w.alloc (ido 38 r n)) o).cell (p := ⟨w.heap.size, 1, none⟩) (by simp)).trans (by rw [cell_of_row _ _ 1 _ _ _ hp]; rfl : _ = some (.int .i64 n))
  clear hp
  cases hro : ro r n
  · cases hn : (n == 0)
    all_goals cases hr : (r == 0)
    all_goals
      have HO := hid hro
      go_enter Tryd.func61, Tryd.ntmps61
      go_wp2_with (go_at_call 48; refine (xro_any _ _ _).mono ?_; rintro e w2 ⟨rfl, rfl⟩; rw [hro])
      go_ret
      refine ⟨retb ?_, bt HB.out (ba _ _)⟩
      rw [← HR.out]
      simp at hn hr
      unfold rb
      rw [HO.out]
      simp [hn, hr]
  · have HO := hid hro
    go_enter Tryd.func61, Tryd.ntmps61
    go_wp2_with (go_at_call 48; refine (xro_any _ _ _).mono ?_; rintro e w2 ⟨rfl, rfl⟩; rw [hro])
    go_ret
    refine ⟨retb ?_, bt HB.out (ba _ _)⟩
    rw [← HR.out]
    simp [rb, HO.out]

abbrev chv (r n i : Int) : Value := .agg #[.int .i64 r, .int .i64 n, .int .i64 i]

set_option maxHeartbeats 1000000 in
theorem rc_any (r n i : Int) (w : World) :
    Calls Tryd.prog 74 #[chv r n i] w fun e w' => e = .returned (.bool (rc r n i)) ∧ Below w.heap.size w w' := by
  have HB := hid (ba w (.cells #[.int .i64 r, .int .i64 n, .int .i64 i] 40))
  obtain ⟨b, hb⟩ : ∃ b, rc r n i = b := ⟨_, rfl⟩
  rw [hb]
  have HR := hid hb
  clear hb
  have hp := heap_alloc_new w (.cells #[.int .i64 r, .int .i64 n, .int .i64 i] 40)
  have k2 := fun o => ((ba (w.alloc (.cells #[.int .i64 r, .int .i64 n, .int .i64 i] 40)) o).cell (p := ⟨w.heap.size, 2, none⟩) (by simp)).trans (by rw [cell_of_row _ _ 2 _ _ _ hp]; rfl : _ = some (.int .i64 i))
  clear hp
  by_cases hz : r = 0 ∧ n = 0 ∧ i = 0
  · obtain ⟨rfl, rfl, rfl⟩ := hz
    go_enter Tryd.func74, Tryd.ntmps74
    go_wp2_with fail
    go_ret
    refine ⟨retb ?_, HB.out⟩
    rw [← HR.out]
    simp [rc]
  · have hz' : ((r == 0) = false) ∨ ((r == 0) = true ∧ (n == 0) = false) ∨ ((r == 0) = true ∧ (n == 0) = true ∧ (i == 0) = false) := by
      simp; omega
    have HZ := hid hz
    clear hz
    cases hro : ro r n
    all_goals cases hi : decide (0 ≤ i)
    all_goals rcases hz' with h1 | ⟨h1, h2⟩ | ⟨h1, h2, h3⟩
    all_goals
      have HO := hid hro
      go_enter Tryd.func74, Tryd.ntmps74
      go_wp2_with (go_at_call 47; refine (ro_any _ _ _).mono ?_; rintro e w2 ⟨rfl, rfl⟩; rw [hro])
      go_ret
      refine ⟨retb ?_, bt HB.out (ba _ _)⟩
      rw [← HR.out]
      simp [rc, HO.out, HZ.out]
      try (simp at hi; omega)

set_option maxHeartbeats 1000000 in
theorem xrc_any (r n i : Int) (w : World) :
    Calls Tryd.prog 63 #[chv r n i] w fun e w' => e = .returned (.bool (rc r n i)) ∧ Below w.heap.size w w' := by
  have HB := hid (ba w (.cells #[.int .i64 r, .int .i64 n, .int .i64 i] 40))
  obtain ⟨b, hb⟩ : ∃ b, rc r n i = b := ⟨_, rfl⟩
  rw [hb]
  have HR := hid hb
  clear hb
  have hp := heap_alloc_new w (.cells #[.int .i64 r, .int .i64 n, .int .i64 i] 40)
  have k2 := fun o => ((ba (w.alloc (.cells #[.int .i64 r, .int .i64 n, .int .i64 i] 40)) o).cell (p := ⟨w.heap.size, 2, none⟩) (by simp)).trans (by rw [cell_of_row _ _ 2 _ _ _ hp]; rfl : _ = some (.int .i64 i))
  clear hp
  by_cases hz : r = 0 ∧ n = 0 ∧ i = 0
  · obtain ⟨rfl, rfl, rfl⟩ := hz
    go_enter Tryd.func63, Tryd.ntmps63
    go_wp2_with fail
    go_ret
    refine ⟨retb ?_, HB.out⟩
    rw [← HR.out]
    simp [rc]
  · have hz' : ((r == 0) = false) ∨ ((r == 0) = true ∧ (n == 0) = false) ∨ ((r == 0) = true ∧ (n == 0) = true ∧ (i == 0) = false) := by
      simp; omega
    have HZ := hid hz
    clear hz
    cases hro : ro r n
    all_goals cases hi : decide (0 ≤ i)
    all_goals rcases hz' with h1 | ⟨h1, h2⟩ | ⟨h1, h2, h3⟩
    all_goals
      have HO := hid hro
      go_enter Tryd.func63, Tryd.ntmps63
      go_wp2_with (go_at_call 48; refine (xro_any _ _ _).mono ?_; rintro e w2 ⟨rfl, rfl⟩; rw [hro])
      go_ret
      refine ⟨retb ?_, bt HB.out (ba _ _)⟩
      rw [← HR.out]
      simp [rc, HO.out, HZ.out]
      try (simp at hi; omega)

theorem key_tx (s : ByteArray) (k : Nat) (h : s.size = k + 1) (h2 : s.size ≤ 32) (hk : k < s.size) : K.right (tx s) = (((s[k]).toNat : Int) != 0) := by
  unfold K.right K.lst
  rw [tx_length, h, Nat.add_sub_cancel, tx_getD hk, Bool.eq_iff_iff]
  simp only [decide_eq_true_eq, bne_iff_ne]
  constructor
  · intro h; exact h.2.2
  · intro h; exact ⟨by omega, by omega, h⟩
theorem key_no (s : ByteArray) (h : s.size < 1 ∨ 32 < s.size) : K.right (tx s) = false := by
  unfold K.right
  rw [tx_length]
  exact decide_eq_false (by omega)

theorem key_any (s : ByteArray) (w : World) (hs : s.size ≤ 1099511627776) : Calls Tryd.prog 73 #[.string s] w fun e w' => e = .returned (.bool (K.right (tx s))) ∧ w = w' := by
  by_cases h1 : s.size < 1
  · rw [key_no s (.inl h1)]
    have h1'' : s.size = 0 := by omega
    go_enter Tryd.func73, Tryd.ntmps73
    go_wp2
    go_ret
    exact ⟨rfl, rfl⟩
  · by_cases h2 : 32 < s.size
    · rw [key_no s (.inr h2)]
      have h1' : 1 ≤ s.size := by omega
      go_enter Tryd.func73, Tryd.ntmps73
      go_wp2
      go_ret
      exact ⟨rfl, rfl⟩
    · obtain ⟨k, hk⟩ : ∃ k, s.size = k + 1 := ⟨s.size - 1, by omega⟩
      have hks : k < s.size := by omega
      rw [key_tx s k hk (by omega) hks]
      have h1' : 1 ≤ s.size := by omega
      have h2' : s.size ≤ 32 := by omega
      go_enter Tryd.func73, Tryd.ntmps73
      go_wp2
      go_ret
      exact ⟨rfl, rfl⟩

theorem xkey_any (s : ByteArray) (w : World) (hs : s.size ≤ 1099511627776) : Calls Tryd.prog 62 #[.string s] w fun e w' => e = .returned (.bool (K.right (tx s))) ∧ w = w' := by
  by_cases h1 : s.size < 1
  · rw [key_no s (.inl h1)]
    have h1'' : s.size = 0 := by omega
    go_enter Tryd.func62, Tryd.ntmps62
    go_wp2
    go_ret
    exact ⟨rfl, rfl⟩
  · by_cases h2 : 32 < s.size
    · rw [key_no s (.inr h2)]
      have h1' : 1 ≤ s.size := by omega
      go_enter Tryd.func62, Tryd.ntmps62
      go_wp2
      go_ret
      exact ⟨rfl, rfl⟩
    · obtain ⟨k, hk⟩ : ∃ k, s.size = k + 1 := ⟨s.size - 1, by omega⟩
      have hks : k < s.size := by omega
      rw [key_tx s k hk (by omega) hks]
      have h1' : 1 ≤ s.size := by omega
      have h2' : s.size ≤ 32 := by omega
      go_enter Tryd.func62, Tryd.ntmps62
      go_wp2
      go_ret
      exact ⟨rfl, rfl⟩

end Go.Proofs.YtaojeanoojnknaaDoor

/-
  What right (of a field) and Right answer is proved here, for all ops whose texts are of at most 2^40 bytes.
-/
namespace Go.Proofs.YtaojeanoojnknaaDoor
open Go.RowKit
set_option linter.unusedVariables false
set_option maxRecDepth 100000

/-- Texts that are not too long to count. -/
def Opn.fine (o : Opn) : Prop := o.key.size ≤ 1099511627776 ∧ o.text.size ≤ 1099511627776

theorem rightf_any (f : Nat) (hf : f ≤ 8) (o : Opn) (v : Value) (w : World) (hL : Lay w) (hC : Cs w v o.cuts) (hfin : o.fine) :
    Calls Tryd.prog 57 #[opv o v, .int .i64 f] w fun e w' => e = .returned (.bool (rightF o f)) ∧ Below w.heap.size w w' := by
  obtain ⟨a, c, rfl, _, _⟩ := hC.form
  have HB := hid (ba w (opo o (.slice a o.cuts.length c)))
  have HL := hid (hL.below HB.out)
  have HC := hid (hC.below HB.out)
  have HF := hid hfin
  clear hL hC hfin
  rcases nine hf with rfl | rfl | rfl | rfl | rfl | rfl | rfl | rfl | rfl
  · go_enter Tryd.func57, Tryd.ntmps57
    go_wp2_with (go_at_call 47; refine (ro_any _ _ _).mono ?_; rintro e w2 ⟨rfl, rfl⟩)
    go_ret
    exact ⟨rfl, bt HB.out (ba _ _)⟩
  · go_enter Tryd.func57, Tryd.ntmps57
    go_wp2_with fail
    refine (rb_any _ _ _ HL.out).mono ?_
    rintro e w2 ⟨rfl, hb⟩
    have HB2 := hid hb
    clear hb
    go_wp2
    go_ret
    exact ⟨rfl, bt HB.out HB2.out⟩
  · go_enter Tryd.func57, Tryd.ntmps57
    go_wp2_with (go_at_call 73; refine (key_any _ _ HF.out.1).mono ?_; rintro e w2 ⟨rfl, rfl⟩)
    go_ret
    exact ⟨rfl, HB.out⟩
  · go_enter Tryd.func57, Tryd.ntmps57
    go_wp2_with (go_at_call 47; refine (ro_any _ _ _).mono ?_; rintro e w2 ⟨rfl, rfl⟩)
    go_ret
    exact ⟨rfl, bt HB.out (ba _ _)⟩
  · go_enter Tryd.func57, Tryd.ntmps57
    go_wp2_with fail
    refine (rc_any _ _ _ _).mono ?_
    rintro e w2 ⟨rfl, hb⟩
    have HB2 := hid hb
    clear hb
    go_wp2
    go_ret
    exact ⟨rfl, bt HB.out HB2.out⟩
  · go_enter Tryd.func57, Tryd.ntmps57
    go_wp2_with fail
    refine (rc_any _ _ _ _).mono ?_
    rintro e w2 ⟨rfl, hb⟩
    have HB2 := hid hb
    clear hb
    go_wp2
    go_ret
    exact ⟨rfl, bt HB.out HB2.out⟩
  · have hs := HF.out.2
    by_cases h1 : 1 ≤ o.text.size
    · have h1' : decide ((1 : Int) ≤ o.text.size) = true := by simp; omega
      go_enter Tryd.func57, Tryd.ntmps57
      go_wp2
      go_ret
      refine ⟨retb ?_, HB.out⟩
      simp [rightF]
      omega
    · have h1' : decide ((1 : Int) ≤ o.text.size) = false := by simp; omega
      go_enter Tryd.func57, Tryd.ntmps57
      go_wp2
      go_ret
      refine ⟨retb ?_, HB.out⟩
      simp [rightF]
      omega
  · go_enter Tryd.func57, Tryd.ntmps57
    go_wp2_with fail
    refine (cuts_any _ o.cuts _ HC.out).mono ?_
    rintro e w2 ⟨rfl, hb⟩
    have HB2 := hid hb
    clear hb
    go_wp2
    go_ret
    refine ⟨retb ?_, bt HB.out HB2.out⟩
    simp [rightF]
  · go_enter Tryd.func57, Tryd.ntmps57
    go_wp2
    go_ret
    exact ⟨rfl, HB.out⟩


theorem rightO_at (o : Opn) (h1 : ro o.ir o.im = true) (h2 : rs o.t o.ir = true) (h : ∀ j, j < 9 → goodF o j = true) : rightO o = !(told o.k).isEmpty := by
  unfold rightO
  rw [h1, h2]
  have : (List.range 9).all (goodF o) = true := by
    rw [List.all_eq_true]
    intro j hj
    exact h j (by simpa using hj)
  rw [this]
  simp
theorem rightO_not (o : Opn) {j : Nat} (hj : j < 9) (h : goodF o j = false) : rightO o = false := by
  unfold rightO
  have : (List.range 9).all (goodF o) = false := by
    rw [List.all_eq_false]
    exact ⟨j, by simpa using hj, by rw [h]; decide⟩
  rw [this]
  simp
theorem told_len (k : Int) : (told k).length ≤ 9 := by
  unfold told
  repeat' split
  all_goals decide

set_option maxHeartbeats 4000000 in
theorem right_any (o : Opn) (v : Value) (w : World) (hL : Lay w) (hC : Cs w v o.cuts) (hfin : o.fine) :
    Calls Tryd.prog 39 #[opv o v] w fun e w' => e = .returned (.bool (rightO o)) ∧ Below w.heap.size w w' := by
  have HNO : ∀ (k : Nat) (hk : k ≤ 8) (W : World), Calls Tryd.prog 55 #[opv o v, .int .i64 k] W fun e w' => e = .returned (.bool (noughtF o k)) ∧ Below W.heap.size W w' := by
    intro k hk W
    obtain ⟨a, c, rfl, _, _⟩ := hC.form
    exact nought_any k hk o a c W
  obtain ⟨r, hr⟩ : ∃ r, rightO o = r := ⟨_, rfl⟩
  rw [hr]
  have HR := hid hr
  have HNO := hid HNO
  have HB := hid (ba w (opo o v))
  have HL := hid (hL.below HB.out)
  have HC := hid (hC.below HB.out)
  have HF := hid hfin
  have HO := hid (Ob.new w o v)
  have k0 := fun o' => ((ba (w.alloc (opo o v)) o').cell (p := ⟨w.heap.size, 1, none⟩) (by simp)).trans (HO.out.cells.c1)
  have k1 := fun o' => ((ba (w.alloc (opo o v)) o').cell (p := ⟨w.heap.size, 3, none⟩) (by simp)).trans (HO.out.cells.c3)
  have k2 := fun o' o'' => ((ba ((w.alloc (opo o v)).alloc o') o'').cell (p := ⟨w.heap.size, 0, none⟩) (by simp; omega)).trans (((ba (w.alloc (opo o v)) o').cell (p := ⟨w.heap.size, 0, none⟩) (by simp)).trans (HO.out.cells.c0))
  clear hL hC hfin hr
  cases hro : ro o.ir o.im
  · have H1 := hid hro
    go_enter Tryd.func39, Tryd.ntmps39
    go_wp2_with (go_at_call 47; refine (ro_any _ _ _).mono ?_; rintro e w2 ⟨rfl, rfl⟩; rw [hro])
    go_ret
    refine ⟨retb ?_, bt HB.out (ba _ _)⟩
    rw [← HR.out]
    simp [rightO, H1.out]
  cases hrs : rs o.t o.ir
  · have H1 := hid hrs
    go_enter Tryd.func39, Tryd.ntmps39
    go_wp2_with (first | (go_at_call 47; refine (ro_any _ _ _).mono ?_; rintro e w2 ⟨rfl, rfl⟩; rw [hro]) | (go_at_call 53; refine (rs_any _ _ _).mono ?_; rintro e w2 ⟨rfl, rfl⟩; rw [hrs]))
    go_ret
    refine ⟨retb ?_, bt HB.out (bt (ba _ _) (ba _ _))⟩
    rw [← HR.out]
    simp [rightO, H1.out]
  have H1 := hid hro
  have H2 := hid hrs
  go_enter Tryd.func39, Tryd.ntmps39
  go_wp2_with (first | (go_at_call 47; refine (ro_any _ _ _).mono ?_; rintro e w2 ⟨rfl, rfl⟩; rw [hro]) | (go_at_call 53; refine (rs_any _ _ _).mono ?_; rintro e w2 ⟨rfl, rfl⟩; rw [hrs]))
  refine (told_any o.k _).mono ?_
  rintro e w1 ⟨vt, rfl, hFs, hbt, _⟩
  have hb1 : Below w.heap.size w w1 := bt HB.out (bt (bt (ba _ _) (ba _ _)) hbt)
  have hb0 : Below (w.alloc (opo o v)).heap.size (w.alloc (opo o v)) w1 := bt (bt (ba _ _) (ba _ _)) hbt
  have HB1 := hid hb1
  have HO1 := hid (HO.out.below hb0)
  have HL1 := hid (HL.out.below hb0)
  have HC1 := hid (HC.out.below hb0)
  have HF1 := hid hFs
  obtain ⟨ta, tc, rfl, _, _⟩ := Sl.form hFs
  clear hb1 hb0 hbt hFs k0 k1 k2 HO HL HC HB
  go_wp2
  go_loopw [23] (fun i wr => ∃ k : Nat, k ≤ 9 ∧ i = .int .i64 k ∧ Below w1.heap.size w1 wr ∧ ∀ j, j < k → goodF o j = true) (fun i _ => 9 - (intOf i).toNat)
  case atStart => exact ⟨0, Nat.zero_le _, rfl, Below.refl _ _, fun j h => absurd h (Nat.not_lt_zero _)⟩
  case round =>
    obtain ⟨k, hk, rfl, hbel, ht⟩ := hrel
    have HT := hid ht
    have HBE := hid hbel
    clear ht hbel
    by_cases hlt : k < 9
    · have b1' : (k : Int) < 9 := by omega
      have hld := hid (HO1.out.below HBE.out)
      go_wp2_with (refine wpList_load_op rfl _ rfl _ rfl _ _ hld.out ?_)
      refine (HNO.out k (by omega) _).mono ?_
      rintro e w2 ⟨rfl, hb2⟩
      have HB2 := hid (bt HBE.out hb2)
      clear hb2 hld
      by_cases hm : k ∈ told o.k
      · go_wp2_with fail
        refine (contains_any _ _ k _ (HF1.out.below HB2.out) (told_len _) (by omega) (told_le _)).mono ?_
        rintro e w3 ⟨rfl, rfl⟩
        rw [decide_eq_true hm]
        have hld := hid (HO1.out.below HB2.out)
        go_wp2_with (refine wpList_load_op rfl _ rfl _ rfl _ _ hld.out ?_)
        refine (rightf_any k (by omega) o v _ (HL1.out.below HB2.out) (HC1.out.below HB2.out) HF.out).mono ?_
        rintro e w4 ⟨rfl, hb4⟩
        have HB4 := hid (bt HB2.out hb4)
        clear hb4 hld
        have hg : goodF o k = rightF o k := by unfold goodF; rw [if_pos hm]
        rw [← hg]
        have HM := hid hm
        clear hg hm
        cases hgk : goodF o k
        · have HG := hid hgk
          clear hgk
          go_wp2
          go_ret
          refine ⟨retb ?_, bt HB1.out HB4.out⟩
          rw [← HR.out, rightO_not o hlt HG.out]
        · have HG := hid hgk
          clear hgk
          go_wp2
          go_roundw
          case rel =>
            refine ⟨k + 1, by omega, by go_num, HB4.out, fun j hjk => ?_⟩
            by_cases e : j = k
            · subst e; exact HG.out
            · exact HT.out j (by omega)
          case measure => simp [intOf]; omega
      · go_wp2_with fail
        refine (contains_any _ _ k _ (HF1.out.below HB2.out) (told_len _) (by omega) (told_le _)).mono ?_
        rintro e w3 ⟨rfl, rfl⟩
        rw [decide_eq_false hm]
        have hg : goodF o k = noughtF o k := by unfold goodF; rw [if_neg hm]
        rw [← hg]
        have HM := hid hm
        clear hg hm
        cases hgk : goodF o k
        · have HG := hid hgk
          clear hgk
          go_wp2
          go_ret
          refine ⟨retb ?_, bt HB1.out HB2.out⟩
          rw [← HR.out, rightO_not o hlt HG.out]
        · have HG := hid hgk
          clear hgk
          go_wp2
          go_roundw
          case rel =>
            refine ⟨k + 1, by omega, by go_num, HB2.out, fun j hjk => ?_⟩
            by_cases e : j = k
            · subst e; exact HG.out
            · exact HT.out j (by omega)
          case measure => simp [intOf]; omega
    · go_wp2
      go_ret
      refine ⟨retb ?_, bt HB1.out HBE.out⟩
      rw [← HR.out, rightO_at o H1.out H2.out (fun j hj => HT.out j (by omega))]
      cases told o.k <;> simp
      try omega

end Go.Proofs.YtaojeanoojnknaaDoor

/-
  From a walk to the given statement: what the arguments' readings give (ops, rows of ops, bytes), and a world for the witness.
-/
namespace Go.Proofs.YtaojeanoojnknaaDoor
open Go.RowKit Go.ChangeShapes Go.WideShapes Go.ChangeAt
set_option linter.unusedVariables false
set_option maxRecDepth 100000

theorem own : ownKnob Tryd.prog.godebug = none := by kernel_rfl
theorem laidOut : laidOutB Tryd.prog = true := by kernel_rfl

theorem Sl.of_rows {sz : Nat} {W : World} {x : Addr} {len cap : Nat} (hs : 0 < sz) (hl : len ≤ cap) (hm : cap ≤ maxLen) (R : Nat → List Value)
    (h : ∀ i, i < len → (R i).length = sz ∧ ∀ j u, (R i)[j]? = some u → W.cell? (x.add (i * sz + j)) = some u) : Sl sz W (.slice (some x) len cap) len ((List.range len).flatMap R) := by
  have hlen : ∀ n, n ≤ len → ((List.range n).flatMap R).length = n * sz := by
    intro n
    induction n with
    | zero => intro _; simp
    | succ n ih => intro hn; rw [List.range_succ, List.flatMap_append, List.length_append, ih (by omega)]; simp [(h n (by omega)).1, Nat.add_mul]
  have hat : ∀ n, n ≤ len → ∀ j u, ((List.range n).flatMap R)[j]? = some u → W.cell? (x.add j) = some u := by
    intro n
    induction n with
    | zero => intro _ j u hj; simp at hj
    | succ n ih =>
      intro hn j u hj
      rw [List.range_succ, List.flatMap_append] at hj
      by_cases hjl : j < n * sz
      · rw [List.getElem?_append_left (by rw [hlen n (by omega)]; exact hjl)] at hj
        exact ih (by omega) j u hj
      · rw [List.getElem?_append_right (by rw [hlen n (by omega)]; omega), hlen n (by omega)] at hj
        simp at hj
        have := (h n (by omega)).2 _ u hj
        rw [show n * sz + (j - n * sz) = j from by omega] at this
        exact this
  refine ⟨hlen len (Nat.le_refl _), some x, cap, rfl, hl, hm, fun h => (by cases h), fun j u hu => ?_⟩
  have h1 := hat len (Nat.le_refl _) j u hu
  have hpos : 0 < len := by
    rcases Nat.eq_zero_or_pos len with e | e
    · subst e; simp at hu
    · exact e
  obtain ⟨b, off, spot⟩ := x
  have hs0 : spot = none := by
    obtain ⟨h0, h0'⟩ := h 0 hpos
    obtain ⟨u0, hu0⟩ : ∃ u0, (R 0)[0]? = some u0 := ⟨_, List.getElem?_eq_getElem (by omega)⟩
    have := World.cell?_spot (h0' 0 u0 hu0)
    simpa [Addr.add] using this
  subst hs0
  rw [Addr.add_lit] at h1
  exact ⟨b, off, rfl, h1⟩

theorem cells_cut : Tryd.prog.cellsOf 86 = 4 := by kernel_rfl
theorem cells_id : Tryd.prog.cellsOf 38 = 2 := by kernel_rfl
theorem cells_char : Tryd.prog.cellsOf 40 = 3 := by kernel_rfl
theorem cells_int : Tryd.prog.cellsOf 3 = 1 := by kernel_rfl
theorem cells_str : Tryd.prog.cellsOf 9 = 1 := by kernel_rfl
theorem cells_bool : Tryd.prog.cellsOf 4 = 1 := by kernel_rfl
theorem cells_cuts : Tryd.prog.cellsOf 41 = 1 := by kernel_rfl
theorem cells_op : Tryd.prog.cellsOf 43 = 20 := by kernel_rfl

theorem list_3 {α : Type} {l : List α} (h : l.length = 3) : ∃ a b c, l = [a, b, c] := by
  match l, h with
  | [a, b, c], _ => exact ⟨a, b, c, rfl⟩
theorem list_4 {α : Type} {l : List α} (h : l.length = 4) : ∃ a b c d, l = [a, b, c, d] := by
  match l, h with
  | [a, b, c, d], _ => exact ⟨a, b, c, d, rfl⟩
theorem list_20 {α : Type} {l : List α} (h : l.length = 20) : ∃ a b c d e f g h i j k m n o p q r s t u, l = [a, b, c, d, e, f, g, h, i, j, k, m, n, o, p, q, r, s, t, u] := by
  match l, h with
  | [a, b, c, d, e, f, g, h, i, j, k, m, n, o, p, q, r, s, t, u], _ => exact ⟨a, b, c, d, e, f, g, h, i, j, k, m, n, o, p, q, r, s, t, u, rfl⟩

section
variable {H : Type} {enc : TypeId × Value → H} {W : World} {held : Bool}
theorem trod_id {n : Nat} {a b : Value} {x : DataW H × List MemPlace} (h : DataW.trod enc Tryd.prog W 0 (fun _ => true) held n 38 [a, b] = some x) : ∃ r m, a = .int .i64 r ∧ b = .int .i64 m := by
  obtain ⟨y0, y1, n, _, hl, h0, h1⟩ := trod_struct2 Tryd.underlying38 h
  simp [cells_int] at h0 h1
  obtain ⟨r, e0, _⟩ := DataW.trod_int Tryd.underlying3 h0
  obtain ⟨m, e1, _⟩ := DataW.trod_int Tryd.underlying3 h1
  simp at e0 e1
  exact ⟨r, m, e0, e1⟩
theorem trod_char {n : Nat} {a b c : Value} {x : DataW H × List MemPlace} (h : DataW.trod enc Tryd.prog W 0 (fun _ => true) held n 40 [a, b, c] = some x) : ∃ r m i, a = .int .i64 r ∧ b = .int .i64 m ∧ c = .int .i64 i := by
  obtain ⟨y0, y1, n, _, hl, h0, h1⟩ := trod_struct2 Tryd.underlying40 h
  simp [cells_int, cells_id] at h0 h1
  obtain ⟨r, m, e0, e1⟩ := trod_id h0
  obtain ⟨i, e2, _⟩ := DataW.trod_int Tryd.underlying3 h1
  simp at e2
  exact ⟨r, m, i, e0, e1, e2⟩
theorem trod_cut {n : Nat} {cs : List Value} {x : DataW H × List MemPlace} (h : DataW.trod enc Tryd.prog W 0 (fun _ => true) held n 86 cs = some x) : ∃ c : Ct, cs = cutc c := by
  obtain ⟨xs, k, hk, hxy, hlen, hxl, hfl⟩ := DataW.trod_struct Tryd.underlying86 h
  rw [cells_cut] at hlen
  obtain ⟨y0, y1, y2, rfl⟩ := list_3 hxl
  obtain ⟨v0, v1, v2, v3, rfl⟩ := list_4 hlen
  have g0 := hfl 0 _ rfl
  have g1 := hfl 1 _ rfl
  have g2 := hfl 2 _ rfl
  simp [cells_int, cells_id] at g0 g1 g2
  obtain ⟨r, m, rfl, rfl⟩ := trod_id g0
  obtain ⟨f, e1, _⟩ := DataW.trod_int Tryd.underlying3 g1
  obtain ⟨t, e2, _⟩ := DataW.trod_int Tryd.underlying3 g2
  simp at e1 e2
  subst e1; subst e2
  exact ⟨⟨r, m, f, t⟩, rfl⟩
theorem trod_cuts {n : Nat} {v : Value} {x : DataW H × List MemPlace} (h : DataW.trod enc Tryd.prog W 0 (fun _ => true) held n 41 [v] = some x) : ∃ l, Cs W v l := by
  rcases Go.Deep.open_slice Tryd.underlying41 h with ⟨hcs, _⟩ | ⟨x, len, c, m, n, D, Pl, hcs, _, hl, hm, hmm, _, hx⟩
  · simp at hcs
    subst hcs
    exact ⟨[], Cs.nil W⟩
  · simp at hcs
    subst hcs
    simp at hmm
    subst hmm
    rw [cells_cut] at hx
    have each : ∀ i, i < len → ∃ q : Ct, W.cells? 0 (x.add (i * 4)) 4 = some (cutc q) := fun i hi => by
      obtain ⟨cs', h1, h2⟩ := hx i (by omega)
      obtain ⟨q, rfl⟩ := trod_cut h2
      exact ⟨q, h1⟩
    have hinh : Inhabited Ct := ⟨Ct.zero⟩
    obtain ⟨q, hq⟩ := Go.Deep.choose_lt each
    refine ⟨(List.range len).map q, ?_⟩
    have := Sl.of_rows (sz := 4) (W := W) (x := x) (by decide) hl hm (fun i => cutc (q i)) (fun i hi => ⟨rfl, fun j u hu => by
      obtain ⟨_, _, hcell⟩ := World.cells?_some (hq i hi)
      have hj : j < 4 := (List.getElem?_eq_some_iff.1 hu).1
      have := hcell j hj
      rw [Go.Deep.add_add] at this
      rw [this, hu]⟩)
    unfold Cs
    rw [List.length_map, List.length_range, List.flatMap_map]
    exact this
theorem trod_op {n : Nat} {cs : List Value} {x : DataW H × List MemPlace} (h : DataW.trod enc Tryd.prog W 0 (fun _ => true) held n 43 cs = some x) : ∃ o v, cs = opc (o, v) ∧ Cs W v o.cuts := by
  obtain ⟨xs, k, hk, hxy, hlen, hxl, hfl⟩ := DataW.trod_struct Tryd.underlying43 h
  rw [cells_op] at hlen
  obtain ⟨v0, v1, v2, v3, v4, v5, v6, v7, v8, v9, v10, v11, v12, v13, v14, v15, v16, v17, v18, v19, rfl⟩ := list_20 hlen
  have hsz : xs.length = 12 := hxl
  have hat : ∀ i, i < 12 → ∃ y, xs[i]? = some y := fun i hi => ⟨_, List.getElem?_eq_getElem (by omega)⟩
  obtain ⟨z0, k0⟩ := hat 0 (by decide)
  obtain ⟨z1, k1⟩ := hat 1 (by decide)
  obtain ⟨z2, k2⟩ := hat 2 (by decide)
  obtain ⟨z3, k3⟩ := hat 3 (by decide)
  obtain ⟨z4, k4⟩ := hat 4 (by decide)
  obtain ⟨z5, k5⟩ := hat 5 (by decide)
  obtain ⟨z6, k6⟩ := hat 6 (by decide)
  obtain ⟨z7, k7⟩ := hat 7 (by decide)
  obtain ⟨z8, k8⟩ := hat 8 (by decide)
  obtain ⟨z9, k9⟩ := hat 9 (by decide)
  obtain ⟨z10, k10⟩ := hat 10 (by decide)
  obtain ⟨z11, k11⟩ := hat 11 (by decide)
  have g0 := (hfl 0 _ rfl).trans k0
  have g1 := (hfl 1 _ rfl).trans k1
  have g2 := (hfl 2 _ rfl).trans k2
  have g3 := (hfl 3 _ rfl).trans k3
  have g4 := (hfl 4 _ rfl).trans k4
  have g5 := (hfl 5 _ rfl).trans k5
  have g6 := (hfl 6 _ rfl).trans k6
  have g7 := (hfl 7 _ rfl).trans k7
  have g8 := (hfl 8 _ rfl).trans k8
  have g9 := (hfl 9 _ rfl).trans k9
  have g10 := (hfl 10 _ rfl).trans k10
  have g11 := (hfl 11 _ rfl).trans k11
  simp [cells_int] at g0
  simp [cells_id] at g1
  simp [cells_int] at g2
  simp [cells_id] at g3
  simp [cells_id] at g4
  simp [cells_str] at g5
  simp [cells_id] at g6
  simp [cells_char] at g7
  simp [cells_char] at g8
  simp [cells_str] at g9
  simp [cells_cuts] at g10
  simp [cells_bool] at g11
  obtain ⟨a0, e0, _⟩ := DataW.trod_int Tryd.underlying3 g0
  obtain ⟨a1, a2, rfl, rfl⟩ := trod_id g1
  obtain ⟨a3, e3, _⟩ := DataW.trod_int Tryd.underlying3 g2
  obtain ⟨a4, a5, rfl, rfl⟩ := trod_id g3
  obtain ⟨a6, a7, rfl, rfl⟩ := trod_id g4
  obtain ⟨a8, e8, _⟩ := DataW.trod_string Tryd.underlying9 g5
  obtain ⟨a9, a10, rfl, rfl⟩ := trod_id g6
  obtain ⟨a11, a12, a13, rfl, rfl, rfl⟩ := trod_char g7
  obtain ⟨a14, a15, a16, rfl, rfl, rfl⟩ := trod_char g8
  obtain ⟨a17, e17, _⟩ := DataW.trod_string Tryd.underlying9 g9
  obtain ⟨l, hl⟩ := trod_cuts g10
  obtain ⟨a19, e19, _⟩ := DataW.trod_bool Tryd.underlying4 g11
  obtain rfl : v0 = _ := by simpa using e0
  obtain rfl : v3 = _ := by simpa using e3
  obtain rfl : v8 = _ := by simpa using e8
  obtain rfl : v17 = _ := by simpa using e17
  obtain rfl : v19 = _ := by simpa using e19
  exact ⟨⟨a0, a1, a2, a3, a4, a5, a6, a7, a8, a9, a10, a11, a12, a13, a14, a15, a16, a17, l, a19⟩, v18, rfl, hl⟩
end

/-- The heap that the program's own text lays meets the list. -/
theorem door_met (os : Go.Os) (args : Array Value) : laidMetH Tryd.prog Rows.causeCallsRow.laid ((World.doorLaid Tryd.prog 72 os).forCall (fun _ _ => 0) ⟨#[], args, []⟩).memory := by
  rw [MakeChecks.laidMetH_plain _ _ _ (by kernel_rfl)]
  exact laidMet_of_run' 8 (by kernel_rfl) (by kernel_rfl)

end Go.Proofs.YtaojeanoojnknaaDoor
