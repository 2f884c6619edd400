/-
  What right (of a field) and Right answer is proved here, for all ops whose texts are of at most 2^40 bytes.
-/
import Derived.Test.YtmgemgkanlpnnaaDoorOTold
import Derived.Test.YtmgemgkanlpnnaaDoorOBlock
import Derived.Test.YtmgemgkanlpnnaaDoorONought
namespace Go.Proofs.YtmgemgkanlpnnaaDoor
open Go.RowKit
set_option linter.unusedVariables false
set_option maxRecDepth 100000

/-- Texts that are not too long to count. -/
def Opn.fine (o : Opn) : Prop := o.key.size ≤ 1099511627776 ∧ o.text.size ≤ 1099511627776

theorem rightf_any (f : Nat) (hf : f ≤ 8) (o : Opn) (v : Value) (w : World) (hL : Lay w) (hC : Cs w v o.cuts) (hfin : o.fine) :
    Calls Tryd.prog 50 #[opv o v, .int .i64 f] w fun e w' => e = .returned (.bool (rightF o f)) ∧ Below w.heap.size w w' := by
  obtain ⟨a, c, rfl, _, _⟩ := hC.form
  have HB := hid (ba w (opo o (.slice a o.cuts.length c)))
  have HL := hid (hL.below HB.out)
  have HC := hid (hC.below HB.out)
  have HF := hid hfin
  clear hL hC hfin
  rcases nine hf with rfl | rfl | rfl | rfl | rfl | rfl | rfl | rfl | rfl
  · go_enter Tryd.func50, Tryd.ntmps50
    go_wp2_with (go_at_call 46; refine (ro_any _ _ _).mono ?_; rintro e w2 ⟨rfl, rfl⟩)
    go_ret
    exact ⟨rfl, bt HB.out (ba _ _)⟩
  · go_enter Tryd.func50, Tryd.ntmps50
    go_wp2_with fail
    refine (rb_any _ _ _ HL.out).mono ?_
    rintro e w2 ⟨rfl, hb⟩
    have HB2 := hid hb
    clear hb
    go_wp2
    go_ret
    exact ⟨rfl, bt HB.out HB2.out⟩
  · go_enter Tryd.func50, Tryd.ntmps50
    go_wp2_with (go_at_call 79; refine (key_any _ _ HF.out.1).mono ?_; rintro e w2 ⟨rfl, rfl⟩)
    go_ret
    exact ⟨rfl, HB.out⟩
  · go_enter Tryd.func50, Tryd.ntmps50
    go_wp2_with (go_at_call 46; refine (ro_any _ _ _).mono ?_; rintro e w2 ⟨rfl, rfl⟩)
    go_ret
    exact ⟨rfl, bt HB.out (ba _ _)⟩
  · go_enter Tryd.func50, Tryd.ntmps50
    go_wp2_with fail
    refine (rc_any _ _ _ _).mono ?_
    rintro e w2 ⟨rfl, hb⟩
    have HB2 := hid hb
    clear hb
    go_wp2
    go_ret
    exact ⟨rfl, bt HB.out HB2.out⟩
  · go_enter Tryd.func50, Tryd.ntmps50
    go_wp2_with fail
    refine (rc_any _ _ _ _).mono ?_
    rintro e w2 ⟨rfl, hb⟩
    have HB2 := hid hb
    clear hb
    go_wp2
    go_ret
    exact ⟨rfl, bt HB.out HB2.out⟩
  · have hs := HF.out.2
    by_cases h1 : 1 ≤ o.text.size
    · have h1' : decide ((1 : Int) ≤ o.text.size) = true := by simp; omega
      go_enter Tryd.func50, Tryd.ntmps50
      go_wp2
      go_ret
      refine ⟨retb ?_, HB.out⟩
      simp [rightF]
      omega
    · have h1' : decide ((1 : Int) ≤ o.text.size) = false := by simp; omega
      go_enter Tryd.func50, Tryd.ntmps50
      go_wp2
      go_ret
      refine ⟨retb ?_, HB.out⟩
      simp [rightF]
      omega
  · go_enter Tryd.func50, Tryd.ntmps50
    go_wp2_with fail
    refine (cuts_any _ o.cuts _ HC.out).mono ?_
    rintro e w2 ⟨rfl, hb⟩
    have HB2 := hid hb
    clear hb
    go_wp2
    go_ret
    refine ⟨retb ?_, bt HB.out HB2.out⟩
    simp [rightF]
  · go_enter Tryd.func50, Tryd.ntmps50
    go_wp2
    go_ret
    exact ⟨rfl, HB.out⟩


theorem rightO_at (o : Opn) (h1 : ro o.ir o.im = true) (h2 : rs o.t o.ir = true) (h : ∀ j, j < 9 → goodF o j = true) : rightO o = !(told o.k).isEmpty := by
  unfold rightO
  rw [h1, h2]
  have : (List.range 9).all (goodF o) = true := by
    rw [List.all_eq_true]
    intro j hj
    exact h j (by simpa using hj)
  rw [this]
  simp
theorem rightO_not (o : Opn) {j : Nat} (hj : j < 9) (h : goodF o j = false) : rightO o = false := by
  unfold rightO
  have : (List.range 9).all (goodF o) = false := by
    rw [List.all_eq_false]
    exact ⟨j, by simpa using hj, by rw [h]; decide⟩
  rw [this]
  simp
theorem told_len (k : Int) : (told k).length ≤ 9 := by
  unfold told
  repeat' split
  all_goals decide

set_option maxHeartbeats 4000000 in
theorem right_any (o : Opn) (v : Value) (w : World) (hL : Lay w) (hC : Cs w v o.cuts) (hfin : o.fine) :
    Calls Tryd.prog 20 #[opv o v] w fun e w' => e = .returned (.bool (rightO o)) ∧ Below w.heap.size w w' := by
  have HNO : ∀ (k : Nat) (hk : k ≤ 8) (W : World), Calls Tryd.prog 48 #[opv o v, .int .i64 k] W fun e w' => e = .returned (.bool (noughtF o k)) ∧ Below W.heap.size W w' := by
    intro k hk W
    obtain ⟨a, c, rfl, _, _⟩ := hC.form
    exact nought_any k hk o a c W
  obtain ⟨r, hr⟩ : ∃ r, rightO o = r := ⟨_, rfl⟩
  rw [hr]
  have HR := hid hr
  have HNO := hid HNO
  have HB := hid (ba w (opo o v))
  have HL := hid (hL.below HB.out)
  have HC := hid (hC.below HB.out)
  have HF := hid hfin
  have HO := hid (Ob.new w o v)
  have k0 := fun o' => ((ba (w.alloc (opo o v)) o').cell (p := ⟨w.heap.size, 1, none⟩) (by simp)).trans (HO.out.cells.c1)
  have k1 := fun o' => ((ba (w.alloc (opo o v)) o').cell (p := ⟨w.heap.size, 3, none⟩) (by simp)).trans (HO.out.cells.c3)
  have k2 := fun o' o'' => ((ba ((w.alloc (opo o v)).alloc o') o'').cell (p := ⟨w.heap.size, 0, none⟩) (by simp; omega)).trans (((ba (w.alloc (opo o v)) o').cell (p := ⟨w.heap.size, 0, none⟩) (by simp)).trans (HO.out.cells.c0))
  clear hL hC hfin hr
  cases hro : ro o.ir o.im
  · have H1 := hid hro
    go_enter Tryd.func20, Tryd.ntmps20
    go_wp2_with (go_at_call 46; refine (ro_any _ _ _).mono ?_; rintro e w2 ⟨rfl, rfl⟩; rw [hro])
    go_ret
    refine ⟨retb ?_, bt HB.out (ba _ _)⟩
    rw [← HR.out]
    simp [rightO, H1.out]
  cases hrs : rs o.t o.ir
  · have H1 := hid hrs
    go_enter Tryd.func20, Tryd.ntmps20
    go_wp2_with (first | (go_at_call 46; refine (ro_any _ _ _).mono ?_; rintro e w2 ⟨rfl, rfl⟩; rw [hro]) | (go_at_call 47; refine (rs_any _ _ _).mono ?_; rintro e w2 ⟨rfl, rfl⟩; rw [hrs]))
    go_ret
    refine ⟨retb ?_, bt HB.out (bt (ba _ _) (ba _ _))⟩
    rw [← HR.out]
    simp [rightO, H1.out]
  have H1 := hid hro
  have H2 := hid hrs
  go_enter Tryd.func20, Tryd.ntmps20
  go_wp2_with (first | (go_at_call 46; refine (ro_any _ _ _).mono ?_; rintro e w2 ⟨rfl, rfl⟩; rw [hro]) | (go_at_call 47; refine (rs_any _ _ _).mono ?_; rintro e w2 ⟨rfl, rfl⟩; rw [hrs]))
  refine (told_any o.k _).mono ?_
  rintro e w1 ⟨vt, rfl, hFs, hbt, _⟩
  have hb1 : Below w.heap.size w w1 := bt HB.out (bt (bt (ba _ _) (ba _ _)) hbt)
  have hb0 : Below (w.alloc (opo o v)).heap.size (w.alloc (opo o v)) w1 := bt (bt (ba _ _) (ba _ _)) hbt
  have HB1 := hid hb1
  have HO1 := hid (HO.out.below hb0)
  have HL1 := hid (HL.out.below hb0)
  have HC1 := hid (HC.out.below hb0)
  have HF1 := hid hFs
  obtain ⟨ta, tc, rfl, _, _⟩ := Sl.form hFs
  clear hb1 hb0 hbt hFs k0 k1 k2 HO HL HC HB
  go_wp2
  go_loopw [23] (fun i wr => ∃ k : Nat, k ≤ 9 ∧ i = .int .i64 k ∧ Below w1.heap.size w1 wr ∧ ∀ j, j < k → goodF o j = true) (fun i _ => 9 - (intOf i).toNat)
  case atStart => exact ⟨0, Nat.zero_le _, rfl, Below.refl _ _, fun j h => absurd h (Nat.not_lt_zero _)⟩
  case round =>
    obtain ⟨k, hk, rfl, hbel, ht⟩ := hrel
    have HT := hid ht
    have HBE := hid hbel
    clear ht hbel
    by_cases hlt : k < 9
    · have b1' : (k : Int) < 9 := by omega
      have hld := hid (HO1.out.below HBE.out)
      go_wp2_with (refine wpList_load_op rfl _ rfl _ rfl _ _ hld.out ?_)
      refine (HNO.out k (by omega) _).mono ?_
      rintro e w2 ⟨rfl, hb2⟩
      have HB2 := hid (bt HBE.out hb2)
      clear hb2 hld
      by_cases hm : k ∈ told o.k
      · go_wp2_with fail
        refine (contains_any _ _ k _ (HF1.out.below HB2.out) (told_len _) (by omega) (told_le _)).mono ?_
        rintro e w3 ⟨rfl, rfl⟩
        rw [decide_eq_true hm]
        have hld := hid (HO1.out.below HB2.out)
        go_wp2_with (refine wpList_load_op rfl _ rfl _ rfl _ _ hld.out ?_)
        refine (rightf_any k (by omega) o v _ (HL1.out.below HB2.out) (HC1.out.below HB2.out) HF.out).mono ?_
        rintro e w4 ⟨rfl, hb4⟩
        have HB4 := hid (bt HB2.out hb4)
        clear hb4 hld
        have hg : goodF o k = rightF o k := by unfold goodF; rw [if_pos hm]
        rw [← hg]
        have HM := hid hm
        clear hg hm
        cases hgk : goodF o k
        · have HG := hid hgk
          clear hgk
          go_wp2
          go_ret
          refine ⟨retb ?_, bt HB1.out HB4.out⟩
          rw [← HR.out, rightO_not o hlt HG.out]
        · have HG := hid hgk
          clear hgk
          go_wp2
          go_roundw
          case rel =>
            refine ⟨k + 1, by omega, by go_num, HB4.out, fun j hjk => ?_⟩
            by_cases e : j = k
            · subst e; exact HG.out
            · exact HT.out j (by omega)
          case measure => simp [intOf]; omega
      · go_wp2_with fail
        refine (contains_any _ _ k _ (HF1.out.below HB2.out) (told_len _) (by omega) (told_le _)).mono ?_
        rintro e w3 ⟨rfl, rfl⟩
        rw [decide_eq_false hm]
        have hg : goodF o k = noughtF o k := by unfold goodF; rw [if_neg hm]
        rw [← hg]
        have HM := hid hm
        clear hg hm
        cases hgk : goodF o k
        · have HG := hid hgk
          clear hgk
          go_wp2
          go_ret
          refine ⟨retb ?_, bt HB1.out HB2.out⟩
          rw [← HR.out, rightO_not o hlt HG.out]
        · have HG := hid hgk
          clear hgk
          go_wp2
          go_roundw
          case rel =>
            refine ⟨k + 1, by omega, by go_num, HB2.out, fun j hjk => ?_⟩
            by_cases e : j = k
            · subst e; exact HG.out
            · exact HT.out j (by omega)
          case measure => simp [intOf]; omega
    · go_wp2
      go_ret
      refine ⟨retb ?_, bt HB1.out HBE.out⟩
      rw [← HR.out, rightO_at o H1.out H2.out (fun j hj => HT.out j (by omega))]
      cases told o.k <;> simp
      try omega

end Go.Proofs.YtmgemgkanlpnnaaDoor
