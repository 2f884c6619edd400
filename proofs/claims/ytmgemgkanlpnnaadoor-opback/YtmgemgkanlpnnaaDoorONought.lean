/-
  What nought answers is proved here, for all ops and fields.
-/
import Derived.Test.YtmgemgkanlpnnaaDoorOVal
namespace Go.Proofs.YtmgemgkanlpnnaaDoor
open Go.RowKit
set_option linter.unusedVariables false
set_option maxRecDepth 100000

theorem beq_no (s : ByteArray) : (s.toList == ByteArray.toList ⟨#[]⟩) = decide (s.size = 0) := by
  rw [beq_tx, Bool.eq_iff_iff]
  simp only [decide_eq_true_eq]
  rw [← tx_length]
  constructor <;> intro h
  · rw [h]; rfl
  · rw [List.eq_nil_of_length_eq_zero h]; rfl

theorem toList_nil (s : ByteArray) : s.toList = [] ↔ s = ByteArray.empty := by
  have := beq_no s
  constructor <;> intro h
  · have e : (s.toList == ByteArray.toList ⟨#[]⟩) = true := by rw [h]; unfold ByteArray.toList ByteArray.toList.loop; decide
    rw [this] at e
    exact ba_nil (by simpa using e)
  · rw [h]; unfold ByteArray.toList ByteArray.toList.loop; decide
theorem nought_any (f : Nat) (hf : f ≤ 8) (o : Opn) (a : Option Addr) (c : Nat) (w : World) : Calls Tryd.prog 48 #[opv o (.slice a o.cuts.length c), .int .i64 f] w fun e w' => e = .returned (.bool (noughtF o f)) ∧ Below w.heap.size w w' := by
  have HB := hid (ba w (opo o (.slice a o.cuts.length c)))
  obtain ⟨b, hb⟩ : ∃ b, noughtF o f = b := ⟨_, rfl⟩
  rw [hb]
  have HR := hid hb
  clear hb
  rcases nine hf with rfl | rfl | rfl | rfl | rfl | rfl | rfl | rfl | rfl
  all_goals
    go_enter Tryd.func48, Tryd.ntmps48
    go_wp2_with fail
    all_goals
      go_ret
      refine ⟨retb ?_, HB.out⟩
      rw [← HR.out]
      simp [noughtF, toList_nil, *]
end Go.Proofs.YtmgemgkanlpnnaaDoor
