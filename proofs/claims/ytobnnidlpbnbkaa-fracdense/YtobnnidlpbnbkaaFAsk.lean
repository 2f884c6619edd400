/-
  What cmp.Compare, Order, Right, rightEnds, byteAt and step answer is proved here, for all texts of at most 2^40 bytes.
-/
import Derived.Test.YtobnnidlpbnbkaaRows
import Derived.Test.YtobnnidlpbnbkaaFStr
import Derived.Laws.Cover1
import Derived.BigQuiet
namespace Go.Proofs.Ytobnnidlpbnbkaa
open Go.RowKit
set_option linter.unusedVariables false

theorem retb {a b : Bool} (h : a = b) : Ending.returned (.bool a) = .returned (.bool b) := by rw [h]
theorem reti {a b : Int} (h : a = b) : Ending.returned (.int .i64 a) = .returned (.int .i64 b) := by rw [h]

theorem nan_any (s : ByteArray) (w : World) : Calls Try.prog 20 #[.string s] w fun e w' => e = .returned (.bool false) ∧ w = w' := by
  have h := beq_refl s
  go_enter Try.func20, Try.ntmps20
  go_wp2
  go_ret
  exact ⟨rfl, rfl⟩

theorem cmp_any (s t : ByteArray) (w : World) : Calls Try.prog 19 #[.string s, .string t] w fun e w' => e = .returned (.int .i64 (K.ord (tx s) (tx t))) ∧ w = w' := by
  obtain ⟨r, hr⟩ : ∃ r, K.ord (tx s) (tx t) = r := ⟨_, rfl⟩
  rw [hr]
  have HR := hid hr
  clear hr
  cases hl : K.lt (tx s) (tx t)
  · cases he : decide (tx s = tx t)
    all_goals
      have h1 := less_tx s t
      have h2 := beq_tx s t
      rw [hl] at h1
      rw [he] at h2
      have HL := hid hl
      have HE := hid he
      clear hl he
      go_enter Try.func19, Try.ntmps19
      go_wp2_with (go_at_call 20; refine (nan_any _ _).mono ?_; rintro e w' ⟨rfl, rfl⟩)
      go_ret
      refine ⟨reti ?_, rfl⟩
      have a1 := HL.out
      have a2 := HE.out
      rw [← HR.out]
      unfold K.ord
      rw [if_neg (by rw [a1]; decide)]
    · rw [if_pos]
      cases hg : K.lt (tx t) (tx s)
      · rw [K.lt_total a1 hg] at a2; simp at a2
      · rfl
    · simp at a2
      rw [a2, K.lt_irrefl]
      rfl
  · have h1 := less_tx s t
    rw [hl] at h1
    have HL := hid hl
    clear hl
    go_enter Try.func19, Try.ntmps19
    go_wp2_with (go_at_call 20; refine (nan_any _ _).mono ?_; rintro e w' ⟨rfl, rfl⟩)
    go_ret
    refine ⟨reti ?_, rfl⟩
    rw [← HR.out]
    unfold K.ord
    rw [if_pos HL.out]

theorem order_any (s t : ByteArray) (w : World) : Calls Try.prog 12 #[.string s, .string t] w fun e w' => e = .returned (.int .i64 (K.ord (tx s) (tx t))) ∧ w = w' := by
  obtain ⟨r, hr⟩ : ∃ r, K.ord (tx s) (tx t) = r := ⟨_, rfl⟩
  have HC := hid (fun W => cmp_any s t W)
  rw [hr] at HC ⊢
  clear hr
  go_enter Try.func12, Try.ntmps12
  go_wp2_with (go_at_call 19; refine (HC.out _).mono ?_; rintro e w' ⟨rfl, rfl⟩)
  go_ret
  exact ⟨rfl, rfl⟩

theorem right_tx (s : ByteArray) (k : Nat) (h : s.size = k + 1) (h2 : s.size ≤ 32) (hk : k < s.size) : K.right (tx s) = (((s[k]).toNat : Int) != 0) := by
  unfold K.right K.lst
  rw [tx_length, h, Nat.add_sub_cancel, tx_getD hk, Bool.eq_iff_iff]
  simp only [decide_eq_true_eq, bne_iff_ne]
  constructor
  · intro h; exact h.2.2
  · intro h; exact ⟨by omega, by omega, h⟩
theorem right_no (s : ByteArray) (h : s.size < 1 ∨ 32 < s.size) : K.right (tx s) = false := by
  unfold K.right
  rw [tx_length]
  exact decide_eq_false (by omega)

theorem right_any (s : ByteArray) (w : World) (hs : s.size ≤ 1099511627776) : Calls Try.prog 10 #[.string s] w fun e w' => e = .returned (.bool (K.right (tx s))) ∧ w = w' := by
  by_cases h1 : s.size < 1
  · rw [right_no s (.inl h1)]
    have h1'' : s.size = 0 := by omega
    go_enter Try.func10, Try.ntmps10
    go_wp2
    go_ret
    exact ⟨rfl, rfl⟩
  · by_cases h2 : 32 < s.size
    · rw [right_no s (.inr h2)]
      have h1' : 1 ≤ s.size := by omega
      go_enter Try.func10, Try.ntmps10
      go_wp2
      go_ret
      exact ⟨rfl, rfl⟩
    · obtain ⟨k, hk⟩ : ∃ k, s.size = k + 1 := ⟨s.size - 1, by omega⟩
      have hks : k < s.size := by omega
      rw [right_tx s k hk (by omega) hks]
      have h1' : 1 ≤ s.size := by omega
      have h2' : s.size ≤ 32 := by omega
      go_enter Try.func10, Try.ntmps10
      go_wp2
      go_ret
      exact ⟨rfl, rfl⟩

end Go.Proofs.Ytobnnidlpbnbkaa
