/-
  What byteAt and step answer is proved here, for all texts of at most 2^40 bytes and all bytes.
-/
import Derived.Test.YtobnnidlpbnbkaaFAsk
namespace Go.Proofs.Ytobnnidlpbnbkaa
open Go.RowKit
set_option linter.unusedVariables false

theorem byte_any (s : ByteArray) (i : Nat) (d : Int) (w : World) (hs : s.size ≤ 1099511627776) (hi : i ≤ 1000) :
    Calls Try.prog 17 #[.string s, .int .i64 i, .int .i64 d] w fun e w' => e = .returned (.int .i64 (((tx s).drop i).headD d)) ∧ w = w' := by
  by_cases h : i < s.size
  · rw [tx_head h]
    have h' : decide (s.size ≤ i) = false := by simp; omega
    have hw : wrap64 ((s[i]).toNat : Int) = ((s[i]).toNat : Int) := by
      have := (s[i]).toNat_lt
      unfold wrap64
      omega
    go_enter Try.func17, Try.ntmps17
    go_wp2
    go_ret
    exact ⟨reti hw, rfl⟩
  · rw [tx_none (by omega)]
    have h' : s.size ≤ i := by omega
    go_enter Try.func17, Try.ntmps17
    go_wp2
    go_ret
    exact ⟨rfl, rfl⟩

theorem step_any (x y : Int) (w : World) (hx : 0 ≤ x) (hxy : x < y) (hy : y ≤ 256) :
    Calls Try.prog 18 #[.int .i64 x, .int .i64 y] w fun e w' => e = .returned (.int .i64 (K.step x y)) ∧ w = w' := by
  obtain ⟨r, hr⟩ : ∃ r, K.step x y = r := ⟨_, rfl⟩
  rw [hr]
  unfold K.step at hr
  have HR := hid hr
  clear hr
  have hd : (y - x).tdiv 2 = (y - x) / 2 := Int.tdiv_eq_ediv_of_nonneg (by omega)
  cases h : (y == 256)
  all_goals
    have HH := hid h
    go_enter Try.func18, Try.ntmps18
    go_wp2
  all_goals
    go_ret
    refine ⟨reti ?_, rfl⟩
    have hh := HH.out
    simp at hh
    rw [← HR.out]
    split <;> omega

end Go.Proofs.Ytobnnidlpbnbkaa
