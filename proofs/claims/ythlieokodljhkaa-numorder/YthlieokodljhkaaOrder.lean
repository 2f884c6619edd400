/-
  Plain mathematics: the bytes of numbers are in the order of the numbers.
-/
import Derived.Test.YthlieokodljhkaaMath
namespace Go.Proofs.Ythlieokodljhkaa.M

/-- At the first place at which they are unlike the first is below. -/
def Lex (xs ys : List Int) : Prop := ∃ i, i < xs.length ∧ i < ys.length ∧ (∀ j, j < i → xs.getD j 0 = ys.getD j 0) ∧ xs.getD i 0 < ys.getD i 0

theorem Lex.head {x y : Int} {r s : List Int} (h : x < y) : Lex (x :: r) (y :: s) := ⟨0, by simp, by simp, fun j hj => absurd hj (Nat.not_lt_zero _), by simpa using h⟩
theorem Lex.tail {x : Int} {r s : List Int} (h : Lex r s) : Lex (x :: r) (x :: s) := by
  obtain ⟨i, h1, h2, h3, h4⟩ := h
  refine ⟨i + 1, by simpa using h1, by simpa using h2, fun j hj => ?_, by simpa using h4⟩
  cases j with
  | zero => rfl
  | succ j => simpa using h3 j (by omega)
/-- The head may be shifted on both sides. -/
theorem Lex.shift {x y m : Int} {r s : List Int} (h : Lex (x :: r) (y :: s)) : Lex ((x + m) :: r) ((y + m) :: s) := by
  obtain ⟨i, h1, h2, h3, h4⟩ := h
  refine ⟨i, by simpa using h1, by simpa using h2, fun j hj => ?_, ?_⟩
  · have := h3 j hj
    cases j with
    | zero => simpa using this
    | succ j => simpa using this
  · cases i with
    | zero => simpa using h4
    | succ i => simpa using h4

theorem emod_mul' (a P : Int) (hP : 0 ≤ P) : a % (P * 256) = a % P + P * (a / P % 256) := by
  rw [Int.emod_def, Int.emod_def a P, Int.emod_def (a / P) 256, Int.ediv_ediv_of_nonneg hP, Int.mul_sub, Int.mul_assoc]
  omega

theorem be_lex (k : Nat) : ∀ a b : Int, a % 256 ^ k < b % 256 ^ k → Lex (be k a) (be k b) := by
  induction k with
  | zero => intro a b h; simp at h
  | succ k ih =>
    intro a b h
    have hP : (0 : Int) < 256 ^ k := Int.pow_pos (by decide)
    rw [Int.pow_succ, emod_mul' a _ (Int.le_of_lt hP), emod_mul' b _ (Int.le_of_lt hP)] at h
    simp only [be]
    have pb := Int.emod_lt_of_pos b hP
    have pa := Int.emod_nonneg a (Int.ne_of_gt hP)
    by_cases h1 : a / 256 ^ k % 256 < b / 256 ^ k % 256
    · exact Lex.head h1
    · by_cases h2 : a / 256 ^ k % 256 = b / 256 ^ k % 256
      · rw [h2] at h ⊢
        exact Lex.tail (ih a b (by omega))
      · have h3 : b / 256 ^ k % 256 + 1 ≤ a / 256 ^ k % 256 := by omega
        have h4 := Int.mul_le_mul_of_nonneg_left h3 (Int.le_of_lt hP)
        rw [Int.mul_add] at h4
        omega

theorem sz_mono {a b : Int} (h : a ≤ b) : sz a ≤ sz b := by
  unfold sz
  (repeat' split) <;> omega

theorem enc_lex {a b : Int} (h0 : 0 ≤ a) (hb : b < 562949953421312) (h : a < b) : Lex (enc a) (enc b) := by
  have ha : a < 562949953421312 := by omega
  have hb0 : 0 ≤ b := by omega
  have hm := sz_mono (Int.le_of_lt h)
  have pa := sz_pos a
  have pb := sz_pos b
  obtain ⟨x, r, hx⟩ : ∃ x r, be (sz a) a = x :: r := by
    cases e : sz a with
    | zero => omega
    | succ k => exact ⟨_, _, rfl⟩
  obtain ⟨y, s, hy⟩ : ∃ y s, be (sz b) b = y :: s := by
    cases e : sz b with
    | zero => omega
    | succ k => exact ⟨_, _, rfl⟩
  have e1 : enc a = (x + mask (sz a)) :: r := by unfold enc encK; rw [hx]
  have e2 : enc b = (y + mask (sz b)) :: s := by unfold enc encK; rw [hy]
  have xa := be_head h0 ha rfl hx
  have yb := be_head hb0 hb rfl hy
  rw [e1, e2]
  by_cases hk : sz a = sz b
  · rw [hk] at hx ⊢
    refine Lex.shift ?_
    rw [← hx, ← hy]
    have la := pow_le_of (n := a) rfl ha
    have lb := pow_le_of (n := b) rfl hb
    have hp : (128 : Int) ^ sz b ≤ 256 ^ sz b := by
      have := Nat.pow_le_pow_left (show 128 ≤ 256 by decide) (sz b)
      have e1 : ((128 ^ sz b : Nat) : Int) = (128 : Int) ^ sz b := by rw [Int.natCast_pow]; rfl
      have e2 : ((256 ^ sz b : Nat) : Int) = (256 : Int) ^ sz b := by rw [Int.natCast_pow]; rfl
      omega
    rw [hk] at la
    refine be_lex _ a b ?_
    rw [Int.emod_eq_of_lt h0 (by omega), Int.emod_eq_of_lt hb0 (by omega)]
    exact h
  · refine Lex.head ?_
    have h8 : (2 : Int) ^ (9 - sz b) ≤ 2 ^ (8 - sz a) := pow2_le (by omega)
    have h9 : (2 : Int) ^ (9 - sz a) = 2 * 2 ^ (8 - sz a) := by
      rw [show 9 - sz a = (8 - sz a) + 1 by omega, Int.pow_succ, Int.mul_comm]
    unfold mask
    omega

/-- The first place at which the bytes of two numbers are unlike. -/
theorem enc_first {a b : Int} (ha0 : 0 ≤ a) (ha : a < 562949953421312) (hb0 : 0 ≤ b) (hb : b < 562949953421312) (h : a ≠ b) :
    ∃ i, i < (enc a).length ∧ i < (enc b).length ∧ (∀ j, j < i → (enc a).getD j 0 = (enc b).getD j 0) ∧ (enc a).getD i 0 ≠ (enc b).getD i 0 ∧ decide ((enc a).getD i 0 < (enc b).getD i 0) = decide (a < b) := by
  by_cases hlt : a < b
  · obtain ⟨i, h1, h2, h3, h4⟩ := enc_lex ha0 hb hlt
    exact ⟨i, h1, h2, h3, by omega, by rw [decide_eq_true h4, decide_eq_true hlt]⟩
  · obtain ⟨i, h1, h2, h3, h4⟩ := enc_lex hb0 ha (show b < a by omega)
    refine ⟨i, h2, h1, fun j hj => (h3 j hj).symm, by omega, ?_⟩
    rw [decide_eq_false (by omega), decide_eq_false hlt]

end Go.Proofs.Ythlieokodljhkaa.M
