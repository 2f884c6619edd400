/-
  Plain mathematics: what was put is taken again, and there is one way to tell a number.
-/
import Derived.Test.YtmgemgkanlpnnaaDoorMath
namespace Go.Proofs.YtmgemgkanlpnnaaDoor.M

theorem fold_be (k : Nat) (n : Int) : fold (n / 256 ^ k) (be k n) = n := by
  induction k with
  | zero => simp [fold, be]
  | succ k ih =>
    have hP : (0 : Int) ≤ 256 ^ k := Int.le_of_lt (Int.pow_pos (by decide))
    have e : n / 256 ^ (k + 1) * 256 + n / 256 ^ k % 256 = n / 256 ^ k := by
      rw [Int.pow_succ, ← Int.ediv_ediv_of_nonneg hP]
      omega
    simp only [be, fold, List.foldl_cons]
    rw [e]
    exact ih

theorem seven {k : Nat} (h : 1 ≤ k ∧ k ≤ 7) : k = 1 ∨ k = 2 ∨ k = 3 ∨ k = 4 ∨ k = 5 ∨ k = 6 ∨ k = 7 := by omega

theorem cnt_mask {k : Nat} {x : Int} (hk : 1 ≤ k ∧ k ≤ 7) (h0 : 0 ≤ x) (h1 : x < 2 ^ (8 - k)) : cnt (x + mask k) = k ∧ (x + mask k) % 2 ^ (8 - k) = x := by
  rcases seven hk with rfl | rfl | rfl | rfl | rfl | rfl | rfl <;> simp [mask] at h1 ⊢ <;> refine ⟨?_, by omega⟩ <;> unfold cnt <;> (repeat' split) <;> omega

/-- What was put is taken again. -/
theorem first_enc {n : Int} (h0 : 0 ≤ n) (hn : n < 562949953421312) (r : List Int) : first (enc n ++ r) = some (n, sz n) := by
  have hk := sz_pos n
  obtain ⟨k, e⟩ : ∃ k, sz n = k + 1 := ⟨sz n - 1, by omega⟩
  have hx : be (sz n) n = (n / 256 ^ k % 256) :: be k n := by rw [e]; rfl
  have hh := be_head h0 hn rfl hx
  have hc := cnt_mask hk hh.1 hh.2
  have e1 : enc n = (n / 256 ^ k % 256 + mask (sz n)) :: be k n := by unfold enc encK; rw [hx]
  have hl := be_length k n
  have hq : n / 256 ^ k % 256 = n / 256 ^ k := by
    have hp := pow_le_of (n := n) rfl hn
    refine Int.emod_eq_of_lt (Int.ediv_nonneg h0 (Int.le_of_lt (Int.pow_pos (by decide)))) ?_
    refine Int.ediv_lt_of_lt_mul (Int.pow_pos (by decide)) ?_
    have h2 := ipow_le 128 (b := k + 1) (c := k + 1) (by decide) (Nat.le_refl _)
    have h3 : (128 : Int) ^ (k + 1) ≤ 256 ^ (k + 1) := by
      have := Nat.pow_le_pow_left (show 128 ≤ 256 by decide) (k + 1)
      have e1 : ((128 ^ (k + 1) : Nat) : Int) = (128 : Int) ^ (k + 1) := by rw [Int.natCast_pow]; rfl
      have e2 : ((256 ^ (k + 1) : Nat) : Int) = (256 : Int) ^ (k + 1) := by rw [Int.natCast_pow]; rfl
      omega
    rw [e] at hp
    rw [Int.pow_succ] at h3
    rw [Int.mul_comm]
    omega
  rw [e1, List.cons_append, first, hc.1, hc.2, if_neg (by simp [hl]; omega)]
  have e2 : (be k n ++ r).take (sz n - 1) = be k n := by
    rw [List.take_append_of_le_length (by omega), List.take_of_length_le (by omega)]
  have e3 : fold (n / 256 ^ k % 256) (be k n) = n := by rw [hq]; exact fold_be k n
  rw [e2, e3, if_pos rfl]

theorem fold_div (t : List Int) (ht : ∀ x ∈ t, 0 ≤ x ∧ x < 256) : ∀ n : Int, fold n t / 256 ^ t.length = n ∧ be t.length (fold n t) = t := by
  induction t with
  | nil => intro n; simp [fold, be]
  | cons y t ih =>
    intro n
    have hy := ht y (by simp)
    have := ih (fun x hx => ht x (by simp [hx])) (n * 256 + y)
    have hP : (0 : Int) ≤ 256 ^ t.length := Int.le_of_lt (Int.pow_pos (by decide))
    have e : fold n (y :: t) = fold (n * 256 + y) t := rfl
    rw [e]
    simp only [List.length_cons, be]
    rw [this.1, this.2]
    refine ⟨?_, by congr 1; omega⟩
    rw [Int.pow_succ, ← Int.ediv_ediv_of_nonneg hP, this.1]
    omega

theorem mask_of_cnt {b : Int} (h0 : 0 ≤ b) (h1 : b < 256) (hk : cnt b ≤ 7) : b % 2 ^ (8 - cnt b) + mask (cnt b) = b ∧ b % 2 ^ (8 - cnt b) < 2 ^ (8 - cnt b) := by
  have hp := cnt_pos b
  obtain ⟨k, e⟩ : ∃ k, cnt b = k := ⟨_, rfl⟩
  have e' := e
  unfold cnt at e'
  rw [e] at hk hp ⊢
  refine ⟨?_, Int.emod_lt_of_pos _ (Int.pow_pos (by decide))⟩
  rcases seven ⟨hp.1, hk⟩ with rfl | rfl | rfl | rfl | rfl | rfl | rfl <;> simp [mask] <;> (repeat' split at e') <;> omega

/-- There is one way to tell a number. -/
theorem enc_first_eq {xs : List Int} {n : Int} {k : Nat} (hx : ∀ x ∈ xs, 0 ≤ x ∧ x < 256) (h : first xs = some (n, k)) :
    0 ≤ n ∧ n < 562949953421312 ∧ sz n = k ∧ enc n = xs.take k ∧ k ≤ xs.length := by
  cases xs with
  | nil => simp [first] at h
  | cons b r =>
    by_cases h1 : 7 < cnt b ∨ r.length + 1 < cnt b
    · simp [first, h1] at h
    · by_cases h2 : sz (fold (b % 2 ^ (8 - cnt b)) (r.take (cnt b - 1))) = cnt b
      · rw [first, if_neg h1, if_pos h2] at h
        simp only [Option.some.injEq, Prod.mk.injEq] at h
        obtain ⟨rfl, rfl⟩ := h
        have hp := cnt_pos b
        have hb := hx b (by simp)
        have hm := mask_of_cnt hb.1 hb.2 (by omega)
        have hr : ∀ x ∈ r.take (cnt b - 1), 0 ≤ x ∧ x < 256 := fun x hx' => hx x (by simp [List.mem_of_mem_take hx'])
        have hl : (r.take (cnt b - 1)).length = cnt b - 1 := by rw [List.length_take]; omega
        have hf := fold_div (r.take (cnt b - 1)) hr (b % 2 ^ (8 - cnt b))
        have h0 : 0 ≤ b % 2 ^ (8 - cnt b) := Int.emod_nonneg _ (Int.ne_of_gt (Int.pow_pos (by decide)))
        have hbd := fold_bound (2 ^ (8 - cnt b)) (r.take (cnt b - 1)) hr (b % 2 ^ (8 - cnt b)) h0 hm.2
        rw [hl] at hf hbd
        have hlt : (2 : Int) ^ (8 - cnt b) * 256 ^ (cnt b - 1) ≤ 562949953421312 := by
          rcases seven (show 1 ≤ cnt b ∧ cnt b ≤ 7 by omega) with e | e | e | e | e | e | e <;> rw [e] <;> decide
        refine ⟨hbd.1, by omega, h2, ?_, by simp; omega⟩
        unfold enc encK
        rw [h2]
        obtain ⟨k, e⟩ : ∃ k, cnt b = k + 1 := ⟨cnt b - 1, by omega⟩
        have hlt8 : (2 : Int) ^ (8 - cnt b) ≤ 2 ^ 7 := pow2_le (by omega)
        have e3 : be (cnt b) (fold (b % 2 ^ (8 - cnt b)) (r.take (cnt b - 1))) = (b % 2 ^ (8 - cnt b)) :: r.take (cnt b - 1) := by
          have e4 : cnt b - 1 = k := by omega
          rw [e4] at hf ⊢
          rw [e] at hf ⊢
          simp only [be]
          rw [hf.1, hf.2, Int.emod_eq_of_lt (by rw [← e]; exact h0) (by rw [← e]; have := hm.2; omega)]
        rw [e3]
        show (b % 2 ^ (8 - cnt b) + mask (cnt b)) :: r.take (cnt b - 1) = _
        rw [hm.1, e]
        simp
      · simp [first, h1, h2] at h

/-- A text's bytes. -/
def ofStr (s : ByteArray) : List Int := s.data.toList.map (fun b => (b.toNat : Int))

theorem ofStr_length (s : ByteArray) : (ofStr s).length = s.size := by
  unfold ofStr; rw [List.length_map, Array.length_toList]; rfl
theorem ofStr_byte (s : ByteArray) : ∀ x ∈ ofStr s, 0 ≤ x ∧ x < 256 := by
  intro x hx
  unfold ofStr at hx
  obtain ⟨b, _, rfl⟩ := List.mem_map.1 hx
  have := b.toNat_lt
  omega

theorem foldl_push (l : List UInt8) : ∀ s : ByteArray, (l.map (fun b => (b.toNat : Int))).foldl (fun r n => r.push (UInt8.ofNat n.toNat)) s = ⟨s.data ++ l.toArray⟩ := by
  induction l with
  | nil => intro s; simp
  | cons b l ih =>
    intro s
    simp only [List.map_cons, List.foldl_cons]
    rw [ih]
    simp [ByteArray.push]
theorem str_ofStr (s : ByteArray) : str (ofStr s) = s := by
  unfold str ofStr
  rw [foldl_push]
  cases s
  simp [ByteArray.empty, ByteArray.emptyWithCapacity]
  rfl

/-- A text, put: its length, then its bytes. -/
def encText (s : ByteArray) : List Int := enc s.size ++ ofStr s

end Go.Proofs.YtmgemgkanlpnnaaDoor.M
