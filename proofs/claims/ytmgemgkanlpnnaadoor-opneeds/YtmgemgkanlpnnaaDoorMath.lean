/-
  Plain mathematics of numbers as bytes: how many bytes a number takes, which ones, and back. Nothing of the program is imported.
-/
namespace Go.Proofs.YtmgemgkanlpnnaaDoor.M

theorem ipow_le (a : Nat) {b c : Nat} (ha : 0 < a) (h : b ≤ c) : (a : Int) ^ b ≤ (a : Int) ^ c := by
  have := Nat.pow_le_pow_right ha h
  rw [← Int.natCast_pow, ← Int.natCast_pow]
  omega
theorem pow2_le {b c : Nat} (h : b ≤ c) : (2 : Int) ^ b ≤ 2 ^ c := ipow_le 2 (by decide) h
theorem pow256_le {b c : Nat} (h : b ≤ c) : (256 : Int) ^ b ≤ 256 ^ c := ipow_le 256 (by decide) h

/-- With c bytes the numbers below it can be told. -/
def bd (c : Nat) : Int := 128 ^ c

/-- How many bytes a number takes. -/
def sz (n : Int) : Nat :=
  if n < 128 then 1 else if n < 16384 then 2 else if n < 2097152 then 3 else if n < 268435456 then 4 else if n < 34359738368 then 5 else if n < 4398046511104 then 6 else 7

theorem sz_pos (n : Int) : 1 ≤ sz n ∧ sz n ≤ 7 := by unfold sz; constructor <;> (repeat' split) <;> omega

theorem sz_of {n : Int} {k : Nat} (h1 : 1 ≤ k) (h7 : k ≤ 7) (hl : k = 1 ∨ bd (k - 1) ≤ n) (hu : k = 7 ∨ n < bd k) : sz n = k := by
  have : k = 1 ∨ k = 2 ∨ k = 3 ∨ k = 4 ∨ k = 5 ∨ k = 6 ∨ k = 7 := by omega
  unfold bd at hl hu
  rcases this with rfl | rfl | rfl | rfl | rfl | rfl | rfl <;> simp at hl hu <;> unfold sz <;> (repeat' split) <;> omega

/-- The lowest k bytes of a number, the highest first. -/
def be : Nat → Int → List Int
  | 0, _ => []
  | k + 1, n => (n / 256 ^ k) % 256 :: be k n

theorem be_length (k : Nat) (n : Int) : (be k n).length = k := by
  induction k with
  | zero => rfl
  | succ k ih => simp [be, ih]

theorem be_byte (k : Nat) (n : Int) : ∀ x ∈ be k n, 0 ≤ x ∧ x < 256 := by
  induction k with
  | zero => intro x hx; cases hx
  | succ k ih =>
    intro x hx
    simp only [be, List.mem_cons] at hx
    rcases hx with rfl | hx
    · exact ⟨Int.emod_nonneg _ (by decide), Int.emod_lt_of_pos _ (by decide)⟩
    · exact ih x hx

/-- What is added to the first of k bytes. -/
def mask (k : Nat) : Int := 256 - 2 ^ (9 - k)

/-- A number's bytes, k of them. -/
def encK (k : Nat) (n : Int) : List Int :=
  match be k n with
  | [] => []
  | x :: r => (x + mask k) :: r

/-- A number's bytes. -/
def enc (n : Int) : List Int := encK (sz n) n

theorem pow_le_of {j : Nat} {n : Int} (h : sz n = j) (hn : n < 562949953421312) : n < 128 ^ j := by
  subst h
  unfold sz
  (repeat' split) <;> simp <;> omega

/-- The highest byte leaves room for what is added to it. -/
theorem be_head {j : Nat} {n x : Int} {r : List Int} (h0 : 0 ≤ n) (hn : n < 562949953421312) (hj : sz n = j) (hx : be j n = x :: r) : 0 ≤ x ∧ x < 2 ^ (8 - j) := by
  have h1 := sz_pos n
  have h2 := pow_le_of hj hn
  rw [hj] at h1
  have : j = 1 ∨ j = 2 ∨ j = 3 ∨ j = 4 ∨ j = 5 ∨ j = 6 ∨ j = 7 := by omega
  rcases this with rfl | rfl | rfl | rfl | rfl | rfl | rfl <;> simp [be] at hx h2 ⊢ <;> omega

theorem enc_byte (n : Int) (h0 : 0 ≤ n) (hn : n < 562949953421312) : ∀ x ∈ enc n, 0 ≤ x ∧ x < 256 := by
  unfold enc encK
  have h1 := sz_pos n
  have hb := be_byte (sz n) n
  obtain ⟨j, hj⟩ : ∃ j, sz n = j := ⟨_, rfl⟩
  rw [hj] at hb h1 ⊢
  split
  · intro x hx; cases hx
  · rename_i y r hx
    have hh := be_head h0 hn hj hx
    rw [hx] at hb
    intro x hm
    simp only [List.mem_cons] at hm
    rcases hm with rfl | hm
    · have : j = 1 ∨ j = 2 ∨ j = 3 ∨ j = 4 ∨ j = 5 ∨ j = 6 ∨ j = 7 := by omega
      unfold mask
      rcases this with rfl | rfl | rfl | rfl | rfl | rfl | rfl <;> simp at hh ⊢ <;> omega
    · exact hb x (by simp [hm])

def right (n : Int) : Bool := decide (0 ≤ n ∧ n < 562949953421312)

theorem encK_length (k : Nat) (n : Int) : (encK k n).length = k := by
  unfold encK
  have := be_length k n
  split
  · rename_i h; rw [h] at this; exact this
  · rename_i h; rw [h] at this; simpa using this

theorem enc_length (n : Int) : (enc n).length = sz n := encK_length _ _

/-- How many bytes a number has whose first byte is b (8 and 9: none has). -/
def cnt (b : Int) : Nat :=
  if b < 128 then 1 else if b < 192 then 2 else if b < 224 then 3 else if b < 240 then 4 else if b < 248 then 5 else if b < 252 then 6 else if b < 254 then 7 else if b < 255 then 8 else 9

theorem cnt_pos (b : Int) : 1 ≤ cnt b ∧ cnt b ≤ 9 := by unfold cnt; constructor <;> (repeat' split) <;> omega

/-- Bytes behind a number, the highest first. -/
def fold (n : Int) (l : List Int) : Int := l.foldl (fun n x => n * 256 + x) n

/-- The number that bytes begin with, and how many of them it takes. -/
def first : List Int → Option (Int × Nat)
  | [] => none
  | b :: r => if 7 < cnt b ∨ r.length + 1 < cnt b then none else
      if sz (fold (b % 2 ^ (8 - cnt b)) (r.take (cnt b - 1))) = cnt b then some (fold (b % 2 ^ (8 - cnt b)) (r.take (cnt b - 1)), cnt b) else none

/-- The three answers of 'first'. -/
def fn (xs : List Int) : Int := match first xs with | some p => p.1 | none => 0
def fc (xs : List Int) : Nat := match first xs with | some p => p.2 | none => 0
def fo (xs : List Int) : Bool := (first xs).isSome

theorem fo_spec {xs : List Int} (h : fo xs = true) : 1 ≤ fc xs ∧ fc xs ≤ xs.length ∧ sz (fn xs) = fc xs := by
  unfold fo at h
  cases xs with
  | nil => simp [first] at h
  | cons b r =>
    by_cases h1 : 7 < cnt b ∨ r.length + 1 < cnt b
    · simp [first, h1] at h
    · by_cases h2 : sz (fold (b % 2 ^ (8 - cnt b)) (r.take (cnt b - 1))) = cnt b
      · have e : first (b :: r) = some (fold (b % 2 ^ (8 - cnt b)) (r.take (cnt b - 1)), cnt b) := by rw [first, if_neg h1, if_pos h2]
        simp only [fn, fc, e]
        have := cnt_pos b
        exact ⟨by omega, by simp; omega, h2⟩
      · simp [first, h1, h2] at h

/-- What a cursor over xs answers, and what it is then over: the next number .. -/
def numOk (most : Int) (xs : List Int) : Bool := fo xs && decide (fn xs ≤ most)
def numV (most : Int) (xs : List Int) : Int := if numOk most xs then fn xs else 0
def numS (most : Int) (xs : List Int) : List Int := if numOk most xs then xs.drop (fc xs) else []
def numL (most : Int) (xs : List Int) (lost : Bool) : Bool := if numOk most xs then lost else true
/-- .. so many next bytes. -/
def takeOk (n : Int) (xs : List Int) : Bool := decide (0 ≤ n ∧ n ≤ xs.length)
def takeV (n : Int) (xs : List Int) : List Int := if takeOk n xs then xs.take n.toNat else []
def takeS (n : Int) (xs : List Int) : List Int := if takeOk n xs then xs.drop n.toNat else []
def takeL (n : Int) (xs : List Int) (lost : Bool) : Bool := if takeOk n xs then lost else true
/-- Bytes as a text. -/
def str (xs : List Int) : ByteArray := xs.foldl (fun r n => r.push (UInt8.ofNat n.toNat)) ByteArray.empty

theorem fold_bound (m : Int) (l : List Int) (hl : ∀ x ∈ l, 0 ≤ x ∧ x < 256) : ∀ n : Int, 0 ≤ n → n < m → 0 ≤ fold n l ∧ fold n l < m * 256 ^ l.length := by
  induction l generalizing m with
  | nil => intro n h0 h1; simpa [fold] using ⟨h0, h1⟩
  | cons x r ih =>
    intro n h0 h1
    have hx := hl x (by simp)
    have := ih (m * 256) (fun y hy => hl y (by simp [hy])) (n * 256 + x) (by omega) (by omega)
    simp only [fold, List.foldl_cons, List.length_cons] at this ⊢
    rw [Int.pow_succ, Int.mul_comm (256 ^ r.length) 256, ← Int.mul_assoc]
    exact this

theorem fold_snoc (n : Int) (l : List Int) (x : Int) : fold n (l ++ [x]) = fold n l * 256 + x := by simp [fold]

end Go.Proofs.YtmgemgkanlpnnaaDoor.M
