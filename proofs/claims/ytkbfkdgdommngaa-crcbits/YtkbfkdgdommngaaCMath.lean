/-
  The plain mathematics of sums and frames: a sum's steps are linear and one-to-one; frames are parted as they were made. Nothing of the program is imported.
-/
import Derived.WalkKit
namespace Go.Proofs.Ytkbfkdgdommngaa
set_option linter.unusedVariables false
namespace C

/-- A sum behind the fall of its lowest bit. -/
def step (n : Nat) : Nat := if n % 2 = 1 then (n / 2) ^^^ 3988292384 else n / 2
def steps : Nat → Nat → Nat
  | 0, n => n
  | k + 1, n => steps k (step n)
def eat (n : Nat) (b : Int) : Nat := steps 8 (n ^^^ b.toNat)
def run (n : Nat) (l : List Int) : Nat := l.foldl eat n
def sum (l : List Int) : Nat := run 4294967295 l ^^^ 4294967295

theorem step_eq (n : Nat) : step n = (n / 2) ^^^ (if n % 2 = 1 then 3988292384 else 0) := by
  unfold step; split <;> simp

theorem xor_half (a b : Nat) : (a ^^^ b) / 2 = (a / 2) ^^^ (b / 2) := by
  have := Nat.xor_div_two_pow (a := a) (b := b) (n := 1)
  simpa using this
theorem xor_mod2 (a b : Nat) : (a ^^^ b) % 2 = (a + b) % 2 := by
  have h := Nat.xor_mod_two_pow (a := a) (b := b) (n := 1)
  rw [show 2 ^ 1 = 2 from rfl] at h
  rw [h]
  rcases Nat.mod_two_eq_zero_or_one a with ha | ha <;> rcases Nat.mod_two_eq_zero_or_one b with hb | hb <;> rw [ha, hb, Nat.add_mod, ha, hb] <;> rfl
theorem xor_eq_zero {a b : Nat} (h : a ^^^ b = 0) : a = b := by
  have : (a ^^^ b) ^^^ b = b := by rw [h, Nat.zero_xor]
  rwa [Nat.xor_assoc, Nat.xor_self, Nat.xor_zero] at this

theorem xor_swap (a b c d : Nat) : (a ^^^ b) ^^^ (c ^^^ d) = (a ^^^ c) ^^^ (b ^^^ d) := by
  rw [Nat.xor_assoc, ← Nat.xor_assoc b c d, Nat.xor_comm b c, Nat.xor_assoc c b d, ← Nat.xor_assoc]

theorem step_xor (a b : Nat) : step (a ^^^ b) = step a ^^^ step b := by
  rw [step_eq, step_eq, step_eq, xor_half, xor_swap (a / 2)]
  congr 1
  have h := xor_mod2 a b
  rcases Nat.mod_two_eq_zero_or_one a with ha | ha <;> rcases Nat.mod_two_eq_zero_or_one b with hb | hb
  · rw [if_neg (by omega), if_neg (by omega), if_neg (by omega)]; rfl
  · rw [if_pos (by omega), if_neg (by omega), if_pos (by omega)]; rfl
  · rw [if_pos (by omega), if_pos (by omega), if_neg (by omega)]; rfl
  · rw [if_neg (by omega), if_pos (by omega), if_pos (by omega)]; rfl

theorem steps_xor (k a b : Nat) : steps k (a ^^^ b) = steps k a ^^^ steps k b := by
  induction k generalizing a b with
  | zero => rfl
  | succ k ih => rw [steps, steps, steps, step_xor, ih]
theorem steps_add (j k n : Nat) : steps (j + k) n = steps k (steps j n) := by
  induction j generalizing n with
  | zero => rw [Nat.zero_add]; rfl
  | succ j ih => rw [Nat.succ_add]; exact ih _
theorem steps_snoc (k n : Nat) : steps (k + 1) n = step (steps k n) := steps_add k 1 n

theorem step_lt {n : Nat} (h : n < 4294967296) : step n < 4294967296 := by
  rw [step_eq]
  have h1 : n / 2 < 2 ^ 32 := by omega
  split
  · exact Nat.xor_lt_two_pow (n := 32) h1 (by decide)
  · exact Nat.xor_lt_two_pow (n := 32) h1 (by decide)
theorem steps_lt (k : Nat) {n : Nat} (h : n < 4294967296) : steps k n < 4294967296 := by
  induction k generalizing n with
  | zero => exact h
  | succ k ih => exact ih (step_lt h)
theorem step_pos {n : Nat} (h : n < 4294967296) (h0 : n ≠ 0) : step n ≠ 0 := by
  unfold step
  split
  · intro e
    have e2 := xor_eq_zero e
    omega
  · omega
theorem steps_pos (k : Nat) {n : Nat} (h : n < 4294967296) (h0 : n ≠ 0) : steps k n ≠ 0 := by
  induction k generalizing n with
  | zero => exact h0
  | succ k ih => exact ih (step_lt h) (step_pos h h0)
theorem xor_lt {a b : Nat} (ha : a < 4294967296) (hb : b < 4294967296) : a ^^^ b < 4294967296 := Nat.xor_lt_two_pow (n := 32) ha hb
theorem steps_inj (k : Nat) {a b : Nat} (ha : a < 4294967296) (hb : b < 4294967296) (h : steps k a = steps k b) : a = b := by
  by_cases e : a ^^^ b = 0
  · exact xor_eq_zero e
  · exfalso
    apply steps_pos k (xor_lt ha hb) e
    rw [steps_xor, h, Nat.xor_self]

theorem step_even (m : Nat) : step (2 * m) = m := by unfold step; rw [if_neg (by omega)]; omega
theorem steps_16 (m : Nat) : steps 4 (16 * m) = m := by
  simp only [steps]
  rw [show 16 * m = 2 * (2 * (2 * (2 * m))) by omega, step_even, step_even, step_even, step_even]
theorem part_16 (n : Nat) : n = (16 * (n / 16)) ^^^ (n % 16) := by
  apply Nat.eq_of_testBit_eq
  intro i
  rw [Nat.testBit_xor, show 16 = 2 ^ 4 from rfl, Nat.testBit_two_pow_mul, Nat.testBit_mod_two_pow, Nat.testBit_div_two_pow]
  by_cases h : 4 ≤ i
  · simp [h, show ¬ i < 4 by omega, show i - 4 + 4 = i by omega]
  · simp [h, show i < 4 by omega]
/-- What four bits that fall out do to a sum. -/
theorem nibble (n : Nat) : (n / 16) ^^^ steps 4 (n % 16) = steps 4 n := by
  conv => rhs; rw [part_16 n, steps_xor, steps_16]

theorem eat_lt {n : Nat} {b : Int} (h : n < 4294967296) (h0 : 0 ≤ b) (h1 : b < 256) : eat n b < 4294967296 := steps_lt 8 (xor_lt h (by omega))
theorem run_snoc (n : Nat) (l : List Int) (b : Int) : run n (l ++ [b]) = eat (run n l) b := by simp [run]
theorem run_append (n : Nat) (l r : List Int) : run n (l ++ r) = run (run n l) r := by simp [run]
theorem run_cons (n : Nat) (l : List Int) (b : Int) : run n (b :: l) = run (eat n b) l := rfl
theorem run_lt {n : Nat} {l : List Int} (h : n < 4294967296) (hl : ∀ x ∈ l, 0 ≤ x ∧ x < 256) : run n l < 4294967296 := by
  induction l generalizing n with
  | nil => exact h
  | cons b l ih =>
    rw [run_cons]
    have hb := hl b (by simp)
    exact ih (eat_lt h hb.1 hb.2) (fun x hx => hl x (by simp [hx]))
theorem sum_lt {l : List Int} (hl : ∀ x ∈ l, 0 ≤ x ∧ x < 256) : sum l < 4294967296 := xor_lt (run_lt (by decide) hl) (by decide)

theorem xor_cancel {a b c : Nat} (h : a ^^^ c = b ^^^ c) : a = b := by
  have : (a ^^^ c) ^^^ c = (b ^^^ c) ^^^ c := by rw [h]
  rwa [Nat.xor_assoc, Nat.xor_assoc, Nat.xor_self, Nat.xor_zero, Nat.xor_zero] at this
theorem xor_cancel_left {a b c : Nat} (h : c ^^^ a = c ^^^ b) : a = b := by
  rw [Nat.xor_comm c a, Nat.xor_comm c b] at h
  exact xor_cancel h
theorem run_inj {m n : Nat} {l : List Int} (hm : m < 4294967296) (hn : n < 4294967296) (hl : ∀ x ∈ l, 0 ≤ x ∧ x < 256) (h : run m l = run n l) : m = n := by
  induction l generalizing m n with
  | nil => exact h
  | cons b l ih =>
    have hb := hl b (by simp)
    rw [run_cons, run_cons] at h
    have := ih (eat_lt hm hb.1 hb.2) (eat_lt hn hb.1 hb.2) (fun x hx => hl x (by simp [hx])) h
    exact xor_cancel (steps_inj 8 (xor_lt hm (by omega)) (xor_lt hn (by omega)) this)

/-- One byte that is another one makes another sum. -/
theorem sum_other {l : List Int} {p : Nat} {x : Int} (hl : ∀ x ∈ l, 0 ≤ x ∧ x < 256) (hp : p < l.length) (hx : 0 ≤ x ∧ x < 256) (hne : x ≠ l.getD p 0) : sum (l.set p x) ≠ sum l := by
  intro h
  have h1 := xor_cancel h
  have e1 : l = l.take p ++ l.getD p 0 :: l.drop (p + 1) := by
    rw [List.getD_eq_getElem?_getD, List.getElem?_eq_getElem hp, Option.getD_some, List.getElem_cons_drop, List.take_append_drop]
  have e2 : l.set p x = l.take p ++ x :: l.drop (p + 1) := List.set_eq_take_append_cons_drop .. |>.trans (by rw [if_pos hp])
  rw [e2] at h1
  conv at h1 => rhs; rw [e1]
  rw [run_append, run_append, run_cons, run_cons] at h1
  have hq : 0 ≤ l.getD p 0 ∧ l.getD p 0 < 256 := hl _ (by
    rw [List.getD_eq_getElem?_getD, List.getElem?_eq_getElem hp, Option.getD_some]; exact List.getElem_mem hp)
  have hr : run 4294967295 (l.take p) < 4294967296 := run_lt (by decide) (fun y hy => hl y (List.mem_of_mem_take hy))
  have h2 := run_inj (eat_lt hr hx.1 hx.2) (eat_lt hr hq.1 hq.2) (fun y hy => hl y (List.mem_of_mem_drop hy)) h1
  have h3 := xor_cancel_left (steps_inj 8 (xor_lt hr (by omega)) (xor_lt hr (by omega)) h2)
  omega

/-- Three bytes put against one another. -/
def x3 (a b c : Int) : Int := ((a.toNat ^^^ b.toNat ^^^ c.toNat : Nat) : Int)
theorem eat_x3 (m n k : Nat) (a b c : Int) : eat (m ^^^ n ^^^ k) (x3 a b c) = eat m a ^^^ eat n b ^^^ eat k c := by
  unfold eat x3
  rw [Int.toNat_natCast, ← steps_xor, ← steps_xor]
  congr 1
  rw [xor_swap (m ^^^ n) k, xor_swap m n]
def zip3 : List Int → List Int → List Int → List Int
  | a :: as, b :: bs, c :: cs => x3 a b c :: zip3 as bs cs
  | _, _, _ => []
theorem run_x3 (m n k : Nat) (as bs cs : List Int) (h1 : as.length = bs.length) (h2 : bs.length = cs.length) : run (m ^^^ n ^^^ k) (zip3 as bs cs) = run m as ^^^ run n bs ^^^ run k cs := by
  induction as generalizing m n k bs cs with
  | nil =>
    cases bs with
    | nil => cases cs with
      | nil => rfl
      | cons c cs => simp at h2
    | cons b bs => simp at h1
  | cons a as ih =>
    cases bs with
    | nil => simp at h1
    | cons b bs => cases cs with
      | nil => simp at h2
      | cons c cs =>
        rw [zip3, run_cons, run_cons, run_cons, run_cons, eat_x3]
        exact ih _ _ _ bs cs (by simpa using h1) (by simpa using h2)
theorem sum_x3 (as bs cs : List Int) (h1 : as.length = bs.length) (h2 : bs.length = cs.length) : sum (zip3 as bs cs) = sum as ^^^ sum bs ^^^ sum cs := by
  have h := run_x3 4294967295 4294967295 4294967295 as bs cs h1 h2
  rw [Nat.xor_self, Nat.zero_xor] at h
  unfold sum
  rw [h, xor_swap (run 4294967295 as), xor_swap (run 4294967295 as ^^^ run 4294967295 bs), Nat.xor_self, Nat.zero_xor]

end C
end Go.Proofs.Ytkbfkdgdommngaa
