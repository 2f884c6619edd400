/-
  Plain mathematics: a name's text is read back as the name; texts of different names are different.
-/
import Derived.Test.YtbcodkokacpioaaDoorSShow
import Derived.Lib.AtoiTie
import Derived.Lib.IndexMore
namespace Go.Proofs.YtbcodkokacpioaaDoor
open Go.RowKit
set_option linter.unusedVariables false

theorem digit_byte (k : Nat) (h : k < 10) : (UInt8.ofNat (48 + k)).toNat = 48 + k := by
  simp
  omega
theorem dec_digits : ∀ (n : Nat), ∀ b ∈ Lib.decDigits n, 48 ≤ b.toNat ∧ b.toNat ≤ 57 := by
  intro n
  induction n using Nat.strongRecOn with
  | _ n ih =>
    intro b hb
    rw [Lib.decDigits] at hb
    split at hb
    · simp only [List.mem_singleton] at hb
      rw [hb, digit_byte n (by omega)]; omega
    · rcases List.mem_append.1 hb with h | h
      · exact ih (n / 10) (by omega) b h
      · simp only [List.mem_singleton] at h
        rw [h, digit_byte _ (by omega)]; omega
theorem dec_ne (n : Nat) : Lib.decDigits n ≠ [] := by
  rw [Lib.decDigits]
  split <;> simp
theorem no_point {n : Nat} : (46 : UInt8) ∉ Lib.decDigits n := fun h => by
  have := dec_digits n 46 h
  simp at this

theorem decFrom_append : ∀ (l r : List UInt8) (acc : Nat), Lib.decFrom acc (l ++ r) = (Lib.decFrom acc l).bind fun a => Lib.decFrom a r
  | [], r, acc => rfl
  | b :: l, r, acc => by
    simp only [List.cons_append, Lib.decFrom]
    cases Lib.digitVal b with
    | none => rfl
    | some d => exact decFrom_append l r _
theorem digitVal_ofNat (k : Nat) (h : k < 10) : Lib.digitVal (UInt8.ofNat (48 + k)) = some k := by
  unfold Lib.digitVal
  rw [digit_byte k h, if_pos (by omega), Nat.add_sub_cancel_left]
theorem decFrom_dec : ∀ (n : Nat), Lib.decFrom 0 (Lib.decDigits n) = some n := by
  intro n
  induction n using Nat.strongRecOn with
  | _ n ih =>
    rw [Lib.decDigits]
    split
    · rename_i h
      simp only [Lib.decFrom, digitVal_ofNat n h]
      congr 1
      omega
    · rw [decFrom_append, ih (n / 10) (by omega)]
      simp only [Lib.decFrom, Option.bind_some, digitVal_ofNat (n % 10) (by omega)]
      congr 1
      omega
theorem atoi_dec (n : Nat) (h : (Lib.decDigits n).length ≤ 18) : Lib.atoiAll (Lib.decDigits n) = .ok (n : Int) := by
  rw [Lib.atoiAll_short _ h]
  have hd := decFrom_dec n
  have hr := dec_digits n
  cases hl : Lib.decDigits n with
  | nil => exact absurd hl (dec_ne n)
  | cons b r =>
    rw [hl] at hd hr
    have hb := hr b (by simp)
    have h1 : (b == 45) = false := by
      cases h : (b == 45) with
      | false => rfl
      | true => rw [beq_iff_eq] at h; rw [h] at hb; simp at hb
    have h2 : (b == 43) = false := by
      cases h : (b == 43) with
      | false => rfl
      | true => rw [beq_iff_eq] at h; rw [h] at hb; simp at hb
    simp only [Lib.atoi, h1, h2, Lib.decNat, List.isEmpty_cons, hd]
    rfl

theorem index_point : ∀ (x y : List UInt8), (46 : UInt8) ∉ x → Lib.index (x ++ [46] ++ y) [46] = x.length := by
  intro x y h
  induction x with
  | nil => simp [Lib.index, List.isPrefixOf]
  | cons b x ih =>
    have hb : (46 == b) = false := by
      cases hh : (46 == b) with
      | false => rfl
      | true => rw [beq_iff_eq] at hh; exact absurd (by simp [hh] : (46 : UInt8) ∈ b :: x) h
    have := ih (fun k => h (List.mem_cons_of_mem _ k))
    simp only [List.cons_append] at this ⊢
    simp only [Lib.index, List.isPrefixOf, hb, Bool.false_and, this]
    simp
theorem cut_point (x y : List UInt8) (h : (46 : UInt8) ∉ x) : Lib.cut (x ++ [46] ++ y) [46] = (x, y, true) := by
  unfold Lib.cut
  rw [index_point x y h]
  simp

/-- A block's name, or none: what a text is read as. -/
def Rd (s : List UInt8) (r n : Int) (ok : Bool) : Prop :=
  (ok = true ∧ rb r n = true ∧ sh r n = s) ∨ (ok = false ∧ r = 0 ∧ n = 0 ∧ ∀ r' n', rb r' n' = true → sh r' n' ≠ s)

theorem dec_short {n : Int} (h1 : n ≤ 1048576) : (Lib.decDigits n.toNat).length ≤ 18 := by
  have key : ∀ k m : Nat, m < 10 ^ k → 1 ≤ k → (Lib.decDigits m).length ≤ k := by
    intro k
    induction k with
    | zero => intro m _ h; omega
    | succ k ih =>
      intro m hm _
      rw [Lib.decDigits]
      split
      · simp
      · rename_i hge
        cases k with
        | zero => simp at hm; omega
        | succ k =>
          have : (Lib.decDigits (m / 10)).length ≤ k + 1 := ih (m / 10) (by rw [Nat.pow_succ] at hm; omega) (by omega)
          simp
          omega
  have := key 7 n.toNat (by simp; omega) (by decide)
  omega

/-- An op's text. -/
theorem op_text {r n : Int} (h : ro r n = true) : Lib.cut (sh r n) [46] = (Lib.decDigits r.toNat, Lib.decDigits n.toNat, true) ∧
    Lib.atoiAll (Lib.decDigits r.toNat) = .ok r ∧ Lib.atoiAll (Lib.decDigits n.toNat) = .ok n ∧ (46 : UInt8) ∈ sh r n := by
  have hb := h
  simp [ro] at hb
  rw [sh_op h]
  refine ⟨cut_point _ _ no_point, ?_, ?_, by simp⟩
  · have := atoi_dec r.toNat (dec_short (by omega))
    rwa [show ((r.toNat : Nat) : Int) = r by omega] at this
  · have := atoi_dec n.toNat (dec_short (by omega))
    rwa [show ((n.toNat : Nat) : Int) = n by omega] at this

theorem rb_cases {r n : Int} (h : rb r n = true) : (r = 0 ∧ n = 0) ∨ (r = 1 ∧ n = 0) ∨ ro r n = true := by
  unfold rb at h
  simp at h
  rcases h with h | h
  · omega
  · exact .inr (.inr h)
theorem sh_root : sh 0 0 = [114, 111, 111, 116] := by unfold sh; rw [if_pos ⟨rfl, rfl⟩]
theorem sh_trash : sh 1 0 = [116, 114, 97, 115, 104] := by unfold sh; rw [if_neg (by omega), if_pos ⟨rfl, rfl⟩]
theorem sh_none {r n : Int} (h : rb r n = false) : sh r n = [63] := by
  unfold rb at h
  simp at h
  unfold sh
  rw [if_neg (by omega), if_neg (by omega), if_neg (by rw [h.2]; simp)]

theorem sh_inj {r n r' n' : Int} (h : rb r n = true) (h' : rb r' n' = true) (he : sh r n = sh r' n') : r = r' ∧ n = n' := by
  rcases rb_cases h with ⟨rfl, rfl⟩ | ⟨rfl, rfl⟩ | ho
  · rcases rb_cases h' with ⟨rfl, rfl⟩ | ⟨rfl, rfl⟩ | ho'
    · exact ⟨rfl, rfl⟩
    · rw [sh_root, sh_trash] at he; simp at he
    · have := (op_text ho').2.2.2
      rw [← he, sh_root] at this; simp at this
  · rcases rb_cases h' with ⟨rfl, rfl⟩ | ⟨rfl, rfl⟩ | ho'
    · rw [sh_root, sh_trash] at he; simp at he
    · exact ⟨rfl, rfl⟩
    · have := (op_text ho').2.2.2
      rw [← he, sh_trash] at this; simp at this
  · rcases rb_cases h' with ⟨rfl, rfl⟩ | ⟨rfl, rfl⟩ | ho'
    · have := (op_text ho).2.2.2
      rw [he, sh_root] at this; simp at this
    · have := (op_text ho).2.2.2
      rw [he, sh_trash] at this; simp at this
    · have t1 := op_text ho
      have t2 := op_text ho'
      rw [he, t2.1] at t1
      simp only [Prod.mk.injEq] at t1
      obtain ⟨⟨e1, e2, _⟩, a1, a2, _⟩ := t1
      rw [← e1, t2.2.1] at a1
      rw [← e2, t2.2.2.1] at a2
      simp only [Lib.NumEnd.ok.injEq] at a1 a2
      exact ⟨a1.symm, a2.symm⟩
theorem sh_what {r n : Int} (h : rb r n = true) : sh r n ≠ [63] := by
  rcases rb_cases h with ⟨rfl, rfl⟩ | ⟨rfl, rfl⟩ | ho
  · rw [sh_root]; simp
  · rw [sh_trash]; simp
  · intro e
    have := (op_text ho).2.2.2
    rw [e] at this; simp at this

theorem Rd.same {s : List UInt8} {r n r' n' : Int} {ok ok' : Bool} (h : Rd s r n ok) (h' : Rd s r' n' ok') : r = r' ∧ n = n' ∧ ok = ok' := by
  rcases h with ⟨rfl, h1, h2⟩ | ⟨rfl, rfl, rfl, h1⟩
  · rcases h' with ⟨rfl, h3, h4⟩ | ⟨rfl, rfl, rfl, h3⟩
    · have := sh_inj h1 h3 (h2.trans h4.symm)
      exact ⟨this.1, this.2, rfl⟩
    · exact absurd h2 (h3 _ _ h1)
  · rcases h' with ⟨rfl, h3, h4⟩ | ⟨rfl, rfl, rfl, h3⟩
    · exact absurd h4 (h1 _ _ h3)
    · exact ⟨rfl, rfl, rfl⟩
/-- What is shown is read. -/
theorem Rd.shown (r n : Int) : (rb r n = true → Rd (sh r n) r n true) ∧ (rb r n = false → Rd (sh r n) 0 0 false) := by
  refine ⟨fun h => .inl ⟨rfl, h, rfl⟩, fun h => .inr ⟨rfl, rfl, rfl, fun r' n' h' => ?_⟩⟩
  rw [sh_none h]
  exact sh_what h'

/-- An op's name that is read off two numbers, or none. -/
theorem Rd.of_op {s : List UInt8} (h0 : s ≠ [114, 111, 111, 116]) (h1 : s ≠ [116, 114, 97, 115, 104]) {r n : Int}
    (ha : Lib.atoiAll (Lib.cut s [46]).1 = .ok r) (hb : Lib.atoiAll (Lib.cut s [46]).2.1 = .ok n) (he : sh r n = s) : Rd s r n true := by
  refine .inl ⟨rfl, ?_, he⟩
  cases h : rb r n with
  | true => rfl
  | false =>
    rw [sh_none h] at he
    rw [← he] at hb
    simp [Lib.cut, Lib.index, List.isPrefixOf, Lib.atoiAll] at hb
theorem Rd.of_none {s : List UInt8} (h0 : s ≠ [114, 111, 111, 116]) (h1 : s ≠ [116, 114, 97, 115, 104])
    (h : ∀ r n, Lib.atoiAll (Lib.cut s [46]).1 = .ok r → Lib.atoiAll (Lib.cut s [46]).2.1 = .ok n → sh r n ≠ s) : Rd s 0 0 false := by
  refine .inr ⟨rfl, rfl, rfl, fun r n hr he => ?_⟩
  rcases rb_cases hr with ⟨rfl, rfl⟩ | ⟨rfl, rfl⟩ | ho
  · rw [sh_root] at he; exact h0 he.symm
  · rw [sh_trash] at he; exact h1 he.symm
  · have t := op_text ho
    rw [he] at t
    exact h r n (by rw [t.1]; exact t.2.1) (by rw [t.1]; exact t.2.2.1) he

end Go.Proofs.YtbcodkokacpioaaDoor
