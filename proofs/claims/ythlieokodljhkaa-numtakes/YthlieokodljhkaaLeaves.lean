/-
  What a question to a cursor leaves.
-/
import Derived.Test.YthlieokodljhkaaCur
import Derived.Test.YthlieokodljhkaaCode
namespace Go.Proofs.Ythlieokodljhkaa
open Go.RowKit
set_option linter.unusedVariables false

/-- What a question leaves: lost, it has given nothing and nothing is ahead; lost before, it is lost. -/
def Leaves (ys : List Int) (l : Bool) (nv : Int) (ys' : List Int) (l' : Bool) : Prop :=
  (l' = true → nv = 0 ∧ ys' = []) ∧ (l = true → l' = true) ∧ ys'.length ≤ ys.length

theorem leaves_num (most : Int) (ys : List Int) (l : Bool) (h : l = true → ys = []) : Leaves ys l (M.numV most ys) (M.numS most ys) (M.numL most ys l) := by
  unfold Leaves M.numV M.numS M.numL
  by_cases hok : M.numOk most ys = true
  · have hl : l = false := by
      cases l with
      | false => rfl
      | true => rw [h rfl] at hok; simp [M.numOk, M.fo, M.first] at hok
    simp [hok, hl]
  · simp [hok]
theorem leaves_take (n : Int) (ys : List Int) (l : Bool) (h : l = true → ys = []) : Leaves ys l ((M.takeV n ys).length : Nat) (M.takeS n ys) (M.takeL n ys l) := by
  unfold Leaves M.takeV M.takeS M.takeL
  by_cases hok : M.takeOk n ys = true
  · refine ⟨?_, by simp [hok], by simp [hok]⟩
    intro hl
    simp [hok] at hl
    simp [h hl]
  · simp [hok]
theorem Leaves.trans {xs ys zs : List Int} {l1 l2 l3 : Bool} {a b : Int} (h : Leaves xs l1 a ys l2) (k : Leaves ys l2 b zs l3) : Leaves xs l1 b zs l3 :=
  ⟨k.1, fun e => k.2.1 (h.2.1 e), Nat.le_trans k.2.2 h.2.2⟩
theorem leaves_text (most : Int) (ys : List Int) (l : Bool) (h : l = true → ys = []) : Leaves ys l ((M.textV most ys).length : Nat) (M.textS most ys) (M.textL most ys l) := by
  have h1 := leaves_num most ys l h
  exact h1.trans (leaves_take _ _ _ (fun e => (h1.1 e).2))
theorem str_size (xs : List Int) : (M.str xs).size = xs.length := by
  have : ∀ (l : List Int) (s : ByteArray), (l.foldl (fun r n => r.push (UInt8.ofNat n.toNat)) s).size = s.size + l.length := by
    intro l
    induction l with
    | nil => intro s; simp
    | cons x l ih => intro s; simp only [List.foldl_cons, ih, ByteArray.size_push, List.length_cons]; omega
  have := this xs ByteArray.empty
  unfold M.str
  rw [this]
  simp



end Go.Proofs.Ythlieokodljhkaa
