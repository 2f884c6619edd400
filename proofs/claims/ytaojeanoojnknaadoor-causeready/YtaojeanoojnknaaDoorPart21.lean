/-
  Parts of the proof, one behind the other; what each proves stands at its head.
-/
import Derived.Test.YtaojeanoojnknaaDoorPart14
import Derived.Test.YtaojeanoojnknaaDoorPart19
import Derived.Test.YtaojeanoojnknaaDoorPart18
import Derived.Test.YtaojeanoojnknaaDoorPart9
import Derived.Test.YtaojeanoojnknaaDoorPart3
import Derived.BigQuiet
import Derived.RegionTactic
import Derived.Test.YtaojeanoojnknaaDoorPart10
import Derived.Test.YtaojeanoojnknaaDoorPart20
import Derived.Test.YtaojeanoojnknaaDoorPart11

/-
  The op that the law fixes: what fold answers, its bytes, what it names.
-/
namespace Go.Proofs.YtaojeanoojnknaaDoor
open Go.RowKit
set_option linter.unusedVariables false
set_option maxRecDepth 100000

end Go.Proofs.YtaojeanoojnknaaDoor

/-
  The last region of offshootlaw05.alive, whose order is drawn, is walked here: each operation is a definition, so that the terms stay small.
-/
namespace Go.Proofs.YtaojeanoojnknaaDoor
open Go.RowKit
set_option linter.unusedVariables false
set_option maxRecDepth 100000

theorem run_load_op {p : Oper} {a : Act} {x : Operand} {b : Nat} {o : Opn} {v : Value} {W : World} (ho : p.op = .load 43 x) (hx : a.eval x = .pointer (some ⟨b, 0, none⟩)) (h : Ob W b o v) : (execOp a.eval p).run Tryd.prog W = .ok (.value (opv o v)) W := by
  unfold execOp
  simp only [ho, hx, Instr.loadAt, Instr.sureAddr, Sem.run_bind, Sem.run_pure, Result.andThen_ok, h.load]
end Go.Proofs.YtaojeanoojnknaaDoor

/-
  That offshootlaw05.alive returns true is proved here, where the package variables hold what the program lays there.
-/
namespace Go.Proofs.YtaojeanoojnknaaDoor
open Go.RowKit
set_option linter.unusedVariables false
set_option maxRecDepth 100000

end Go.Proofs.YtaojeanoojnknaaDoor

/-
  For the laws' walks: rows of ops that a law lays (one op, two ops); what is read of a right op's bytes with a byte more, or without their end.
-/
namespace Go.Proofs.YtaojeanoojnknaaDoor
open Go.RowKit
set_option linter.unusedVariables false
set_option maxRecDepth 100000

theorem small_fine {o : Opn} (h : small o = true) : o.fine ∧ o.cuts.length ≤ 40 := by
  unfold small at h
  simp at h
  exact ⟨⟨by omega, by omega⟩, h.2⟩
end Go.Proofs.YtaojeanoojnknaaDoor

/-
  The reference's reads once more, with names for what was read: 'Rel R L o s': what is left to read (the fields L, from the state s, into the op o) comes to R.
-/
namespace Go.Proofs.YtaojeanoojnknaaDoor
open Go.RowKit
set_option linter.unusedVariables false
set_option maxRecDepth 100000

section
variable {R : Opn × St} {L : List Nat} {o : Opn} {s s' : St} {a b d : Int} {t : ByteArray}
end

section
variable {ops : Array Oper} {rest : List Oper} {p : Oper} {ac : Act} {W : World} {Q : Exit → Act → World → Prop} {x y : Operand} {bl : Nat} {o : Opn} {v : Value} {R : Opn × St} {L : List Nat} {K : Int} {s s' : St}
end

section
variable {ops : Array Oper} {rest : List Oper} {p : Oper} {ac : Act} {W : World} {Q : Exit → Act → World → Prop} {x y : Operand} {xb : Nat} {a b f t s : Int}
end
end Go.Proofs.YtaojeanoojnknaaDoor

/-
  Lists of ops as bytes: plain mathematics.
-/
namespace Go.Proofs.YtaojeanoojnknaaDoor
set_option linter.unusedVariables false
set_option maxRecDepth 100000

end Go.Proofs.YtaojeanoojnknaaDoor

/-
  Lists of ops as bytes, more: a cursor that is lost, and what is told by so many.
-/
namespace Go.Proofs.YtaojeanoojnknaaDoor
open Go.RowKit
set_option linter.unusedVariables false
set_option maxRecDepth 100000

end Go.Proofs.YtaojeanoojnknaaDoor

/-
  What Long answers is proved here, for whatever row of ops.
-/
namespace Go.Proofs.YtaojeanoojnknaaDoor
open Go.RowKit
set_option linter.unusedVariables false
set_option maxRecDepth 100000

def longB (l : List (Opn × Value)) (most : Nat) : Bool := decide (most < l.length) || !l.all (fun p => small p.1)
set_option maxHeartbeats 1000000 in
theorem long_all (v : Value) (l : List (Opn × Value)) (most : Nat) (w : World) (h : Os w v l) (hm : most ≤ 1000) :
    Calls Tryd.prog 27 #[v, .int .i64 most] w fun e w' => e = .returned (.bool (longB l most)) ∧ w = w' := by
  by_cases hl : most < l.length
  · have e : longB l most = true := by unfold longB; simp [hl]
    rw [e]
    obtain ⟨a, c, rfl, _, _⟩ := Sl.form h.1
    obtain ⟨n, hn⟩ : ∃ n, l.length = n := ⟨_, rfl⟩
    rw [hn] at hl ⊢
    have hd : (most : Int) < (n : Int) := by omega
    clear h hn e
    go_enter Tryd.func27, Tryd.ntmps27
    go_wp2
    go_ret
    exact ⟨rfl, rfl⟩
  · have e : longB l most = !l.all (fun p => small p.1) := by unfold longB; simp [hl]
    rw [e]
    exact long_any v l most w h (by omega) hm
theorem longB_no {l : List (Opn × Value)} {most : Nat} (h : longB l most = false) : l.length ≤ most ∧ ∀ p ∈ l, p.1.fine ∧ p.1.cuts.length ≤ 40 := by
  unfold longB at h
  simp at h
  refine ⟨h.1, fun p hp => ?_⟩
  exact small_fine (h.2 p.1 p.2 hp)

end Go.Proofs.YtaojeanoojnknaaDoor
