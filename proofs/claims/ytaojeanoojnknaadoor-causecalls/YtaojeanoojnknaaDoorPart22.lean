/-
  Parts of the proof, one behind the other; what each proves stands at its head.
-/
import Derived.Test.YtaojeanoojnknaaDoorPart14
import Derived.Test.YtaojeanoojnknaaDoorPart20
import Derived.Test.YtaojeanoojnknaaDoorPart19
import Derived.Test.YtaojeanoojnknaaDoorPart9
import Derived.Test.YtaojeanoojnknaaDoorPart3
import Derived.BigQuiet
import Derived.RegionTactic
import Derived.Test.YtaojeanoojnknaaDoorPart10
import Derived.Test.YtaojeanoojnknaaDoorPart21
import Derived.Test.YtaojeanoojnknaaDoorPart11

/-
  The op that the law fixes: what fold answers, its bytes, what it names.
-/
namespace Go.Proofs.YtaojeanoojnknaaDoor
open Go.RowKit
set_option linter.unusedVariables false
set_option maxRecDepth 100000

end Go.Proofs.YtaojeanoojnknaaDoor

/-
  The last region of offshootlaw05.alive, whose order is drawn, is walked here: each operation is a definition, so that the terms stay small.
-/
namespace Go.Proofs.YtaojeanoojnknaaDoor
open Go.RowKit
set_option linter.unusedVariables false
set_option maxRecDepth 100000

theorem run_load_op {p : Oper} {a : Act} {x : Operand} {b : Nat} {o : Opn} {v : Value} {W : World} (ho : p.op = .load 43 x) (hx : a.eval x = .pointer (some ⟨b, 0, none⟩)) (h : Ob W b o v) : (execOp a.eval p).run Tryd.prog W = .ok (.value (opv o v)) W := by
  unfold execOp
  simp only [ho, hx, Instr.loadAt, Instr.sureAddr, Sem.run_bind, Sem.run_pure, Result.andThen_ok, h.load]
end Go.Proofs.YtaojeanoojnknaaDoor

/-
  That offshootlaw05.alive returns true is proved here, where the package variables hold what the program lays there.
-/
namespace Go.Proofs.YtaojeanoojnknaaDoor
open Go.RowKit
set_option linter.unusedVariables false
set_option maxRecDepth 100000

end Go.Proofs.YtaojeanoojnknaaDoor

/-
  For the laws' walks: rows of ops that a law lays (one op, two ops); what is read of a right op's bytes with a byte more, or without their end.
-/
namespace Go.Proofs.YtaojeanoojnknaaDoor
open Go.RowKit
set_option linter.unusedVariables false
set_option maxRecDepth 100000

theorem run_ops1 (o : Opn) (v : Value) (w : World) : (Instr.buildSlice 28 1 #[(0, opv o v)]).run Tryd.prog w = .ok (.slice (some ⟨w.heap.size, 0, none⟩) 1 1) (w.alloc (opo o v)) := by kernel_rfl
theorem wpList_ops1 {ops : Array Oper} {rest : List Oper} {p : Oper} {a : Act} {w : World} {Q : Exit → Act → World → Prop} (hgd : p.guard = none) (x : Operand) (ho : p.op = .buildSlice 28 1 #[(0, x)]) (o : Opn) (v : Value) (hx : a.eval x = opv o v)
    (hk : wpList Tryd.prog ops Q rest (a.put p.dst (.slice (some ⟨w.heap.size, 0, none⟩) 1 1)) (w.alloc (opo o v))) : wpList Tryd.prog ops Q (p :: rest) a w := by
  refine wpList_plain hgd fun K hK => ?_
  unfold Oper.wp execOp
  have e : (Array.map (fun ((i, x) : Nat × Operand) => (i, a.eval x)) #[(0, x)]) = #[(0, opv o v)] := by simp [hx]
  simp only [ho, e, Sem.run_bind, run_ops1, Result.andThen_ok]
  exact hK _ _ hk
theorem Os.one (w : World) (o : Opn) (v : Value) (h : Cs w v o.cuts) : Os (w.alloc (opo o v)) (.slice (some ⟨w.heap.size, 0, none⟩) 1 1) [(o, v)] :=
  ⟨Sl.lit w 43 (opl o v) 1 (by decide) rfl, fun p hp => by rw [List.mem_singleton.1 hp]; exact h.below (ba w _)⟩
theorem small_fine {o : Opn} (h : small o = true) : o.fine ∧ o.cuts.length ≤ 40 := by
  unfold small at h
  simp at h
  exact ⟨⟨by omega, by omega⟩, h.2⟩
end Go.Proofs.YtaojeanoojnknaaDoor

/-
  The reference's reads once more, with names for what was read: 'Rel R L o s': what is left to read (the fields L, from the state s, into the op o) comes to R.
-/
namespace Go.Proofs.YtaojeanoojnknaaDoor
open Go.RowKit
set_option linter.unusedVariables false
set_option maxRecDepth 100000

section
variable {R : Opn × St} {L : List Nat} {o : Opn} {s s' : St} {a b d : Int} {t : ByteArray}
end

section
variable {ops : Array Oper} {rest : List Oper} {p : Oper} {ac : Act} {W : World} {Q : Exit → Act → World → Prop} {x y : Operand} {bl : Nat} {o : Opn} {v : Value} {R : Opn × St} {L : List Nat} {K : Int} {s s' : St}
end

/-- A row of the call's own is none of the other blocks. -/
theorem own_far {w : World} {B e sz n b : Nat} {v : Value} {xs : List Value} {cells : Array Value} {T : TypeId} {f : Nat × Nat} (h : w.ownsRow B e sz v n xs) (hk : w.heap[b]? = some (.cells cells T f)) (hT : T ≠ e) : v.ownBlock ≠ some b := by
  intro eb
  rcases h.2 with ⟨rfl, _⟩ | ⟨g, cap, cur, rfl, _, hg, _⟩
  · cases eb
  · simp [Value.ownBlock] at eb
    subst eb
    rw [hk] at hg
    simp at hg
    exact hT hg.2.1
theorem own_fr {S : Nat → Prop} {w w' : World} {B e sz n : Nat} {v : Value} {xs : List Value} (h : w.ownsRow B e sz v n xs) (hf : Fr S w w') (hs : ∀ k, v.ownBlock = some k → ¬ S k) : w'.ownsRow B e sz v n xs := by
  refine ⟨h.1, ?_⟩
  rcases h.2 with h0 | ⟨g, cap, cur, rfl, hg, hh, r⟩
  · exact .inl h0
  · exact .inr ⟨g, cap, cur, rfl, hg, by rw [hf.block g (Array.getElem?_eq_some_iff.1 hh).1 (hs g rfl)]; exact hh, r⟩

section
variable {ops : Array Oper} {rest : List Oper} {p : Oper} {ac : Act} {W : World} {Q : Exit → Act → World → Prop} {x y : Operand} {xb : Nat} {a b f t s : Int}
end
end Go.Proofs.YtaojeanoojnknaaDoor

/-
  Lists of ops as bytes: plain mathematics.
-/
namespace Go.Proofs.YtaojeanoojnknaaDoor
set_option linter.unusedVariables false
set_option maxRecDepth 100000

end Go.Proofs.YtaojeanoojnknaaDoor

/-
  Lists of ops as bytes, more: a cursor that is lost, and what is told by so many.
-/
namespace Go.Proofs.YtaojeanoojnknaaDoor
open Go.RowKit
set_option linter.unusedVariables false
set_option maxRecDepth 100000

end Go.Proofs.YtaojeanoojnknaaDoor
