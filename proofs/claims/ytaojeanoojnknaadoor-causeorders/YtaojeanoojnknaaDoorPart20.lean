/-
  Parts of the proof, one behind the other; what each proves stands at its head.
-/
import Derived.Test.YtaojeanoojnknaaDoorPart14
import Derived.Test.YtaojeanoojnknaaDoorPart17
import Derived.Test.YtaojeanoojnknaaDoorPart13
import Derived.Test.YtaojeanoojnknaaDoorPart10
import Derived.Lib.ConvBytes

/-
  A field of an op in its block: loads and stores, as laws of the walk.
-/
namespace Go.Proofs.YtaojeanoojnknaaDoor
open Go.RowKit
set_option linter.unusedVariables false
set_option maxRecDepth 100000

section
variable {ops : Array Oper} {rest : List Oper} {p : Oper} {a : Act} {W : World} {Q : Exit → Act → World → Prop} {x y : Operand} {b i : Nat} {T : TypeId} {cells : Array Value}
theorem wpList_val (v : Value) (hw : Region.wanted p (yielded ops a.tmps) = true) (h : (execOp a.eval p).run Tryd.prog W = .ok (.value v) W) (hk : wpList Tryd.prog ops Q rest (a.put p.dst v) W) : wpList Tryd.prog ops Q (p :: rest) a W :=
  BigFrame.wpList_want hw fun K hK => by unfold Oper.wp; rw [h]; exact hK _ _ hk
theorem wpList_nil (W' : World) (hw : Region.wanted p (yielded ops a.tmps) = true) (h : (execOp a.eval p).run Tryd.prog W = .ok .skip W') (hk : wpList Tryd.prog ops Q rest (a.put p.dst undef) W') : wpList Tryd.prog ops Q (p :: rest) a W :=
  BigFrame.wpList_want hw fun K hK => by unfold Oper.wp; rw [h]; exact hK _ _ hk

theorem run_ld_cuts {v : Value} (ho : p.op = .load 41 x) (hx : a.eval x = .pointer (some ⟨b, i, none⟩)) (h0 : W.cell? ⟨b, i, none⟩ = some v) : (execOp a.eval p).run Tryd.prog W = .ok (.value v) W := by
  unfold execOp
  simp only [ho, hx]
  simp [go_sem, h0]

theorem cell_in {W : World} (h : W.heap[b]? = some (.cells cells T (0, 0))) (hi : i < cells.size) : ∃ z, W.cell? ⟨b, i, none⟩ = some z := ⟨cells[i], by rw [cell_of_row W b i _ _ _ h]; exact Array.getElem?_eq_getElem hi⟩
theorem run_st_cuts {va : Option Addr} {n c : Nat} (ho : p.op = .store 41 x y) (hx : a.eval x = .pointer (some ⟨b,i,none⟩)) (hy : a.eval y = .slice va n c) (h : W.heap[b]? = some (.cells cells T (0,0))) (hi : i < cells.size) : (execOp a.eval p).run Tryd.prog W = .ok .skip (W.setCell ⟨b,i,none⟩ (.slice va n c)) := by
  obtain ⟨z, hz⟩ := cell_in (W := W) h hi
  have hf := frozen_of_row W b i _ _ h
  unfold execOp
  simp only [ho, hx, hy]
  simp [go_sem, hz, hf]
end

theorem opl_lt {i : Nat} (o : Opn) (v : Value) (h : i < 20) : i < (opl o v).size := h

section
variable {ops : Array Oper} {rest : List Oper} {p : Oper} {a : Act} {W : World} {Q : Exit → Act → World → Prop} {x y : Operand} {b : Nat} {o : Opn} {v : Value}
theorem wpList_st_cuts {va : Option Addr} {n c : Nat} (l : List Ct) (hw : Region.wanted p (yielded ops a.tmps) = true) (ho : p.op = .store 41 x y) (hx : a.eval x = .pointer (some ⟨b, 18, none⟩)) (hy : a.eval y = .slice va n c) (h : Ob W b o v)
    (hk : ∀ W', Ob W' b { o with cuts := l } (.slice va n c) → Fr (fun k => k = b) W W' → wpList Tryd.prog ops Q rest (a.put p.dst undef) W') : wpList Tryd.prog ops Q (p :: rest) a W :=
  wpList_nil _ hw (run_st_cuts ho hx hy h (opl_lt _ _ (by decide))) (hk _ (set_row (i := 18) h _) (Fr.of_set W b 18 _))
theorem wpList_ld_cuts (hw : Region.wanted p (yielded ops a.tmps) = true) (ho : p.op = .load 41 x) (hx : a.eval x = .pointer (some ⟨b, 18, none⟩)) (h : Ob W b o v) (hk : wpList Tryd.prog ops Q rest (a.put p.dst v) W) : wpList Tryd.prog ops Q (p :: rest) a W :=
  wpList_val _ hw (run_ld_cuts ho hx (h.cell 18)) hk
end

theorem below_fr {w W W' : World} {b : Nat} (h : Below w.heap.size w W) (hf : Fr (fun k => k = b) W W') (hb : w.heap.size ≤ b) : Below w.heap.size w W' :=
  h.trans (hf.below (fun k hk e => by omega) h.size)
theorem Ob.fr {S : Nat → Prop} {W W' : World} {b : Nat} {o : Opn} {v : Value} (h : Ob W b o v) (hf : Fr S W W') (hs : ¬ S b) : Ob W' b o v := by
  unfold Ob; rw [hf.block b h.lt hs]; exact h

/-- A new op; a whole op, stored. -/
theorem run_al_op {p : Oper} {a : Act} {W : World} (ho : p.op = .alloc 43) : (execOp a.eval p).run Tryd.prog W = .ok (.value (.pointer (some ⟨W.heap.size, 0, none⟩))) (W.alloc (opo Opn.zero (.slice none 0 0))) := by
  unfold execOp
  simp only [ho]
  kernel_rfl
theorem wpList_al_op {ops : Array Oper} {rest : List Oper} {p : Oper} {a : Act} {W : World} {Q : Exit → Act → World → Prop} (hw : Region.wanted p (yielded ops a.tmps) = true) (ho : p.op = .alloc 43)
    (hk : ∀ W', Ob W' W.heap.size Opn.zero (.slice none 0 0) → Below W.heap.size W W' → W.heap.size < W'.heap.size → wpList Tryd.prog ops Q rest (a.put p.dst (.pointer (some ⟨W.heap.size, 0, none⟩))) W') : wpList Tryd.prog ops Q (p :: rest) a W :=
  BigFrame.wpList_want hw fun K hK => by unfold Oper.wp; rw [run_al_op ho]; exact hK _ _ (hk _ (Ob.new W _ _) (ba W _) (by simp))
theorem wpList_st_op {ops : Array Oper} {rest : List Oper} {p : Oper} {a : Act} {W : World} {Q : Exit → Act → World → Prop} {x y : Operand} {b : Nat} {o o' : Opn} {v v' : Value} (hgd : p.guard = none) (ho : p.op = .store 43 x y)
    (hx : a.eval x = .pointer (some ⟨b, 0, none⟩)) (hy : a.eval y = opv o v) (hv : ∃ va n vc, v = .slice va n vc) (h : Ob W b o' v')
    (hk : ∀ W', Ob W' b o v → Fr (fun k => k = b) W W' → wpList Tryd.prog ops Q rest (a.put p.dst undef) W') : wpList Tryd.prog ops Q (p :: rest) a W :=
  wpList_store_op hgd x y ho b hx o v hv hy o' v' h (hk _ (setRow_heap _ _ _ _ _ _ h) (Fr.of_row W b _))

end Go.Proofs.YtaojeanoojnknaaDoor

/-
  What the reference's takeName and takeChar read is proved here, for every cursor.
-/
namespace Go.Proofs.YtaojeanoojnknaaDoor
open Go.RowKit
set_option linter.unusedVariables false
set_option maxRecDepth 100000

end Go.Proofs.YtaojeanoojnknaaDoor

/-
  A text as new bytes, for every text: as a law of the walk.
-/
namespace Go.Proofs.YtaojeanoojnknaaDoor
open Go.RowKit
set_option linter.unusedVariables false
set_option maxRecDepth 100000

end Go.Proofs.YtaojeanoojnknaaDoor
