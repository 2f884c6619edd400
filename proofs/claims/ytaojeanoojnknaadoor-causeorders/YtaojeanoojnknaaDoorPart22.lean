/-
  Parts of the proof, one behind the other; what each proves stands at its head.
-/
import Derived.Test.YtaojeanoojnknaaDoorPart18
import Derived.Test.YtaojeanoojnknaaDoorPart10
import Derived.Test.YtaojeanoojnknaaDoorPart21
import Derived.Deep.MidRow
import Derived.Test.YtaojeanoojnknaaDoorPart14
import Derived.Test.YtaojeanoojnknaaDoorPart11
import Derived.Test.YtaojeanoojnknaaDoorPart3
import Derived.Test.YtaojeanoojnknaaDoorPart20
import Derived.OrdersHeld

/-
  SameOps' region whose order is drawn, as a lemma; an op in a row of ops, loaded.
-/
namespace Go.Proofs.YtaojeanoojnknaaDoor
open Go.RowKit
set_option linter.unusedVariables false
set_option maxRecDepth 100000

theorem run_load_opat {p : Oper} {a : Act} {W : World} {x : Operand} {b off : Nat} {o : Opn} {v : Value} (ho : p.op = .load 43 x) (hx : a.eval x = .pointer (some ⟨b,off,none⟩)) (hc : ∀ i,i < 20 → W.cell? ⟨b,off + i,none⟩ = (opl o v)[i]?) : (execOp a.eval p).run Tryd.prog W = .ok (.value (opv o v)) W := by
  have h := run_loadAt_mid (P := Tryd.prog) W b off 43 (opl o v).toList _ (fun j u hj => by
    have hl : j < 20 := (List.getElem?_eq_some_iff.1 hj).1
    rw [hc j hl]
    simpa using hj) Tryd.underlying43 rfl (by kernel_rfl)
  unfold execOp
  simp only [ho, hx, Sem.run_bind, h, Result.andThen_ok, Sem.run_pure]
end Go.Proofs.YtaojeanoojnknaaDoor

/-
  That offshootref00.SameOps tells whether two rows of ops are one is proved here.
-/
namespace Go.Proofs.YtaojeanoojnknaaDoor
open Go.RowKit
set_option linter.unusedVariables false
set_option maxRecDepth 100000

abbrev fsts (l : List (Opn × Value)) : List Opn := l.map Prod.fst
end Go.Proofs.YtaojeanoojnknaaDoor

/-
  What EncodeAll answers is proved here, for every row of at most a thousand ops.
-/
namespace Go.Proofs.YtaojeanoojnknaaDoor
open Go.RowKit
set_option linter.unusedVariables false
set_option maxRecDepth 100000

end Go.Proofs.YtaojeanoojnknaaDoor

/-
  A row of ops that a call makes ('Rw'): what an append of one op to it comes to.
-/
namespace Go.Proofs.YtaojeanoojnknaaDoor
open Go.RowKit
set_option linter.unusedVariables false
set_option maxRecDepth 100000

theorem info_op : (Tryd.prog.info? 43).map (fun i => (i.zero, i.size, i.bytes)) = some (some (opv Opn.zero (.slice none 0 0)), 20, 192) := by kernel_rfl

theorem Cs.blk {w : World} {v : Value} {l : List Ct} (h : Cs w v l) (hl : l ≠ []) {k : Nat} (hk : v.ownBlock = some k) : k < w.heap.size := by
  obtain ⟨b, off, c, rfl, _, _, hb, _⟩ := Sl.inv h (List.length_pos_iff.2 hl) (by decide)
  simp [Value.ownBlock] at hk
  omega
theorem Cs.none {w w' : World} {v : Value} (h : Cs w v []) : Cs w' v [] := by
  obtain ⟨h0, a, c, h1, h2, h3, h4, h5⟩ := h
  exact ⟨h0, a, c, h1, h2, h3, h4, fun j u hu => by simp at hu⟩
/-- The cuts lie elsewhere, if there are any. -/
def Aw (v : Value) (p : Opn × Value) : Prop := p.1.cuts = [] ∨ ∀ k, v.ownBlock = some k → p.2.ownBlock ≠ some k
theorem Aw.kept {w w' : World} {v : Value} {p : Opn × Value} (h : Aw v p) (hc : Cs w p.2 p.1.cuts) (hf : Fr (fun k => v.ownBlock = some k) w w') : Cs w' p.2 p.1.cuts := by
  rcases h with h | h
  · rw [h] at hc ⊢; exact hc.none
  · exact Sl.kept hc (fun k hk hlt => hf.block k hlt (fun e => h k e hk))
theorem Aw.moved {w : World} {v v' : Value} {p : Opn × Value} (h : Aw v p) (hc : Cs w p.2 p.1.cuts) (hv : v'.ownBlock = v.ownBlock ∨ v'.ownBlock = some w.heap.size) : Aw v' p := by
  by_cases he : p.1.cuts = []
  · exact .inl he
  · refine .inr (fun k hk e => ?_)
    rcases hv with hv | hv
    · exact (h.resolve_left he) k (by rw [← hv]; exact hk) e
    · rw [hv] at hk
      simp at hk
      have := hc.blk he e
      omega

/-- A row of ops of the call's own, in which there is no byte; the cuts of each op lie elsewhere. -/
def Rw (B : Nat) (w : World) (v : Value) (l : List (Opn × Value)) : Prop :=
  w.ownsRow B 43 20 v l.length (l.flatMap opc) ∧ Clean w v ∧ ∀ p ∈ l, Cs w p.2 p.1.cuts ∧ Aw v p
theorem Rw.made {B : Nat} {w : World} (hB : B ≤ w.heap.size) : Rw B (w.alloc (.cells #[] 43)) (.slice (some ⟨w.heap.size, 0, none⟩) 0 0) [] := by
  refine ⟨World.ownsRow_made w #[] 0 hB (Nat.zero_le _) rfl, clean_row (heap_alloc_new w _) (fun u hu => by simp at hu), fun p hp => by cases hp⟩
theorem Rw.form {B : Nat} {w : World} {v : Value} {l : List (Opn × Value)} (h : Rw B w v l) : ∃ a c, v = .slice a l.length c := by
  obtain ⟨a, c, e, _⟩ := (Sl.of_own h.1).form
  exact ⟨a, c, e⟩
theorem Rw.os {B : Nat} {w : World} {v : Value} {l : List (Opn × Value)} (h : Rw B w v l) : Os w v l := ⟨Sl.of_own h.1, fun p hp => (h.2.2 p hp).1⟩
theorem Rw.below {B : Nat} {w w' : World} {v : Value} {l : List (Opn × Value)} (h : Rw B w v l) (hb : Below w.heap.size w w') : Rw B w' v l :=
  ⟨own_fr h.1 (Fr.of_below hb : Fr (fun _ => False) _ _) (fun _ _ h => h), h.2.1.kept (fun k hk => hb.block k (h.1.lt k hk).2), fun p hp => ⟨(h.2.2 p hp).1.below hb, (h.2.2 p hp).2⟩⟩
theorem opc_one {p : Opn × Value} {w : World} {l : List Ct} (h : Cs w p.2 l) : (∀ u ∈ opc p, u.oneCell' = true) ∧ ∀ u ∈ opc p, NoB u := by
  obtain ⟨o, v⟩ := p
  obtain ⟨a, c, rfl, _⟩ := h.form
  constructor
  · intro u hu
    simp [opl] at hu
    rcases hu with rfl | rfl | rfl | rfl | rfl | rfl | rfl | rfl | rfl | rfl | rfl | rfl | rfl | rfl | rfl | rfl | rfl | rfl | rfl | rfl <;> rfl
  · intro u hu x e
    subst e
    simp [opl] at hu

theorem wpList_append_op {w : World} {ops : Array Oper} {rest : List Oper} {o : Oper} {a : Act} {Q : Exit → Act → World → Prop} (hgd : o.guard = none) (s x : Operand)
    (ho : o.op = .call { callee := .builtin .append, args := #[s, x], argTypes := #[28, 28] })
    (B : Nat) (v : Value) (l : List (Opn × Value)) (hs : a.eval s = v) (hR : Rw B w v l) (u : Value) (p : Opn × Value) (hx : a.eval x = u) (hu : Os w u [p]) (hp : Aw v p) (hlen : l.length ≤ 1048576) (hB : B ≤ w.heap.size)
    (h : ∀ v' w', Rw B w' v' (l ++ [p]) → Fr (fun k => v.ownBlock = some k) w w' → (v'.ownBlock = v.ownBlock ∨ v'.ownBlock = some w.heap.size) → wpList Tryd.prog ops Q rest (a.put o.dst v') w') :
    wpList Tryd.prog ops Q (o :: rest) a w := by
  have hcp := hu.2 p (List.mem_singleton.2 rfl)
  obtain ⟨k1, k2⟩ := opc_one hcp
  refine wpList_append_cl 28 43 20 192 _ Tryd.underlying28 info_op rfl (by decide) hgd s x ho B v l.length (l.flatMap opc) hs hR.1 u 1 (opc p) hx (by have := hu.1; simpa using this) k1 (by decide) (by omega) (by unfold maxLen; omega) hB hR.2.1
    (fun z hz x e => by subst e; simp [Value.cells, opl] at hz) k2 ?_
  intro v' w' h1 h2 h3 h4
  have hf : Fr (fun k => v.ownBlock = some k) w w' := Fr.of_grown h2 (fun k e => e)
  refine h v' w' ⟨?_, h4, ?_⟩ hf h3
  · rw [List.length_append, List.flatMap_append]; simpa using h1
  · intro q hq
    have hqq : Cs w q.2 q.1.cuts ∧ Aw v q := by
      rcases List.mem_append.1 hq with hq | hq
      · exact hR.2.2 q hq
      · rw [List.mem_singleton.1 hq]; exact ⟨hcp, hp⟩
    exact ⟨hqq.2.kept hqq.1 hf, hqq.2.moved hqq.1 h3⟩

end Go.Proofs.YtaojeanoojnknaaDoor

/-
  The region of op.DecodeAll in which an op is read, whose order is drawn, is walked here: the op's block is made at any time ahead of its store.
-/
namespace Go.Proofs.YtaojeanoojnknaaDoor
open Go.RowKit
set_option linter.unusedVariables false
set_option maxRecDepth 100000

theorem hb_st {ops : Array Oper} {Q : Exit → Act → World → Prop} {K : Act → World → Prop} {i : Nat} {p : Oper} {a : Act} {W : World} {x y : Operand} {b : Nat} {o o' : Opn} {v v' : Value} (hi : ops[i]? = some p) (hw : Region.wanted p (yielded ops a.tmps) = true) (ho : p.op = .store 43 x y) (hx : a.eval x = .pointer (some ⟨b,0,none⟩)) (hy : a.eval y = opv o v) (hv : ∃ va n vc,v = .slice va n vc) (h : Ob W b o' v')
    (hk : K (a.put p.dst undef) (W.setRow b (opl o v))) : wpOp Tryd.prog ops Q i K a W :=
  wpOp_step hi fun K' hK => by
    rw [if_pos hw]
    exact wp_store_row 43 x y ho b (opl o v) hx hy 43 (opl o' v') h (by kernel_rfl) rfl (by obtain ⟨va, n, vc, rfl⟩ := hv; simp [Value.oneCell']) (hK _ _ hk)

end Go.Proofs.YtaojeanoojnknaaDoor

/-
  What op.DecodeAll returns is proved here, for all bytes (of at most 2^40).
-/
namespace Go.Proofs.YtaojeanoojnknaaDoor
open Go.RowKit
set_option linter.unusedVariables false
set_option maxRecDepth 100000

/-- All that the ops of a list hold lies at or above a place. -/
def Nw (B : Nat) (l : List (Opn × Value)) : Prop := ∀ p ∈ l, ∀ k, p.2.ownBlock = some k → B ≤ k
theorem Nw.nil (B : Nat) : Nw B [] := fun p hp => by cases hp
theorem Nw.snoc {B : Nat} {l : List (Opn × Value)} {p : Opn × Value} (h : Nw B l) (hp : ∀ k, p.2.ownBlock = some k → B ≤ k) : Nw B (l ++ [p]) := fun q hq => by
  rcases List.mem_append.1 hq with hq | hq
  · exact h q hq
  · rw [List.mem_singleton.1 hq]; exact hp
end Go.Proofs.YtaojeanoojnknaaDoor
