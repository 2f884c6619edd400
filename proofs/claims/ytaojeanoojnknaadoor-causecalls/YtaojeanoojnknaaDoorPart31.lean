/-
  Parts of the proof, one behind the other; what each proves stands at its head.
-/
import Derived.Test.YtaojeanoojnknaaDoorPart29
import Derived.Test.YtaojeanoojnknaaDoorPart27
import Derived.Test.YtaojeanoojnknaaDoorPart25
import Derived.Test.YtaojeanoojnknaaDoorPart30
import Derived.Test.YtaojeanoojnknaaDoorPart26
import Derived.Test.YtaojeanoojnknaaDoorPart28

/-
  The regions of the buffer's functions that look up, put and delete, whose order is drawn, are walked here.
-/
namespace Go.Proofs.YtaojeanoojnknaaDoor
open Go.RowKit
set_option linter.unusedVariables false
set_option maxRecDepth 100000

abbrev Bb (W : World) (bb mb : Nat) : Prop := W.heap[bb]? = some (.cells #[.map (some mb)] 79 (0, 0))
theorem heap_in {w : World} {k : Nat} {o : Obj} (h : w.heap[k]? = some o) : k < w.heap.size := (Array.getElem?_eq_some_iff.1 h).1
theorem Idb.put {W : World} {p b : Nat} {r n : Int} (h : Idb W p r n) (hn : p ≠ b) (o : Obj) : Idb (W.putObj b o) p r n := by
  obtain ⟨T, h⟩ := h
  exact ⟨T, (World.putObj_heap_other hn).trans h⟩
/-- What a look-up reads. -/
structure Bq (W : World) (bb mb p : Nat) (m : List (Opn × Value)) (es : Array MapEntry) (c : Nat) (r n : Int) : Prop where
  at' : Bb W bb mb
  mp : Mp W mb (ents m) es c
  id : Idb W p r n
theorem Bq.below {W W' : World} {bb mb p : Nat} {m : List (Opn × Value)} {es : Array MapEntry} {c : Nat} {r n : Int} (h : Bq W bb mb p m es c r n) (hb : Below W.heap.size W W') : Bq W' bb mb p m es c r n :=
  ⟨(hb.block bb (heap_in h.at')).trans h.at', h.mp.below hb, h.id.below hb⟩
theorem Bq.drew {W : World} {bb mb p : Nat} {m : List (Opn × Value)} {es : Array MapEntry} {c : Nat} {r n : Int} (h : Bq W bb mb p m es c r n) : Bq (World.drew W) bb mb p m es c r n := h.below (bd W 1)
theorem Bq.cell {W : World} {bb mb p : Nat} {m : List (Opn × Value)} {es : Array MapEntry} {c : Nat} {r n : Int} (h : Bq W bb mb p m es c r n) : W.cell? ⟨bb, 0, none⟩ = some (.map (some mb)) := cell_of_row W bb 0 _ _ _ h.at'
/-- What a deletion reads. -/
structure Bd (W : World) (bb mb p : Nat) (r n : Int) : Prop where
  at' : Bb W bb mb
  id : Idb W p r n
  ne : bb ≠ mb
  np : p ≠ mb
theorem Bd.drew {W : World} {bb mb p : Nat} {r n : Int} (h : Bd W bb mb p r n) : Bd (World.drew W) bb mb p r n := ⟨h.at', h.id, h.ne, h.np⟩
theorem Bd.put {W : World} {bb mb p : Nat} {r n : Int} (h : Bd W bb mb p r n) (o : Obj) : Bd (W.putObj mb o) bb mb p r n := ⟨(World.putObj_heap_other h.ne).trans h.at', h.id.put h.np o, h.ne, h.np⟩
theorem Bd.cell {W : World} {bb mb p : Nat} {r n : Int} (h : Bd W bb mb p r n) : W.cell? ⟨bb, 0, none⟩ = some (.map (some mb)) := cell_of_row W bb 0 _ _ _ h.at'
/-- What a store reads. -/
structure Bo (W : World) (bb mb p : Nat) (o : Opn) (v : Value) : Prop where
  at' : Bb W bb mb
  ob : Ob W p o v
  ne : bb ≠ mb
  np : p ≠ mb
theorem Bo.below {W W' : World} {bb mb p : Nat} {o : Opn} {v : Value} (h : Bo W bb mb p o v) (hb : Below W.heap.size W W') : Bo W' bb mb p o v := ⟨(hb.block bb (heap_in h.at')).trans h.at', h.ob.below hb, h.ne, h.np⟩
theorem Bo.drew {W : World} {bb mb p : Nat} {o : Opn} {v : Value} (h : Bo W bb mb p o v) : Bo (World.drew W) bb mb p o v := h.below (bd W 1)
theorem Bo.put {W : World} {bb mb p : Nat} {o : Opn} {v : Value} (h : Bo W bb mb p o v) (x : Obj) : Bo (W.putObj mb x) bb mb p o v := ⟨(World.putObj_heap_other h.ne).trans h.at', (World.putObj_heap_other h.np).trans h.ob, h.ne, h.np⟩
theorem Bo.cell {W : World} {bb mb p : Nat} {o : Opn} {v : Value} (h : Bo W bb mb p o v) : W.cell? ⟨bb, 0, none⟩ = some (.map (some mb)) := cell_of_row W bb 0 _ _ _ h.at'

section
variable {o : Oper} {a : Act} {W : World}
theorem run_ldm {x : Operand} {g : Nat} {v : Value} (ho : o.op = .load 77 x) (hx : a.eval x = .pointer (some ⟨g, 0, none⟩)) (h : W.cell? ⟨g, 0, none⟩ = some v) : (execOp a.eval o).run Tryd.prog W = .ok (.value v) W := by
  unfold execOp
  simp only [ho, hx]
  simp [go_sem, h]
theorem run_ldid1 {x : Operand} {g : Nat} {q : Opn} {v : Value} (ho : o.op = .load 38 x) (hx : a.eval x = .pointer (some ⟨g, 1, none⟩)) (h : Ob W g q v) : (execOp a.eval o).run Tryd.prog W = .ok (.value (idv q.ir q.im)) W := by
  have h0 := h.cells.c1
  have h1 := h.cells.c2
  unfold execOp
  simp only [ho, hx]
  simp [go_sem, h0, h1]
theorem run_lk_op {T : TypeId} {m x : Operand} {b : Bool} {mb : Nat} {r n : Int} {v : Value} (ho : o.op = .lookup T m x b) (hm : a.eval m = .map (some mb)) (hx : a.eval x = idv r n) (h : (Instr.lookup T (.map (some mb)) (idv r n) b).run Tryd.prog W = .ok v W) : (execOp a.eval o).run Tryd.prog W = .ok (.value v) W := by
  unfold execOp
  simp only [ho, hm, hx, Sem.run_bind, h, Result.andThen_ok, Sem.run_pure]
theorem run_mu_op {T : TypeId} {m x y : Operand} {mb : Nat} {r n : Int} {v : Value} {W' : World} (ho : o.op = .mapUpdate T m x y) (hm : a.eval m = .map (some mb)) (hx : a.eval x = idv r n) (hy : a.eval y = v) (h : (Instr.mapUpdate T (.map (some mb)) (idv r n) v).run Tryd.prog W = .ok () W') : (execOp a.eval o).run Tryd.prog W = .ok .skip W' := by
  unfold execOp
  simp only [ho, hm, hx, hy, Sem.run_bind, h, Result.andThen_ok, Sem.run_pure]
theorem run_dl_op {T : TypeId} {m x : Operand} {mb : Nat} {r n : Int} {W' : World} (ho : o.op = Op.call { callee := Callee.builtin Builtin.delete, args := #[m, x], argTypes := #[T, 38] }) (hm : a.eval m = .map (some mb)) (hx : a.eval x = idv r n)
    (h : (Builtin.delete_ #[T, 38] o.type #[.map (some mb), idv r n]).run Tryd.prog W = .ok (.tuple #[]) W') : (execOp a.eval o).run Tryd.prog W = .ok (.value (.tuple #[])) W' := by
  simp [execOp, ho, resolve, invoke, builtin, hm, hx, h, Result.andThen]
end

def kw0 : Oper := { dst := some 8, op := Op.move (Operand.tmp 0), type := 25, pos := "cause.go:31", after := #[], guard := none }
def kw1 : Oper := { dst := some 9, op := Op.nilCheck (Operand.tmp 8), type := 0, pos := "cause.go:31", after := #[{ on := 0, ground := Ground.data }], guard := none }
def kw2 : Oper := { dst := some 10, op := Op.fieldAddr 79 (Operand.tmp 9) 0, type := 0, pos := "cause.go:31", after := #[{ on := 1, ground := Ground.data }], guard := none }
def kw3 : Oper := { dst := some 11, op := Op.load 77 (Operand.tmp 10), type := 77, pos := "cause.go:31", after := #[{ on := 2, ground := Ground.data }], guard := none }
def kw4 : Oper := { dst := some 12, op := Op.load 38 (Operand.tmp 3), type := 38, pos := "cause.go:31", after := #[], guard := none }
def kw5 : Oper := { dst := some 13, op := Op.lookup 77 (Operand.tmp 11) (Operand.tmp 12) true, type := 53, pos := "cause.go:31", after := #[{ on := 3, ground := Ground.data }, { on := 4, ground := Ground.data }], guard := none }
def kw6 : Oper := { dst := some 7, op := Op.move (Operand.tmp 13), type := 53, pos := "cause.go:31", after := #[{ on := 5, ground := Ground.data }], guard := none }
def kw7 : Oper := { dst := some 14, op := Op.extract (Operand.tmp 7) 0, type := 43, pos := "cause.go:31", after := #[{ on := 6, ground := Ground.data }], guard := none }
def kw8 : Oper := { dst := some 15, op := Op.extract (Operand.tmp 7) 1, type := 4, pos := "cause.go:31", after := #[{ on := 6, ground := Ground.data }, { on := 10, ground := Ground.gcOnly Departure.lateStores }], guard := none }
def kw9 : Oper := { dst := some 5, op := Op.alloc 43, type := 0, pos := "cause.go:31", after := #[], guard := none }
def kw10 : Oper := { dst := none,op := Op.store 43 (Operand.tmp 5) (Operand.tmp 14),type := 0,pos := "cause.go:31",after := #[{ on := 9,ground := Ground.data },{ on := 7,ground := Ground.data },{ on := 0,ground := Ground.phase },{ on := 1,ground := Ground.phase },{ on := 2,ground := Ground.phase },{ on := 3,ground := Ground.phase },{ on := 4,ground := Ground.phase },{ on := 5,ground := Ground.phase },{ on := 6,ground := Ground.phase },{ on := 7,ground := Ground.phase },{ on := 8,ground := Ground.textOnly Departure.lateStores },{ on := 9,ground := Ground.phase }],guard := none }
def kw11 : Oper := { dst := some 6,op := Op.assign (Operand.tmp 15),type := 4,pos := "cause.go:31",after := #[{ on := 8,ground := Ground.data },{ on := 10,ground := Ground.chain },{ on := 0,ground := Ground.phase },{ on := 1,ground := Ground.phase },{ on := 2,ground := Ground.phase },{ on := 3,ground := Ground.phase },{ on := 4,ground := Ground.phase },{ on := 5,ground := Ground.phase },{ on := 6,ground := Ground.phase },{ on := 7,ground := Ground.phase },{ on := 8,ground := Ground.phase },{ on := 9,ground := Ground.phase },{ on := 10,ground := Ground.phase }],guard := none }
def kws : Array Oper := #[kw0, kw1, kw2, kw3, kw4, kw5, kw6, kw7, kw8, kw9, kw10, kw11]
theorem kw_lit : Region.noSelect kws = true := by kernel_rfl

set_option maxHeartbeats 8000000 in
theorem waits_r {bb mb p : Nat} {m : List (Opn × Value)} {es : Array MapEntry} {c : Nat} {r n : Int} {q : Opn} {u : Value} {b : Bool} {w : World} (h : Bq w bb mb p m es c r n)
    (hlk : ∀ W, Bq W bb mb p m es c r n → (Instr.lookup 77 (.map (some mb)) (idv r n) true).run Tryd.prog W = .ok (.tuple #[opv q u, .bool b]) W) (hu : ∃ va vn vc, u = .slice va vn vc) {x1 x2 x4 x5 x6 x7 x8 x9 ah ag ae ad ab aa af : Value} {Q : Exit → Act → World → Prop}
    (hP : ∀ c t t' d W, Q (.panic c) { tmps := t, defers := d } W → Q (.panic c) { tmps := t', defers := d } W)
    (hQ : ∀ pb W,Below w.heap.size w W → Ob W pb q u → w.heap.size ≤ pb → Q .normal { tmps := #[.pointer (some ⟨bb,0,none⟩),x1,x2,.pointer (some ⟨p,0,none⟩),x4,.pointer (some ⟨pb,0,none⟩),.bool b,.tuple #[opv q u,.bool b],.pointer (some ⟨bb,0,none⟩),.pointer (some ⟨bb,0,none⟩),.pointer (some ⟨bb,0,none⟩),.map (some mb),idv r n,.tuple #[opv q u,.bool b],opv q u,.bool b,af],defers := [] } W) : (Code.region 1 kws true).wp Tryd.prog Q { tmps := #[.pointer (some ⟨bb,0,none⟩),x1,x2,.pointer (some ⟨p,0,none⟩),x4,x5,x6,x7,x8,x9,ah,ag,ae,ad,ab,aa,af],defers := [] } w := by
  refine wp_region_held (S := fun W => Bq W bb mb p m es c r n) (by kernel_rfl) ?_
  change wpAnyH _ _ _ _ _ 12 _ _ (World.drew _)
  have S0 : Bq (World.drew w) bb mb p m es c r n := h.drew
  clear h
  obtain ⟨W0, hW⟩ : ∃ W, World.drew w = W := ⟨_, rfl⟩
  rw [hW] at S0 ⊢
  have BW0 : Below w.heap.size w W0 := by rw [← hW]; exact (Below.refl _ _).drew
  clear hW
  refine wpAnyH_take (i := 0) (oi := kw0) (v := .pointer (some ⟨bb, 0, none⟩)) (by kernel_rfl) kw_lit (by kernel_rfl) (by kernel_rfl) (fun c a W h => hP c _ _ _ W h) (Or.inl ⟨by kernel_rfl, fun W hW => by kernel_rfl⟩) S0 ?_
  rw [show Act.put _ kw0.dst _ = { tmps := #[.pointer (some ⟨bb, 0, none⟩), x1, x2, .pointer (some ⟨p, 0, none⟩), x4, x5, x6, x7, .pointer (some ⟨bb, 0, none⟩), x9, ah, ag, ae, ad, ab, aa, af], defers := [] } from by kernel_rfl]
  refine wpAnyH_take (i := 1) (oi := kw1) (v := .pointer (some ⟨bb, 0, none⟩)) (by kernel_rfl) kw_lit (by kernel_rfl) (by kernel_rfl) (fun c a W h => hP c _ _ _ W h) (Or.inl ⟨by kernel_rfl, fun W hW => by kernel_rfl⟩) S0 ?_
  rw [show Act.put _ kw1.dst _ = { tmps := #[.pointer (some ⟨bb, 0, none⟩), x1, x2, .pointer (some ⟨p, 0, none⟩), x4, x5, x6, x7, .pointer (some ⟨bb, 0, none⟩), .pointer (some ⟨bb, 0, none⟩), ah, ag, ae, ad, ab, aa, af], defers := [] } from by kernel_rfl]
  refine wpAnyH_take (i := 2) (oi := kw2) (v := .pointer (some ⟨bb, 0, none⟩)) (by kernel_rfl) kw_lit (by kernel_rfl) (by kernel_rfl) (fun c a W h => hP c _ _ _ W h) (Or.inl ⟨by kernel_rfl, fun W hW => by kernel_rfl⟩) S0 ?_
  rw [show Act.put _ kw2.dst _ = { tmps := #[.pointer (some ⟨bb, 0, none⟩), x1, x2, .pointer (some ⟨p, 0, none⟩), x4, x5, x6, x7, .pointer (some ⟨bb, 0, none⟩), .pointer (some ⟨bb, 0, none⟩), .pointer (some ⟨bb, 0, none⟩), ag, ae, ad, ab, aa, af], defers := [] } from by kernel_rfl]
  refine wpAnyH_take (i := 3) (oi := kw3) (v := .map (some mb)) (by kernel_rfl) kw_lit (by kernel_rfl) (by kernel_rfl) (fun c a W h => hP c _ _ _ W h) (Or.inl ⟨by kernel_rfl, fun W hW => run_ldm rfl rfl hW.cell⟩) S0 ?_
  rw [show Act.put _ kw3.dst _ = { tmps := #[.pointer (some ⟨bb, 0, none⟩), x1, x2, .pointer (some ⟨p, 0, none⟩), x4, x5, x6, x7, .pointer (some ⟨bb, 0, none⟩), .pointer (some ⟨bb, 0, none⟩), .pointer (some ⟨bb, 0, none⟩), .map (some mb), ae, ad, ab, aa, af], defers := [] } from by kernel_rfl]
  refine wpAnyH_take (i := 4) (oi := kw4) (v := idv r n) (by kernel_rfl) kw_lit (by kernel_rfl) (by kernel_rfl) (fun c a W h => hP c _ _ _ W h) (Or.inl ⟨by kernel_rfl, fun W hW => run_ldid rfl rfl hW.id⟩) S0 ?_
  rw [show Act.put _ kw4.dst _ = { tmps := #[.pointer (some ⟨bb,0,none⟩),x1,x2,.pointer (some ⟨p,0,none⟩),x4,x5,x6,x7,.pointer (some ⟨bb,0,none⟩),.pointer (some ⟨bb,0,none⟩),.pointer (some ⟨bb,0,none⟩),.map (some mb),idv r n,ad,ab,aa,af],defers := [] } from by kernel_rfl]
  refine wpAnyH_take (i := 5) (oi := kw5) (v := .tuple #[opv q u, .bool b]) (by kernel_rfl) kw_lit (by kernel_rfl) (by kernel_rfl) (fun c a W h => hP c _ _ _ W h) (Or.inl ⟨by kernel_rfl, fun W hW => run_lk_op rfl rfl rfl (hlk W hW)⟩) S0 ?_
  rw [show Act.put _ kw5.dst _ = { tmps := #[.pointer (some ⟨bb,0,none⟩),x1,x2,.pointer (some ⟨p,0,none⟩),x4,x5,x6,x7,.pointer (some ⟨bb,0,none⟩),.pointer (some ⟨bb,0,none⟩),.pointer (some ⟨bb,0,none⟩),.map (some mb),idv r n,.tuple #[opv q u,.bool b],ab,aa,af],defers := [] } from by kernel_rfl]
  refine wpAnyH_take (i := 6) (oi := kw6) (v := .tuple #[opv q u, .bool b]) (by kernel_rfl) kw_lit (by kernel_rfl) (by kernel_rfl) (fun c a W h => hP c _ _ _ W h) (Or.inl ⟨by kernel_rfl, fun W hW => by kernel_rfl⟩) S0 ?_
  rw [show Act.put _ kw6.dst _ = { tmps := #[.pointer (some ⟨bb,0,none⟩),x1,x2,.pointer (some ⟨p,0,none⟩),x4,x5,x6,.tuple #[opv q u,.bool b],.pointer (some ⟨bb,0,none⟩),.pointer (some ⟨bb,0,none⟩),.pointer (some ⟨bb,0,none⟩),.map (some mb),idv r n,.tuple #[opv q u,.bool b],ab,aa,af],defers := [] } from by kernel_rfl]
  refine wpAnyH_take (i := 7) (oi := kw7) (v := opv q u) (by kernel_rfl) kw_lit (by kernel_rfl) (by kernel_rfl) (fun c a W h => hP c _ _ _ W h) (Or.inl ⟨by kernel_rfl, fun W hW => by kernel_rfl⟩) S0 ?_
  rw [show Act.put _ kw7.dst _ = { tmps := #[.pointer (some ⟨bb,0,none⟩),x1,x2,.pointer (some ⟨p,0,none⟩),x4,x5,x6,.tuple #[opv q u,.bool b],.pointer (some ⟨bb,0,none⟩),.pointer (some ⟨bb,0,none⟩),.pointer (some ⟨bb,0,none⟩),.map (some mb),idv r n,.tuple #[opv q u,.bool b],opv q u,aa,af],defers := [] } from by kernel_rfl]
  refine wpAnyH_take (i := 8) (oi := kw8) (v := .bool b) (by kernel_rfl) kw_lit (by kernel_rfl) (by kernel_rfl) (fun c a W h => hP c _ _ _ W h) (Or.inl ⟨by kernel_rfl, fun W hW => by kernel_rfl⟩) S0 ?_
  rw [show Act.put _ kw8.dst _ = { tmps := #[.pointer (some ⟨bb,0,none⟩),x1,x2,.pointer (some ⟨p,0,none⟩),x4,x5,x6,.tuple #[opv q u,.bool b],.pointer (some ⟨bb,0,none⟩),.pointer (some ⟨bb,0,none⟩),.pointer (some ⟨bb,0,none⟩),.map (some mb),idv r n,.tuple #[opv q u,.bool b],opv q u,.bool b,af],defers := [] } from by kernel_rfl]
  refine wpAnyH_all (rs := [9]) (by kernel_rfl) (by simp) (fun i hi => ?_)
  obtain rfl := List.mem_singleton.1 hi
  refine hb_new (o := kw9) (w' := W0.alloc (opo Opn.zero (.slice none 0 0))) (v := .pointer (some ⟨W0.heap.size, 0, none⟩)) (by kernel_rfl) (by kernel_rfl) (by kernel_rfl) ?_
  rw [show Act.put _ kw9.dst _ = { tmps := #[.pointer (some ⟨bb,0,none⟩),x1,x2,.pointer (some ⟨p,0,none⟩),x4,.pointer (some ⟨W0.heap.size,0,none⟩),x6,.tuple #[opv q u,.bool b],.pointer (some ⟨bb,0,none⟩),.pointer (some ⟨bb,0,none⟩),.pointer (some ⟨bb,0,none⟩),.map (some mb),idv r n,.tuple #[opv q u,.bool b],opv q u,.bool b,af],defers := [] } from by kernel_rfl]
  obtain ⟨W1, hW1⟩ : ∃ W, W0.alloc (opo Opn.zero (.slice none 0 0)) = W := ⟨_, rfl⟩
  rw [hW1]
  have S1 : Bq W1 bb mb p m es c r n := by rw [← hW1]; exact S0.below (ba _ _)
  have O1 : Ob W1 W0.heap.size Opn.zero (.slice none 0 0) := by rw [← hW1]; exact Ob.new _ _ _
  have BW1 : Below w.heap.size w W1 := by rw [← hW1]; exact bt BW0 (ba _ _)
  have K1 : Below W0.heap.size W0 W1 := by rw [← hW1]; exact ba _ _
  clear hW1
  refine ⟨S1, ?_⟩
  refine wpAnyH_all (rs := [10]) (by kernel_rfl) (by simp) (fun i hi => ?_)
  obtain rfl := List.mem_singleton.1 hi
  have hff := Fr.of_row W1 W0.heap.size (opl q u)
  have O2 : Ob (W1.setRow W0.heap.size (opl q u)) W0.heap.size q u := (by obtain ⟨va, vn, vc, hv⟩ := hu; subst hv; exact setRow_heap _ _ _ _ _ _ O1)
  refine hb_st (p := kw10) (by kernel_rfl) (by kernel_rfl) rfl rfl rfl hu O1 ?_
  rw [show Act.put _ kw10.dst _ = { tmps := #[.pointer (some ⟨bb,0,none⟩),x1,x2,.pointer (some ⟨p,0,none⟩),x4,.pointer (some ⟨W0.heap.size,0,none⟩),x6,.tuple #[opv q u,.bool b],.pointer (some ⟨bb,0,none⟩),.pointer (some ⟨bb,0,none⟩),.pointer (some ⟨bb,0,none⟩),.map (some mb),idv r n,.tuple #[opv q u,.bool b],opv q u,.bool b,af],defers := [] } from by kernel_rfl]
  obtain ⟨W2, hW2⟩ : ∃ W, W1.setRow W0.heap.size (opl q u) = W := ⟨_, rfl⟩
  rw [hW2]
  rw [hW2] at hff O2
  have BW2 : Below w.heap.size w W2 := below_fr BW1 hff (by have := BW0.size; omega)
  have S2 : Bq W2 bb mb p m es c r n := S0.below (below_fr K1 hff (Nat.le_refl _))
  clear hW2
  refine ⟨S2, ?_⟩
  refine wpAnyH_take (i := 11) (oi := kw11) (v := .bool b) (by kernel_rfl) kw_lit (by kernel_rfl) (by kernel_rfl) (fun c a W h => hP c _ _ _ W h) (Or.inl ⟨by kernel_rfl, fun W hW => by kernel_rfl⟩) S2 ?_
  rw [show Act.put _ kw11.dst _ = { tmps := #[.pointer (some ⟨bb,0,none⟩),x1,x2,.pointer (some ⟨p,0,none⟩),x4,.pointer (some ⟨W0.heap.size,0,none⟩),.bool b,.tuple #[opv q u,.bool b],.pointer (some ⟨bb,0,none⟩),.pointer (some ⟨bb,0,none⟩),.pointer (some ⟨bb,0,none⟩),.map (some mb),idv r n,.tuple #[opv q u,.bool b],opv q u,.bool b,af],defers := [] } from by kernel_rfl]
  exact wpAnyH_done (by kernel_rfl) (hQ _ _ BW2 O2 BW0.size) _
def kt0 : Oper := { dst := some 16, op := Op.move (Operand.tmp 0), type := 25, pos := "cause.go:52", after := #[], guard := none }
def kt1 : Oper := { dst := some 17, op := Op.nilCheck (Operand.tmp 16), type := 0, pos := "cause.go:52", after := #[{ on := 0, ground := Ground.data }], guard := none }
def kt2 : Oper := { dst := some 18, op := Op.fieldAddr 79 (Operand.tmp 17) 0, type := 0, pos := "cause.go:52", after := #[{ on := 1, ground := Ground.data }], guard := none }
def kt3 : Oper := { dst := some 19, op := Op.load 77 (Operand.tmp 18), type := 77, pos := "cause.go:52", after := #[{ on := 2, ground := Ground.data }], guard := none }
def kt4 : Oper := { dst := some 20, op := Op.load 38 (Operand.tmp 7), type := 38, pos := "cause.go:52", after := #[], guard := none }
def kt5 : Oper := { dst := some 21, op := Op.lookup 77 (Operand.tmp 19) (Operand.tmp 20) false, type := 43, pos := "cause.go:52", after := #[{ on := 3, ground := Ground.data }, { on := 4, ground := Ground.data }], guard := none }
def kt6 : Oper := { dst := some 8, op := Op.alloc 43, type := 0, pos := "cause.go:52", after := #[], guard := none }
def kt7 : Oper := { dst := none,op := Op.store 43 (Operand.tmp 8) (Operand.tmp 21),type := 0,pos := "cause.go:52",after := #[{ on := 6,ground := Ground.data },{ on := 5,ground := Ground.data },{ on := 0,ground := Ground.phase },{ on := 1,ground := Ground.phase },{ on := 2,ground := Ground.phase },{ on := 3,ground := Ground.phase },{ on := 4,ground := Ground.phase },{ on := 5,ground := Ground.phase },{ on := 6,ground := Ground.phase }],guard := none }
def kts : Array Oper := #[kt0, kt1, kt2, kt3, kt4, kt5, kt6, kt7]
theorem kt_lit : Region.noSelect kts = true := by kernel_rfl

set_option maxHeartbeats 8000000 in
theorem take_r {bb mb p : Nat} {m : List (Opn × Value)} {es : Array MapEntry} {c : Nat} {r n : Int} {q : Opn} {u : Value} {w : World} (h : Bq w bb mb p m es c r n)
    (hlk : ∀ W,Bq W bb mb p m es c r n → (Instr.lookup 77 (.map (some mb)) (idv r n) false).run Tryd.prog W = .ok (opv q u) W) (hu : ∃ va vn vc,u = .slice va vn vc) {x1 x2 x3 x4 x5 x6 x8 x9 ah ag ae ad ab aa af av au ap al aA aq am aj az ar ao ak ai ax ay aB : Value} {Q : Exit → Act → World → Prop}
    (hP : ∀ c t t' d W, Q (.panic c) { tmps := t, defers := d } W → Q (.panic c) { tmps := t', defers := d } W)
    (hQ : ∀ pb W,Below w.heap.size w W → Ob W pb q u → w.heap.size ≤ pb → Q .normal { tmps := #[.pointer (some ⟨bb,0,none⟩),x1,x2,x3,x4,x5,x6,.pointer (some ⟨p,0,none⟩),.pointer (some ⟨pb,0,none⟩),x9,ah,ag,ae,ad,ab,aa,.pointer (some ⟨bb,0,none⟩),.pointer (some ⟨bb,0,none⟩),.pointer (some ⟨bb,0,none⟩),.map (some mb),idv r n,opv q u,aq,am,aj,az,ar,ao,ak,ai,ax,ay,aB],defers := [] } W) : (Code.region 4 kts true).wp Tryd.prog Q { tmps := #[.pointer (some ⟨bb,0,none⟩),x1,x2,x3,x4,x5,x6,.pointer (some ⟨p,0,none⟩),x8,x9,ah,ag,ae,ad,ab,aa,af,av,au,ap,al,aA,aq,am,aj,az,ar,ao,ak,ai,ax,ay,aB],defers := [] } w := by
  refine wp_region_held (S := fun W => Bq W bb mb p m es c r n) (by kernel_rfl) ?_
  change wpAnyH _ _ _ _ _ 8 _ _ (World.drew _)
  have S0 : Bq (World.drew w) bb mb p m es c r n := h.drew
  clear h
  obtain ⟨W0, hW⟩ : ∃ W, World.drew w = W := ⟨_, rfl⟩
  rw [hW] at S0 ⊢
  have BW0 : Below w.heap.size w W0 := by rw [← hW]; exact (Below.refl _ _).drew
  clear hW
  refine wpAnyH_take (i := 0) (oi := kt0) (v := .pointer (some ⟨bb, 0, none⟩)) (by kernel_rfl) kt_lit (by kernel_rfl) (by kernel_rfl) (fun c a W h => hP c _ _ _ W h) (Or.inl ⟨by kernel_rfl, fun W hW => by kernel_rfl⟩) S0 ?_
  rw [show Act.put _ kt0.dst _ = { tmps := #[.pointer (some ⟨bb,0,none⟩),x1,x2,x3,x4,x5,x6,.pointer (some ⟨p,0,none⟩),x8,x9,ah,ag,ae,ad,ab,aa,.pointer (some ⟨bb,0,none⟩),av,au,ap,al,aA,aq,am,aj,az,ar,ao,ak,ai,ax,ay,aB],defers := [] } from by kernel_rfl]
  refine wpAnyH_take (i := 1) (oi := kt1) (v := .pointer (some ⟨bb, 0, none⟩)) (by kernel_rfl) kt_lit (by kernel_rfl) (by kernel_rfl) (fun c a W h => hP c _ _ _ W h) (Or.inl ⟨by kernel_rfl, fun W hW => by kernel_rfl⟩) S0 ?_
  rw [show Act.put _ kt1.dst _ = { tmps := #[.pointer (some ⟨bb,0,none⟩),x1,x2,x3,x4,x5,x6,.pointer (some ⟨p,0,none⟩),x8,x9,ah,ag,ae,ad,ab,aa,.pointer (some ⟨bb,0,none⟩),.pointer (some ⟨bb,0,none⟩),au,ap,al,aA,aq,am,aj,az,ar,ao,ak,ai,ax,ay,aB],defers := [] } from by kernel_rfl]
  refine wpAnyH_take (i := 2) (oi := kt2) (v := .pointer (some ⟨bb, 0, none⟩)) (by kernel_rfl) kt_lit (by kernel_rfl) (by kernel_rfl) (fun c a W h => hP c _ _ _ W h) (Or.inl ⟨by kernel_rfl, fun W hW => by kernel_rfl⟩) S0 ?_
  rw [show Act.put _ kt2.dst _ = { tmps := #[.pointer (some ⟨bb,0,none⟩),x1,x2,x3,x4,x5,x6,.pointer (some ⟨p,0,none⟩),x8,x9,ah,ag,ae,ad,ab,aa,.pointer (some ⟨bb,0,none⟩),.pointer (some ⟨bb,0,none⟩),.pointer (some ⟨bb,0,none⟩),ap,al,aA,aq,am,aj,az,ar,ao,ak,ai,ax,ay,aB],defers := [] } from by kernel_rfl]
  refine wpAnyH_take (i := 3) (oi := kt3) (v := .map (some mb)) (by kernel_rfl) kt_lit (by kernel_rfl) (by kernel_rfl) (fun c a W h => hP c _ _ _ W h) (Or.inl ⟨by kernel_rfl, fun W hW => run_ldm rfl rfl hW.cell⟩) S0 ?_
  rw [show Act.put _ kt3.dst _ = { tmps := #[.pointer (some ⟨bb,0,none⟩),x1,x2,x3,x4,x5,x6,.pointer (some ⟨p,0,none⟩),x8,x9,ah,ag,ae,ad,ab,aa,.pointer (some ⟨bb,0,none⟩),.pointer (some ⟨bb,0,none⟩),.pointer (some ⟨bb,0,none⟩),.map (some mb),al,aA,aq,am,aj,az,ar,ao,ak,ai,ax,ay,aB],defers := [] } from by kernel_rfl]
  refine wpAnyH_take (i := 4) (oi := kt4) (v := idv r n) (by kernel_rfl) kt_lit (by kernel_rfl) (by kernel_rfl) (fun c a W h => hP c _ _ _ W h) (Or.inl ⟨by kernel_rfl, fun W hW => run_ldid rfl rfl hW.id⟩) S0 ?_
  rw [show Act.put _ kt4.dst _ = { tmps := #[.pointer (some ⟨bb,0,none⟩),x1,x2,x3,x4,x5,x6,.pointer (some ⟨p,0,none⟩),x8,x9,ah,ag,ae,ad,ab,aa,.pointer (some ⟨bb,0,none⟩),.pointer (some ⟨bb,0,none⟩),.pointer (some ⟨bb,0,none⟩),.map (some mb),idv r n,aA,aq,am,aj,az,ar,ao,ak,ai,ax,ay,aB],defers := [] } from by kernel_rfl]
  refine wpAnyH_take (i := 5) (oi := kt5) (v := opv q u) (by kernel_rfl) kt_lit (by kernel_rfl) (by kernel_rfl) (fun c a W h => hP c _ _ _ W h) (Or.inl ⟨by kernel_rfl, fun W hW => run_lk_op rfl rfl rfl (hlk W hW)⟩) S0 ?_
  rw [show Act.put _ kt5.dst _ = { tmps := #[.pointer (some ⟨bb,0,none⟩),x1,x2,x3,x4,x5,x6,.pointer (some ⟨p,0,none⟩),x8,x9,ah,ag,ae,ad,ab,aa,.pointer (some ⟨bb,0,none⟩),.pointer (some ⟨bb,0,none⟩),.pointer (some ⟨bb,0,none⟩),.map (some mb),idv r n,opv q u,aq,am,aj,az,ar,ao,ak,ai,ax,ay,aB],defers := [] } from by kernel_rfl]
  refine wpAnyH_all (rs := [6]) (by kernel_rfl) (by simp) (fun i hi => ?_)
  obtain rfl := List.mem_singleton.1 hi
  refine hb_new (o := kt6) (w' := W0.alloc (opo Opn.zero (.slice none 0 0))) (v := .pointer (some ⟨W0.heap.size, 0, none⟩)) (by kernel_rfl) (by kernel_rfl) (by kernel_rfl) ?_
  rw [show Act.put _ kt6.dst _ = { tmps := #[.pointer (some ⟨bb,0,none⟩),x1,x2,x3,x4,x5,x6,.pointer (some ⟨p,0,none⟩),.pointer (some ⟨W0.heap.size,0,none⟩),x9,ah,ag,ae,ad,ab,aa,.pointer (some ⟨bb,0,none⟩),.pointer (some ⟨bb,0,none⟩),.pointer (some ⟨bb,0,none⟩),.map (some mb),idv r n,opv q u,aq,am,aj,az,ar,ao,ak,ai,ax,ay,aB],defers := [] } from by kernel_rfl]
  obtain ⟨W1, hW1⟩ : ∃ W, W0.alloc (opo Opn.zero (.slice none 0 0)) = W := ⟨_, rfl⟩
  rw [hW1]
  have S1 : Bq W1 bb mb p m es c r n := by rw [← hW1]; exact S0.below (ba _ _)
  have O1 : Ob W1 W0.heap.size Opn.zero (.slice none 0 0) := by rw [← hW1]; exact Ob.new _ _ _
  have BW1 : Below w.heap.size w W1 := by rw [← hW1]; exact bt BW0 (ba _ _)
  have K1 : Below W0.heap.size W0 W1 := by rw [← hW1]; exact ba _ _
  clear hW1
  refine ⟨S1, ?_⟩
  refine wpAnyH_all (rs := [7]) (by kernel_rfl) (by simp) (fun i hi => ?_)
  obtain rfl := List.mem_singleton.1 hi
  have hff := Fr.of_row W1 W0.heap.size (opl q u)
  have O2 : Ob (W1.setRow W0.heap.size (opl q u)) W0.heap.size q u := (by obtain ⟨va, vn, vc, hv⟩ := hu; subst hv; exact setRow_heap _ _ _ _ _ _ O1)
  refine hb_st (p := kt7) (by kernel_rfl) (by kernel_rfl) rfl rfl rfl hu O1 ?_
  rw [show Act.put _ kt7.dst _ = { tmps := #[.pointer (some ⟨bb,0,none⟩),x1,x2,x3,x4,x5,x6,.pointer (some ⟨p,0,none⟩),.pointer (some ⟨W0.heap.size,0,none⟩),x9,ah,ag,ae,ad,ab,aa,.pointer (some ⟨bb,0,none⟩),.pointer (some ⟨bb,0,none⟩),.pointer (some ⟨bb,0,none⟩),.map (some mb),idv r n,opv q u,aq,am,aj,az,ar,ao,ak,ai,ax,ay,aB],defers := [] } from by kernel_rfl]
  obtain ⟨W2, hW2⟩ : ∃ W, W1.setRow W0.heap.size (opl q u) = W := ⟨_, rfl⟩
  rw [hW2]
  rw [hW2] at hff O2
  have BW2 : Below w.heap.size w W2 := below_fr BW1 hff (by have := BW0.size; omega)
  have S2 : Bq W2 bb mb p m es c r n := S0.below (below_fr K1 hff (Nat.le_refl _))
  clear hW2
  refine ⟨S2, ?_⟩
  exact wpAnyH_done (by kernel_rfl) (hQ _ _ BW2 O2 BW0.size) _
def kx0 : Oper := { dst := some 25, op := Op.move (Operand.tmp 0), type := 25, pos := "cause.go:53", after := #[], guard := none }
def kx1 : Oper := { dst := some 26, op := Op.nilCheck (Operand.tmp 25), type := 0, pos := "cause.go:53", after := #[{ on := 0, ground := Ground.data }], guard := none }
def kx2 : Oper := { dst := some 27, op := Op.fieldAddr 79 (Operand.tmp 26) 0, type := 0, pos := "cause.go:53", after := #[{ on := 1, ground := Ground.data }], guard := none }
def kx3 : Oper := { dst := some 28, op := Op.load 77 (Operand.tmp 27), type := 77, pos := "cause.go:53", after := #[{ on := 2, ground := Ground.data }], guard := none }
def kx4 : Oper := { dst := some 29, op := Op.load 38 (Operand.tmp 7), type := 38, pos := "cause.go:53", after := #[], guard := none }
def kx5 : Oper := { dst := none, op := Op.call { callee := Callee.builtin Builtin.delete, args := #[Operand.tmp 28, Operand.tmp 29], argTypes := #[77, 38] }, type := 0, pos := "cause.go:53", after := #[{ on := 3, ground := Ground.data }, { on := 4, ground := Ground.data }], guard := none }
def kxs : Array Oper := #[kx0, kx1, kx2, kx3, kx4, kx5]
theorem kx_lit : Region.noSelect kxs = true := by kernel_rfl

set_option maxHeartbeats 8000000 in
theorem take_d {bb mb p : Nat} {m : List (Opn × Value)} {es : Array MapEntry} {c : Nat} {r n : Int} {j : Nat} {v : Value} {w : World} (h : Bd w bb mb p r n) (M0 : Mp w mb (ents m) es c) (hn : ((ents m).map (·.1)).Nodup) (hj : (ents m)[j]? = some ((r,n),v)) {x1 x2 x3 x4 x5 x6 x8 x9 ah ag ae ad ab aa af av au ap al aA aq am aj az ar ao ak ai ax ay aB : Value} {Q : Exit → Act → World → Prop}
    (hP : ∀ c t t' d W, Q (.panic c) { tmps := t, defers := d } W → Q (.panic c) { tmps := t', defers := d } W)
    (hQ :  Q .normal { tmps := #[.pointer (some ⟨bb,0,none⟩),x1,x2,x3,x4,x5,x6,.pointer (some ⟨p,0,none⟩),x8,x9,ah,ag,ae,ad,ab,aa,af,av,au,ap,al,aA,aq,am,aj,.pointer (some ⟨bb,0,none⟩),.pointer (some ⟨bb,0,none⟩),.pointer (some ⟨bb,0,none⟩),.map (some mb),idv r n,ax,ay,aB],defers := [] } ((World.drew w).putObj mb (.map (es.eraseIdxIfInBounds j) c))) : (Code.region 6 kxs true).wp Tryd.prog Q { tmps := #[.pointer (some ⟨bb,0,none⟩),x1,x2,x3,x4,x5,x6,.pointer (some ⟨p,0,none⟩),x8,x9,ah,ag,ae,ad,ab,aa,af,av,au,ap,al,aA,aq,am,aj,az,ar,ao,ak,ai,ax,ay,aB],defers := [] } w := by
  refine wp_region_held (S := fun W => Bd W bb mb p r n) (by kernel_rfl) ?_
  change wpAnyH _ _ _ _ _ 6 _ _ (World.drew _)
  have S0 : Bd (World.drew w) bb mb p r n := h.drew
  clear h
  replace M0 : Mp (World.drew w) mb (ents m) es c := M0.below (bd w 1)
  obtain ⟨W0, hW⟩ : ∃ W, World.drew w = W := ⟨_, rfl⟩
  rw [hW] at S0 M0 ⊢
  have BW0 : Below w.heap.size w W0 := by rw [← hW]; exact (Below.refl _ _).drew
  refine wpAnyH_take (i := 0) (oi := kx0) (v := .pointer (some ⟨bb, 0, none⟩)) (by kernel_rfl) kx_lit (by kernel_rfl) (by kernel_rfl) (fun c a W h => hP c _ _ _ W h) (Or.inl ⟨by kernel_rfl, fun W hW => by kernel_rfl⟩) S0 ?_
  rw [show Act.put _ kx0.dst _ = { tmps := #[.pointer (some ⟨bb,0,none⟩),x1,x2,x3,x4,x5,x6,.pointer (some ⟨p,0,none⟩),x8,x9,ah,ag,ae,ad,ab,aa,af,av,au,ap,al,aA,aq,am,aj,.pointer (some ⟨bb,0,none⟩),ar,ao,ak,ai,ax,ay,aB],defers := [] } from by kernel_rfl]
  refine wpAnyH_take (i := 1) (oi := kx1) (v := .pointer (some ⟨bb, 0, none⟩)) (by kernel_rfl) kx_lit (by kernel_rfl) (by kernel_rfl) (fun c a W h => hP c _ _ _ W h) (Or.inl ⟨by kernel_rfl, fun W hW => by kernel_rfl⟩) S0 ?_
  rw [show Act.put _ kx1.dst _ = { tmps := #[.pointer (some ⟨bb,0,none⟩),x1,x2,x3,x4,x5,x6,.pointer (some ⟨p,0,none⟩),x8,x9,ah,ag,ae,ad,ab,aa,af,av,au,ap,al,aA,aq,am,aj,.pointer (some ⟨bb,0,none⟩),.pointer (some ⟨bb,0,none⟩),ao,ak,ai,ax,ay,aB],defers := [] } from by kernel_rfl]
  refine wpAnyH_take (i := 2) (oi := kx2) (v := .pointer (some ⟨bb, 0, none⟩)) (by kernel_rfl) kx_lit (by kernel_rfl) (by kernel_rfl) (fun c a W h => hP c _ _ _ W h) (Or.inl ⟨by kernel_rfl, fun W hW => by kernel_rfl⟩) S0 ?_
  rw [show Act.put _ kx2.dst _ = { tmps := #[.pointer (some ⟨bb,0,none⟩),x1,x2,x3,x4,x5,x6,.pointer (some ⟨p,0,none⟩),x8,x9,ah,ag,ae,ad,ab,aa,af,av,au,ap,al,aA,aq,am,aj,.pointer (some ⟨bb,0,none⟩),.pointer (some ⟨bb,0,none⟩),.pointer (some ⟨bb,0,none⟩),ak,ai,ax,ay,aB],defers := [] } from by kernel_rfl]
  refine wpAnyH_take (i := 3) (oi := kx3) (v := .map (some mb)) (by kernel_rfl) kx_lit (by kernel_rfl) (by kernel_rfl) (fun c a W h => hP c _ _ _ W h) (Or.inl ⟨by kernel_rfl, fun W hW => run_ldm rfl rfl hW.cell⟩) S0 ?_
  rw [show Act.put _ kx3.dst _ = { tmps := #[.pointer (some ⟨bb,0,none⟩),x1,x2,x3,x4,x5,x6,.pointer (some ⟨p,0,none⟩),x8,x9,ah,ag,ae,ad,ab,aa,af,av,au,ap,al,aA,aq,am,aj,.pointer (some ⟨bb,0,none⟩),.pointer (some ⟨bb,0,none⟩),.pointer (some ⟨bb,0,none⟩),.map (some mb),ai,ax,ay,aB],defers := [] } from by kernel_rfl]
  refine wpAnyH_take (i := 4) (oi := kx4) (v := idv r n) (by kernel_rfl) kx_lit (by kernel_rfl) (by kernel_rfl) (fun c a W h => hP c _ _ _ W h) (Or.inl ⟨by kernel_rfl, fun W hW => run_ldid rfl rfl hW.id⟩) S0 ?_
  rw [show Act.put _ kx4.dst _ = { tmps := #[.pointer (some ⟨bb,0,none⟩),x1,x2,x3,x4,x5,x6,.pointer (some ⟨p,0,none⟩),x8,x9,ah,ag,ae,ad,ab,aa,af,av,au,ap,al,aA,aq,am,aj,.pointer (some ⟨bb,0,none⟩),.pointer (some ⟨bb,0,none⟩),.pointer (some ⟨bb,0,none⟩),.map (some mb),idv r n,ax,ay,aB],defers := [] } from by kernel_rfl]
  refine wpAnyH_all (rs := [5]) (by kernel_rfl) (by simp) (fun i hi => ?_)
  obtain rfl := List.mem_singleton.1 hi
  refine hb_new (o := kx5) (w' := W0.putObj mb (.map (es.eraseIdxIfInBounds j) c)) (v := .tuple #[]) (by kernel_rfl) (by kernel_rfl) (run_dl_op rfl rfl rfl (run_dl Tryd.underlying77 r n W0 mb es c (ents m) M0.at' M0.em _ hn j v hj)) ?_
  rw [show Act.put _ kx5.dst _ = { tmps := #[.pointer (some ⟨bb,0,none⟩),x1,x2,x3,x4,x5,x6,.pointer (some ⟨p,0,none⟩),x8,x9,ah,ag,ae,ad,ab,aa,af,av,au,ap,al,aA,aq,am,aj,.pointer (some ⟨bb,0,none⟩),.pointer (some ⟨bb,0,none⟩),.pointer (some ⟨bb,0,none⟩),.map (some mb),idv r n,ax,ay,aB],defers := [] } from by kernel_rfl]
  obtain ⟨W1, hW1⟩ : ∃ W, W0.putObj mb (.map (es.eraseIdxIfInBounds j) c) = W := ⟨_, rfl⟩
  rw [hW1]
  have S1 : Bd W1 bb mb p r n := by rw [← hW1]; exact S0.put _
  refine ⟨S1, ?_⟩
  exact wpAnyH_done (by kernel_rfl) (by rw [← hW1, ← hW]; exact hQ) _
def kd0 : Oper := { dst := some 21, op := Op.move (Operand.tmp 0), type := 25, pos := "cause.go:65", after := #[], guard := none }
def kd1 : Oper := { dst := some 22, op := Op.nilCheck (Operand.tmp 21), type := 0, pos := "cause.go:65", after := #[{ on := 0, ground := Ground.data }], guard := none }
def kd2 : Oper := { dst := some 23, op := Op.fieldAddr 79 (Operand.tmp 22) 0, type := 0, pos := "cause.go:65", after := #[{ on := 1, ground := Ground.data }], guard := none }
def kd3 : Oper := { dst := some 24, op := Op.load 77 (Operand.tmp 23), type := 77, pos := "cause.go:65", after := #[{ on := 2, ground := Ground.data }], guard := none }
def kd4 : Oper := { dst := some 25, op := Op.load 38 (Operand.tmp 6), type := 38, pos := "cause.go:65", after := #[], guard := none }
def kd5 : Oper := { dst := none, op := Op.call { callee := Callee.builtin Builtin.delete, args := #[Operand.tmp 24, Operand.tmp 25], argTypes := #[77, 38] }, type := 0, pos := "cause.go:65", after := #[{ on := 3, ground := Ground.data }, { on := 4, ground := Ground.data }], guard := none }
def kds : Array Oper := #[kd0, kd1, kd2, kd3, kd4, kd5]
theorem kd_lit : Region.noSelect kds = true := by kernel_rfl

set_option maxHeartbeats 8000000 in
theorem drop_d {bb mb p : Nat} {m : List (Opn × Value)} {es : Array MapEntry} {c : Nat} {r n : Int} {j : Nat} {v : Value} {w : World} (h : Bd w bb mb p r n) (M0 : Mp w mb (ents m) es c) (hn : ((ents m).map (·.1)).Nodup) (hj : (ents m)[j]? = some ((r,n),v)) {x1 x2 x3 x4 x5 x7 x8 x9 ah ag ae ad ab aa af av au ap al aA aq am aj az ar ao ak ai : Value} {Q : Exit → Act → World → Prop}
    (hP : ∀ c t t' d W, Q (.panic c) { tmps := t, defers := d } W → Q (.panic c) { tmps := t', defers := d } W)
    (hQ :  Q .normal { tmps := #[.pointer (some ⟨bb,0,none⟩),x1,x2,x3,x4,x5,.pointer (some ⟨p,0,none⟩),x7,x8,x9,ah,ag,ae,ad,ab,aa,af,av,au,ap,al,.pointer (some ⟨bb,0,none⟩),.pointer (some ⟨bb,0,none⟩),.pointer (some ⟨bb,0,none⟩),.map (some mb),idv r n,ar,ao,ak,ai],defers := [] } ((World.drew w).putObj mb (.map (es.eraseIdxIfInBounds j) c))) : (Code.region 6 kds true).wp Tryd.prog Q { tmps := #[.pointer (some ⟨bb,0,none⟩),x1,x2,x3,x4,x5,.pointer (some ⟨p,0,none⟩),x7,x8,x9,ah,ag,ae,ad,ab,aa,af,av,au,ap,al,aA,aq,am,aj,az,ar,ao,ak,ai],defers := [] } w := by
  refine wp_region_held (S := fun W => Bd W bb mb p r n) (by kernel_rfl) ?_
  change wpAnyH _ _ _ _ _ 6 _ _ (World.drew _)
  have S0 : Bd (World.drew w) bb mb p r n := h.drew
  clear h
  replace M0 : Mp (World.drew w) mb (ents m) es c := M0.below (bd w 1)
  obtain ⟨W0, hW⟩ : ∃ W, World.drew w = W := ⟨_, rfl⟩
  rw [hW] at S0 M0 ⊢
  have BW0 : Below w.heap.size w W0 := by rw [← hW]; exact (Below.refl _ _).drew
  refine wpAnyH_take (i := 0) (oi := kd0) (v := .pointer (some ⟨bb, 0, none⟩)) (by kernel_rfl) kd_lit (by kernel_rfl) (by kernel_rfl) (fun c a W h => hP c _ _ _ W h) (Or.inl ⟨by kernel_rfl, fun W hW => by kernel_rfl⟩) S0 ?_
  rw [show Act.put _ kd0.dst _ = { tmps := #[.pointer (some ⟨bb, 0, none⟩), x1, x2, x3, x4, x5, .pointer (some ⟨p, 0, none⟩), x7, x8, x9, ah, ag, ae, ad, ab, aa, af, av, au, ap, al, .pointer (some ⟨bb, 0, none⟩), aq, am, aj, az, ar, ao, ak, ai], defers := [] } from by kernel_rfl]
  refine wpAnyH_take (i := 1) (oi := kd1) (v := .pointer (some ⟨bb, 0, none⟩)) (by kernel_rfl) kd_lit (by kernel_rfl) (by kernel_rfl) (fun c a W h => hP c _ _ _ W h) (Or.inl ⟨by kernel_rfl, fun W hW => by kernel_rfl⟩) S0 ?_
  rw [show Act.put _ kd1.dst _ = { tmps := #[.pointer (some ⟨bb,0,none⟩),x1,x2,x3,x4,x5,.pointer (some ⟨p,0,none⟩),x7,x8,x9,ah,ag,ae,ad,ab,aa,af,av,au,ap,al,.pointer (some ⟨bb,0,none⟩),.pointer (some ⟨bb,0,none⟩),am,aj,az,ar,ao,ak,ai],defers := [] } from by kernel_rfl]
  refine wpAnyH_take (i := 2) (oi := kd2) (v := .pointer (some ⟨bb, 0, none⟩)) (by kernel_rfl) kd_lit (by kernel_rfl) (by kernel_rfl) (fun c a W h => hP c _ _ _ W h) (Or.inl ⟨by kernel_rfl, fun W hW => by kernel_rfl⟩) S0 ?_
  rw [show Act.put _ kd2.dst _ = { tmps := #[.pointer (some ⟨bb,0,none⟩),x1,x2,x3,x4,x5,.pointer (some ⟨p,0,none⟩),x7,x8,x9,ah,ag,ae,ad,ab,aa,af,av,au,ap,al,.pointer (some ⟨bb,0,none⟩),.pointer (some ⟨bb,0,none⟩),.pointer (some ⟨bb,0,none⟩),aj,az,ar,ao,ak,ai],defers := [] } from by kernel_rfl]
  refine wpAnyH_take (i := 3) (oi := kd3) (v := .map (some mb)) (by kernel_rfl) kd_lit (by kernel_rfl) (by kernel_rfl) (fun c a W h => hP c _ _ _ W h) (Or.inl ⟨by kernel_rfl, fun W hW => run_ldm rfl rfl hW.cell⟩) S0 ?_
  rw [show Act.put _ kd3.dst _ = { tmps := #[.pointer (some ⟨bb,0,none⟩),x1,x2,x3,x4,x5,.pointer (some ⟨p,0,none⟩),x7,x8,x9,ah,ag,ae,ad,ab,aa,af,av,au,ap,al,.pointer (some ⟨bb,0,none⟩),.pointer (some ⟨bb,0,none⟩),.pointer (some ⟨bb,0,none⟩),.map (some mb),az,ar,ao,ak,ai],defers := [] } from by kernel_rfl]
  refine wpAnyH_take (i := 4) (oi := kd4) (v := idv r n) (by kernel_rfl) kd_lit (by kernel_rfl) (by kernel_rfl) (fun c a W h => hP c _ _ _ W h) (Or.inl ⟨by kernel_rfl, fun W hW => run_ldid rfl rfl hW.id⟩) S0 ?_
  rw [show Act.put _ kd4.dst _ = { tmps := #[.pointer (some ⟨bb,0,none⟩),x1,x2,x3,x4,x5,.pointer (some ⟨p,0,none⟩),x7,x8,x9,ah,ag,ae,ad,ab,aa,af,av,au,ap,al,.pointer (some ⟨bb,0,none⟩),.pointer (some ⟨bb,0,none⟩),.pointer (some ⟨bb,0,none⟩),.map (some mb),idv r n,ar,ao,ak,ai],defers := [] } from by kernel_rfl]
  refine wpAnyH_all (rs := [5]) (by kernel_rfl) (by simp) (fun i hi => ?_)
  obtain rfl := List.mem_singleton.1 hi
  refine hb_new (o := kd5) (w' := W0.putObj mb (.map (es.eraseIdxIfInBounds j) c)) (v := .tuple #[]) (by kernel_rfl) (by kernel_rfl) (run_dl_op rfl rfl rfl (run_dl Tryd.underlying77 r n W0 mb es c (ents m) M0.at' M0.em _ hn j v hj)) ?_
  rw [show Act.put _ kd5.dst _ = { tmps := #[.pointer (some ⟨bb,0,none⟩),x1,x2,x3,x4,x5,.pointer (some ⟨p,0,none⟩),x7,x8,x9,ah,ag,ae,ad,ab,aa,af,av,au,ap,al,.pointer (some ⟨bb,0,none⟩),.pointer (some ⟨bb,0,none⟩),.pointer (some ⟨bb,0,none⟩),.map (some mb),idv r n,ar,ao,ak,ai],defers := [] } from by kernel_rfl]
  obtain ⟨W1, hW1⟩ : ∃ W, W0.putObj mb (.map (es.eraseIdxIfInBounds j) c) = W := ⟨_, rfl⟩
  rw [hW1]
  have S1 : Bd W1 bb mb p r n := by rw [← hW1]; exact S0.put _
  refine ⟨S1, ?_⟩
  exact wpAnyH_done (by kernel_rfl) (by rw [← hW1, ← hW]; exact hQ) _
def ko0 : Oper := { dst := some 32, op := Op.move (Operand.tmp 0), type := 25, pos := "cause.go:45", after := #[], guard := none }
def ko1 : Oper := { dst := some 33, op := Op.nilCheck (Operand.tmp 32), type := 0, pos := "cause.go:45", after := #[{ on := 0, ground := Ground.data }], guard := none }
def ko2 : Oper := { dst := some 34, op := Op.fieldAddr 79 (Operand.tmp 33) 0, type := 0, pos := "cause.go:45", after := #[{ on := 1, ground := Ground.data }], guard := none }
def ko3 : Oper := { dst := some 35, op := Op.load 77 (Operand.tmp 34), type := 77, pos := "cause.go:45", after := #[{ on := 2, ground := Ground.data }], guard := none }
def ko4 : Oper := { dst := some 36, op := Op.fieldAddr 43 (Operand.tmp 5) 1, type := 0, pos := "cause.go:45", after := #[], guard := none }
def ko5 : Oper := { dst := some 37, op := Op.load 38 (Operand.tmp 36), type := 38, pos := "cause.go:45", after := #[{ on := 4, ground := Ground.data }], guard := none }
def ko6 : Oper := { dst := some 38, op := Op.load 43 (Operand.tmp 5), type := 43, pos := "cause.go:45", after := #[], guard := none }
def ko7 : Oper := { dst := some 39, op := Op.call { callee := Callee.value (Operand.func 45), args := #[Operand.tmp 38], argTypes := #[43] }, type := 43, pos := "cause.go:45", after := #[{ on := 6, ground := Ground.data }], guard := none }
def ko8 : Oper := { dst := none,op := Op.mapUpdate 77 (Operand.tmp 35) (Operand.tmp 37) (Operand.tmp 39),type := 0,pos := "cause.go:45",after := #[{ on := 3,ground := Ground.data },{ on := 5,ground := Ground.data },{ on := 7,ground := Ground.data },{ on := 7,ground := Ground.chain },{ on := 0,ground := Ground.phase },{ on := 1,ground := Ground.phase },{ on := 2,ground := Ground.phase },{ on := 3,ground := Ground.phase },{ on := 4,ground := Ground.phase },{ on := 5,ground := Ground.phase },{ on := 6,ground := Ground.phase },{ on := 7,ground := Ground.phase }],guard := none }
def kos : Array Oper := #[ko0, ko1, ko2, ko3, ko4, ko5, ko6, ko7, ko8]
theorem ko_lit : Region.noSelect kos = true := by kernel_rfl

set_option maxHeartbeats 8000000 in
theorem offer_r {bb mb p : Nat} {m : List (Opn × Value)} {es : Array MapEntry} {c : Nat} {o : Opn} {v : Value} {w : World} (h : Bo w bb mb p o v) (M0 : Mp w mb (ents m) es c) (C0 : Cs w v o.cuts) (hf : o.fine) (hl : o.cuts.length ≤ 100000) (hn : ∀ x ∈ ents m,x.1 ≠ (o.ir,o.im)) {x1 x2 x3 x4 x6 x7 x8 x9 ah ag ae ad ab aa af av au ap al aA aq am aj az ar ao ak ai ax ay aB x33 x34 x35 x36 x37 x38 x39 : Value} {Q : Exit → Act → World → Prop}
    (hP : ∀ c t t' d W, Q (.panic c) { tmps := t, defers := d } W → Q (.panic c) { tmps := t', defers := d } W)
    (hQ : ∀ u1 W,Below w.heap.size w W → Cs W u1 o.cuts → (∀ k,u1.ownBlock = some k → w.heap.size ≤ k) → Q .normal { tmps := #[.pointer (some ⟨bb,0,none⟩),x1,x2,x3,x4,.pointer (some ⟨p,0,none⟩),x6,x7,x8,x9,ah,ag,ae,ad,ab,aa,af,av,au,ap,al,aA,aq,am,aj,az,ar,ao,ak,ai,ax,ay,.pointer (some ⟨bb,0,none⟩),.pointer (some ⟨bb,0,none⟩),.pointer (some ⟨bb,0,none⟩),.map (some mb),.pointer (some ⟨p,1,none⟩),idv o.ir o.im,opv o v,opv o u1],defers := [] } (W.putObj mb (.map (es.push ⟨idv o.ir o.im,opv o u1,c⟩) (c + 1)))) : (Code.region 7 kos true).wp Tryd.prog Q { tmps := #[.pointer (some ⟨bb,0,none⟩),x1,x2,x3,x4,.pointer (some ⟨p,0,none⟩),x6,x7,x8,x9,ah,ag,ae,ad,ab,aa,af,av,au,ap,al,aA,aq,am,aj,az,ar,ao,ak,ai,ax,ay,aB,x33,x34,x35,x36,x37,x38,x39],defers := [] } w := by
  refine wp_region_held (S := fun W => Bo W bb mb p o v) (by kernel_rfl) ?_
  change wpAnyH _ _ _ _ _ 9 _ _ (World.drew _)
  have S0 : Bo (World.drew w) bb mb p o v := h.drew
  clear h
  replace M0 : Mp (World.drew w) mb (ents m) es c := M0.below (bd w 1)
  replace C0 : Cs (World.drew w) v o.cuts := C0.below (bd w 1)
  obtain ⟨W0, hW⟩ : ∃ W, World.drew w = W := ⟨_, rfl⟩
  rw [hW] at S0 M0 C0 ⊢
  have BW0 : Below w.heap.size w W0 := by rw [← hW]; exact (Below.refl _ _).drew
  clear hW
  refine wpAnyH_take (i := 0) (oi := ko0) (v := .pointer (some ⟨bb, 0, none⟩)) (by kernel_rfl) ko_lit (by kernel_rfl) (by kernel_rfl) (fun c a W h => hP c _ _ _ W h) (Or.inl ⟨by kernel_rfl, fun W hW => by kernel_rfl⟩) S0 ?_
  rw [show Act.put _ ko0.dst _ = { tmps := #[.pointer (some ⟨bb,0,none⟩),x1,x2,x3,x4,.pointer (some ⟨p,0,none⟩),x6,x7,x8,x9,ah,ag,ae,ad,ab,aa,af,av,au,ap,al,aA,aq,am,aj,az,ar,ao,ak,ai,ax,ay,.pointer (some ⟨bb,0,none⟩),x33,x34,x35,x36,x37,x38,x39],defers := [] } from by kernel_rfl]
  refine wpAnyH_take (i := 1) (oi := ko1) (v := .pointer (some ⟨bb, 0, none⟩)) (by kernel_rfl) ko_lit (by kernel_rfl) (by kernel_rfl) (fun c a W h => hP c _ _ _ W h) (Or.inl ⟨by kernel_rfl, fun W hW => by kernel_rfl⟩) S0 ?_
  rw [show Act.put _ ko1.dst _ = { tmps := #[.pointer (some ⟨bb,0,none⟩),x1,x2,x3,x4,.pointer (some ⟨p,0,none⟩),x6,x7,x8,x9,ah,ag,ae,ad,ab,aa,af,av,au,ap,al,aA,aq,am,aj,az,ar,ao,ak,ai,ax,ay,.pointer (some ⟨bb,0,none⟩),.pointer (some ⟨bb,0,none⟩),x34,x35,x36,x37,x38,x39],defers := [] } from by kernel_rfl]
  refine wpAnyH_take (i := 2) (oi := ko2) (v := .pointer (some ⟨bb, 0, none⟩)) (by kernel_rfl) ko_lit (by kernel_rfl) (by kernel_rfl) (fun c a W h => hP c _ _ _ W h) (Or.inl ⟨by kernel_rfl, fun W hW => by kernel_rfl⟩) S0 ?_
  rw [show Act.put _ ko2.dst _ = { tmps := #[.pointer (some ⟨bb,0,none⟩),x1,x2,x3,x4,.pointer (some ⟨p,0,none⟩),x6,x7,x8,x9,ah,ag,ae,ad,ab,aa,af,av,au,ap,al,aA,aq,am,aj,az,ar,ao,ak,ai,ax,ay,.pointer (some ⟨bb,0,none⟩),.pointer (some ⟨bb,0,none⟩),.pointer (some ⟨bb,0,none⟩),x35,x36,x37,x38,x39],defers := [] } from by kernel_rfl]
  refine wpAnyH_take (i := 3) (oi := ko3) (v := .map (some mb)) (by kernel_rfl) ko_lit (by kernel_rfl) (by kernel_rfl) (fun c a W h => hP c _ _ _ W h) (Or.inl ⟨by kernel_rfl, fun W hW => run_ldm rfl rfl hW.cell⟩) S0 ?_
  rw [show Act.put _ ko3.dst _ = { tmps := #[.pointer (some ⟨bb,0,none⟩),x1,x2,x3,x4,.pointer (some ⟨p,0,none⟩),x6,x7,x8,x9,ah,ag,ae,ad,ab,aa,af,av,au,ap,al,aA,aq,am,aj,az,ar,ao,ak,ai,ax,ay,.pointer (some ⟨bb,0,none⟩),.pointer (some ⟨bb,0,none⟩),.pointer (some ⟨bb,0,none⟩),.map (some mb),x36,x37,x38,x39],defers := [] } from by kernel_rfl]
  refine wpAnyH_take (i := 4) (oi := ko4) (v := .pointer (some ⟨p, 1, none⟩)) (by kernel_rfl) ko_lit (by kernel_rfl) (by kernel_rfl) (fun c a W h => hP c _ _ _ W h) (Or.inl ⟨by kernel_rfl, fun W hW => by kernel_rfl⟩) S0 ?_
  rw [show Act.put _ ko4.dst _ = { tmps := #[.pointer (some ⟨bb,0,none⟩),x1,x2,x3,x4,.pointer (some ⟨p,0,none⟩),x6,x7,x8,x9,ah,ag,ae,ad,ab,aa,af,av,au,ap,al,aA,aq,am,aj,az,ar,ao,ak,ai,ax,ay,.pointer (some ⟨bb,0,none⟩),.pointer (some ⟨bb,0,none⟩),.pointer (some ⟨bb,0,none⟩),.map (some mb),.pointer (some ⟨p,1,none⟩),x37,x38,x39],defers := [] } from by kernel_rfl]
  refine wpAnyH_take (i := 5) (oi := ko5) (v := idv o.ir o.im) (by kernel_rfl) ko_lit (by kernel_rfl) (by kernel_rfl) (fun c a W h => hP c _ _ _ W h) (Or.inl ⟨by kernel_rfl, fun W hW => run_ldid1 rfl rfl hW.ob⟩) S0 ?_
  rw [show Act.put _ ko5.dst _ = { tmps := #[.pointer (some ⟨bb,0,none⟩),x1,x2,x3,x4,.pointer (some ⟨p,0,none⟩),x6,x7,x8,x9,ah,ag,ae,ad,ab,aa,af,av,au,ap,al,aA,aq,am,aj,az,ar,ao,ak,ai,ax,ay,.pointer (some ⟨bb,0,none⟩),.pointer (some ⟨bb,0,none⟩),.pointer (some ⟨bb,0,none⟩),.map (some mb),.pointer (some ⟨p,1,none⟩),idv o.ir o.im,x38,x39],defers := [] } from by kernel_rfl]
  refine wpAnyH_take (i := 6) (oi := ko6) (v := opv o v) (by kernel_rfl) ko_lit (by kernel_rfl) (by kernel_rfl) (fun c a W h => hP c _ _ _ W h) (Or.inl ⟨by kernel_rfl, fun W hW => run_load_op rfl rfl hW.ob⟩) S0 ?_
  rw [show Act.put _ ko6.dst _ = { tmps := #[.pointer (some ⟨bb,0,none⟩),x1,x2,x3,x4,.pointer (some ⟨p,0,none⟩),x6,x7,x8,x9,ah,ag,ae,ad,ab,aa,af,av,au,ap,al,aA,aq,am,aj,az,ar,ao,ak,ai,ax,ay,.pointer (some ⟨bb,0,none⟩),.pointer (some ⟨bb,0,none⟩),.pointer (some ⟨bb,0,none⟩),.map (some mb),.pointer (some ⟨p,1,none⟩),idv o.ir o.im,opv o v,x39],defers := [] } from by kernel_rfl]
  refine wpAnyH_all (rs := [7]) (by kernel_rfl) (by simp) (fun i hi => ?_)
  obtain rfl := List.mem_singleton.1 hi
  refine hb_callx (o := ko7) (f := 45) (args := #[opv o v]) (D := fun u V => ∃ u',u = opv o u' ∧ Cs V u' o.cuts ∧ (∀ k,u'.ownBlock = some k → W0.heap.size ≤ k) ∧ Below W0.heap.size W0 V) (by kernel_rfl) (by kernel_rfl) (by kernel_rfl) ((clone_new _ o v rfl W0 C0 hf hl).mono fun e V ⟨u,h1,h2,h3,h4⟩ => ⟨_,h1,u,rfl,h2,h4,h3⟩) ?_
  rintro _ W1 ⟨u1, rfl, zc, zf, b⟩
  have S1 := S0.below b
  have BW1 := bt BW0 b
  have M1 := M0.below b
  clear b
  rw [show Act.put _ ko7.dst _ = { tmps := #[.pointer (some ⟨bb,0,none⟩),x1,x2,x3,x4,.pointer (some ⟨p,0,none⟩),x6,x7,x8,x9,ah,ag,ae,ad,ab,aa,af,av,au,ap,al,aA,aq,am,aj,az,ar,ao,ak,ai,ax,ay,.pointer (some ⟨bb,0,none⟩),.pointer (some ⟨bb,0,none⟩),.pointer (some ⟨bb,0,none⟩),.map (some mb),.pointer (some ⟨p,1,none⟩),idv o.ir o.im,opv o v,opv o u1],defers := [] } from by kernel_rfl]
  refine ⟨S1, ?_⟩
  refine wpAnyH_all (rs := [8]) (by kernel_rfl) (by simp) (fun i hi => ?_)
  obtain rfl := List.mem_singleton.1 hi
  refine hb_skip (o := ko8) (w' := W1.putObj mb (.map (es.push ⟨idv o.ir o.im, opv o u1, c⟩) (c + 1))) (by kernel_rfl) (by kernel_rfl) (run_mu_op rfl rfl rfl rfl (run_ps Tryd.underlying77 o.ir o.im W1 mb es c (ents m) M1.at' M1.em (opv o u1) hn)) ?_
  rw [show Act.put _ ko8.dst _ = { tmps := #[.pointer (some ⟨bb,0,none⟩),x1,x2,x3,x4,.pointer (some ⟨p,0,none⟩),x6,x7,x8,x9,ah,ag,ae,ad,ab,aa,af,av,au,ap,al,aA,aq,am,aj,az,ar,ao,ak,ai,ax,ay,.pointer (some ⟨bb,0,none⟩),.pointer (some ⟨bb,0,none⟩),.pointer (some ⟨bb,0,none⟩),.map (some mb),.pointer (some ⟨p,1,none⟩),idv o.ir o.im,opv o v,opv o u1],defers := [] } from by kernel_rfl]
  obtain ⟨W2, hW2⟩ : ∃ W, W1.putObj mb (.map (es.push ⟨idv o.ir o.im, opv o u1, c⟩) (c + 1)) = W := ⟨_, rfl⟩
  rw [hW2]
  have S2 : Bo W2 bb mb p o v := by rw [← hW2]; exact S1.put _
  refine ⟨S2, ?_⟩
  exact wpAnyH_done (by kernel_rfl) (by rw [← hW2]; exact hQ u1 _ BW1 zc (fun k hk => Nat.le_trans BW0.size (zf k hk))) _

end Go.Proofs.YtaojeanoojnknaaDoor

/-
  The reference's buffer in memory ('Xr'): a block that holds a row of ops of its own; what it loses ('without') is proved here.
-/
namespace Go.Proofs.YtaojeanoojnknaaDoor
open Go.RowKit
set_option linter.unusedVariables false
set_option maxRecDepth 100000

theorem heap_at {w : World} {k : Nat} {o : Obj} (h : w.heap[k]? = some o) : k < w.heap.size := (Array.getElem?_eq_some_iff.1 h).1
/-- A slice that is nil, or begins at a cell. -/
def Spt (v : Value) : Prop := ∀ A n c, v = .slice (some A) n c → ∃ b off, A = ⟨b, off, none⟩
theorem Rx.spt {B : Nat} {w : World} {v : Value} {l : List (Opn × Value)} (h : Rx B w v l) : Spt v := by
  intro A n c e
  rcases h.1.2 with ⟨rfl, _⟩ | ⟨g, cap, cur, rfl, _⟩
  · cases e
  · simp only [Value.slice.injEq, Option.some.injEq] at e
    exact ⟨g, 0, e.1.symm⟩
/-- Block r holds the row v of the ops l; what it holds is behind N. -/
structure Xr (N : Nat) (w : World) (r : Nat) (v : Value) (l : List (Opn × Value)) : Prop where
  at' : w.heap[r]? = some (.cells #[v] 30 (0, 0))
  os : Os w v l
  lt : r < N
  le : N ≤ w.heap.size
  sp : Spt v
  far : ∀ k, v.ownBlock = some k → N ≤ k
  cut : ∀ p ∈ l, ∀ k, p.2.ownBlock = some k → N ≤ k
theorem Xr.fr {S : Nat → Prop} {N : Nat} {w w' : World} {r : Nat} {v : Value} {l : List (Opn × Value)} (h : Xr N w r v l) (hf : Fr S w w') (hS : ∀ i, S i → i < N ∧ i ≠ r) : Xr N w' r v l :=
  ⟨(hf.block r (heap_at h.at') (fun s => (hS r s).2 rfl)).trans h.at',
   ⟨h.os.1.kept (fun k hk hlt => hf.block k hlt (fun s => Nat.lt_irrefl _ (Nat.lt_of_lt_of_le (hS k s).1 (h.far k hk)))), fun p hp => Sl.kept (h.os.2 p hp) (fun k hk hlt => hf.block k hlt (fun s => Nat.lt_irrefl _ (Nat.lt_of_lt_of_le (hS k s).1 (h.cut p hp k hk))))⟩,
   h.lt, Nat.le_trans h.le hf.size, h.sp, h.far, h.cut⟩
theorem Xr.fr2 {S : Nat → Prop} {N : Nat} {w w' : World} {r : Nat} {v : Value} {l : List (Opn × Value)} (h : Xr N w r v l) (hf : Fr S w w') (h1 : ¬ S r) (h2 : ∀ k, v.ownBlock = some k → ¬ S k) (h3 : ∀ p ∈ l, p.1.cuts ≠ [] → ∀ k, p.2.ownBlock = some k → ¬ S k) : Xr N w' r v l := by
  refine ⟨(hf.block r (heap_at h.at') h1).trans h.at', ⟨h.os.1.kept (fun k hk hlt => hf.block k hlt (h2 k hk)), fun p hp => ?_⟩, h.lt, Nat.le_trans h.le hf.size, h.sp, h.far, h.cut⟩
  have hc := h.os.2 p hp
  by_cases he : p.1.cuts = []
  · rw [he] at hc ⊢
    exact hc.none
  · exact Sl.kept hc (fun k hk hlt => hf.block k hlt (h3 p hp he k hk))
theorem Xr.below {N : Nat} {w w' : World} {r : Nat} {v : Value} {l : List (Opn × Value)} (h : Xr N w r v l) (hb : Below w.heap.size w w') : Xr N w' r v l :=
  h.fr (S := fun _ => False) (Fr.of_below hb) (fun _ s => s.elim)
theorem Xr.cell {N : Nat} {w : World} {r : Nat} {v : Value} {l : List (Opn × Value)} (h : Xr N w r v l) : w.cell? ⟨r, 0, none⟩ = some v := cell_of_row w r 0 _ _ _ h.at'
/-- Another row is put in. -/
theorem Xr.put {N : Nat} {w w5 w' : World} {r : Nat} {v v' : Value} {l l' : List (Opn × Value)} (h : Xr N w r v l) (hb : Below w.heap.size w w5) (ho : Os w5 v' l') (hsp : Spt v') (hv : ∀ k, v'.ownBlock = some k → N ≤ k) (hc : ∀ p ∈ l', ∀ k, p.2.ownBlock = some k → N ≤ k)
    (hr : w'.heap[r]? = some (.cells #[v'] 30 (0, 0))) (hf : Fr (fun k => k = r) w5 w') : Xr N w' r v' l' ∧ Fr (fun k => k = r) w w' := by
  have hlt := h.lt
  refine ⟨⟨hr, ⟨ho.1.kept (fun k hk hl => hf.block k hl (fun s => ?_)), fun p hp => Sl.kept (ho.2 p hp) (fun k hk hl => hf.block k hl (fun s => ?_))⟩, h.lt, ?_, hsp, hv, hc⟩, (Fr.of_below hb : Fr (fun k => k = r) _ _).trans hf (fun _ _ e => e)⟩
  · have := hv k hk; omega
  · have := hc p hp k hk; omega
  · have h1 := h.le; have h2 := hb.size; have h3 := hf.size; omega

section
variable {p : Oper} {a : Act} {W : World} {ops : Array Oper} {rest : List Oper} {Q : Exit → Act → World → Prop} {x y : Operand} {r : Nat}
theorem wpList_st_list {va : Option Addr} {n c : Nat} {v : Value} (hw : Region.wanted p (yielded ops a.tmps) = true) (ho : p.op = .store 28 x y) (hx : a.eval x = .pointer (some ⟨r, 0, none⟩)) (hy : a.eval y = .slice va n c) (h : W.heap[r]? = some (.cells #[v] 30 (0, 0)))
    (hk : ∀ W', W'.heap[r]? = some (.cells #[.slice va n c] 30 (0, 0)) → Fr (fun k => k = r) W W' → wpList Tryd.prog ops Q rest (a.put p.dst undef) W') : wpList Tryd.prog ops Q (p :: rest) a W := by
  have hz := cell_of_row W r 0 _ _ _ h
  simp at hz
  have hf := frozen_of_row W r 0 _ _ h
  refine wpList_nil (W.setCell ⟨r, 0, none⟩ (.slice va n c)) hw ?_ (hk _ ?_ (Fr.of_set W r 0 _))
  · unfold execOp
    simp only [ho, hx, hy]
    simp [go_sem, hz, hf]
  · exact set_row h _
end
/-- The others of a row: whatever room it has. -/
theorem sl_back {A : Option Addr} {n c : Nat} {w : World} {l : List (Opn × Value)} (h : Os w (.slice A n c) l) (hsp : Spt (.slice A n c)) (f : Nat) (hf : f ≤ n) : ∃ ua un uc,
    (∀ (o : Oper) (a : Act) (x lo : Operand) (W : World), o.op = .slice 28 x (some lo) none none → a.eval x = .slice A n c → a.eval lo = .int .i64 (f : Nat) → (execOp a.eval o).run Tryd.prog W = .ok (.value (.slice ua un uc)) W) ∧
    (∀ W, Os W (.slice A n c) l → Os W (.slice ua un uc) (l.drop f)) := by
  obtain ⟨a, c', e, h2, h3⟩ := Sl.form h.1
  simp only [Value.slice.injEq] at e
  obtain ⟨rfl, hn, rfl⟩ := e
  by_cases hfc : f < c
  · have hA : ∃ b off, A = some ⟨b, off, none⟩ := by
      cases A with
      | none =>
        rw [hn] at h
        obtain ⟨_, _, h0⟩ := (hn ▸ h.1).none_nil
        omega
      | some A =>
        obtain ⟨b, off, e⟩ := hsp A _ _ rfl
        exact ⟨b, off, by rw [e]⟩
    obtain ⟨b, off, rfl⟩ := hA
    exact ⟨_, _, _, fun o a x lo W ho hx hl => run_sld ho hx hl hf hfc (hn ▸ h2), fun W hO => hO.back f hf⟩
  · obtain rfl : f = n := by omega
    obtain rfl : f = c := by omega
    refine ⟨A, 0, 0, fun o a x lo W ho hx hl => run_sld0 ho hx hl, fun W hO => ?_⟩
    rw [List.drop_of_length_le (by omega)]
    exact Os.void (Nat.zero_le _) (fun _ => rfl)

end Go.Proofs.YtaojeanoojnknaaDoor
