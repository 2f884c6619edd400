/-
  The region of op.DecodeAll in which an op is read, whose order is drawn, is walked here: the op's block is made at any time ahead of its store.
-/
import Derived.Test.YteckjkblngmenaaGreatDoorPart11
import Derived.Test.YteckjkblngmenaaGreatDoorPart10
import Derived.Test.YteckjkblngmenaaGreatDoorPart5
import Derived.OrdersHeld
namespace Go.Proofs.YteckjkblngmenaaGreatDoor
open Go.RowKit
set_option linter.unusedVariables false
set_option maxRecDepth 100000

def da0 : Oper := { dst := some 17, op := Op.fieldAddr 128 (Operand.tmp 4) 0, type := 0, pos := "op.go:126", after := #[], guard := none }
def da1 : Oper := { dst := some 18, op := Op.load 125 (Operand.tmp 17), type := 125, pos := "op.go:126", after := #[{ on := 0, ground := Ground.data }], guard := none }
def da2 : Oper := { dst := some 19, op := Op.fieldAddr 128 (Operand.tmp 4) 0, type := 0, pos := "op.go:126", after := #[], guard := none }
def da3 : Oper := { dst := some 20, op := Op.load 125 (Operand.tmp 19), type := 125, pos := "op.go:126", after := #[{ on := 2, ground := Ground.data }], guard := none }
def da4 : Oper := { dst := some 21, op := Op.call { callee := Callee.value (Operand.func 96), args := #[Operand.tmp 20], argTypes := #[125] }, type := 3, pos := "op.go:126", after := #[{ on := 3, ground := Ground.data }], guard := none }
def da5 : Oper := { dst := some 22,op := Op.call { callee := Callee.value (Operand.func 95),args := #[Operand.tmp 18,Operand.tmp 21],argTypes := #[125,3] },type := 9,pos := "op.go:126",after := #[{ on := 1,ground := Ground.data },{ on := 4,ground := Ground.data },{ on := 4,ground := Ground.chain }],guard := none }
def da6 : Oper := { dst := some 23, op := Op.convert 9 36 (Operand.tmp 22), type := 36, pos := "op.go:126", after := #[{ on := 5, ground := Ground.data }], guard := none }
def da7 : Oper := { dst := some 24, op := Op.call { callee := Callee.value (Operand.func 94), args := #[Operand.tmp 23], argTypes := #[36] }, type := 129, pos := "op.go:126", after := #[{ on := 6, ground := Ground.data }, { on := 5, ground := Ground.chain }], guard := none }
def da8 : Oper := { dst := some 16, op := Op.move (Operand.tmp 24), type := 129, pos := "op.go:126", after := #[{ on := 7, ground := Ground.data }], guard := none }
def da9 : Oper := { dst := some 25, op := Op.extract (Operand.tmp 16) 0, type := 77, pos := "op.go:126", after := #[{ on := 8, ground := Ground.data }], guard := none }
def da10 : Oper := { dst := some 26, op := Op.extract (Operand.tmp 16) 1, type := 4, pos := "op.go:126", after := #[{ on := 8, ground := Ground.data }, { on := 12, ground := Ground.gcOnly Departure.lateStores }], guard := none }
def da11 : Oper := { dst := some 6, op := Op.alloc 77, type := 0, pos := "op.go:126", after := #[], guard := none }
def da12 : Oper := { dst := none,op := Op.store 77 (Operand.tmp 6) (Operand.tmp 25),type := 0,pos := "op.go:126",after := #[{ on := 11,ground := Ground.data },{ on := 9,ground := Ground.data },{ on := 7,ground := Ground.chain },{ on := 0,ground := Ground.phase },{ on := 1,ground := Ground.phase },{ on := 2,ground := Ground.phase },{ on := 3,ground := Ground.phase },{ on := 4,ground := Ground.phase },{ on := 5,ground := Ground.phase },{ on := 6,ground := Ground.phase },{ on := 7,ground := Ground.phase },{ on := 8,ground := Ground.phase },{ on := 9,ground := Ground.phase },{ on := 10,ground := Ground.textOnly Departure.lateStores },{ on := 11,ground := Ground.phase }],guard := none }
def da13 : Oper := { dst := some 7,op := Op.assign (Operand.tmp 26),type := 4,pos := "op.go:126",after := #[{ on := 10,ground := Ground.data },{ on := 12,ground := Ground.chain },{ on := 0,ground := Ground.phase },{ on := 1,ground := Ground.phase },{ on := 2,ground := Ground.phase },{ on := 3,ground := Ground.phase },{ on := 4,ground := Ground.phase },{ on := 5,ground := Ground.phase },{ on := 6,ground := Ground.phase },{ on := 7,ground := Ground.phase },{ on := 8,ground := Ground.phase },{ on := 9,ground := Ground.phase },{ on := 10,ground := Ground.phase },{ on := 11,ground := Ground.phase },{ on := 12,ground := Ground.phase }],guard := none }
def das : Array Oper := #[da0, da1, da2, da3, da4, da5, da6, da7, da8, da9, da10, da11, da12, da13]
theorem da_lit : Region.noSelect das = true := by kernel_rfl

theorem wpAnyH_listed {P : Program} {md : Region.Mode} {ops : Array Oper} {Q : Exit → Act → World → Prop} {S : World → Prop} {fuel : Nat} {l l' : Array Bool} {a : Act} {w : World} (h : l = l') (k : wpAnyH P md ops Q S fuel l' a w) : wpAnyH P md ops Q S fuel l a w := by rw [h]; exact k
theorem run_ldp {o : Oper} {a : Act} {x : Operand} {b i : Nat} {v : Value} {W : World} (ho : o.op = .load 125 x) (hx : a.eval x = .pointer (some ⟨b, i, none⟩)) (h : W.cell? ⟨b, i, none⟩ = some v) : (execOp a.eval o).run Tryz.prog W = .ok (.value v) W := by
  unfold execOp
  simp only [ho, hx]
  simp [go_sem, h]
theorem run_cv {o : Oper} {a : Act} {x : Operand} {s : ByteArray} {u : Value} {W W' : World} (ho : o.op = .convert 9 36 x) (hx : a.eval x = .string s) (h : (convert 9 36 (.string s)).run Tryz.prog W = .ok u W') : (execOp a.eval o).run Tryz.prog W = .ok (.value u) W' := by
  unfold execOp
  simp only [ho, hx, Sem.run_bind, h, Result.andThen_ok, Sem.run_pure]
theorem Cur.fr {T : Nat} {S : Nat → Prop} {w w' : World} {c : Nat} {xs : List Int} {lost : Bool} (h : Cur T w c xs lost) (hf : Fr S w w') (hc : ¬ S c) (hb : ∀ k, S k → ∀ j x, w.cell? ⟨k, j, none⟩ ≠ some (.int .u8 x)) : Cur T w' c xs lost := by
  obtain ⟨v, h1, a, cp, rfl, h3, h4, h5, h6, h7⟩ := h
  refine ⟨_, (hf.block c (Array.getElem?_eq_some_iff.1 h1).1 hc).trans h1, a, cp, rfl, h3, h4, h5, fun i hi => ?_, h7⟩
  obtain ⟨b, off, e1, e2⟩ := h6 i hi
  refine ⟨b, off, e1, ?_⟩
  have hlt := World.block_lt_of_cell? _ _ e2
  have hns : ¬ S b := fun hs => hb b hs _ _ e2
  rw [World.cell?_of_block (w := w) (hf.block b hlt hns)]
  exact e2
theorem grown_up {a b c : World} {row : Option Nat} {p : Nat} (h : a.grownBy b row) (hf : Fr (fun k => k = p) b c) (hp : a.heap.size ≤ p) : a.grownBy c row :=
  ⟨hf.os.trans h.os, hf.tape.trans h.tape, hf.output.trans h.output, Nat.le_trans h.size hf.size, fun k hk hn => (hf.block k (Nat.lt_of_lt_of_le hk h.size) (by omega)).trans (h.block k hk hn)⟩
theorem cs_far {w w' : World} {v : Value} {l : List Ct} {p : Nat} (h : Cs w v l) (hf : Fr (fun k => k = p) w w') (hn : l = [] ∨ v.ownBlock ≠ some p) : Cs w' v l := by
  rcases hn with rfl | hn
  · exact h.none
  · exact Sl.kept h (fun k hk hlt => hf.block k hlt (fun e => hn (by rw [← e]; exact hk)))
theorem hb_st {ops : Array Oper} {Q : Exit → Act → World → Prop} {K : Act → World → Prop} {i : Nat} {p : Oper} {a : Act} {W : World} {x y : Operand} {b : Nat} {o o' : Opn} {v v' : Value} (hi : ops[i]? = some p) (hw : Region.wanted p (yielded ops a.tmps) = true) (ho : p.op = .store 77 x y) (hx : a.eval x = .pointer (some ⟨b,0,none⟩)) (hy : a.eval y = opv o v) (hv : ∃ va n vc,v = .slice va n vc) (h : Ob W b o' v')
    (hk : K (a.put p.dst undef) (W.setRow b (opl o v))) : wpOp Tryz.prog ops Q i K a W :=
  wpOp_step hi fun K' hK => by
    rw [if_pos hw]
    exact wp_store_row 77 x y ho b (opl o v) hx hy 77 (opl o' v') h (by kernel_rfl) rfl (by obtain ⟨va, n, vc, rfl⟩ := hv; simp [Value.oneCell']) (hK _ _ hk)

set_option maxHeartbeats 8000000 in
theorem region_d {w : World} {r c : Nat} {q q2 : St} {t : ByteArray} {o : Opn} {ok : Bool} {x0 x1 x2 x3 x5 x6 x7 x8 x9 x10 x11 x12 x13 x14 x15 x16 x17 x18 x19 x20 x21 x22 x23 x24 x25 x26 x27 x28 x29 x30 x31 x32 x33 x34 x35 x36 x37 x38 : Value} {Q : Exit → Act → World → Prop} (hr : w.heap[r]? = some (rdo c)) (hrc : r ≠ c) (hcu : Cu w c q) (ht : rt (mOwn q) q = (t,q2)) (hts : t.size ≤ 1099511627776) (hd : decO Bnd.own (tx t) = (o,ok))
    (hL : ∀ W, w.grownBy W (some c) → Lay W)
    (hP : ∀ c t t' d W, Q (.panic c) { tmps := t, defers := d } W → Q (.panic c) { tmps := t', defers := d } W)
    (hQ : ∀ pb u vo W,W.heap[r]? = some (rdo c) → w.grownBy W (some c) → Cu W c q2 → Cs W vo o.cuts → (∀ k,vo.ownBlock = some k → w.heap.size ≤ k) → Ob W pb o vo → w.heap.size ≤ pb → Q .normal { tmps := #[x0,x1,x2,x3,.pointer (some ⟨r,0,none⟩),x5,.pointer (some ⟨pb,0,none⟩),.bool ok,x8,x9,x10,x11,x12,x13,x14,x15,.tuple #[opv o vo,.bool ok],.pointer (some ⟨r,0,none⟩),.pointer (some ⟨c,0,none⟩),.pointer (some ⟨r,0,none⟩),.pointer (some ⟨c,0,none⟩),.int .i64 (q.1.length : Nat),.string t,u,.tuple #[opv o vo,.bool ok],opv o vo,.bool ok,x27,x28,x29,x30,x31,x32,x33,x34,x35,x36,x37,x38],defers := [] } W) : (Code.region 5 das true).wp Tryz.prog Q { tmps := #[x0,x1,x2,x3,.pointer (some ⟨r,0,none⟩),x5,x6,x7,x8,x9,x10,x11,x12,x13,x14,x15,x16,x17,x18,x19,x20,x21,x22,x23,x24,x25,x26,x27,x28,x29,x30,x31,x32,x33,x34,x35,x36,x37,x38],defers := [] } w := by
  have hrl : r < w.heap.size := (Array.getElem?_eq_some_iff.1 hr).1
  refine wp_region_held (S := fun W => W.heap[r]? = some (rdo c)) (by kernel_rfl) ?_
  change wpAnyH _ _ _ _ _ 14 _ _ (World.drew _)
  have hS : (World.drew w).heap[r]? = some (rdo c) := hr
  have A4 : ∀ (pb : Nat) (u : Value) (vo : Value) (W : World),W.heap[r]? = some (rdo c) → w.grownBy W (some c) → Cu W c q2 → Cs W vo o.cuts → (∀ k,vo.ownBlock = some k → w.heap.size ≤ k) → Ob W pb Opn.zero (.slice none 0 0) → w.heap.size ≤ pb → pb ≠ c → (o.cuts = [] ∨ vo.ownBlock ≠ some pb) → wpAnyH Tryz.prog .any das Q (fun W => W.heap[r]? = some (rdo c)) 5 #[true,true,true,true,true,true,true,true,false,false,false,true,false,false] { tmps := #[x0,x1,x2,x3,.pointer (some ⟨r,0,none⟩),x5,.pointer (some ⟨pb,0,none⟩),x7,x8,x9,x10,x11,x12,x13,x14,x15,x16,.pointer (some ⟨r,0,none⟩),.pointer (some ⟨c,0,none⟩),.pointer (some ⟨r,0,none⟩),.pointer (some ⟨c,0,none⟩),.int .i64 (q.1.length : Nat),.string t,u,.tuple #[opv o vo,.bool ok],x25,x26,x27,x28,x29,x30,x31,x32,x33,x34,x35,x36,x37,x38],defers := [] } W := by
    intro pb u vo W hs hg hc hk hn hob hpb hpc hne
    obtain ⟨va, vc, rfl, _⟩ := hk.form
    obtain ⟨vn, hvn⟩ : ∃ vn, o.cuts.length = vn := ⟨_, rfl⟩
    rw [hvn] at hk hn hne ⊢
    refine wpAnyH_take (i := 8) (oi := da8) (v := .tuple #[opv o (.slice va vn vc), .bool ok]) (by kernel_rfl) da_lit (by kernel_rfl) (by kernel_rfl) (fun c a W h => hP c _ _ _ W h) (Or.inl ⟨by kernel_rfl, fun W hW => by kernel_rfl⟩) hs ?_
    rw [show Act.put _ da8.dst _ = { tmps := #[x0,x1,x2,x3,.pointer (some ⟨r,0,none⟩),x5,.pointer (some ⟨pb,0,none⟩),x7,x8,x9,x10,x11,x12,x13,x14,x15,.tuple #[opv o (.slice va vn vc),.bool ok],.pointer (some ⟨r,0,none⟩),.pointer (some ⟨c,0,none⟩),.pointer (some ⟨r,0,none⟩),.pointer (some ⟨c,0,none⟩),.int .i64 (q.1.length : Nat),.string t,u,.tuple #[opv o (.slice va vn vc),.bool ok],x25,x26,x27,x28,x29,x30,x31,x32,x33,x34,x35,x36,x37,x38],defers := [] } from by kernel_rfl]
    refine wpAnyH_take (i := 9) (oi := da9) (v := opv o (.slice va vn vc)) (by kernel_rfl) da_lit (by kernel_rfl) (by kernel_rfl) (fun c a W h => hP c _ _ _ W h) (Or.inl ⟨by kernel_rfl, fun W hW => by kernel_rfl⟩) hs ?_
    rw [show Act.put _ da9.dst _ = { tmps := #[x0,x1,x2,x3,.pointer (some ⟨r,0,none⟩),x5,.pointer (some ⟨pb,0,none⟩),x7,x8,x9,x10,x11,x12,x13,x14,x15,.tuple #[opv o (.slice va vn vc),.bool ok],.pointer (some ⟨r,0,none⟩),.pointer (some ⟨c,0,none⟩),.pointer (some ⟨r,0,none⟩),.pointer (some ⟨c,0,none⟩),.int .i64 (q.1.length : Nat),.string t,u,.tuple #[opv o (.slice va vn vc),.bool ok],opv o (.slice va vn vc),x26,x27,x28,x29,x30,x31,x32,x33,x34,x35,x36,x37,x38],defers := [] } from by kernel_rfl]
    refine wpAnyH_take (i := 10) (oi := da10) (v := .bool ok) (by kernel_rfl) da_lit (by kernel_rfl) (by kernel_rfl) (fun c a W h => hP c _ _ _ W h) (Or.inl ⟨by kernel_rfl, fun W hW => by kernel_rfl⟩) hs ?_
    rw [show Act.put _ da10.dst _ = { tmps := #[x0,x1,x2,x3,.pointer (some ⟨r,0,none⟩),x5,.pointer (some ⟨pb,0,none⟩),x7,x8,x9,x10,x11,x12,x13,x14,x15,.tuple #[opv o (.slice va vn vc),.bool ok],.pointer (some ⟨r,0,none⟩),.pointer (some ⟨c,0,none⟩),.pointer (some ⟨r,0,none⟩),.pointer (some ⟨c,0,none⟩),.int .i64 (q.1.length : Nat),.string t,u,.tuple #[opv o (.slice va vn vc),.bool ok],opv o (.slice va vn vc),.bool ok,x27,x28,x29,x30,x31,x32,x33,x34,x35,x36,x37,x38],defers := [] } from by kernel_rfl]
    refine wpAnyH_all (rs := [12]) (by kernel_rfl) (by simp) (fun i hi => ?_)
    obtain rfl := List.mem_singleton.1 hi
    refine hb_st (p := da12) (by kernel_rfl) (by kernel_rfl) rfl rfl rfl ⟨_, _, _, rfl⟩ hob ?_
    rw [show Act.put _ da12.dst _ = { tmps := #[x0,x1,x2,x3,.pointer (some ⟨r,0,none⟩),x5,.pointer (some ⟨pb,0,none⟩),x7,x8,x9,x10,x11,x12,x13,x14,x15,.tuple #[opv o (.slice va vn vc),.bool ok],.pointer (some ⟨r,0,none⟩),.pointer (some ⟨c,0,none⟩),.pointer (some ⟨r,0,none⟩),.pointer (some ⟨c,0,none⟩),.int .i64 (q.1.length : Nat),.string t,u,.tuple #[opv o (.slice va vn vc),.bool ok],opv o (.slice va vn vc),.bool ok,x27,x28,x29,x30,x31,x32,x33,x34,x35,x36,x37,x38],defers := [] } from by kernel_rfl]
    have hff := Fr.of_row W pb (opl o (.slice va vn vc))
    have hs2 : (W.setRow pb (opl o (.slice va vn vc))).heap[r]? = some (rdo c) := (hff.block r (Array.getElem?_eq_some_iff.1 hs).1 (by omega)).trans hs
    refine ⟨hs2, ?_⟩
    refine wpAnyH_take (i := 13) (oi := da13) (v := .bool ok) (by kernel_rfl) da_lit (by kernel_rfl) (by kernel_rfl) (fun c a W h => hP c _ _ _ W h) (Or.inl ⟨by kernel_rfl, fun W hW => by kernel_rfl⟩) hs2 ?_
    rw [show Act.put _ da13.dst _ = { tmps := #[x0,x1,x2,x3,.pointer (some ⟨r,0,none⟩),x5,.pointer (some ⟨pb,0,none⟩),.bool ok,x8,x9,x10,x11,x12,x13,x14,x15,.tuple #[opv o (.slice va vn vc),.bool ok],.pointer (some ⟨r,0,none⟩),.pointer (some ⟨c,0,none⟩),.pointer (some ⟨r,0,none⟩),.pointer (some ⟨c,0,none⟩),.int .i64 (q.1.length : Nat),.string t,u,.tuple #[opv o (.slice va vn vc),.bool ok],opv o (.slice va vn vc),.bool ok,x27,x28,x29,x30,x31,x32,x33,x34,x35,x36,x37,x38],defers := [] } from by kernel_rfl]
    refine wpAnyH_done (by kernel_rfl) (hQ pb u _ _ hs2 ?_ ?_ ?_ hn (setRow_heap _ _ _ _ _ _ hob) hpb) _
    · exact grown_up hg hff hpb
    · exact Cur.fr hc hff (fun e => hpc e.symm) (hob.no_byte ⟨_, _, _, rfl⟩)
    · exact cs_far hk hff hne
  have A3 : ∀ (pb : Nat) (u : Value) (W : World),W.heap[r]? = some (rdo c) → w.grownBy W (some c) → Cu W c q2 → Bs W u (tx t) → Ob W pb Opn.zero (.slice none 0 0) → w.heap.size ≤ pb → pb ≠ c → wpAnyH Tryz.prog .any das Q (fun W => W.heap[r]? = some (rdo c)) 6 #[true,true,true,true,true,true,true,false,false,false,false,true,false,false] { tmps := #[x0,x1,x2,x3,.pointer (some ⟨r,0,none⟩),x5,.pointer (some ⟨pb,0,none⟩),x7,x8,x9,x10,x11,x12,x13,x14,x15,x16,.pointer (some ⟨r,0,none⟩),.pointer (some ⟨c,0,none⟩),.pointer (some ⟨r,0,none⟩),.pointer (some ⟨c,0,none⟩),.int .i64 (q.1.length : Nat),.string t,u,x24,x25,x26,x27,x28,x29,x30,x31,x32,x33,x34,x35,x36,x37,x38],defers := [] } W := by
    intro pb u W hs hg hc hb hob hpb hpc
    refine wpAnyH_all (rs := [7]) (by kernel_rfl) (by simp) (fun i hi => ?_)
    obtain rfl := List.mem_singleton.1 hi
    refine hb_callx (o := da7) (f := 94) (args := #[u]) (D := fun v W' => ∃ vo, v = .tuple #[opv o vo, .bool ok] ∧ Cs W' vo o.cuts ∧ Below W.heap.size W W' ∧ ∀ k, vo.ownBlock = some k → W.heap.size ≤ k) (by kernel_rfl) (by kernel_rfl) (by kernel_rfl) ?hc7 ?_
    case hc7 =>
      have hcc := decode_any u (tx t) W (hL W hg) hb (by rw [tx_length]; exact hts)
      rw [hd] at hcc
      exact hcc.mono fun e W' ⟨v, h1, h2, h3, h4⟩ => ⟨_, h1, v, rfl, h2, h3, h4⟩
    rintro v W2 ⟨vo, rfl, hk2, hB2, hn2⟩
    rw [show Act.put _ da7.dst _ = { tmps := #[x0,x1,x2,x3,.pointer (some ⟨r,0,none⟩),x5,.pointer (some ⟨pb,0,none⟩),x7,x8,x9,x10,x11,x12,x13,x14,x15,x16,.pointer (some ⟨r,0,none⟩),.pointer (some ⟨c,0,none⟩),.pointer (some ⟨r,0,none⟩),.pointer (some ⟨c,0,none⟩),.int .i64 (q.1.length : Nat),.string t,u,.tuple #[opv o vo,.bool ok],x25,x26,x27,x28,x29,x30,x31,x32,x33,x34,x35,x36,x37,x38],defers := [] } from by kernel_rfl]
    have hs2 : W2.heap[r]? = some (rdo c) := (hB2.block r (Array.getElem?_eq_some_iff.1 hs).1).trans hs
    have hn3 : ∀ k, vo.ownBlock = some k → w.heap.size ≤ k := fun k hk => Nat.le_trans hg.size (hn2 k hk)
    exact ⟨hs2, wpAnyH_listed (by kernel_rfl) (A4 pb u vo W2 hs2 (World.grownBy.trans hg (World.grownBy.of_below hB2)) (Cur.below hc hB2) hk2 hn3 (hob.below hB2) hpb hpc (.inr (fun e => by have h1 := hn2 pb e; have h2 := hob.lt; omega)))⟩
  have A2 : ∀ (pb : Nat) (W : World),W.heap[r]? = some (rdo c) → w.grownBy W (some c) → Cu W c q2 → Ob W pb Opn.zero (.slice none 0 0) → w.heap.size ≤ pb → pb ≠ c → wpAnyH Tryz.prog .any das Q (fun W => W.heap[r]? = some (rdo c)) 7 #[true,true,true,true,true,true,false,false,false,false,false,true,false,false] { tmps := #[x0,x1,x2,x3,.pointer (some ⟨r,0,none⟩),x5,.pointer (some ⟨pb,0,none⟩),x7,x8,x9,x10,x11,x12,x13,x14,x15,x16,.pointer (some ⟨r,0,none⟩),.pointer (some ⟨c,0,none⟩),.pointer (some ⟨r,0,none⟩),.pointer (some ⟨c,0,none⟩),.int .i64 (q.1.length : Nat),.string t,x23,x24,x25,x26,x27,x28,x29,x30,x31,x32,x33,x34,x35,x36,x37,x38],defers := [] } W := by
    intro pb W hs hg hc hob hpb hpc
    refine wpAnyH_all (rs := [6]) (by kernel_rfl) (by simp) (fun i hi => ?_)
    obtain rfl := List.mem_singleton.1 hi
    obtain ⟨u, W2, hrun, hb2, hB2⟩ := tobytes t W hts
    refine hb_new (o := da6) (v := u) (w' := W2) (by kernel_rfl) (by kernel_rfl) (run_cv rfl rfl hrun) ?_
    rw [show Act.put _ da6.dst _ = { tmps := #[x0,x1,x2,x3,.pointer (some ⟨r,0,none⟩),x5,.pointer (some ⟨pb,0,none⟩),x7,x8,x9,x10,x11,x12,x13,x14,x15,x16,.pointer (some ⟨r,0,none⟩),.pointer (some ⟨c,0,none⟩),.pointer (some ⟨r,0,none⟩),.pointer (some ⟨c,0,none⟩),.int .i64 (q.1.length : Nat),.string t,u,x24,x25,x26,x27,x28,x29,x30,x31,x32,x33,x34,x35,x36,x37,x38],defers := [] } from by kernel_rfl]
    have hs2 : W2.heap[r]? = some (rdo c) := (hB2.block r (Array.getElem?_eq_some_iff.1 hs).1).trans hs
    exact ⟨hs2, wpAnyH_listed (by kernel_rfl) (A3 pb u W2 hs2 (World.grownBy.trans hg (World.grownBy.of_below hB2)) (Cur.below hc hB2) hb2 (hob.below hB2) hpb hpc)⟩
  have A1 : ∀ (pb : Nat) (W : World),W.heap[r]? = some (rdo c) → w.grownBy W (some c) → Cu W c q → Ob W pb Opn.zero (.slice none 0 0) → w.heap.size ≤ pb → pb ≠ c → wpAnyH Tryz.prog .any das Q (fun W => W.heap[r]? = some (rdo c)) 8 #[true,true,true,true,true,false,false,false,false,false,false,true,false,false] { tmps := #[x0,x1,x2,x3,.pointer (some ⟨r,0,none⟩),x5,.pointer (some ⟨pb,0,none⟩),x7,x8,x9,x10,x11,x12,x13,x14,x15,x16,.pointer (some ⟨r,0,none⟩),.pointer (some ⟨c,0,none⟩),.pointer (some ⟨r,0,none⟩),.pointer (some ⟨c,0,none⟩),.int .i64 (q.1.length : Nat),x22,x23,x24,x25,x26,x27,x28,x29,x30,x31,x32,x33,x34,x35,x36,x37,x38],defers := [] } W := by
    intro pb W hs hg hc hob hpb hpc
    refine wpAnyH_all (rs := [5]) (by kernel_rfl) (by simp) (fun i hi => ?_)
    obtain rfl := List.mem_singleton.1 hi
    refine hb_callx (o := da5) (f := 95) (args := #[.pointer (some ⟨c, 0, none⟩), .int .i64 (q.1.length : Nat)]) (D := fun v W' => v = .string t ∧ Cu W' c q2 ∧ W.grownBy W' (some c)) (by kernel_rfl) (by kernel_rfl) (by kernel_rfl) ?hc5 ?_
    case hc5 =>
      have hcc := text_s c q (mOwn q) W hc
      rw [ht] at hcc
      exact hcc.mono fun e W' ⟨h1, h2, h3⟩ => ⟨_, h1, rfl, h2, h3⟩
    rintro v W2 ⟨rfl, hc2, hg2⟩
    rw [show Act.put _ da5.dst _ = { tmps := #[x0,x1,x2,x3,.pointer (some ⟨r,0,none⟩),x5,.pointer (some ⟨pb,0,none⟩),x7,x8,x9,x10,x11,x12,x13,x14,x15,x16,.pointer (some ⟨r,0,none⟩),.pointer (some ⟨c,0,none⟩),.pointer (some ⟨r,0,none⟩),.pointer (some ⟨c,0,none⟩),.int .i64 (q.1.length : Nat),.string t,x23,x24,x25,x26,x27,x28,x29,x30,x31,x32,x33,x34,x35,x36,x37,x38],defers := [] } from by kernel_rfl]
    have hs2 : W2.heap[r]? = some (rdo c) := (hg2.block r (Array.getElem?_eq_some_iff.1 hs).1 (by simp; omega)).trans hs
    have hob2 : Ob W2 pb Opn.zero (.slice none 0 0) := (hg2.block pb hob.lt (by simp; omega)).trans hob
    exact ⟨hs2, wpAnyH_listed (by kernel_rfl) (A2 pb W2 hs2 (World.grownBy.trans hg hg2) hc2 hob2 hpb hpc)⟩
  have A0 : ∀ (pb : Nat) (W : World),W.heap[r]? = some (rdo c) → w.grownBy W (some c) → Cu W c q → Ob W pb Opn.zero (.slice none 0 0) → w.heap.size ≤ pb → pb ≠ c → wpAnyH Tryz.prog .any das Q (fun W => W.heap[r]? = some (rdo c)) 9 #[true,true,true,true,false,false,false,false,false,false,false,true,false,false] { tmps := #[x0,x1,x2,x3,.pointer (some ⟨r,0,none⟩),x5,.pointer (some ⟨pb,0,none⟩),x7,x8,x9,x10,x11,x12,x13,x14,x15,x16,.pointer (some ⟨r,0,none⟩),.pointer (some ⟨c,0,none⟩),.pointer (some ⟨r,0,none⟩),.pointer (some ⟨c,0,none⟩),x21,x22,x23,x24,x25,x26,x27,x28,x29,x30,x31,x32,x33,x34,x35,x36,x37,x38],defers := [] } W := by
    intro pb W hs hg hc hob hpb hpc
    refine wpAnyH_all (rs := [4]) (by kernel_rfl) (by simp) (fun i hi => ?_)
    obtain rfl := List.mem_singleton.1 hi
    refine hb_callx (o := da4) (f := 96) (args := #[.pointer (some ⟨c, 0, none⟩)]) (D := fun v W' => v = .int .i64 (q.1.length : Nat) ∧ W = W') (by kernel_rfl) (by kernel_rfl) (by kernel_rfl) ((left_any c q.1 q.2 W hc).mono fun e W' ⟨h1, h2⟩ => ⟨_, h1, rfl, h2⟩) ?_
    rintro v W2 ⟨rfl, rfl⟩
    rw [show Act.put _ da4.dst _ = { tmps := #[x0,x1,x2,x3,.pointer (some ⟨r,0,none⟩),x5,.pointer (some ⟨pb,0,none⟩),x7,x8,x9,x10,x11,x12,x13,x14,x15,x16,.pointer (some ⟨r,0,none⟩),.pointer (some ⟨c,0,none⟩),.pointer (some ⟨r,0,none⟩),.pointer (some ⟨c,0,none⟩),.int .i64 (q.1.length : Nat),x22,x23,x24,x25,x26,x27,x28,x29,x30,x31,x32,x33,x34,x35,x36,x37,x38],defers := [] } from by kernel_rfl]
    exact ⟨hs, wpAnyH_listed (by kernel_rfl) (A1 pb W hs hg hc hob hpb hpc)⟩
  have N4 : ∀ (u : Value) (vo : Value) (W : World),W.heap[r]? = some (rdo c) → w.grownBy W (some c) → Cu W c q2 → Cs W vo o.cuts → (∀ k,vo.ownBlock = some k → w.heap.size ≤ k) → wpAnyH Tryz.prog .any das Q (fun W => W.heap[r]? = some (rdo c)) 6 #[true,true,true,true,true,true,true,true,false,false,false,false,false,false] { tmps := #[x0,x1,x2,x3,.pointer (some ⟨r,0,none⟩),x5,x6,x7,x8,x9,x10,x11,x12,x13,x14,x15,x16,.pointer (some ⟨r,0,none⟩),.pointer (some ⟨c,0,none⟩),.pointer (some ⟨r,0,none⟩),.pointer (some ⟨c,0,none⟩),.int .i64 (q.1.length : Nat),.string t,u,.tuple #[opv o vo,.bool ok],x25,x26,x27,x28,x29,x30,x31,x32,x33,x34,x35,x36,x37,x38],defers := [] } W := by
    intro u vo W hs hg hc hk hn
    obtain ⟨va, vc, rfl, _⟩ := hk.form
    obtain ⟨vn, hvn⟩ : ∃ vn, o.cuts.length = vn := ⟨_, rfl⟩
    rw [hvn] at hk hn ⊢
    refine wpAnyH_take (i := 8) (oi := da8) (v := .tuple #[opv o (.slice va vn vc), .bool ok]) (by kernel_rfl) da_lit (by kernel_rfl) (by kernel_rfl) (fun c a W h => hP c _ _ _ W h) (Or.inl ⟨by kernel_rfl, fun W hW => by kernel_rfl⟩) hs ?_
    rw [show Act.put _ da8.dst _ = { tmps := #[x0,x1,x2,x3,.pointer (some ⟨r,0,none⟩),x5,x6,x7,x8,x9,x10,x11,x12,x13,x14,x15,.tuple #[opv o (.slice va vn vc),.bool ok],.pointer (some ⟨r,0,none⟩),.pointer (some ⟨c,0,none⟩),.pointer (some ⟨r,0,none⟩),.pointer (some ⟨c,0,none⟩),.int .i64 (q.1.length : Nat),.string t,u,.tuple #[opv o (.slice va vn vc),.bool ok],x25,x26,x27,x28,x29,x30,x31,x32,x33,x34,x35,x36,x37,x38],defers := [] } from by kernel_rfl]
    refine wpAnyH_take (i := 9) (oi := da9) (v := opv o (.slice va vn vc)) (by kernel_rfl) da_lit (by kernel_rfl) (by kernel_rfl) (fun c a W h => hP c _ _ _ W h) (Or.inl ⟨by kernel_rfl, fun W hW => by kernel_rfl⟩) hs ?_
    rw [show Act.put _ da9.dst _ = { tmps := #[x0,x1,x2,x3,.pointer (some ⟨r,0,none⟩),x5,x6,x7,x8,x9,x10,x11,x12,x13,x14,x15,.tuple #[opv o (.slice va vn vc),.bool ok],.pointer (some ⟨r,0,none⟩),.pointer (some ⟨c,0,none⟩),.pointer (some ⟨r,0,none⟩),.pointer (some ⟨c,0,none⟩),.int .i64 (q.1.length : Nat),.string t,u,.tuple #[opv o (.slice va vn vc),.bool ok],opv o (.slice va vn vc),x26,x27,x28,x29,x30,x31,x32,x33,x34,x35,x36,x37,x38],defers := [] } from by kernel_rfl]
    refine wpAnyH_take (i := 10) (oi := da10) (v := .bool ok) (by kernel_rfl) da_lit (by kernel_rfl) (by kernel_rfl) (fun c a W h => hP c _ _ _ W h) (Or.inl ⟨by kernel_rfl, fun W hW => by kernel_rfl⟩) hs ?_
    rw [show Act.put _ da10.dst _ = { tmps := #[x0,x1,x2,x3,.pointer (some ⟨r,0,none⟩),x5,x6,x7,x8,x9,x10,x11,x12,x13,x14,x15,.tuple #[opv o (.slice va vn vc),.bool ok],.pointer (some ⟨r,0,none⟩),.pointer (some ⟨c,0,none⟩),.pointer (some ⟨r,0,none⟩),.pointer (some ⟨c,0,none⟩),.int .i64 (q.1.length : Nat),.string t,u,.tuple #[opv o (.slice va vn vc),.bool ok],opv o (.slice va vn vc),.bool ok,x27,x28,x29,x30,x31,x32,x33,x34,x35,x36,x37,x38],defers := [] } from by kernel_rfl]
    refine wpAnyH_all (rs := [11]) (by kernel_rfl) (by simp) (fun i hi => ?_)
    obtain rfl := List.mem_singleton.1 hi
    refine hb_new (o := da11) (v := .pointer (some ⟨W.heap.size, 0, none⟩)) (by kernel_rfl) (by kernel_rfl) (run_al_op rfl) ?_
    obtain ⟨pb, hpbe⟩ : ∃ pb, W.heap.size = pb := ⟨_, rfl⟩
    have hA := ba W (opo Opn.zero (.slice none 0 0))
    have hs3 : (W.alloc (opo Opn.zero (.slice none 0 0))).heap[r]? = some (rdo c) := (hA.block r (Array.getElem?_eq_some_iff.1 hs).1).trans hs
    have hob := Ob.new W Opn.zero (.slice none 0 0)
    have hpb : w.heap.size ≤ pb := by rw [← hpbe]; exact hg.size
    have hpc : pb ≠ c := by have := hc.lt; omega
    have hne : o.cuts = [] ∨ (Value.slice va vn vc).ownBlock ≠ some pb := by
      by_cases he : o.cuts = []
      · exact .inl he
      · exact .inr (fun e => by have := hk.blk he e; omega)
    have hg3 := World.grownBy.trans hg (World.grownBy.of_below (row := some c) hA)
    have hc3 := Cur.below hc hA
    have hk3 := hk.below hA
    rw [hpbe] at hob
    rw [hpbe]
    generalize W.alloc (opo Opn.zero (.slice none 0 0)) = W3 at hA hs3 hob hg3 hc3 hk3 ⊢
    rw [show Act.put _ da11.dst _ = { tmps := #[x0,x1,x2,x3,.pointer (some ⟨r,0,none⟩),x5,.pointer (some ⟨pb,0,none⟩),x7,x8,x9,x10,x11,x12,x13,x14,x15,.tuple #[opv o (.slice va vn vc),.bool ok],.pointer (some ⟨r,0,none⟩),.pointer (some ⟨c,0,none⟩),.pointer (some ⟨r,0,none⟩),.pointer (some ⟨c,0,none⟩),.int .i64 (q.1.length : Nat),.string t,u,.tuple #[opv o (.slice va vn vc),.bool ok],opv o (.slice va vn vc),.bool ok,x27,x28,x29,x30,x31,x32,x33,x34,x35,x36,x37,x38],defers := [] } from by kernel_rfl]
    refine ⟨hs3, ?_⟩
    refine wpAnyH_all (rs := [12]) (by kernel_rfl) (by simp) (fun i hi => ?_)
    obtain rfl := List.mem_singleton.1 hi
    refine hb_st (p := da12) (by kernel_rfl) (by kernel_rfl) rfl rfl rfl ⟨_, _, _, rfl⟩ hob ?_
    rw [show Act.put _ da12.dst _ = { tmps := #[x0,x1,x2,x3,.pointer (some ⟨r,0,none⟩),x5,.pointer (some ⟨pb,0,none⟩),x7,x8,x9,x10,x11,x12,x13,x14,x15,.tuple #[opv o (.slice va vn vc),.bool ok],.pointer (some ⟨r,0,none⟩),.pointer (some ⟨c,0,none⟩),.pointer (some ⟨r,0,none⟩),.pointer (some ⟨c,0,none⟩),.int .i64 (q.1.length : Nat),.string t,u,.tuple #[opv o (.slice va vn vc),.bool ok],opv o (.slice va vn vc),.bool ok,x27,x28,x29,x30,x31,x32,x33,x34,x35,x36,x37,x38],defers := [] } from by kernel_rfl]
    have hff := Fr.of_row W3 pb (opl o (.slice va vn vc))
    have hs2 : (W3.setRow pb (opl o (.slice va vn vc))).heap[r]? = some (rdo c) := (hff.block r (Array.getElem?_eq_some_iff.1 hs3).1 (by omega)).trans hs3
    refine ⟨hs2, ?_⟩
    refine wpAnyH_take (i := 13) (oi := da13) (v := .bool ok) (by kernel_rfl) da_lit (by kernel_rfl) (by kernel_rfl) (fun c a W h => hP c _ _ _ W h) (Or.inl ⟨by kernel_rfl, fun W hW => by kernel_rfl⟩) hs2 ?_
    rw [show Act.put _ da13.dst _ = { tmps := #[x0,x1,x2,x3,.pointer (some ⟨r,0,none⟩),x5,.pointer (some ⟨pb,0,none⟩),.bool ok,x8,x9,x10,x11,x12,x13,x14,x15,.tuple #[opv o (.slice va vn vc),.bool ok],.pointer (some ⟨r,0,none⟩),.pointer (some ⟨c,0,none⟩),.pointer (some ⟨r,0,none⟩),.pointer (some ⟨c,0,none⟩),.int .i64 (q.1.length : Nat),.string t,u,.tuple #[opv o (.slice va vn vc),.bool ok],opv o (.slice va vn vc),.bool ok,x27,x28,x29,x30,x31,x32,x33,x34,x35,x36,x37,x38],defers := [] } from by kernel_rfl]
    refine wpAnyH_done (by kernel_rfl) (hQ pb u _ _ hs2 ?_ ?_ ?_ hn (setRow_heap _ _ _ _ _ _ hob) hpb) _
    · exact grown_up hg3 hff hpb
    · exact Cur.fr hc3 hff (fun e => hpc e.symm) (hob.no_byte ⟨_, _, _, rfl⟩)
    · exact cs_far hk3 hff hne
  have N3 : ∀ (u : Value) (W : World),W.heap[r]? = some (rdo c) → w.grownBy W (some c) → Cu W c q2 → Bs W u (tx t) → wpAnyH Tryz.prog .any das Q (fun W => W.heap[r]? = some (rdo c)) 7 #[true,true,true,true,true,true,true,false,false,false,false,false,false,false] { tmps := #[x0,x1,x2,x3,.pointer (some ⟨r,0,none⟩),x5,x6,x7,x8,x9,x10,x11,x12,x13,x14,x15,x16,.pointer (some ⟨r,0,none⟩),.pointer (some ⟨c,0,none⟩),.pointer (some ⟨r,0,none⟩),.pointer (some ⟨c,0,none⟩),.int .i64 (q.1.length : Nat),.string t,u,x24,x25,x26,x27,x28,x29,x30,x31,x32,x33,x34,x35,x36,x37,x38],defers := [] } W := by
    intro u W hs hg hc hb
    refine wpAnyH_all (rs := [7, 11]) (by kernel_rfl) (by simp) (fun i hi => ?_)
    rcases List.mem_cons.1 hi with rfl | hi
    · skip
      refine hb_callx (o := da7) (f := 94) (args := #[u]) (D := fun v W' => ∃ vo, v = .tuple #[opv o vo, .bool ok] ∧ Cs W' vo o.cuts ∧ Below W.heap.size W W' ∧ ∀ k, vo.ownBlock = some k → W.heap.size ≤ k) (by kernel_rfl) (by kernel_rfl) (by kernel_rfl) ?hc7 ?_
      case hc7 =>
        have hcc := decode_any u (tx t) W (hL W hg) hb (by rw [tx_length]; exact hts)
        rw [hd] at hcc
        exact hcc.mono fun e W' ⟨v, h1, h2, h3, h4⟩ => ⟨_, h1, v, rfl, h2, h3, h4⟩
      rintro v W2 ⟨vo, rfl, hk2, hB2, hn2⟩
      rw [show Act.put _ da7.dst _ = { tmps := #[x0,x1,x2,x3,.pointer (some ⟨r,0,none⟩),x5,x6,x7,x8,x9,x10,x11,x12,x13,x14,x15,x16,.pointer (some ⟨r,0,none⟩),.pointer (some ⟨c,0,none⟩),.pointer (some ⟨r,0,none⟩),.pointer (some ⟨c,0,none⟩),.int .i64 (q.1.length : Nat),.string t,u,.tuple #[opv o vo,.bool ok],x25,x26,x27,x28,x29,x30,x31,x32,x33,x34,x35,x36,x37,x38],defers := [] } from by kernel_rfl]
      have hs2 : W2.heap[r]? = some (rdo c) := (hB2.block r (Array.getElem?_eq_some_iff.1 hs).1).trans hs
      have hn3 : ∀ k, vo.ownBlock = some k → w.heap.size ≤ k := fun k hk => Nat.le_trans hg.size (hn2 k hk)
      exact ⟨hs2, wpAnyH_listed (by kernel_rfl) (N4  u vo W2 hs2 (World.grownBy.trans hg (World.grownBy.of_below hB2)) (Cur.below hc hB2) hk2 hn3 )⟩
    · obtain rfl := List.mem_singleton.1 hi
      refine hb_new (o := da11) (v := .pointer (some ⟨W.heap.size, 0, none⟩)) (by kernel_rfl) (by kernel_rfl) (run_al_op rfl) ?_
      rw [show Act.put _ da11.dst _ = { tmps := #[x0,x1,x2,x3,.pointer (some ⟨r,0,none⟩),x5,.pointer (some ⟨W.heap.size,0,none⟩),x7,x8,x9,x10,x11,x12,x13,x14,x15,x16,.pointer (some ⟨r,0,none⟩),.pointer (some ⟨c,0,none⟩),.pointer (some ⟨r,0,none⟩),.pointer (some ⟨c,0,none⟩),.int .i64 (q.1.length : Nat),.string t,u,x24,x25,x26,x27,x28,x29,x30,x31,x32,x33,x34,x35,x36,x37,x38],defers := [] } from by kernel_rfl]
      have hA := ba W (opo Opn.zero (.slice none 0 0))
      have hs2 : (W.alloc (opo Opn.zero (.slice none 0 0))).heap[r]? = some (rdo c) := (hA.block r (Array.getElem?_eq_some_iff.1 hs).1).trans hs
      exact ⟨hs2, wpAnyH_listed (by kernel_rfl) (A3 W.heap.size u _ hs2 (World.grownBy.trans hg (World.grownBy.of_below hA)) (Cur.below hc hA) (hb.below hA) (Ob.new W _ _) hg.size (by have := hc.lt; omega))⟩
  have N2 : ∀ (W : World),W.heap[r]? = some (rdo c) → w.grownBy W (some c) → Cu W c q2 → wpAnyH Tryz.prog .any das Q (fun W => W.heap[r]? = some (rdo c)) 8 #[true,true,true,true,true,true,false,false,false,false,false,false,false,false] { tmps := #[x0,x1,x2,x3,.pointer (some ⟨r,0,none⟩),x5,x6,x7,x8,x9,x10,x11,x12,x13,x14,x15,x16,.pointer (some ⟨r,0,none⟩),.pointer (some ⟨c,0,none⟩),.pointer (some ⟨r,0,none⟩),.pointer (some ⟨c,0,none⟩),.int .i64 (q.1.length : Nat),.string t,x23,x24,x25,x26,x27,x28,x29,x30,x31,x32,x33,x34,x35,x36,x37,x38],defers := [] } W := by
    intro W hs hg hc
    refine wpAnyH_all (rs := [6, 11]) (by kernel_rfl) (by simp) (fun i hi => ?_)
    rcases List.mem_cons.1 hi with rfl | hi
    · skip
      obtain ⟨u, W2, hrun, hb2, hB2⟩ := tobytes t W hts
      refine hb_new (o := da6) (v := u) (w' := W2) (by kernel_rfl) (by kernel_rfl) (run_cv rfl rfl hrun) ?_
      rw [show Act.put _ da6.dst _ = { tmps := #[x0,x1,x2,x3,.pointer (some ⟨r,0,none⟩),x5,x6,x7,x8,x9,x10,x11,x12,x13,x14,x15,x16,.pointer (some ⟨r,0,none⟩),.pointer (some ⟨c,0,none⟩),.pointer (some ⟨r,0,none⟩),.pointer (some ⟨c,0,none⟩),.int .i64 (q.1.length : Nat),.string t,u,x24,x25,x26,x27,x28,x29,x30,x31,x32,x33,x34,x35,x36,x37,x38],defers := [] } from by kernel_rfl]
      have hs2 : W2.heap[r]? = some (rdo c) := (hB2.block r (Array.getElem?_eq_some_iff.1 hs).1).trans hs
      exact ⟨hs2, wpAnyH_listed (by kernel_rfl) (N3  u W2 hs2 (World.grownBy.trans hg (World.grownBy.of_below hB2)) (Cur.below hc hB2) hb2 )⟩
    · obtain rfl := List.mem_singleton.1 hi
      refine hb_new (o := da11) (v := .pointer (some ⟨W.heap.size, 0, none⟩)) (by kernel_rfl) (by kernel_rfl) (run_al_op rfl) ?_
      rw [show Act.put _ da11.dst _ = { tmps := #[x0,x1,x2,x3,.pointer (some ⟨r,0,none⟩),x5,.pointer (some ⟨W.heap.size,0,none⟩),x7,x8,x9,x10,x11,x12,x13,x14,x15,x16,.pointer (some ⟨r,0,none⟩),.pointer (some ⟨c,0,none⟩),.pointer (some ⟨r,0,none⟩),.pointer (some ⟨c,0,none⟩),.int .i64 (q.1.length : Nat),.string t,x23,x24,x25,x26,x27,x28,x29,x30,x31,x32,x33,x34,x35,x36,x37,x38],defers := [] } from by kernel_rfl]
      have hA := ba W (opo Opn.zero (.slice none 0 0))
      have hs2 : (W.alloc (opo Opn.zero (.slice none 0 0))).heap[r]? = some (rdo c) := (hA.block r (Array.getElem?_eq_some_iff.1 hs).1).trans hs
      exact ⟨hs2, wpAnyH_listed (by kernel_rfl) (A2 W.heap.size  _ hs2 (World.grownBy.trans hg (World.grownBy.of_below hA)) (Cur.below hc hA) (Ob.new W _ _) hg.size (by have := hc.lt; omega))⟩
  have N1 : ∀ (W : World),W.heap[r]? = some (rdo c) → w.grownBy W (some c) → Cu W c q → wpAnyH Tryz.prog .any das Q (fun W => W.heap[r]? = some (rdo c)) 9 #[true,true,true,true,true,false,false,false,false,false,false,false,false,false] { tmps := #[x0,x1,x2,x3,.pointer (some ⟨r,0,none⟩),x5,x6,x7,x8,x9,x10,x11,x12,x13,x14,x15,x16,.pointer (some ⟨r,0,none⟩),.pointer (some ⟨c,0,none⟩),.pointer (some ⟨r,0,none⟩),.pointer (some ⟨c,0,none⟩),.int .i64 (q.1.length : Nat),x22,x23,x24,x25,x26,x27,x28,x29,x30,x31,x32,x33,x34,x35,x36,x37,x38],defers := [] } W := by
    intro W hs hg hc
    refine wpAnyH_all (rs := [5, 11]) (by kernel_rfl) (by simp) (fun i hi => ?_)
    rcases List.mem_cons.1 hi with rfl | hi
    · skip
      refine hb_callx (o := da5) (f := 95) (args := #[.pointer (some ⟨c, 0, none⟩), .int .i64 (q.1.length : Nat)]) (D := fun v W' => v = .string t ∧ Cu W' c q2 ∧ W.grownBy W' (some c)) (by kernel_rfl) (by kernel_rfl) (by kernel_rfl) ?hc5 ?_
      case hc5 =>
        have hcc := text_s c q (mOwn q) W hc
        rw [ht] at hcc
        exact hcc.mono fun e W' ⟨h1, h2, h3⟩ => ⟨_, h1, rfl, h2, h3⟩
      rintro v W2 ⟨rfl, hc2, hg2⟩
      rw [show Act.put _ da5.dst _ = { tmps := #[x0,x1,x2,x3,.pointer (some ⟨r,0,none⟩),x5,x6,x7,x8,x9,x10,x11,x12,x13,x14,x15,x16,.pointer (some ⟨r,0,none⟩),.pointer (some ⟨c,0,none⟩),.pointer (some ⟨r,0,none⟩),.pointer (some ⟨c,0,none⟩),.int .i64 (q.1.length : Nat),.string t,x23,x24,x25,x26,x27,x28,x29,x30,x31,x32,x33,x34,x35,x36,x37,x38],defers := [] } from by kernel_rfl]
      have hs2 : W2.heap[r]? = some (rdo c) := (hg2.block r (Array.getElem?_eq_some_iff.1 hs).1 (by simp; omega)).trans hs
      exact ⟨hs2, wpAnyH_listed (by kernel_rfl) (N2  W2 hs2 (World.grownBy.trans hg hg2) hc2 )⟩
    · obtain rfl := List.mem_singleton.1 hi
      refine hb_new (o := da11) (v := .pointer (some ⟨W.heap.size, 0, none⟩)) (by kernel_rfl) (by kernel_rfl) (run_al_op rfl) ?_
      rw [show Act.put _ da11.dst _ = { tmps := #[x0,x1,x2,x3,.pointer (some ⟨r,0,none⟩),x5,.pointer (some ⟨W.heap.size,0,none⟩),x7,x8,x9,x10,x11,x12,x13,x14,x15,x16,.pointer (some ⟨r,0,none⟩),.pointer (some ⟨c,0,none⟩),.pointer (some ⟨r,0,none⟩),.pointer (some ⟨c,0,none⟩),.int .i64 (q.1.length : Nat),x22,x23,x24,x25,x26,x27,x28,x29,x30,x31,x32,x33,x34,x35,x36,x37,x38],defers := [] } from by kernel_rfl]
      have hA := ba W (opo Opn.zero (.slice none 0 0))
      have hs2 : (W.alloc (opo Opn.zero (.slice none 0 0))).heap[r]? = some (rdo c) := (hA.block r (Array.getElem?_eq_some_iff.1 hs).1).trans hs
      exact ⟨hs2, wpAnyH_listed (by kernel_rfl) (A1 W.heap.size  _ hs2 (World.grownBy.trans hg (World.grownBy.of_below hA)) (Cur.below hc hA) (Ob.new W _ _) hg.size (by have := hc.lt; omega))⟩
  have N0 : ∀ (W : World),W.heap[r]? = some (rdo c) → w.grownBy W (some c) → Cu W c q → wpAnyH Tryz.prog .any das Q (fun W => W.heap[r]? = some (rdo c)) 10 #[true,true,true,true,false,false,false,false,false,false,false,false,false,false] { tmps := #[x0,x1,x2,x3,.pointer (some ⟨r,0,none⟩),x5,x6,x7,x8,x9,x10,x11,x12,x13,x14,x15,x16,.pointer (some ⟨r,0,none⟩),.pointer (some ⟨c,0,none⟩),.pointer (some ⟨r,0,none⟩),.pointer (some ⟨c,0,none⟩),x21,x22,x23,x24,x25,x26,x27,x28,x29,x30,x31,x32,x33,x34,x35,x36,x37,x38],defers := [] } W := by
    intro W hs hg hc
    refine wpAnyH_all (rs := [4, 11]) (by kernel_rfl) (by simp) (fun i hi => ?_)
    rcases List.mem_cons.1 hi with rfl | hi
    · skip
      refine hb_callx (o := da4) (f := 96) (args := #[.pointer (some ⟨c, 0, none⟩)]) (D := fun v W' => v = .int .i64 (q.1.length : Nat) ∧ W = W') (by kernel_rfl) (by kernel_rfl) (by kernel_rfl) ((left_any c q.1 q.2 W hc).mono fun e W' ⟨h1, h2⟩ => ⟨_, h1, rfl, h2⟩) ?_
      rintro v W2 ⟨rfl, rfl⟩
      rw [show Act.put _ da4.dst _ = { tmps := #[x0,x1,x2,x3,.pointer (some ⟨r,0,none⟩),x5,x6,x7,x8,x9,x10,x11,x12,x13,x14,x15,x16,.pointer (some ⟨r,0,none⟩),.pointer (some ⟨c,0,none⟩),.pointer (some ⟨r,0,none⟩),.pointer (some ⟨c,0,none⟩),.int .i64 (q.1.length : Nat),x22,x23,x24,x25,x26,x27,x28,x29,x30,x31,x32,x33,x34,x35,x36,x37,x38],defers := [] } from by kernel_rfl]
      exact ⟨hs, wpAnyH_listed (by kernel_rfl) (N1  W hs hg hc )⟩
    · obtain rfl := List.mem_singleton.1 hi
      refine hb_new (o := da11) (v := .pointer (some ⟨W.heap.size, 0, none⟩)) (by kernel_rfl) (by kernel_rfl) (run_al_op rfl) ?_
      rw [show Act.put _ da11.dst _ = { tmps := #[x0,x1,x2,x3,.pointer (some ⟨r,0,none⟩),x5,.pointer (some ⟨W.heap.size,0,none⟩),x7,x8,x9,x10,x11,x12,x13,x14,x15,x16,.pointer (some ⟨r,0,none⟩),.pointer (some ⟨c,0,none⟩),.pointer (some ⟨r,0,none⟩),.pointer (some ⟨c,0,none⟩),x21,x22,x23,x24,x25,x26,x27,x28,x29,x30,x31,x32,x33,x34,x35,x36,x37,x38],defers := [] } from by kernel_rfl]
      have hA := ba W (opo Opn.zero (.slice none 0 0))
      have hs2 : (W.alloc (opo Opn.zero (.slice none 0 0))).heap[r]? = some (rdo c) := (hA.block r (Array.getElem?_eq_some_iff.1 hs).1).trans hs
      exact ⟨hs2, wpAnyH_listed (by kernel_rfl) (A0 W.heap.size  _ hs2 (World.grownBy.trans hg (World.grownBy.of_below hA)) (Cur.below hc hA) (Ob.new W _ _) hg.size (by have := hc.lt; omega))⟩
  refine wpAnyH_take (i := 0) (oi := da0) (v := .pointer (some ⟨r, 0, none⟩)) (by kernel_rfl) da_lit (by kernel_rfl) (by kernel_rfl) (fun c a W h => hP c _ _ _ W h) (Or.inl ⟨by kernel_rfl, fun W hW => by kernel_rfl⟩) hS ?_
  rw [show Act.put _ da0.dst _ = { tmps := #[x0,x1,x2,x3,.pointer (some ⟨r,0,none⟩),x5,x6,x7,x8,x9,x10,x11,x12,x13,x14,x15,x16,.pointer (some ⟨r,0,none⟩),x18,x19,x20,x21,x22,x23,x24,x25,x26,x27,x28,x29,x30,x31,x32,x33,x34,x35,x36,x37,x38],defers := [] } from by kernel_rfl]
  refine wpAnyH_take (i := 2) (oi := da2) (v := .pointer (some ⟨r, 0, none⟩)) (by kernel_rfl) da_lit (by kernel_rfl) (by kernel_rfl) (fun c a W h => hP c _ _ _ W h) (Or.inl ⟨by kernel_rfl, fun W hW => by kernel_rfl⟩) hS ?_
  rw [show Act.put _ da2.dst _ = { tmps := #[x0,x1,x2,x3,.pointer (some ⟨r,0,none⟩),x5,x6,x7,x8,x9,x10,x11,x12,x13,x14,x15,x16,.pointer (some ⟨r,0,none⟩),x18,.pointer (some ⟨r,0,none⟩),x20,x21,x22,x23,x24,x25,x26,x27,x28,x29,x30,x31,x32,x33,x34,x35,x36,x37,x38],defers := [] } from by kernel_rfl]
  refine wpAnyH_take (i := 1) (oi := da1) (v := .pointer (some ⟨c, 0, none⟩)) (by kernel_rfl) da_lit (by kernel_rfl) (by kernel_rfl) (fun c a W h => hP c _ _ _ W h) (Or.inl ⟨by kernel_rfl, fun W hW => run_ldp rfl rfl (by rw [cell_of_row W r 0 _ _ _ hW]; rfl)⟩) hS ?_
  rw [show Act.put _ da1.dst _ = { tmps := #[x0,x1,x2,x3,.pointer (some ⟨r,0,none⟩),x5,x6,x7,x8,x9,x10,x11,x12,x13,x14,x15,x16,.pointer (some ⟨r,0,none⟩),.pointer (some ⟨c,0,none⟩),.pointer (some ⟨r,0,none⟩),x20,x21,x22,x23,x24,x25,x26,x27,x28,x29,x30,x31,x32,x33,x34,x35,x36,x37,x38],defers := [] } from by kernel_rfl]
  refine wpAnyH_take (i := 3) (oi := da3) (v := .pointer (some ⟨c, 0, none⟩)) (by kernel_rfl) da_lit (by kernel_rfl) (by kernel_rfl) (fun c a W h => hP c _ _ _ W h) (Or.inl ⟨by kernel_rfl, fun W hW => run_ldp rfl rfl (by rw [cell_of_row W r 0 _ _ _ hW]; rfl)⟩) hS ?_
  rw [show Act.put _ da3.dst _ = { tmps := #[x0,x1,x2,x3,.pointer (some ⟨r,0,none⟩),x5,x6,x7,x8,x9,x10,x11,x12,x13,x14,x15,x16,.pointer (some ⟨r,0,none⟩),.pointer (some ⟨c,0,none⟩),.pointer (some ⟨r,0,none⟩),.pointer (some ⟨c,0,none⟩),x21,x22,x23,x24,x25,x26,x27,x28,x29,x30,x31,x32,x33,x34,x35,x36,x37,x38],defers := [] } from by kernel_rfl]
  exact wpAnyH_listed (by kernel_rfl) (N0 (World.drew w) hS (World.grownBy.drewN (World.grownBy.rfl' _ _) 1) hcu)

end Go.Proofs.YteckjkblngmenaaGreatDoor
