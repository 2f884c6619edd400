/-
  Parts of the proof, one behind the other; what each proves stands at its head.
-/
import Derived.Test.YtniecbblhphbdaaDoorPart10
import Derived.Test.YtniecbblhphbdaaDoorPart11
import Derived.Deep.MidRow
import Derived.Test.YtniecbblhphbdaaDoorPart13
import Derived.Test.YtniecbblhphbdaaDoorPart12
import Derived.Lib.ConvBytes
import Derived.OrdersHeld

/-
  SameOps' region whose order is drawn, as a lemma; an op in a row of ops, loaded.
-/
namespace Go.Proofs.YtniecbblhphbdaaDoor
open Go.RowKit
set_option linter.unusedVariables false
set_option maxRecDepth 100000

theorem run_load_opat {p : Oper} {a : Act} {W : World} {x : Operand} {b off : Nat} {o : Opn} {v : Value} (ho : p.op = .load 30 x) (hx : a.eval x = .pointer (some ⟨b, off, none⟩)) (hc : ∀ i, i < 20 → W.cell? ⟨b, off + i, none⟩ = (opl o v)[i]?) : (execOp a.eval p).run Tryd.prog W = .ok (.value (opv o v)) W := by
  have h := run_loadAt_mid (P := Tryd.prog) W b off 30 (opl o v).toList _ (fun j u hj => by
    have hl : j < 20 := (List.getElem?_eq_some_iff.1 hj).1
    rw [hc j hl]
    simpa using hj) Tryd.underlying30 rfl (by kernel_rfl)
  unfold execOp
  simp only [ho, hx, Sem.run_bind, h, Result.andThen_ok, Sem.run_pure]
theorem run_idx_ops {p : Oper} {a : Act} {W : World} {x y : Operand} {b off n c j : Nat} (ho : p.op = .indexAddr 33 x y) (hx : a.eval x = .slice (some ⟨b, off, none⟩) n c) (hy : a.eval y = .int .i64 (j : Nat)) (hj : j < n) : (execOp a.eval p).run Tryd.prog W = .ok (.value (.pointer (some ⟨b, off + j * 20, none⟩))) W := by
  have h1 : (j : Int) < (n : Int) := by omega
  have h2 : (0 : Int) ≤ (j : Int) := by omega
  unfold execOp
  simp only [ho, hx, hy]
  simp [go_sem, h1, h2]

def mp0 : Oper := { dst := some 17, op := Op.move (Operand.tmp 0), type := 33, pos := "ref.go:148", after := #[], guard := none }
def mp1 : Oper := { dst := some 18, op := Op.move (Operand.tmp 5), type := 3, pos := "ref.go:148", after := #[], guard := none }
def mp2 : Oper := { dst := some 19, op := Op.indexAddr 33 (Operand.tmp 17) (Operand.tmp 18), type := 0, pos := "ref.go:148", after := #[{ on := 0, ground := Ground.data }, { on := 1, ground := Ground.data }], guard := none }
def mp3 : Oper := { dst := some 20, op := Op.load 30 (Operand.tmp 19), type := 30, pos := "ref.go:148", after := #[{ on := 2, ground := Ground.data }], guard := none }
def mp4 : Oper := { dst := some 21, op := Op.move (Operand.tmp 1), type := 33, pos := "ref.go:148", after := #[], guard := none }
def mp5 : Oper := { dst := some 22, op := Op.move (Operand.tmp 5), type := 3, pos := "ref.go:148", after := #[], guard := none }
def mp6 : Oper := { dst := some 23, op := Op.indexAddr 33 (Operand.tmp 21) (Operand.tmp 22), type := 0, pos := "ref.go:148", after := #[{ on := 4, ground := Ground.data }, { on := 5, ground := Ground.data }], guard := none }
def mp7 : Oper := { dst := some 24, op := Op.load 30 (Operand.tmp 23), type := 30, pos := "ref.go:148", after := #[{ on := 6, ground := Ground.data }], guard := none }
def mp8 : Oper := { dst := some 25, op := Op.call { callee := Callee.value (Operand.func 13), args := #[Operand.tmp 20, Operand.tmp 24], argTypes := #[30, 30] }, type := 4, pos := "ref.go:148", after := #[{ on := 3, ground := Ground.data }, { on := 7, ground := Ground.data }], guard := none }
def mp9 : Oper := { dst := some 26, op := Op.unOp UnOp.not 4 (Operand.tmp 25), type := 4, pos := "ref.go:148", after := #[{ on := 8, ground := Ground.data }], guard := none }
def mps : Array Oper := #[mp0, mp1, mp2, mp3, mp4, mp5, mp6, mp7, mp8, mp9]
theorem mp_lex : Region.lexB .any mps = true := by kernel_rfl

theorem so_region (w : World) (b1 o1 c1 b2 o2 c2 n j : Nat) (o : Opn) (v : Value) (p : Opn) (u : Value) (r : Bool) {x2 x3 x4 x6 x7 x8 x9 x10 x11 x12 x13 x14 x15 x16 x17 x18 x19 x20 x21 x22 x23 x24 x25 x26 : Value} {Q : Exit → Act → World → Prop} (hj : j < n) (hn : n ≤ maxLen) (hb1 : b1 < w.heap.size) (hb2 : b2 < w.heap.size) (h1 : ∀ i, i < 20 → w.cell? ⟨b1, o1 + j * 20 + i, none⟩ = (opl o v)[i]?) (h2 : ∀ i, i < 20 → w.cell? ⟨b2, o2 + j * 20 + i, none⟩ = (opl p u)[i]?) (hC : Cs w v o.cuts) (hD : Cs w u p.cuts) (hr : r = true ↔ o = p)
    (hQ : ∀ W, Below w.heap.size w W → Q .normal { tmps := #[.slice (some ⟨b1, o1, none⟩) n c1, .slice (some ⟨b2, o2, none⟩) n c2, x2, x3, x4, .int .i64 (j : Nat), x6, x7, x8, x9, x10, x11, x12, x13, x14, x15, x16, .slice (some ⟨b1, o1, none⟩) n c1, .int .i64 (j : Nat), .pointer (some ⟨b1, o1 + j * 20, none⟩), opv o v, .slice (some ⟨b2, o2, none⟩) n c2, .int .i64 (j : Nat), .pointer (some ⟨b2, o2 + j * 20, none⟩), opv p u, .bool r, .bool (!r)], defers := [] } W) : (Code.region 6 mps true).wp Tryd.prog Q { tmps := #[.slice (some ⟨b1, o1, none⟩) n c1, .slice (some ⟨b2, o2, none⟩) n c2, x2, x3, x4, .int .i64 (j : Nat), x6, x7, x8, x9, x10, x11, x12, x13, x14, x15, x16, x17, x18, x19, x20, x21, x22, x23, x24, x25, x26], defers := [] } w := by
  refine wp_region_quiet (C := fun W => Below w.heap.size w W) (by kernel_rfl) mp_lex (Below.refl _ _).drew ?_
  change wpQuiet _ _ _ _ [mp0, mp1, mp2, mp3, mp4, mp5, mp6, mp7, mp8, mp9] _
  refine qs_val (.slice (some ⟨b1, o1, none⟩) n c1) { tmps := #[.slice (some ⟨b1, o1, none⟩) n c1, .slice (some ⟨b2, o2, none⟩) n c2, x2, x3, x4, .int .i64 (j : Nat), x6, x7, x8, x9, x10, x11, x12, x13, x14, x15, x16, .slice (some ⟨b1, o1, none⟩) n c1, x18, x19, x20, x21, x22, x23, x24, x25, x26], defers := [] } (by kernel_rfl) (fun W hW => by kernel_rfl) (by kernel_rfl) ?_
  refine qs_val (.int .i64 (j : Nat)) { tmps := #[.slice (some ⟨b1, o1, none⟩) n c1, .slice (some ⟨b2, o2, none⟩) n c2, x2, x3, x4, .int .i64 (j : Nat), x6, x7, x8, x9, x10, x11, x12, x13, x14, x15, x16, .slice (some ⟨b1, o1, none⟩) n c1, .int .i64 (j : Nat), x19, x20, x21, x22, x23, x24, x25, x26], defers := [] } (by kernel_rfl) (fun W hW => by kernel_rfl) (by kernel_rfl) ?_
  refine qs_val (.pointer (some ⟨b1, o1 + j * 20, none⟩)) { tmps := #[.slice (some ⟨b1, o1, none⟩) n c1, .slice (some ⟨b2, o2, none⟩) n c2, x2, x3, x4, .int .i64 (j : Nat), x6, x7, x8, x9, x10, x11, x12, x13, x14, x15, x16, .slice (some ⟨b1, o1, none⟩) n c1, .int .i64 (j : Nat), .pointer (some ⟨b1, o1 + j * 20, none⟩), x20, x21, x22, x23, x24, x25, x26], defers := [] } (by kernel_rfl) (fun W hW => run_idx_ops rfl rfl rfl hj) (by kernel_rfl) ?_
  refine qs_val (opv o v) { tmps := #[.slice (some ⟨b1, o1, none⟩) n c1, .slice (some ⟨b2, o2, none⟩) n c2, x2, x3, x4, .int .i64 (j : Nat), x6, x7, x8, x9, x10, x11, x12, x13, x14, x15, x16, .slice (some ⟨b1, o1, none⟩) n c1, .int .i64 (j : Nat), .pointer (some ⟨b1, o1 + j * 20, none⟩), opv o v, x21, x22, x23, x24, x25, x26], defers := [] } (by kernel_rfl) (fun W hW => run_load_opat rfl rfl (fun i hi => (hW.cell hb1).trans (h1 i hi))) (by kernel_rfl) ?_
  refine qs_val (.slice (some ⟨b2, o2, none⟩) n c2) { tmps := #[.slice (some ⟨b1, o1, none⟩) n c1, .slice (some ⟨b2, o2, none⟩) n c2, x2, x3, x4, .int .i64 (j : Nat), x6, x7, x8, x9, x10, x11, x12, x13, x14, x15, x16, .slice (some ⟨b1, o1, none⟩) n c1, .int .i64 (j : Nat), .pointer (some ⟨b1, o1 + j * 20, none⟩), opv o v, .slice (some ⟨b2, o2, none⟩) n c2, x22, x23, x24, x25, x26], defers := [] } (by kernel_rfl) (fun W hW => by kernel_rfl) (by kernel_rfl) ?_
  refine qs_val (.int .i64 (j : Nat)) { tmps := #[.slice (some ⟨b1, o1, none⟩) n c1, .slice (some ⟨b2, o2, none⟩) n c2, x2, x3, x4, .int .i64 (j : Nat), x6, x7, x8, x9, x10, x11, x12, x13, x14, x15, x16, .slice (some ⟨b1, o1, none⟩) n c1, .int .i64 (j : Nat), .pointer (some ⟨b1, o1 + j * 20, none⟩), opv o v, .slice (some ⟨b2, o2, none⟩) n c2, .int .i64 (j : Nat), x23, x24, x25, x26], defers := [] } (by kernel_rfl) (fun W hW => by kernel_rfl) (by kernel_rfl) ?_
  refine qs_val (.pointer (some ⟨b2, o2 + j * 20, none⟩)) { tmps := #[.slice (some ⟨b1, o1, none⟩) n c1, .slice (some ⟨b2, o2, none⟩) n c2, x2, x3, x4, .int .i64 (j : Nat), x6, x7, x8, x9, x10, x11, x12, x13, x14, x15, x16, .slice (some ⟨b1, o1, none⟩) n c1, .int .i64 (j : Nat), .pointer (some ⟨b1, o1 + j * 20, none⟩), opv o v, .slice (some ⟨b2, o2, none⟩) n c2, .int .i64 (j : Nat), .pointer (some ⟨b2, o2 + j * 20, none⟩), x24, x25, x26], defers := [] } (by kernel_rfl) (fun W hW => run_idx_ops rfl rfl rfl hj) (by kernel_rfl) ?_
  refine qs_val (opv p u) { tmps := #[.slice (some ⟨b1, o1, none⟩) n c1, .slice (some ⟨b2, o2, none⟩) n c2, x2, x3, x4, .int .i64 (j : Nat), x6, x7, x8, x9, x10, x11, x12, x13, x14, x15, x16, .slice (some ⟨b1, o1, none⟩) n c1, .int .i64 (j : Nat), .pointer (some ⟨b1, o1 + j * 20, none⟩), opv o v, .slice (some ⟨b2, o2, none⟩) n c2, .int .i64 (j : Nat), .pointer (some ⟨b2, o2 + j * 20, none⟩), opv p u, x25, x26], defers := [] } (by kernel_rfl) (fun W hW => run_load_opat rfl rfl (fun i hi => (hW.cell hb2).trans (h2 i hi))) (by kernel_rfl) ?_
  refine qs_call (f := 13) (args := #[opv o v, opv p u]) (.bool r) { tmps := #[.slice (some ⟨b1, o1, none⟩) n c1, .slice (some ⟨b2, o2, none⟩) n c2, x2, x3, x4, .int .i64 (j : Nat), x6, x7, x8, x9, x10, x11, x12, x13, x14, x15, x16, .slice (some ⟨b1, o1, none⟩) n c1, .int .i64 (j : Nat), .pointer (some ⟨b1, o1 + j * 20, none⟩), opv o v, .slice (some ⟨b2, o2, none⟩) n c2, .int .i64 (j : Nat), .pointer (some ⟨b2, o2 + j * 20, none⟩), opv p u, .bool r, x26], defers := [] } (by kernel_rfl) (fun W => by kernel_rfl) (fun W hW => (sameop_any o p v u W (hC.below hW) (hD.below hW)).mono fun _ _ ⟨q, e1, e2, e3⟩ => ⟨by rw [e1, Bool.eq_iff_iff.2 (e2.trans hr.symm)], bt hW e3⟩) (by kernel_rfl) ?_
  refine qs_val (.bool (!r)) { tmps := #[.slice (some ⟨b1, o1, none⟩) n c1, .slice (some ⟨b2, o2, none⟩) n c2, x2, x3, x4, .int .i64 (j : Nat), x6, x7, x8, x9, x10, x11, x12, x13, x14, x15, x16, .slice (some ⟨b1, o1, none⟩) n c1, .int .i64 (j : Nat), .pointer (some ⟨b1, o1 + j * 20, none⟩), opv o v, .slice (some ⟨b2, o2, none⟩) n c2, .int .i64 (j : Nat), .pointer (some ⟨b2, o2 + j * 20, none⟩), opv p u, .bool r, .bool (!r)], defers := [] } (by kernel_rfl) (fun W hW => by kernel_rfl) (by kernel_rfl) ?_
  exact hQ

end Go.Proofs.YtniecbblhphbdaaDoor

/-
  That offshootref00.SameOps tells whether two rows of ops are one is proved here.
-/
namespace Go.Proofs.YtniecbblhphbdaaDoor
open Go.RowKit
set_option linter.unusedVariables false
set_option maxRecDepth 100000

abbrev fsts (l : List (Opn × Value)) : List Opn := l.map Prod.fst
theorem take_step_op {xs ys : List (Opn × Value)} {k : Nat} (h1 : k < xs.length) (h2 : k < ys.length) (h : fsts (xs.take k) = fsts (ys.take k)) (he : (xs[k]).1 = (ys[k]).1) : fsts (xs.take (k + 1)) = fsts (ys.take (k + 1)) := by
  rw [List.take_succ_eq_append_getElem h1, List.take_succ_eq_append_getElem h2]
  unfold fsts at *
  rw [List.map_append, List.map_append, h]
  simp [he]

set_option maxHeartbeats 2000000 in
theorem sameops_any (a b : Value) (xs ys : List (Opn × Value)) (w : World) (h1 : Os w a xs) (h2 : Os w b ys) :
    Calls Tryd.prog 14 #[a, b] w fun e w' => ∃ r, e = .returned (.bool r) ∧ (r = true ↔ fsts xs = fsts ys) ∧ Below w.heap.size w w' := by
  have l1 := Sl.len h1.1
  have l2 := Sl.len h2.1
  unfold maxLen at l1 l2
  by_cases hl : xs.length = ys.length
  · by_cases hz : xs.length = 0
    · have e1 : xs = [] := List.eq_nil_of_length_eq_zero hz
      have e2 : ys = [] := List.eq_nil_of_length_eq_zero (by omega)
      subst e1 e2
      obtain ⟨a1, c1, rfl, _⟩ := Sl.form h1.1
      obtain ⟨a2, c2, rfl, _⟩ := Sl.form h2.1
      clear h1 h2 l1 l2 hl hz
      go_enter Tryd.func14, Tryd.ntmps14
      go_wp2
      refine wp_loop_rounds 1 ?_
      rw [rounds_succ]
      go_wp2
      go_ret
      exact ⟨true, rfl, by simp, Below.refl _ _⟩
    · obtain ⟨b1, o1, c1, rfl, _, _, hb1, hc1⟩ := h1.inv (by omega)
      obtain ⟨b2, o2, c2, rfl, _, _, hb2, hc2⟩ := h2.inv (by omega)
      rw [← hl]
      obtain ⟨n, hn⟩ : ∃ n, xs.length = n := ⟨_, rfl⟩
      have HL : Hid (ys.length = n) := by rw [← hl]; exact hn
      have HN : Hid (xs.length = n) := hn
      have HC1 := hid hc1
      have HC2 := hid hc2
      have HV1 := hid h1.2
      have HV2 := hid h2.2
      have HB1 := hid hb1
      have HB2 := hid hb2
      rw [hn]
      rw [hn] at hz l1
      clear hn hl h1 h2 hc1 hc2 hb1 hb2
      have hnn : ((n : Int) != (n : Int)) = false := by simp
      go_enter Tryd.func14, Tryd.ntmps14
      go_wp2
      go_loopw [5] (fun i wr => ∃ k : Nat, k ≤ n ∧ i = .int .i64 k ∧ Below w.heap.size w wr ∧ fsts (xs.take k) = fsts (ys.take k)) (fun i _ => n - (intOf i).toNat)
      case atStart => exact ⟨0, Nat.zero_le _, rfl, Below.refl _ _, by simp⟩
      case round =>
        obtain ⟨k, hk, rfl, hb, ht⟩ := hrel
        have HT := hid ht
        have BB := hid hb
        clear ht hb
        by_cases hlt : k < n
        · have hx : k < xs.length := by have := HN.out; omega
          have hy : k < ys.length := by have := HL.out; omega
          have g1 := HC1.out k hx
          have g2 := HC2.out k hy
          have v1 := HV1.out _ (List.getElem_mem hx)
          have v2 := HV2.out _ (List.getElem_mem hy)
          obtain ⟨⟨p1, p2⟩, hp⟩ : ∃ p, xs[k] = p := ⟨_, rfl⟩
          obtain ⟨⟨q1, q2⟩, hq⟩ : ∃ p, ys[k] = p := ⟨_, rfl⟩
          rw [hp] at g1 v1
          rw [hq] at g2 v2
          have HP := hid hp
          have HQ := hid hq
          dsimp only at g1 g2 v1 v2
          obtain ⟨r, hr⟩ : ∃ r : Bool, r = true ↔ p1 = q1 := by
            by_cases h : p1 = q1
            · exact ⟨true, by simp [h]⟩
            · exact ⟨false, by simp [h]⟩
          have HRR := hid hr
          have b1' : (k : Int) < (n : Int) := by omega
          have G1 := hid g1
          have G2 := hid g2
          have V1 := hid v1
          have V2 := hid v2
          clear hp hq g1 g2 v1 v2 hr
          go_upto_region 6 with fail
          refine so_region wr b1 o1 c1 b2 o2 c2 n k p1 p2 q1 q2 r hlt (by unfold maxLen; omega) (Nat.lt_of_lt_of_le HB1.out BB.out.size) (Nat.lt_of_lt_of_le HB2.out BB.out.size) (fun i hi => (BB.out.cell HB1.out).trans (G1.out i hi)) (fun i hi => (BB.out.cell HB2.out).trans (G2.out i hi)) (V1.out.below BB.out) (V2.out.below BB.out) HRR.out (fun W hW => ?_)
          have BW := hid (bt BB.out hW)
          clear hW
          cases r
          · go_wp2
            go_ret
            refine ⟨false, rfl, ⟨fun h => (by cases h), fun h => ?_⟩, BW.out⟩
            have h3 : (fsts xs)[k]? = (fsts ys)[k]? := by rw [h]
            unfold fsts at h3
            rw [List.getElem?_map, List.getElem?_map, List.getElem?_eq_getElem hx, List.getElem?_eq_getElem hy, HP.out, HQ.out] at h3
            simp at h3
            exact HRR.out.2 h3
          · go_wp2
            go_roundw
            case rel =>
              refine ⟨k + 1, by omega, by go_num, BW.out, take_step_op hx hy HT.out ?_⟩
              rw [HP.out, HQ.out]
              exact HRR.out.1 rfl
            case measure => simp [intOf]; omega
        · have b1' : ¬ (k : Int) < (n : Int) := by omega
          go_wp2
          go_ret
          have e1 : k = n := by omega
          have h3 := HT.out
          rw [List.take_of_length_le (by have := HN.out; omega), List.take_of_length_le (by have := HL.out; omega)] at h3
          exact Or.inr ⟨rfl, h3, BB.out⟩
  · have hne : ((xs.length : Int) != (ys.length : Int)) = true := by simp; omega
    obtain ⟨a1, c1, rfl, _⟩ := Sl.form h1.1
    obtain ⟨a2, c2, rfl, _⟩ := Sl.form h2.1
    clear h1 h2
    go_enter Tryd.func14, Tryd.ntmps14
    go_wp2
    go_ret
    refine ⟨false, rfl, ⟨fun h => (by cases h), fun h => ?_⟩, Below.refl _ _⟩
    have := congrArg List.length h
    simp at this
    exact absurd this hl

end Go.Proofs.YtniecbblhphbdaaDoor

/-
  A row of ops that a call makes ('Rw'): what an append of one op to it comes to.
-/
namespace Go.Proofs.YtniecbblhphbdaaDoor
open Go.RowKit
set_option linter.unusedVariables false
set_option maxRecDepth 100000

theorem info_op : (Tryd.prog.info? 30).map (fun i => (i.zero, i.size, i.bytes)) = some (some (opv Opn.zero (.slice none 0 0)), 20, 192) := by kernel_rfl

theorem Cs.keeps {w w' : World} {v : Value} {l : List Ct} (h : Cs w v l) (hk : Keeps w w') : Cs w' v l := by
  obtain ⟨h0, a, c, h1, h2, h3, h4, h5⟩ := h
  refine ⟨h0, a, c, h1, h2, h3, h4, fun j u hu => ?_⟩
  obtain ⟨b, off, e1, e2⟩ := h5 j u hu
  have hm : u ∈ l.flatMap cutc := List.mem_of_getElem? hu
  obtain ⟨q, _, hq⟩ := List.mem_flatMap.1 hm
  simp at hq
  rcases hq with rfl | rfl | rfl | rfl <;> exact ⟨b, off, e1, hk _ _ _ e2⟩

theorem Cs.blk {w : World} {v : Value} {l : List Ct} (h : Cs w v l) (hl : l ≠ []) {k : Nat} (hk : v.ownBlock = some k) : k < w.heap.size := by
  obtain ⟨b, off, c, rfl, _, _, hb, _⟩ := Sl.inv h (List.length_pos_iff.2 hl) (by decide)
  simp [Value.ownBlock] at hk
  omega
theorem Cs.none {w w' : World} {v : Value} (h : Cs w v []) : Cs w' v [] := by
  obtain ⟨h0, a, c, h1, h2, h3, h4, h5⟩ := h
  exact ⟨h0, a, c, h1, h2, h3, h4, fun j u hu => by simp at hu⟩
/-- The cuts lie elsewhere, if there are any. -/
def Aw (v : Value) (p : Opn × Value) : Prop := p.1.cuts = [] ∨ ∀ k, v.ownBlock = some k → p.2.ownBlock ≠ some k
theorem Aw.kept {w w' : World} {v : Value} {p : Opn × Value} (h : Aw v p) (hc : Cs w p.2 p.1.cuts) (hf : Fr (fun k => v.ownBlock = some k) w w') : Cs w' p.2 p.1.cuts := by
  rcases h with h | h
  · rw [h] at hc ⊢; exact hc.none
  · exact Sl.kept hc (fun k hk hlt => hf.block k hlt (fun e => h k e hk))
theorem Aw.moved {w : World} {v v' : Value} {p : Opn × Value} (h : Aw v p) (hc : Cs w p.2 p.1.cuts) (hv : v'.ownBlock = v.ownBlock ∨ v'.ownBlock = some w.heap.size) : Aw v' p := by
  by_cases he : p.1.cuts = []
  · exact .inl he
  · refine .inr (fun k hk e => ?_)
    rcases hv with hv | hv
    · exact (h.resolve_left he) k (by rw [← hv]; exact hk) e
    · rw [hv] at hk
      simp at hk
      have := hc.blk he e
      omega

/-- A row of ops of the call's own, in which there is no byte; the cuts of each op lie elsewhere. -/
def Rw (B : Nat) (w : World) (v : Value) (l : List (Opn × Value)) : Prop :=
  w.ownsRow B 30 20 v l.length (l.flatMap opc) ∧ Clean w v ∧ ∀ p ∈ l, Cs w p.2 p.1.cuts ∧ Aw v p
theorem Rw.nil (B : Nat) (w : World) : Rw B w (.slice none 0 0) [] := ⟨World.ownsRow_nil _ _ _ _, Clean.nil w, fun p hp => by cases hp⟩
theorem Rw.made {B : Nat} {w : World} (hB : B ≤ w.heap.size) : Rw B (w.alloc (.cells #[] 30)) (.slice (some ⟨w.heap.size, 0, none⟩) 0 0) [] := by
  refine ⟨World.ownsRow_made w #[] 0 hB (Nat.zero_le _) rfl, clean_row (heap_alloc_new w _) (fun u hu => by simp at hu), fun p hp => by cases hp⟩
theorem Rw.form {B : Nat} {w : World} {v : Value} {l : List (Opn × Value)} (h : Rw B w v l) : ∃ a c, v = .slice a l.length c := by
  obtain ⟨a, c, e, _⟩ := (Sl.of_own h.1).form
  exact ⟨a, c, e⟩
theorem Rw.os {B : Nat} {w : World} {v : Value} {l : List (Opn × Value)} (h : Rw B w v l) : Os w v l := ⟨Sl.of_own h.1, fun p hp => (h.2.2 p hp).1⟩
theorem Rw.below {B : Nat} {w w' : World} {v : Value} {l : List (Opn × Value)} (h : Rw B w v l) (hb : Below w.heap.size w w') : Rw B w' v l :=
  ⟨own_fr h.1 (Fr.of_below hb : Fr (fun _ => False) _ _) (fun _ _ h => h), h.2.1.kept (fun k hk => hb.block k (h.1.lt k hk).2), fun p hp => ⟨(h.2.2 p hp).1.below hb, (h.2.2 p hp).2⟩⟩
/-- What is done to a cursor's block leaves it. -/
theorem Rw.cur {B T c : Nat} {w w' : World} {v : Value} {l : List (Opn × Value)} {xs : List Int} {lost : Bool} (h : Rw B w v l) (hc : Cur T w c xs lost) (hT : T ≠ 30) (hg : w.grownBy w' (some c)) : Rw B w' v l := by
  have hk := hc.keeps hg
  obtain ⟨u, hu, _⟩ := hc
  have hne : v.ownBlock ≠ some c := own_far h.1 hu hT
  have hf : Fr (fun k => k = c) w w' := Fr.of_grown hg (fun k e => by simp at e; exact e.symm)
  exact ⟨own_fr h.1 hf (fun k hk e => hne (by rw [← e]; exact hk)), h.2.1.kept (fun k hk => hf.block k (h.1.lt k hk).2 (fun e => hne (by rw [← e]; exact hk))), fun p hp => ⟨(h.2.2 p hp).1.keeps hk, (h.2.2 p hp).2⟩⟩

theorem opc_one {p : Opn × Value} {w : World} {l : List Ct} (h : Cs w p.2 l) : (∀ u ∈ opc p, u.oneCell' = true) ∧ ∀ u ∈ opc p, NoB u := by
  obtain ⟨o, v⟩ := p
  obtain ⟨a, c, rfl, _⟩ := h.form
  constructor
  · intro u hu
    simp [opl] at hu
    rcases hu with rfl | rfl | rfl | rfl | rfl | rfl | rfl | rfl | rfl | rfl | rfl | rfl | rfl | rfl | rfl | rfl | rfl | rfl | rfl | rfl <;> rfl
  · intro u hu x e
    subst e
    simp [opl] at hu

theorem wpList_append_op {w : World} {ops : Array Oper} {rest : List Oper} {o : Oper} {a : Act} {Q : Exit → Act → World → Prop} (hgd : o.guard = none) (s x : Operand)
    (ho : o.op = .call { callee := .builtin .append, args := #[s, x], argTypes := #[33, 33] })
    (B : Nat) (v : Value) (l : List (Opn × Value)) (hs : a.eval s = v) (hR : Rw B w v l) (u : Value) (p : Opn × Value) (hx : a.eval x = u) (hu : Os w u [p]) (hp : Aw v p) (hlen : l.length ≤ 1048576) (hB : B ≤ w.heap.size)
    (h : ∀ v' w', Rw B w' v' (l ++ [p]) → Fr (fun k => v.ownBlock = some k) w w' → (v'.ownBlock = v.ownBlock ∨ v'.ownBlock = some w.heap.size) → wpList Tryd.prog ops Q rest (a.put o.dst v') w') :
    wpList Tryd.prog ops Q (o :: rest) a w := by
  have hcp := hu.2 p (List.mem_singleton.2 rfl)
  obtain ⟨k1, k2⟩ := opc_one hcp
  refine wpList_append_cl 33 30 20 192 _ Tryd.underlying33 info_op rfl (by decide) hgd s x ho B v l.length (l.flatMap opc) hs hR.1 u 1 (opc p) hx (by have := hu.1; simpa using this) k1 (by decide) (by omega) (by unfold maxLen; omega) hB hR.2.1
    (fun z hz x e => by subst e; simp [Value.cells, opl] at hz) k2 ?_
  intro v' w' h1 h2 h3 h4
  have hf : Fr (fun k => v.ownBlock = some k) w w' := Fr.of_grown h2 (fun k e => e)
  refine h v' w' ⟨?_, h4, ?_⟩ hf h3
  · rw [List.length_append, List.flatMap_append]; simpa using h1
  · intro q hq
    have hqq : Cs w q.2 q.1.cuts ∧ Aw v q := by
      rcases List.mem_append.1 hq with hq | hq
      · exact hR.2.2 q hq
      · rw [List.mem_singleton.1 hq]; exact ⟨hcp, hp⟩
    exact ⟨hqq.2.kept hqq.1 hf, hqq.2.moved hqq.1 h3⟩

/-- What a list's bytes are decoded as. -/
def DA (D : List Opn × Bool) (w : World) (e : Ending) (w' : World) : Prop := ∃ v l, e = .returned (.tuple #[v, .bool D.2]) ∧ Os w' v l ∧ fsts l = D.1 ∧ Below w.heap.size w w'
theorem DA.no {D : List Opn × Bool} {w w' : World} (hd : D = ([], false)) (hb : Below w.heap.size w w') : DA D w (.returned (.tuple #[.slice none 0 0, .bool false])) w' := by
  subst hd
  exact ⟨_, [], rfl, ⟨Sl.nil _ _, fun p hp => by cases hp⟩, rfl, hb⟩
theorem DA.yes {D : List Opn × Bool} {w w' : World} {v : Value} {l : List (Opn × Value)} (hd : D = (fsts l, true)) (ho : Os w' v l) (hb : Below w.heap.size w w') : DA D w (.returned (.tuple #[v, .bool true])) w' := by
  subst hd
  exact ⟨v, l, rfl, ho, rfl, hb⟩
end Go.Proofs.YtniecbblhphbdaaDoor

/-
  Lists of ops as bytes: plain mathematics.
-/
namespace Go.Proofs.YtniecbblhphbdaaDoor
set_option linter.unusedVariables false
set_option maxRecDepth 100000

/-- An op's bytes as a text; a list's. -/
def encT (o : Opn) : List Int := M.encText (M.str (encO o))
def encA (l : List Opn) : List Int := M.enc l.length ++ l.flatMap encT
/-- So many ops, read; 'm s' bounds a text's length. -/
def rdA (m : St → Int) : Nat → St → Option (List Opn × St)
  | 0, s => some ([], s)
  | j + 1, s => match rdA m j s with
    | none => none
    | some (l, q) => if (decO Bnd.own (tx (rt (m q) q).1)).2 then some (l ++ [(decO Bnd.own (tx (rt (m q) q).1)).1], (rt (m q) q).2) else none
def decA (m : St → Int) (b : List Int) : List Opn × Bool :=
  match rdA m (rn 1048576 (b, false)).1.toNat (rn 1048576 (b, false)).2 with
  | none => ([], false)
  | some (l, q) => if !q.2 && q.1.isEmpty then (l, true) else ([], false)

theorem rdA_step (m : St → Int) (j : Nat) (s q : St) (l : List Opn) (h : rdA m j s = some (l, q)) :
    rdA m (j + 1) s = if (decO Bnd.own (tx (rt (m q) q).1)).2 then some (l ++ [(decO Bnd.own (tx (rt (m q) q).1)).1], (rt (m q) q).2) else none := by
  show (match rdA m j s with | none => none | some (l, q) => _) = _
  rw [h]
theorem rdA_none (m : St → Int) (j k : Nat) (s : St) (h : rdA m j s = none) (hk : j ≤ k) : rdA m k s = none := by
  induction k with
  | zero => obtain rfl : j = 0 := by omega
            exact h
  | succ k ih =>
    by_cases e : j = k + 1
    · rw [← e]; exact h
    · show (match rdA m k s with | none => none | some (l, q) => _) = _
      rw [ih (by omega)]

theorem takeL_len {n : Int} {xs : List Int} (h : (xs.length : Int) < n) (lost : Bool) : M.takeV n xs = [] ∧ M.takeS n xs = [] ∧ M.takeL n xs lost = true := by
  have : M.takeOk n xs = false := by simp [M.takeOk]; omega
  simp [M.takeV, M.takeS, M.takeL, this]
/-- A text's length may be bounded by what is left, or by a great number. -/
theorem rt_left {s : St} (hv : K.Byt s.1) (hl : s.1.length ≤ 1099511627776) : rt (s.1.length : Nat) s = rt G48 s := by
  obtain ⟨xs, l⟩ := s
  dsimp only at hv hl ⊢
  unfold rt M.textV M.textS M.textL
  dsimp only
  by_cases hf : M.fo xs = true
  · by_cases h1 : M.fn xs ≤ (xs.length : Nat)
    · have a1 : M.numOk (xs.length : Nat) xs = true := by simp [M.numOk, hf, h1]
      have a2 : M.numOk G48 xs = true := by simp [M.numOk, hf]; show M.fn xs ≤ 281474976710656; omega
      simp only [M.numV, M.numS, M.numL, a1, a2]
    · have a1 : M.numOk (xs.length : Nat) xs = false := by simp [M.numOk, hf]; omega
      by_cases h2 : M.fn xs ≤ G48
      · have a2 : M.numOk G48 xs = true := by simp [M.numOk, hf]; exact h2
        have hd : ((xs.drop (M.fc xs)).length : Int) < M.fn xs := by rw [List.length_drop]; omega
        obtain ⟨e1, e2, e3⟩ := takeL_len hd l
        simp only [M.numV, M.numS, M.numL, a1, a2, if_true, if_false, e1, e2, e3, Bool.false_eq_true]
        simp [M.takeV, M.takeS, M.takeL, M.takeOk]
      · have a2 : M.numOk G48 xs = false := by simp [M.numOk, hf]; omega
        simp only [M.numV, M.numS, M.numL, a1, a2]
  · have hf' : M.fo xs = false := by simpa using hf
    have a1 : M.numOk (xs.length : Nat) xs = false := by simp [M.numOk, hf']
    have a2 : M.numOk G48 xs = false := by simp [M.numOk, hf']
    simp only [M.numV, M.numS, M.numL, a1, a2]

def mOwn (q : St) : Int := (q.1.length : Nat)
def mRef (q : St) : Int := G48
theorem rdA_ok (s : St) (hv : Vl s) (hl : s.1.length ≤ 1099511627776) : ∀ j l q, rdA mRef j s = some (l, q) → Vl q ∧ q.1.length ≤ 1099511627776 := by
  intro j
  induction j with
  | zero => intro l q h; simp [rdA] at h; obtain ⟨_, rfl⟩ := h; exact ⟨hv, hl⟩
  | succ j ih =>
    intro l q h
    cases h0 : rdA mRef j s with
    | none => rw [rdA_none mRef j (j + 1) s h0 (by omega)] at h; cases h
    | some p =>
      obtain ⟨l0, q0⟩ := p
      obtain ⟨i1, i2⟩ := ih l0 q0 h0
      rw [rdA_step mRef j s q0 l0 h0] at h
      split at h
      · simp at h
        obtain ⟨_, rfl⟩ := h
        exact ⟨rt_vl i1, Nat.le_trans (rt_short _ _ i1.1).2 i2⟩
      · cases h
theorem rdA_same (s : St) (hv : Vl s) (hl : s.1.length ≤ 1099511627776) : ∀ j, rdA mOwn j s = rdA mRef j s := by
  intro j
  induction j with
  | zero => rfl
  | succ j ih =>
    cases h0 : rdA mRef j s with
    | none => rw [rdA_none mRef j (j + 1) s h0 (by omega), rdA_none mOwn j (j + 1) s (by rw [ih, h0]) (by omega)]
    | some p =>
      obtain ⟨l0, q0⟩ := p
      obtain ⟨i1, i2⟩ := rdA_ok s hv hl j l0 q0 h0
      rw [rdA_step mRef j s q0 l0 h0, rdA_step mOwn j s q0 l0 (by rw [ih, h0])]
      have e : rt (mOwn q0) q0 = rt (mRef q0) q0 := rt_left i1.1 i2
      rw [e]
theorem rt_encT {o : Opn} (h : rightO o = true) (r : List Int) : rt G48 (encT o ++ r, false) = (M.str (encO o), (r, false)) := by
  have hb := encO_byt h
  have hs : (M.str (encO o)).size = (encO o).length := by
    have := congrArg List.length (tx_str hb)
    rw [tx_length] at this
    exact this
  have := encO_len h
  exact rt_full (by rw [hs]; show ((encO o).length : Int) ≤ 281474976710656; omega) (by rw [hs]; omega) r
theorem rdA_full (l : List Opn) (h : ∀ o ∈ l, rightO o = true) (r : List Int) : ∀ k, k ≤ l.length → rdA mRef k (l.flatMap encT ++ r, false) = some (l.take k, ((l.drop k).flatMap encT ++ r, false)) := by
  intro k
  induction k with
  | zero => intro _; simp [rdA]
  | succ k ih =>
    intro hk
    have hlt : k < l.length := by omega
    have h0 := ih (by omega)
    rw [rdA_step mRef k _ _ _ h0]
    have hr := h _ (List.getElem_mem hlt)
    have hd : (l.drop k).flatMap encT ++ r = encT (l[k]) ++ ((l.drop (k + 1)).flatMap encT ++ r) := by
      rw [List.drop_eq_getElem_cons hlt, List.flatMap_cons, List.append_assoc]
    rw [hd]
    have ht : rt (mRef (encT l[k] ++ ((l.drop (k + 1)).flatMap encT ++ r), false)) (encT l[k] ++ ((l.drop (k + 1)).flatMap encT ++ r), false) = (M.str (encO l[k]), ((l.drop (k + 1)).flatMap encT ++ r, false)) := rt_encT hr _
    rw [ht]
    dsimp only
    rw [tx_str (encO_byt hr), decO_full own_ok hr]
    simp only [if_true]
    rw [List.take_succ_eq_append_getElem hlt]
theorem rdA_sound (s : St) (hv : Vl s) (hl : s.1.length ≤ 1099511627776) : ∀ j l q, rdA mRef j s = some (l, q) → q.2 = false → s.2 = false ∧ s.1 = l.flatMap encT ++ q.1 ∧ l.length = j ∧ ∀ o ∈ l, rightO o = true := by
  intro j
  induction j with
  | zero => intro l q h hq; simp [rdA] at h; obtain ⟨rfl, rfl⟩ := h; exact ⟨hq, by simp, rfl, fun o ho => by cases ho⟩
  | succ j ih =>
    intro l q h hq
    cases h0 : rdA mRef j s with
    | none => rw [rdA_none mRef j (j + 1) s h0 (by omega)] at h; cases h
    | some p =>
      obtain ⟨l0, q0⟩ := p
      have hok := rdA_ok s hv hl j l0 q0 h0
      rw [rdA_step mRef j s q0 l0 h0] at h
      split at h
      · rename_i hd
        simp at h
        obtain ⟨rfl, rfl⟩ := h
        have hs := rt_sound (mRef q0) hok.1
        obtain ⟨e1, e2⟩ := hs.2 hq
        obtain ⟨i1, i2, i3, i4⟩ := ih l0 q0 h0 e1
        have htb : K.Byt (tx (rt (mRef q0) q0).1) := fun x hx => M.ofStr_byte _ x hx
        obtain ⟨d1, d2⟩ := decO_sound Bnd.own htb hd
        refine ⟨i1, ?_, by simp [i3], fun o ho => ?_⟩
        · have he : encT (decO Bnd.own (tx (rt (mRef q0) q0).1)).1 = M.encText (rt (mRef q0) q0).1 := by unfold encT; rw [d2, str_tx]
          generalize (decO Bnd.own (tx (rt (mRef q0) q0).1)).1 = X at he
          rw [List.flatMap_append, List.append_assoc, show [X].flatMap encT = encT X from by simp, he, ← e2]
          exact i2
        · rcases List.mem_append.1 ho with ho | ho
          · exact i4 o ho
          · rw [List.mem_singleton.1 ho]; exact d1
      · cases h
theorem encA_read (l : List Opn) (hl : l.length ≤ 1048576) (r : List Int) : rn 1048576 (encA l ++ r, false) = ((l.length : Int), (l.flatMap encT ++ r, false)) := by
  unfold encA
  rw [List.append_assoc]
  exact rn_full (by omega) (by omega) (by omega) _
/-- What is told of right ops is read as those, and whatever follows is left. -/
theorem encA_front {l l' : List Opn} (h : ∀ o ∈ l, rightO o = true) (h' : ∀ o ∈ l', rightO o = true) (hl : l.length ≤ 1048576) (hl' : l'.length ≤ 1048576) {r r' : List Int} (e : encA l ++ r = encA l' ++ r') : l = l' ∧ r = r' := by
  have h1 := encA_read l hl r
  have h2 := encA_read l' hl' r'
  rw [e, h2] at h1
  simp only [Prod.mk.injEq, Int.natCast_inj, and_true] at h1
  have f1 := rdA_full l h r l.length (Nat.le_refl _)
  have f2 := rdA_full l' h' r' l'.length (Nat.le_refl _)
  simp only [List.take_length, List.drop_length, List.flatMap_nil, List.nil_append] at f1 f2
  rw [← h1.2, ← h1.1, f2] at f1
  simp only [Option.some.injEq, Prod.mk.injEq, and_true] at f1
  exact ⟨f1.1.symm, f1.2.symm⟩
theorem decA_full (l : List Opn) (h : ∀ o ∈ l, rightO o = true) (hl : l.length ≤ 1048576) : decA mRef (encA l) = (l, true) := by
  have h1 := encA_read l hl []
  rw [List.append_nil] at h1
  unfold decA
  rw [h1]
  dsimp only
  rw [Int.toNat_natCast, rdA_full l h [] l.length (Nat.le_refl _)]
  simp
theorem decA_sound {b : List Int} (hb : K.Byt b) (hn : b.length ≤ 1099511627776) (h : (decA mRef b).2 = true) : encA (decA mRef b).1 = b ∧ (∀ o ∈ (decA mRef b).1, rightO o = true) ∧ (decA mRef b).1.length ≤ 1048576 := by
  have hv : Vl (b, false) := ⟨hb, fun e => by cases e⟩
  have hs := rn_sound 1048576 hv
  have hr := rn_val (m := 1048576) (s := (b, false)) hb
  unfold decA at h ⊢
  cases h0 : rdA mRef (rn 1048576 (b, false)).1.toNat (rn 1048576 (b, false)).2 with
  | none => rw [h0] at h; cases h
  | some p =>
    obtain ⟨l, q⟩ := p
    rw [h0] at h
    dsimp only at h ⊢
    split at h
    · rename_i hq
      rw [if_pos hq]
      simp at hq
      obtain ⟨s1, s2, s3, s4⟩ := rdA_sound _ hs.1 (Nat.le_trans (rn_short 1048576 (b, false)) hn) _ _ _ h0 hq.1
      obtain ⟨_, e2⟩ := hs.2 s1
      dsimp only
      refine ⟨?_, s4, by have := hr.2.2 (by decide); omega⟩
      unfold encA
      have hN : ((l.length : Nat) : Int) = (rn 1048576 (b, false)).1 := by rw [s3]; exact Int.toNat_of_nonneg hr.1
      have e3 : b = M.enc (rn 1048576 (b, false)).1 ++ (rn 1048576 (b, false)).2.1 := e2
      rw [s2, hq.2, List.append_nil] at e3
      rw [hN]
      exact e3.symm
    · cases h
theorem decA_same {b : List Int} (hb : K.Byt b) (hn : b.length ≤ 1099511627776) : decA mOwn b = decA mRef b := by
  have hv : Vl (b, false) := ⟨hb, fun e => by cases e⟩
  unfold decA
  rw [rdA_same _ (rn_vl hv) (Nat.le_trans (rn_short 1048576 (b, false)) hn)]
/-- Without their end they aren't. -/
theorem decA_less {l : List Opn} (h : ∀ o ∈ l, rightO o = true) (hl : l.length ≤ 1048576) {j : Nat} (hj : j < (encA l).length) (hb : K.Byt ((encA l).take j)) (hn : (encA l).length ≤ 1099511627776) : (decA mRef ((encA l).take j)).2 = false := by
  cases hd : (decA mRef ((encA l).take j)).2 with
  | false => rfl
  | true =>
    obtain ⟨h1, h2, h3⟩ := decA_sound hb (by rw [List.length_take]; omega) hd
    have := (encA_front (r := (encA l).drop j) (r' := []) h2 h h3 hl (by rw [h1, List.take_append_drop, List.append_nil])).2
    have := congrArg List.length this
    rw [List.length_drop] at this
    simp at this
    omega

end Go.Proofs.YtniecbblhphbdaaDoor

/-
  Lists of ops as bytes, more: a cursor that is lost, and what is told by so many.
-/
namespace Go.Proofs.YtniecbblhphbdaaDoor
open Go.RowKit
set_option linter.unusedVariables false
set_option maxRecDepth 100000

theorem decO_nil : (decO Bnd.own []).2 = false := by decide
theorem rt_lost (m : Int) : rt m ([], true) = (⟨#[]⟩, ([], true)) := by
  unfold rt
  rfl
theorem rdA_lost {m : St → Int} {j : Nat} {s q : St} {l : List Opn} (h : rdA m j s = some (l, q)) (hq : q = ([], true)) : rdA m (j + 1) s = none := by
  rw [rdA_step m j s q l h, hq, rt_lost]
  have : tx ⟨#[]⟩ = [] := rfl
  rw [this, decO_nil]
  rfl
theorem decA_eq {m : St → Int} {xs : List Int} {n : Nat} {s1 : St} (h : rn 1048576 (xs, false) = ((n : Int), s1)) :
    decA m xs = match rdA m n s1 with | none => ([], false) | some (l, q) => if !q.2 && q.1.isEmpty then (l, true) else ([], false) := by
  unfold decA
  rw [h]
  rfl

end Go.Proofs.YtniecbblhphbdaaDoor

/-
  A text as new bytes, for every text: as a law of the walk.
-/
namespace Go.Proofs.YtniecbblhphbdaaDoor
open Go.RowKit
set_option linter.unusedVariables false
set_option maxRecDepth 100000

theorem tobytes (s : ByteArray) (w : World) (hs : s.size ≤ 1099511627776) : ∃ u w', (convert 9 22 (.string s)).run Tryd.prog w = .ok u w' ∧ Bs w' u (tx s) ∧ Below w.heap.size w w' := by
  have hl : (tx s).length = s.size := tx_length s
  refine ⟨_, _, Lib.run_convert_string_bytes w 9 22 5 s Tryd.underlying9 Tryd.underlying22 Tryd.underlying5, ?_, ?_⟩
  · refine ⟨some ⟨w.heap.size, 0, none⟩, grownCap w s.size 0 5, by rw [hl], by rw [hl]; exact grownCap_ge _ _ _ _, grownCap_le_maxLen _ _ _ _ (by unfold maxLen; omega), fun h => (by cases h), fun i hi => ⟨w.heap.size, 0, rfl, ?_⟩, fun x hx => M.ofStr_byte s x hx⟩
    rw [hl] at hi
    rw [Nat.zero_add, Lib.bytesWorld_cell w 5 s i hi]
    have hi' : i < s.data.size := hi
    simp [tx, List.getD, Array.getElem?_eq_getElem hi']
  · exact ⟨rfl, rfl, rfl, by rw [Lib.bytesWorld_size]; omega, fun k hk => Lib.bytesWorld_at_old w 5 s k hk⟩
theorem wpList_tobytes {ops : Array Oper} {rest : List Oper} {p : Oper} {a : Act} {W : World} {Q : Exit → Act → World → Prop} {x : Operand} {s : ByteArray} (ho : p.op = .convert 9 22 x) (hx : a.eval x = .string s) (hs : s.size ≤ 1099511627776) (hw : Region.wanted p (yielded ops a.tmps) = true)
    (hk : ∀ W' u, Bs W' u (tx s) → Below W.heap.size W W' → wpList Tryd.prog ops Q rest (a.put p.dst u) W') : wpList Tryd.prog ops Q (p :: rest) a W := by
  obtain ⟨u, w', hr, h1, h2⟩ := tobytes s W hs
  refine BigFrame.wpList_want hw fun K hK => ?_
  unfold Oper.wp execOp
  simp only [ho, hx, Sem.run_bind, hr, Result.andThen_ok, Sem.run_pure]
  exact hK _ _ (hk _ _ h1 h2)

end Go.Proofs.YtniecbblhphbdaaDoor

/-
  Steps of a region whose order is drawn, under a condition on the world that each step keeps.
-/
namespace Go.Proofs.YtniecbblhphbdaaDoor
open Go.RowKit
set_option linter.unusedVariables false
set_option maxRecDepth 100000

section
variable {P : Program} {ops : Array Oper} {Q : Exit → Act → World → Prop} {o : Oper} {a : Act} {w : World} {K : Act → World → Prop}
theorem hb_callx {i : Nat} {f : FuncId} {args : Array Value} {D : Value → World → Prop} (hi : ops[i]? = some o) (hw : Region.wanted o (yielded ops a.tmps) = true) (hrun : (execOp a.eval o).run P w = .ok (.enter f args) w)
    (hc : Calls P f args w fun e w' => ∃ v, e = .returned v ∧ D v w') (h : ∀ v w', D v w' → K (a.put o.dst v) w') : wpOp P ops Q i K a w :=
  wpOp_step hi fun K' hK => by rw [if_pos hw]; unfold Oper.wp; rw [hrun]; exact hc.mono fun e w' ⟨v, he, hd⟩ => by subst he; exact hK _ _ (h v w' hd)
theorem hb_new {i : Nat} {w' : World} {v : Value} (hi : ops[i]? = some o) (hw : Region.wanted o (yielded ops a.tmps) = true) (hrun : (execOp a.eval o).run P w = .ok (.value v) w') (h : K (a.put o.dst v) w') : wpOp P ops Q i K a w :=
  wpOp_step hi fun K' hK => by rw [if_pos hw]; unfold Oper.wp; rw [hrun]; exact hK _ _ h
theorem hb_skip {i : Nat} {w' : World} (hi : ops[i]? = some o) (hw : Region.wanted o (yielded ops a.tmps) = true) (hrun : (execOp a.eval o).run P w = .ok .skip w') (h : K (a.put o.dst undef) w') : wpOp P ops Q i K a w :=
  wpOp_step hi fun K' hK => by rw [if_pos hw]; unfold Oper.wp; rw [hrun]; exact hK _ _ h
end

end Go.Proofs.YtniecbblhphbdaaDoor
