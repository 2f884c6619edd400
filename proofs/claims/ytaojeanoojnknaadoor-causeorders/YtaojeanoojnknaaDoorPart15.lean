/-
  Parts of the proof, one behind the other; what each proves stands at its head.
-/
import Derived.Test.YtaojeanoojnknaaDoorPart8
import Derived.Test.YtaojeanoojnknaaDoorPart3
import Derived.Deep.CutRange
import Derived.Deep.WholeRow

/-
  What New, Next and Has answer is proved here, of the program and of the reference, for all vectors.
-/
namespace Go.Proofs.YtaojeanoojnknaaDoor
open Go.RowKit
set_option linter.unusedVariables false
set_option maxRecDepth 100000

theorem new_any (w : World) : Calls Tryd.prog 10 #[] w fun e w' => e = .returned (.pointer (some ⟨w.heap.size, 0, none⟩)) ∧ Vc w' w.heap.size v0 ∧ Below w.heap.size w w' := by
  have h := hid (And.intro (Vc.new w v0 v0_ok 81) (ba w (.cells (is v0).toArray 81)))
  go_enter Tryd.func10, Tryd.ntmps10
  go_wp2_with fail
  go_ret
  exact ⟨rfl, h.out⟩

theorem next_in {l : List Int} {k : Nat} {x : Int} (hk : k < 16) (hx : l.getD k 0 = x) : nextV l k = if 1048576 ≤ x then 0 else x + 1 := by
  unfold nextV
  rw [if_neg (by omega), Int.toNat_natCast, hx]
theorem next_out {l : List Int} {r : Int} (h : ¬ (0 ≤ r ∧ r < 16)) : nextV l r = 0 := by
  unfold nextV
  rw [if_pos (by omega)]
theorem has_in {l : List Int} {k : Nat} {n x : Int} (hro : ro k n = true) (hx : l.getD k 0 = x) : hasV l k n = decide (n ≤ x) := by
  unfold hasV
  rw [hro, Int.toNat_natCast, hx, Bool.true_and]
theorem has_out {l : List Int} {r n : Int} (hro : ro r n = false) : hasV l r n = false := by
  unfold hasV
  rw [hro, Bool.false_and]
/-- A name's block. -/
abbrev Idb (W : World) (g : Nat) (r n : Int) : Prop := ∃ T, W.heap[g]? = some (ido T r n)
theorem run_ldid {o : Oper} {a : Act} {x : Operand} {g : Nat} {r n : Int} {W : World} (ho : o.op = .load 38 x) (hx : a.eval x = .pointer (some ⟨g, 0, none⟩)) (h : Idb W g r n) : (execOp a.eval o).run Tryd.prog W = .ok (.value (idv r n)) W := by
  obtain ⟨T, h⟩ := h
  have h0 : W.cell? ⟨g, 0, none⟩ = some (.int .i64 r) := by rw [cell_of_row W g 0 _ T _ h]; rfl
  have h1 : W.cell? ⟨g, 1, none⟩ = some (.int .i64 n) := by rw [cell_of_row W g 1 _ T _ h]; rfl
  unfold execOp
  simp only [ho, hx]
  simp [go_sem, h0, h1]
theorem run_ldnum {o : Oper} {a : Act} {x : Operand} {b i : Nat} {k : Int} {W : World} (ho : o.op = .load 3 x) (hx : a.eval x = .pointer (some ⟨b, i, none⟩)) (h : W.cell? ⟨b, i, none⟩ = some (.int .i64 k)) : (execOp a.eval o).run Tryd.prog W = .ok (.value (.int .i64 k)) W := by
  unfold execOp
  simp only [ho, hx]
  simp [go_sem, h]
theorem run_ixarr {o : Oper} {a : Act} {x y : Operand} {b k : Nat} {W : World} (ho : o.op = .indexAddr 34 x y) (hx : a.eval x = .pointer (some ⟨b, 0, none⟩)) (hy : a.eval y = .int .i64 k) (hk : k < 16) :
    (execOp a.eval o).run Tryd.prog W = .ok (.value (.pointer (some ⟨b, k, none⟩))) W := by
  have hk' : (k : Int) < 16 := by omega
  unfold execOp
  simp only [ho, hx, hy]
  simp [go_sem, hk']
theorem Idb.c0 {W : World} {g : Nat} {r n : Int} (h : Idb W g r n) : W.cell? ⟨g, 0, none⟩ = some (.int .i64 r) := by obtain ⟨T, h⟩ := h; rw [cell_of_row W g 0 _ T _ h]; rfl
theorem Idb.c1 {W : World} {g : Nat} {r n : Int} (h : Idb W g r n) : W.cell? ⟨g, 1, none⟩ = some (.int .i64 n) := by obtain ⟨T, h⟩ := h; rw [cell_of_row W g 1 _ T _ h]; rfl
theorem Idb.below {W W' : World} {g : Nat} {r n : Int} (h : Idb W g r n) (hb : Below W.heap.size W W') : Idb W' g r n := by
  obtain ⟨T, h⟩ := h
  exact ⟨T, by rw [hb.block g (Array.getElem?_eq_some_iff.1 h).1]; exact h⟩

theorem next_any (b : Nat) (l : List Int) (r : Int) (w : World) (h : Vc w b l) :
    Calls Tryd.prog 32 #[.pointer (some ⟨b, 0, none⟩), .int .i64 r] w fun e w' => e = .returned (.int .i64 (nextV l r)) ∧ w = w' := by
  by_cases h0 : 0 ≤ r ∧ r < 16
  · obtain ⟨k, rfl⟩ := Int.eq_ofNat_of_zero_le h0.1
    have hk : k < 16 := by omega
    have hc := h.cell hk
    obtain ⟨x, hx⟩ : ∃ x, l.getD k 0 = x := ⟨_, rfl⟩
    rw [next_in hk hx]
    have hb := h.1.2 k
    rw [hx] at hc hb
    have e1 : decide ((k : Int) < 0) = false := by simp
    have e2 : decide ((16 : Int) ≤ (k : Int)) = false := by simp; omega
    clear hx
    obtain ⟨z, hz⟩ : ∃ z, (if 1048576 ≤ x then 0 else x + 1) = z := ⟨_, rfl⟩
    rw [hz]
    have HZ := hid hz
    clear hz
    cases he : (x == 1048576)
    all_goals
      have HE := hid he
      go_enter Tryd.func32, Tryd.ntmps32
      go_wp2_with fail
      go_ret
      refine ⟨?_, rfl⟩
      have he := HE.out
      simp at he
      rw [← HZ.out]
      first
      | (rw [if_neg (by omega)]; rfl)
      | (rw [if_pos (by omega)]; rfl)
  · rw [next_out h0]
    have h1 : decide (r < 0) = true ∨ (decide (r < 0) = false ∧ decide (16 ≤ r) = true) := by simp; omega
    clear h0
    rcases h1 with h1 | ⟨h1, h2⟩
    all_goals
      go_enter Tryd.func32, Tryd.ntmps32
      go_wp2_with fail
      go_ret
      exact ⟨rfl, rfl⟩

def hs0 : Oper := { dst := some 5, op := Op.load 38 (Operand.tmp 3), type := 38, pos := "vec.go:34", after := #[], guard := none }
def hs1 : Oper := { dst := some 6, op := Op.call { callee := Callee.value (Operand.func 47), args := #[Operand.tmp 5], argTypes := #[38] }, type := 4, pos := "vec.go:34", after := #[{ on := 0, ground := Ground.data }], guard := none }
def hs2 : Oper := { dst := some 7, op := Op.move (Operand.tmp 6), type := 4, pos := "vec.go:34", after := #[{ on := 1, ground := Ground.data }, { on := 1, ground := Ground.chain }], guard := none }
def hs3 : Oper := { dst := some 8, op := Op.fieldAddr 38 (Operand.tmp 3) 1, type := 0, pos := "vec.go:34", after := #[{ on := 2, ground := Ground.guard }], guard := some (2, true) }
def hs4 : Oper := { dst := some 9, op := Op.load 3 (Operand.tmp 8), type := 3, pos := "vec.go:34", after := #[{ on := 3, ground := Ground.data }, { on := 2, ground := Ground.guard }], guard := some (2, true) }
def hs5 : Oper := { dst := some 10, op := Op.move (Operand.tmp 0), type := 31, pos := "vec.go:34", after := #[{ on := 2, ground := Ground.guard }], guard := some (2, true) }
def hs6 : Oper := { dst := some 11, op := Op.fieldAddr 38 (Operand.tmp 3) 0, type := 0, pos := "vec.go:34", after := #[{ on := 2, ground := Ground.guard }], guard := some (2, true) }
def hs7 : Oper := { dst := some 12, op := Op.load 3 (Operand.tmp 11), type := 3, pos := "vec.go:34", after := #[{ on := 6, ground := Ground.data }, { on := 2, ground := Ground.guard }], guard := some (2, true) }
def hs8 : Oper := { dst := some 13, op := Op.nilCheck (Operand.tmp 10), type := 0, pos := "vec.go:34", after := #[{ on := 5, ground := Ground.data }, { on := 2, ground := Ground.guard }], guard := some (2, true) }
def hs9 : Oper := { dst := some 14, op := Op.fieldAddr 81 (Operand.tmp 13) 0, type := 0, pos := "vec.go:34", after := #[{ on := 8, ground := Ground.data }, { on := 2, ground := Ground.guard }], guard := some (2, true) }
def hs10 : Oper := { dst := some 15, op := Op.indexAddr 34 (Operand.tmp 14) (Operand.tmp 12), type := 0, pos := "vec.go:34", after := #[{ on := 9, ground := Ground.data }, { on := 7, ground := Ground.data }, { on := 2, ground := Ground.guard }], guard := some (2, true) }
def hs11 : Oper := { dst := some 16, op := Op.load 3 (Operand.tmp 15), type := 3, pos := "vec.go:34", after := #[{ on := 10, ground := Ground.data }, { on := 2, ground := Ground.guard }], guard := some (2, true) }
def hs12 : Oper := { dst := some 17, op := Op.binOp BinOp.leq 3 (Operand.tmp 9) (Operand.tmp 16) 3, type := 4, pos := "vec.go:34", after := #[{ on := 4, ground := Ground.data }, { on := 11, ground := Ground.data }, { on := 2, ground := Ground.guard }], guard := some (2, true) }
def hs13 : Oper := { dst := some 18, op := Op.pick (Operand.tmp 7) (Operand.tmp 17) (Operand.const (Value.bool false)), type := 4, pos := "vec.go:34", after := #[{ on := 2, ground := Ground.data }, { on := 12, ground := Ground.data }], guard := none }
def hs14 : Oper := { dst := some 4,op := Op.assign (Operand.tmp 18),type := 4,pos := "vec.go:34",after := #[{ on := 13,ground := Ground.data },{ on := 2,ground := Ground.chain },{ on := 0,ground := Ground.phase },{ on := 1,ground := Ground.phase },{ on := 2,ground := Ground.phase },{ on := 3,ground := Ground.phase },{ on := 4,ground := Ground.phase },{ on := 5,ground := Ground.phase },{ on := 6,ground := Ground.phase },{ on := 7,ground := Ground.phase },{ on := 8,ground := Ground.phase },{ on := 9,ground := Ground.phase },{ on := 10,ground := Ground.phase },{ on := 11,ground := Ground.phase },{ on := 12,ground := Ground.phase },{ on := 13,ground := Ground.phase }],guard := none }
def hss : Array Oper := #[hs0, hs1, hs2, hs3, hs4, hs5, hs6, hs7, hs8, hs9, hs10, hs11, hs12, hs13, hs14]
theorem hs_lex : Region.lexB .any hss = true := by kernel_rfl
theorem hs_no (b : Nat) (r n : Int) (g : Nat) (w : World) {x2 x4 x5 x6 x7 x8 x9 x10 ai ah ag af ae ad ab aa : Value} {Q : Exit → Act → World → Prop} (hro : ro r n = false) (hI : Idb w g r n)
    (hQ : ∀ W,Below w.heap.size w W → Q .normal { tmps := #[.pointer (some ⟨b,0,none⟩),idv r n,x2,.pointer (some ⟨g,0,none⟩),.bool false,idv r n,.bool false,.bool false,undef,undef,undef,undef,undef,undef,undef,undef,undef,undef,.bool false],defers := [] } W) : (Code.region 1 hss true).wp Tryd.prog Q { tmps := #[.pointer (some ⟨b,0,none⟩),idv r n,x2,.pointer (some ⟨g,0,none⟩),x4,x5,x6,x7,x8,x9,x10,ai,ah,ag,af,ae,ad,ab,aa],defers := [] } w := by
  refine wp_region_quiet (C := fun W => Below w.heap.size w W) (by kernel_rfl) hs_lex (Below.refl _ _).drew ?_
  change wpQuiet _ _ _ _ [hs0, hs1, hs2, hs3, hs4, hs5, hs6, hs7, hs8, hs9, hs10, hs11, hs12, hs13, hs14] _
  refine Wq.out ?_
  refine wq_val (idv r n) { tmps := #[.pointer (some ⟨b, 0, none⟩), idv r n, x2, .pointer (some ⟨g, 0, none⟩), x4, idv r n, x6, x7, x8, x9, x10, ai, ah, ag, af, ae, ad, ab, aa], defers := [] } (by kernel_rfl) (fun W hW => run_ldid rfl rfl (hI.below hW)) (by kernel_rfl) ?_
  refine wq_call (f := 47) (args := #[idv r n]) (.bool false) { tmps := #[.pointer (some ⟨b,0,none⟩),idv r n,x2,.pointer (some ⟨g,0,none⟩),x4,idv r n,.bool false,x7,x8,x9,x10,ai,ah,ag,af,ae,ad,ab,aa],defers := [] } (by kernel_rfl) (fun W => by kernel_rfl) (fun W hW => (ro_any _ _ W).mono fun e V ⟨h1,h2⟩ => ⟨by rw [h1,hro],by rw [h2]; exact bt hW (ba W _)⟩) (by kernel_rfl) ?_
  refine wq_val (.bool false) { tmps := #[.pointer (some ⟨b, 0, none⟩), idv r n, x2, .pointer (some ⟨g, 0, none⟩), x4, idv r n, .bool false, .bool false, x8, x9, x10, ai, ah, ag, af, ae, ad, ab, aa], defers := [] } (by kernel_rfl) (fun W hW => by kernel_rfl) (by kernel_rfl) ?_
  refine wq_skip { tmps := #[.pointer (some ⟨b, 0, none⟩), idv r n, x2, .pointer (some ⟨g, 0, none⟩), x4, idv r n, .bool false, .bool false, undef, x9, x10, ai, ah, ag, af, ae, ad, ab, aa], defers := [] } (by kernel_rfl) (by kernel_rfl) ?_
  refine wq_skip { tmps := #[.pointer (some ⟨b, 0, none⟩), idv r n, x2, .pointer (some ⟨g, 0, none⟩), x4, idv r n, .bool false, .bool false, undef, undef, x10, ai, ah, ag, af, ae, ad, ab, aa], defers := [] } (by kernel_rfl) (by kernel_rfl) ?_
  refine wq_skip { tmps := #[.pointer (some ⟨b, 0, none⟩), idv r n, x2, .pointer (some ⟨g, 0, none⟩), x4, idv r n, .bool false, .bool false, undef, undef, undef, ai, ah, ag, af, ae, ad, ab, aa], defers := [] } (by kernel_rfl) (by kernel_rfl) ?_
  refine wq_skip { tmps := #[.pointer (some ⟨b, 0, none⟩), idv r n, x2, .pointer (some ⟨g, 0, none⟩), x4, idv r n, .bool false, .bool false, undef, undef, undef, undef, ah, ag, af, ae, ad, ab, aa], defers := [] } (by kernel_rfl) (by kernel_rfl) ?_
  refine wq_skip { tmps := #[.pointer (some ⟨b, 0, none⟩), idv r n, x2, .pointer (some ⟨g, 0, none⟩), x4, idv r n, .bool false, .bool false, undef, undef, undef, undef, undef, ag, af, ae, ad, ab, aa], defers := [] } (by kernel_rfl) (by kernel_rfl) ?_
  refine wq_skip { tmps := #[.pointer (some ⟨b, 0, none⟩), idv r n, x2, .pointer (some ⟨g, 0, none⟩), x4, idv r n, .bool false, .bool false, undef, undef, undef, undef, undef, undef, af, ae, ad, ab, aa], defers := [] } (by kernel_rfl) (by kernel_rfl) ?_
  refine wq_skip { tmps := #[.pointer (some ⟨b, 0, none⟩), idv r n, x2, .pointer (some ⟨g, 0, none⟩), x4, idv r n, .bool false, .bool false, undef, undef, undef, undef, undef, undef, undef, ae, ad, ab, aa], defers := [] } (by kernel_rfl) (by kernel_rfl) ?_
  refine wq_skip { tmps := #[.pointer (some ⟨b, 0, none⟩), idv r n, x2, .pointer (some ⟨g, 0, none⟩), x4, idv r n, .bool false, .bool false, undef, undef, undef, undef, undef, undef, undef, undef, ad, ab, aa], defers := [] } (by kernel_rfl) (by kernel_rfl) ?_
  refine wq_skip { tmps := #[.pointer (some ⟨b, 0, none⟩), idv r n, x2, .pointer (some ⟨g, 0, none⟩), x4, idv r n, .bool false, .bool false, undef, undef, undef, undef, undef, undef, undef, undef, undef, ab, aa], defers := [] } (by kernel_rfl) (by kernel_rfl) ?_
  refine wq_skip { tmps := #[.pointer (some ⟨b, 0, none⟩), idv r n, x2, .pointer (some ⟨g, 0, none⟩), x4, idv r n, .bool false, .bool false, undef, undef, undef, undef, undef, undef, undef, undef, undef, undef, aa], defers := [] } (by kernel_rfl) (by kernel_rfl) ?_
  refine wq_val (.bool false) { tmps := #[.pointer (some ⟨b,0,none⟩),idv r n,x2,.pointer (some ⟨g,0,none⟩),x4,idv r n,.bool false,.bool false,undef,undef,undef,undef,undef,undef,undef,undef,undef,undef,.bool false],defers := [] } (by kernel_rfl) (fun W hW => by kernel_rfl) (by kernel_rfl) ?_
  refine wq_val (.bool false) { tmps := #[.pointer (some ⟨b,0,none⟩),idv r n,x2,.pointer (some ⟨g,0,none⟩),.bool false,idv r n,.bool false,.bool false,undef,undef,undef,undef,undef,undef,undef,undef,undef,undef,.bool false],defers := [] } (by kernel_rfl) (fun W hW => by kernel_rfl) (by kernel_rfl) ?_
  exact wq_nil hQ
theorem hs_yes (b k : Nat) (n x : Int) (l : List Int) (g : Nat) (w : World) {x2 x4 x5 x6 x7 x8 x9 x10 ai ah ag af ae ad ab aa : Value} {Q : Exit → Act → World → Prop} (hro : ro (k : Int) n = true) (hk : k < 16) (hI : Idb w g k n) (hV : Vc w b l) (hx : l.getD k 0 = x)
    (hQ : ∀ W,Below w.heap.size w W → Q .normal { tmps := #[.pointer (some ⟨b,0,none⟩),idv (k : Int) n,x2,.pointer (some ⟨g,0,none⟩),.bool (decide (n ≤ x)),idv (k : Int) n,.bool true,.bool true,.pointer (some ⟨g,1,none⟩),.int .i64 n,.pointer (some ⟨b,0,none⟩),.pointer (some ⟨g,0,none⟩),.int .i64 k,.pointer (some ⟨b,0,none⟩),.pointer (some ⟨b,0,none⟩),.pointer (some ⟨b,k,none⟩),.int .i64 x,.bool (decide (n ≤ x)),.bool (decide (n ≤ x))],defers := [] } W) : (Code.region 1 hss true).wp Tryd.prog Q { tmps := #[.pointer (some ⟨b,0,none⟩),idv (k : Int) n,x2,.pointer (some ⟨g,0,none⟩),x4,x5,x6,x7,x8,x9,x10,ai,ah,ag,af,ae,ad,ab,aa],defers := [] } w := by
  refine wp_region_quiet (C := fun W => Below w.heap.size w W) (by kernel_rfl) hs_lex (Below.refl _ _).drew ?_
  change wpQuiet _ _ _ _ [hs0, hs1, hs2, hs3, hs4, hs5, hs6, hs7, hs8, hs9, hs10, hs11, hs12, hs13, hs14] _
  refine Wq.out ?_
  refine wq_val (idv (k : Int) n) { tmps := #[.pointer (some ⟨b,0,none⟩),idv (k : Int) n,x2,.pointer (some ⟨g,0,none⟩),x4,idv (k : Int) n,x6,x7,x8,x9,x10,ai,ah,ag,af,ae,ad,ab,aa],defers := [] } (by kernel_rfl) (fun W hW => run_ldid rfl rfl (hI.below hW)) (by kernel_rfl) ?_
  refine wq_call (f := 47) (args := #[idv (k : Int) n]) (.bool true) { tmps := #[.pointer (some ⟨b,0,none⟩),idv (k : Int) n,x2,.pointer (some ⟨g,0,none⟩),x4,idv (k : Int) n,.bool true,x7,x8,x9,x10,ai,ah,ag,af,ae,ad,ab,aa],defers := [] } (by kernel_rfl) (fun W => by kernel_rfl) (fun W hW => (ro_any _ _ W).mono fun e V ⟨h1,h2⟩ => ⟨by rw [h1,hro],by rw [h2]; exact bt hW (ba W _)⟩) (by kernel_rfl) ?_
  refine wq_val (.bool true) { tmps := #[.pointer (some ⟨b, 0, none⟩), idv (k : Int) n, x2, .pointer (some ⟨g, 0, none⟩), x4, idv (k : Int) n, .bool true, .bool true, x8, x9, x10, ai, ah, ag, af, ae, ad, ab, aa], defers := [] } (by kernel_rfl) (fun W hW => by kernel_rfl) (by kernel_rfl) ?_
  refine wq_val (.pointer (some ⟨g,1,none⟩)) { tmps := #[.pointer (some ⟨b,0,none⟩),idv (k : Int) n,x2,.pointer (some ⟨g,0,none⟩),x4,idv (k : Int) n,.bool true,.bool true,.pointer (some ⟨g,1,none⟩),x9,x10,ai,ah,ag,af,ae,ad,ab,aa],defers := [] } (by kernel_rfl) (fun W hW => by kernel_rfl) (by kernel_rfl) ?_
  refine wq_val (.int .i64 n) { tmps := #[.pointer (some ⟨b,0,none⟩),idv (k : Int) n,x2,.pointer (some ⟨g,0,none⟩),x4,idv (k : Int) n,.bool true,.bool true,.pointer (some ⟨g,1,none⟩),.int .i64 n,x10,ai,ah,ag,af,ae,ad,ab,aa],defers := [] } (by kernel_rfl) (fun W hW => run_ldnum rfl rfl (hI.below hW).c1) (by kernel_rfl) ?_
  refine wq_val (.pointer (some ⟨b,0,none⟩)) { tmps := #[.pointer (some ⟨b,0,none⟩),idv (k : Int) n,x2,.pointer (some ⟨g,0,none⟩),x4,idv (k : Int) n,.bool true,.bool true,.pointer (some ⟨g,1,none⟩),.int .i64 n,.pointer (some ⟨b,0,none⟩),ai,ah,ag,af,ae,ad,ab,aa],defers := [] } (by kernel_rfl) (fun W hW => by kernel_rfl) (by kernel_rfl) ?_
  refine wq_val (.pointer (some ⟨g,0,none⟩)) { tmps := #[.pointer (some ⟨b,0,none⟩),idv (k : Int) n,x2,.pointer (some ⟨g,0,none⟩),x4,idv (k : Int) n,.bool true,.bool true,.pointer (some ⟨g,1,none⟩),.int .i64 n,.pointer (some ⟨b,0,none⟩),.pointer (some ⟨g,0,none⟩),ah,ag,af,ae,ad,ab,aa],defers := [] } (by kernel_rfl) (fun W hW => by kernel_rfl) (by kernel_rfl) ?_
  refine wq_val (.int .i64 k) { tmps := #[.pointer (some ⟨b,0,none⟩),idv (k : Int) n,x2,.pointer (some ⟨g,0,none⟩),x4,idv (k : Int) n,.bool true,.bool true,.pointer (some ⟨g,1,none⟩),.int .i64 n,.pointer (some ⟨b,0,none⟩),.pointer (some ⟨g,0,none⟩),.int .i64 k,ag,af,ae,ad,ab,aa],defers := [] } (by kernel_rfl) (fun W hW => run_ldnum rfl rfl (hI.below hW).c0) (by kernel_rfl) ?_
  refine wq_val (.pointer (some ⟨b,0,none⟩)) { tmps := #[.pointer (some ⟨b,0,none⟩),idv (k : Int) n,x2,.pointer (some ⟨g,0,none⟩),x4,idv (k : Int) n,.bool true,.bool true,.pointer (some ⟨g,1,none⟩),.int .i64 n,.pointer (some ⟨b,0,none⟩),.pointer (some ⟨g,0,none⟩),.int .i64 k,.pointer (some ⟨b,0,none⟩),af,ae,ad,ab,aa],defers := [] } (by kernel_rfl) (fun W hW => by kernel_rfl) (by kernel_rfl) ?_
  refine wq_val (.pointer (some ⟨b,0,none⟩)) { tmps := #[.pointer (some ⟨b,0,none⟩),idv (k : Int) n,x2,.pointer (some ⟨g,0,none⟩),x4,idv (k : Int) n,.bool true,.bool true,.pointer (some ⟨g,1,none⟩),.int .i64 n,.pointer (some ⟨b,0,none⟩),.pointer (some ⟨g,0,none⟩),.int .i64 k,.pointer (some ⟨b,0,none⟩),.pointer (some ⟨b,0,none⟩),ae,ad,ab,aa],defers := [] } (by kernel_rfl) (fun W hW => by kernel_rfl) (by kernel_rfl) ?_
  refine wq_val (.pointer (some ⟨b,k,none⟩)) { tmps := #[.pointer (some ⟨b,0,none⟩),idv (k : Int) n,x2,.pointer (some ⟨g,0,none⟩),x4,idv (k : Int) n,.bool true,.bool true,.pointer (some ⟨g,1,none⟩),.int .i64 n,.pointer (some ⟨b,0,none⟩),.pointer (some ⟨g,0,none⟩),.int .i64 k,.pointer (some ⟨b,0,none⟩),.pointer (some ⟨b,0,none⟩),.pointer (some ⟨b,k,none⟩),ad,ab,aa],defers := [] } (by kernel_rfl) (fun W hW => run_ixarr rfl rfl rfl hk) (by kernel_rfl) ?_
  refine wq_val (.int .i64 x) { tmps := #[.pointer (some ⟨b,0,none⟩),idv (k : Int) n,x2,.pointer (some ⟨g,0,none⟩),x4,idv (k : Int) n,.bool true,.bool true,.pointer (some ⟨g,1,none⟩),.int .i64 n,.pointer (some ⟨b,0,none⟩),.pointer (some ⟨g,0,none⟩),.int .i64 k,.pointer (some ⟨b,0,none⟩),.pointer (some ⟨b,0,none⟩),.pointer (some ⟨b,k,none⟩),.int .i64 x,ab,aa],defers := [] } (by kernel_rfl) (fun W hW => run_ldnum rfl rfl (by rw [← hx]; exact (hV.below hW).cell hk)) (by kernel_rfl) ?_
  refine wq_val (.bool (decide (n ≤ x))) { tmps := #[.pointer (some ⟨b,0,none⟩),idv (k : Int) n,x2,.pointer (some ⟨g,0,none⟩),x4,idv (k : Int) n,.bool true,.bool true,.pointer (some ⟨g,1,none⟩),.int .i64 n,.pointer (some ⟨b,0,none⟩),.pointer (some ⟨g,0,none⟩),.int .i64 k,.pointer (some ⟨b,0,none⟩),.pointer (some ⟨b,0,none⟩),.pointer (some ⟨b,k,none⟩),.int .i64 x,.bool (decide (n ≤ x)),aa],defers := [] } (by kernel_rfl) (fun W hW => by kernel_rfl) (by kernel_rfl) ?_
  refine wq_val (.bool (decide (n ≤ x))) { tmps := #[.pointer (some ⟨b,0,none⟩),idv (k : Int) n,x2,.pointer (some ⟨g,0,none⟩),x4,idv (k : Int) n,.bool true,.bool true,.pointer (some ⟨g,1,none⟩),.int .i64 n,.pointer (some ⟨b,0,none⟩),.pointer (some ⟨g,0,none⟩),.int .i64 k,.pointer (some ⟨b,0,none⟩),.pointer (some ⟨b,0,none⟩),.pointer (some ⟨b,k,none⟩),.int .i64 x,.bool (decide (n ≤ x)),.bool (decide (n ≤ x))],defers := [] } (by kernel_rfl) (fun W hW => by kernel_rfl) (by kernel_rfl) ?_
  refine wq_val (.bool (decide (n ≤ x))) { tmps := #[.pointer (some ⟨b,0,none⟩),idv (k : Int) n,x2,.pointer (some ⟨g,0,none⟩),.bool (decide (n ≤ x)),idv (k : Int) n,.bool true,.bool true,.pointer (some ⟨g,1,none⟩),.int .i64 n,.pointer (some ⟨b,0,none⟩),.pointer (some ⟨g,0,none⟩),.int .i64 k,.pointer (some ⟨b,0,none⟩),.pointer (some ⟨b,0,none⟩),.pointer (some ⟨b,k,none⟩),.int .i64 x,.bool (decide (n ≤ x)),.bool (decide (n ≤ x))],defers := [] } (by kernel_rfl) (fun W hW => by kernel_rfl) (by kernel_rfl) ?_
  exact wq_nil hQ

theorem has_any (b : Nat) (l : List Int) (r n : Int) (w : World) (h : Vc w b l) :
    Calls Tryd.prog 34 #[.pointer (some ⟨b, 0, none⟩), idv r n] w fun e w' => e = .returned (.bool (hasV l r n)) ∧ Below w.heap.size w w' := by
  have HV := hid (h.below (ba w (ido 38 r n)))
  have HI := hid (show Idb (w.alloc (ido 38 r n)) w.heap.size r n from ⟨_, heap_alloc_new w _⟩)
  have HB := hid (ba w (ido 38 r n))
  cases hro : ro r n
  · rw [has_out hro]
    have HRO := hid hro
    clear h hro
    go_enter Tryd.func34, Tryd.ntmps34
    go_upto_region 1 with (fail)
    refine hs_no b r n w.heap.size _ HRO.out HI.out ?_
    intro W hW
    go_wp2_with fail
    go_ret
    exact ⟨rfl, bt HB.out hW⟩
  · have hq := ro_iff.1 hro
    obtain ⟨k, rfl⟩ := Int.eq_ofNat_of_zero_le hq.1
    obtain ⟨x, hx⟩ : ∃ x, l.getD k 0 = x := ⟨_, rfl⟩
    rw [has_in hro hx]
    have HRO := hid hro
    have HX := hid hx
    have HK := hid (show k < 16 by omega)
    clear h hro hx hq
    go_enter Tryd.func34, Tryd.ntmps34
    go_upto_region 1 with (fail)
    refine hs_yes b k n x l w.heap.size _ HRO.out HK.out HI.out HV.out HX.out ?_
    intro W hW
    go_wp2_with fail
    go_ret
    exact ⟨rfl, bt HB.out hW⟩

end Go.Proofs.YtaojeanoojnknaaDoor

/-
  What Add answers and leaves is proved here, of the program and of the reference, for all vectors.
-/
namespace Go.Proofs.YtaojeanoojnknaaDoor
open Go.RowKit
set_option linter.unusedVariables false
set_option maxRecDepth 100000

theorem add_not {l : List Int} {r n : Int} (h : ro r n = false) : addV l r n = 10 := by unfold addV; rw [if_pos h]
theorem add_in {l : List Int} {k : Nat} {n x : Int} (h : ro k n = true) (hx : l.getD k 0 = x) : addV l k n = if n ≤ x then 12 else if n = x + 1 then 0 else 22 := by
  unfold addV
  rw [if_neg (by rw [h]; decide), Int.toNat_natCast, hx]
theorem put_not {l : List Int} {r n : Int} (h : addV l r n ≠ 0) : putV l r n = l := if_neg h
theorem put_in {l : List Int} {k : Nat} {n : Int} (h : addV l k n = 0) : putV l k n = l.set k n := by unfold putV; rw [if_pos h, Int.toNat_natCast]
def ad0 : Oper := { dst := some 14, op := Op.fieldAddr 38 (Operand.tmp 3) 1, type := 0, pos := "vec.go:44", after := #[], guard := none }
def ad1 : Oper := { dst := some 15, op := Op.load 3 (Operand.tmp 14), type := 3, pos := "vec.go:44", after := #[{ on := 0, ground := Ground.data }], guard := none }
def ad2 : Oper := { dst := some 16, op := Op.move (Operand.tmp 0), type := 31, pos := "vec.go:44", after := #[], guard := none }
def ad3 : Oper := { dst := some 17, op := Op.fieldAddr 38 (Operand.tmp 3) 0, type := 0, pos := "vec.go:44", after := #[], guard := none }
def ad4 : Oper := { dst := some 18, op := Op.load 3 (Operand.tmp 17), type := 3, pos := "vec.go:44", after := #[{ on := 3, ground := Ground.data }], guard := none }
def ad5 : Oper := { dst := some 19, op := Op.call { callee := Callee.value (Operand.func 32), args := #[Operand.tmp 16, Operand.tmp 18], argTypes := #[31, 3] }, type := 3, pos := "vec.go:44", after := #[{ on := 2, ground := Ground.data }, { on := 4, ground := Ground.data }], guard := none }
def ad6 : Oper := { dst := some 20, op := Op.binOp BinOp.neq 3 (Operand.tmp 15) (Operand.tmp 19) 3, type := 4, pos := "vec.go:44", after := #[{ on := 1, ground := Ground.data }, { on := 5, ground := Ground.data }], guard := none }
def ad7 : Oper := { dst := some 13, op := Op.assign (Operand.tmp 20), type := 4, pos := "vec.go:44", after := #[{ on := 6, ground := Ground.data }, { on := 5, ground := Ground.chain }], guard := none }
def ads : Array Oper := #[ad0, ad1, ad2, ad3, ad4, ad5, ad6, ad7]
theorem ad_lex : Region.lexB .any ads = true := by kernel_rfl
theorem ad_r (b k : Nat) (n x : Int) (l : List Int) (g : Nat) (w : World) {x1 x2 x4 x5 x6 x7 x8 x9 x10 x11 x12 x13 x14 x15 x16 x17 x18 x19 x20 x21 x22 x23 x24 x25 x26 x27 x28 : Value} {Q : Exit → Act → World → Prop} (hk : k < 16) (hI : Idb w g k n) (hV : Vc w b l) (hx : l.getD k 0 = x) (hlt : x < 1048576)
    (hQ : ∀ W,Below w.heap.size w W → Q .normal { tmps := #[.pointer (some ⟨b,0,none⟩),x1,x2,.pointer (some ⟨g,0,none⟩),x4,x5,x6,x7,x8,x9,x10,x11,x12,.bool (n != x + 1),.pointer (some ⟨g,1,none⟩),.int .i64 n,.pointer (some ⟨b,0,none⟩),.pointer (some ⟨g,0,none⟩),.int .i64 k,.int .i64 (x + 1),.bool (n != x + 1),x21,x22,x23,x24,x25,x26,x27,x28],defers := [] } W) : (Code.region 5 ads true).wp Tryd.prog Q { tmps := #[.pointer (some ⟨b,0,none⟩),x1,x2,.pointer (some ⟨g,0,none⟩),x4,x5,x6,x7,x8,x9,x10,x11,x12,x13,x14,x15,x16,x17,x18,x19,x20,x21,x22,x23,x24,x25,x26,x27,x28],defers := [] } w := by
  refine wp_region_quiet (C := fun W => Below w.heap.size w W) (by kernel_rfl) ad_lex (Below.refl _ _).drew ?_
  change wpQuiet _ _ _ _ [ad0, ad1, ad2, ad3, ad4, ad5, ad6, ad7] _
  refine Wq.out ?_
  refine wq_val (.pointer (some ⟨g,1,none⟩)) { tmps := #[.pointer (some ⟨b,0,none⟩),x1,x2,.pointer (some ⟨g,0,none⟩),x4,x5,x6,x7,x8,x9,x10,x11,x12,x13,.pointer (some ⟨g,1,none⟩),x15,x16,x17,x18,x19,x20,x21,x22,x23,x24,x25,x26,x27,x28],defers := [] } (by kernel_rfl) (fun W hW => by kernel_rfl) (by kernel_rfl) ?_
  refine wq_val (.int .i64 n) { tmps := #[.pointer (some ⟨b,0,none⟩),x1,x2,.pointer (some ⟨g,0,none⟩),x4,x5,x6,x7,x8,x9,x10,x11,x12,x13,.pointer (some ⟨g,1,none⟩),.int .i64 n,x16,x17,x18,x19,x20,x21,x22,x23,x24,x25,x26,x27,x28],defers := [] } (by kernel_rfl) (fun W hW => run_ldnum rfl rfl (hI.below hW).c1) (by kernel_rfl) ?_
  refine wq_val (.pointer (some ⟨b,0,none⟩)) { tmps := #[.pointer (some ⟨b,0,none⟩),x1,x2,.pointer (some ⟨g,0,none⟩),x4,x5,x6,x7,x8,x9,x10,x11,x12,x13,.pointer (some ⟨g,1,none⟩),.int .i64 n,.pointer (some ⟨b,0,none⟩),x17,x18,x19,x20,x21,x22,x23,x24,x25,x26,x27,x28],defers := [] } (by kernel_rfl) (fun W hW => by kernel_rfl) (by kernel_rfl) ?_
  refine wq_val (.pointer (some ⟨g,0,none⟩)) { tmps := #[.pointer (some ⟨b,0,none⟩),x1,x2,.pointer (some ⟨g,0,none⟩),x4,x5,x6,x7,x8,x9,x10,x11,x12,x13,.pointer (some ⟨g,1,none⟩),.int .i64 n,.pointer (some ⟨b,0,none⟩),.pointer (some ⟨g,0,none⟩),x18,x19,x20,x21,x22,x23,x24,x25,x26,x27,x28],defers := [] } (by kernel_rfl) (fun W hW => by kernel_rfl) (by kernel_rfl) ?_
  refine wq_val (.int .i64 k) { tmps := #[.pointer (some ⟨b,0,none⟩),x1,x2,.pointer (some ⟨g,0,none⟩),x4,x5,x6,x7,x8,x9,x10,x11,x12,x13,.pointer (some ⟨g,1,none⟩),.int .i64 n,.pointer (some ⟨b,0,none⟩),.pointer (some ⟨g,0,none⟩),.int .i64 k,x19,x20,x21,x22,x23,x24,x25,x26,x27,x28],defers := [] } (by kernel_rfl) (fun W hW => run_ldnum rfl rfl (hI.below hW).c0) (by kernel_rfl) ?_
  refine wq_call (f := 32) (args := #[.pointer (some ⟨b,0,none⟩),.int .i64 k]) (.int .i64 (x + 1)) { tmps := #[.pointer (some ⟨b,0,none⟩),x1,x2,.pointer (some ⟨g,0,none⟩),x4,x5,x6,x7,x8,x9,x10,x11,x12,x13,.pointer (some ⟨g,1,none⟩),.int .i64 n,.pointer (some ⟨b,0,none⟩),.pointer (some ⟨g,0,none⟩),.int .i64 k,.int .i64 (x + 1),x20,x21,x22,x23,x24,x25,x26,x27,x28],defers := [] } (by kernel_rfl) (fun W => by kernel_rfl) (fun W hW => (next_any b l k W (hV.below hW)).mono fun e V ⟨h1,h2⟩ => ⟨by rw [h1,next_in hk hx,if_neg (by omega)],by subst h2; exact hW⟩) (by kernel_rfl) ?_
  refine wq_val (.bool (n != x + 1)) { tmps := #[.pointer (some ⟨b,0,none⟩),x1,x2,.pointer (some ⟨g,0,none⟩),x4,x5,x6,x7,x8,x9,x10,x11,x12,x13,.pointer (some ⟨g,1,none⟩),.int .i64 n,.pointer (some ⟨b,0,none⟩),.pointer (some ⟨g,0,none⟩),.int .i64 k,.int .i64 (x + 1),.bool (n != x + 1),x21,x22,x23,x24,x25,x26,x27,x28],defers := [] } (by kernel_rfl) (fun W hW => by kernel_rfl) (by kernel_rfl) ?_
  refine wq_val (.bool (n != x + 1)) { tmps := #[.pointer (some ⟨b,0,none⟩),x1,x2,.pointer (some ⟨g,0,none⟩),x4,x5,x6,x7,x8,x9,x10,x11,x12,.bool (n != x + 1),.pointer (some ⟨g,1,none⟩),.int .i64 n,.pointer (some ⟨b,0,none⟩),.pointer (some ⟨g,0,none⟩),.int .i64 k,.int .i64 (x + 1),.bool (n != x + 1),x21,x22,x23,x24,x25,x26,x27,x28],defers := [] } (by kernel_rfl) (fun W hW => by kernel_rfl) (by kernel_rfl) ?_
  exact wq_nil hQ
set_option maxHeartbeats 1000000 in
theorem add_any (b : Nat) (l : List Int) (r n : Int) (w : World) (h : Vc w b l) :
    Calls Tryd.prog 19 #[.pointer (some ⟨b, 0, none⟩), idv r n] w fun e w' => e = .returned (.int .i64 (addV l r n)) ∧ Vc w' b (putV l r n) ∧ Fr (fun i => i = b) w w' := by
  have HV := hid (h.below (ba w (ido 38 r n)))
  have HI := hid (show Idb (w.alloc (ido 38 r n)) w.heap.size r n from ⟨_, heap_alloc_new w _⟩)
  have HB := hid (ba w (ido 38 r n))
  cases hro : ro r n
  · have e1 := add_not (l := l) hro
    have e2 : putV l r n = l := put_not (by rw [e1]; decide)
    rw [e1, e2]
    clear h e1 e2
    go_enter Tryd.func19, Tryd.ntmps19
    go_wp2_with (go_at_call 47; refine (ro_any _ _ _).mono ?_; rintro e w2 ⟨rfl, rfl⟩; rw [hro])
    go_ret
    exact ⟨rfl, HV.out.below (ba _ _), Fr.of_below (bt HB.out (ba _ _))⟩
  · have hq := ro_iff.1 hro
    obtain ⟨k, rfl⟩ := Int.eq_ofNat_of_zero_le hq.1
    have hk : k < 16 := by omega
    obtain ⟨x, hx⟩ : ∃ x, l.getD k 0 = x := ⟨_, rfl⟩
    have HX := hid hx
    have hh := has_in (n := n) hro hx
    have HA := hid (add_in hro hx)
    have HRO := hid hro
    have HBX := hid (show 0 ≤ x ∧ x ≤ 1048576 by rw [← hx]; exact h.1.2 k)
    have HM := hid (show 1 ≤ n ∧ n ≤ 1048576 by omega)
    clear h hro hx hq
    cases hd : decide (n ≤ x)
    · have hlt : ¬ n ≤ x := by simpa using hd
      have HHA := hid (show hasV l k n = false by rw [hh, hd])
      have HLT := hid (show x < 1048576 by have := HM.out; omega)
      clear hh hd
      cases hd : decide (n = x + 1)
      · have hne : ¬ n = x + 1 := by simpa using hd
        have e1 : addV l k n = 22 := by rw [HA.out, if_neg hlt, if_neg hne]
        have e2 : putV l k n = l := put_not (by rw [e1]; decide)
        rw [e1, e2]
        clear e1 e2 hne hlt
        have hd2 : (n != x + 1) = true := by simpa using hd
        clear hd
        go_enter Tryd.func19, Tryd.ntmps19
        go_wp2_with (first
          | (go_at_call 47; refine (ro_any _ _ _).mono ?_; rintro e w2 ⟨rfl, rfl⟩; rw [HRO.out])
          | (go_at_call 34; refine (has_any b l k n _ (HV.out.below (ba _ _))).mono ?_; rintro e w3 ⟨rfl, hb3⟩; rw [HHA.out]; have HB3 := hid (bt (ba _ (ido 38 k n)) hb3); clear hb3)
          | (refine ad_r b k n x l w.heap.size _ hk (HI.out.below HB3.out) (HV.out.below HB3.out) HX.out HLT.out ?_; intro w4 hb4; have HB4 := hid (bt HB3.out hb4); clear hb4))
        go_ret
        exact ⟨rfl, HV.out.below HB4.out, Fr.of_below (bt HB.out HB4.out)⟩
      · have hne : n = x + 1 := by simpa using hd
        have e1 : addV l k n = 0 := by rw [HA.out, if_neg hlt, if_pos hne]
        have HE2 := hid (put_in e1)
        rw [e1]
        clear e1 hne hlt
        have hd2 : (n != x + 1) = false := by simpa using hd
        clear hd
        go_enter Tryd.func19, Tryd.ntmps19
        go_wp2_with (first
          | (go_at_call 47; refine (ro_any _ _ _).mono ?_; rintro e w2 ⟨rfl, rfl⟩; rw [HRO.out])
          | (go_at_call 34; refine (has_any b l k n _ (HV.out.below (ba _ _))).mono ?_; rintro e w3 ⟨rfl, hb3⟩; rw [HHA.out]; have HB3 := hid (bt (ba _ (ido 38 k n)) hb3); clear hb3)
          | (refine ad_r b k n x l w.heap.size _ hk (HI.out.below HB3.out) (HV.out.below HB3.out) HX.out HLT.out ?_; intro w4 hb4; have HB4 := hid (bt HB3.out hb4); have HV4 := hid (HV.out.below HB4.out); have q0 := (HI.out.below HB4.out).c0; have q1 := (HI.out.below HB4.out).c1; have hfz := HV4.out.frozen k; have hcc := HV4.out.cell hk; clear hb4)
          | go_region)
        go_ret
        rw [HE2.out]
        have hp := HV4.out.put hk n (by have := HM.out; omega)
        exact ⟨rfl, hp.1, (Fr.of_below (bt HB.out HB4.out)).trans (hp.2.drewN 1) (fun i _ h => h)⟩
    · have HHA := hid (show hasV l k n = true by rw [hh, hd])
      have hle : n ≤ x := by simpa using hd
      have e1 : addV l k n = 12 := by rw [HA.out, if_pos hle]
      have e2 : putV l k n = l := put_not (by rw [e1]; decide)
      rw [e1, e2]
      clear e1 e2 hle hd hh
      go_enter Tryd.func19, Tryd.ntmps19
      go_wp2_with (first
        | (go_at_call 47; refine (ro_any _ _ _).mono ?_; rintro e w2 ⟨rfl, rfl⟩; rw [HRO.out])
        | (go_at_call 34; refine (has_any b l k n _ (HV.out.below (ba _ _))).mono ?_; rintro e w3 ⟨rfl, hb3⟩; rw [HHA.out]; have HB3 := hid (bt (ba _ (ido 38 k n)) hb3); clear hb3))
      go_ret
      exact ⟨rfl, HV.out.below HB3.out, Fr.of_below (bt HB.out HB3.out)⟩

end Go.Proofs.YtaojeanoojnknaaDoor

/-
  What Count, Covers and Clone answer is proved here, of the program and of the reference, for all vectors.
-/
namespace Go.Proofs.YtaojeanoojnknaaDoor
open Go.RowKit
set_option linter.unusedVariables false
set_option maxRecDepth 100000

section
variable {ops : Array Oper} {rest : List Oper} {o : Oper} {a : Act} {w : World} {Q : Exit → Act → World → Prop}
end

theorem info_int : (Tryd.prog.info? 3).map (fun i => (i.zero, i.size, i.bytes)) = some (some (.int .i64 0), 1, 8) := by kernel_rfl
theorem run_mk16 (W : World) : (Instr.makeSlice 63 (.int .i64 16) (.int .i64 16)).run Tryd.prog W = .ok (.slice (some ⟨W.heap.size, 0, none⟩) 16 16) (W.alloc (.cells (is v0).toArray 3)) := by
  obtain ⟨i0, hi, hz0, hz1, hz2⟩ := info_parts info_int
  have h := run_make (P := Tryd.prog) W 63 3 i0 _ Tryd.underlying63 hi hz0 .i64 .i64 16 16 (by decide) (by decide) (by rw [hz2]; decide) (by decide)
  rw [h, hz1]
  congr 2
  kernel_rfl
theorem splice_all (l : List Int) (h : l.length = 16) : splice (is v0) 0 (is l) = is l := by
  unfold splice
  rw [List.take_zero, List.nil_append, List.drop_eq_nil_of_le (by simp [h, v0]), List.append_nil]

theorem Iz.row {w : World} {g : Nat} {l : List Int} {t : TypeId} (h : w.heap[g]? = some (.cells (is l).toArray t (0, 0))) (h16 : l.length = 16) : Iz w (.slice (some ⟨g, 0, none⟩) 16 16) l := by
  refine ⟨by simp, some ⟨g, 0, none⟩, 16, by rw [h16], by omega, by unfold maxLen; omega, (fun e => by cases e), fun j u hu => ⟨g, 0, rfl, ?_⟩⟩
  rw [Nat.zero_add, cell_of_row w g j _ t _ h]
  simpa using hu
theorem Vc.cells_at {w : World} {b : Nat} {l : List Int} (h : Vc w b l) : ∀ j u, (is l)[j]? = some u → w.cell? ((⟨b, 0, none⟩ : Addr).add j) = some u := by
  intro j u hu
  obtain ⟨hk, T, e⟩ := h
  have e3 : (⟨b, 0, none⟩ : Addr).add j = ⟨b, j, none⟩ := by
    unfold Addr.add; split <;> simp_all
  rw [e3, cell_of_row w b j _ T _ e]
  simpa using hu

theorem have_any (b : Nat) (l : List Int) (w : World) (h : Vc w b l) :
    Calls Tryd.prog 31 #[.pointer (some ⟨b, 0, none⟩)] w fun e w' => ∃ v, e = .returned v ∧ Iz w' v l ∧ Below w.heap.size w w' := by
  have HV := hid (h.below (ba w (.cells (is v0).toArray 3)))
  have hmk := run_mk16
  have HG := hid (heap_alloc_new w (.cells (is v0).toArray 3))
  have HB := hid (ba w (.cells (is v0).toArray 3))
  have HL := hid (show (is l).length = 16 by simp [h.1.1])
  have HC := hid (h.below (ba w (.cells (is v0).toArray 3))).cells_at
  clear h
  go_enter Tryd.func31, Tryd.ntmps31
  go_wp2_with (refine wpList_copy_splice rfl (.tmp 5) (.tmp 9) 63 63 rfl 3 Tryd.underlying63 (by kernel_rfl) (some ⟨w.heap.size,0,none⟩) (some ⟨b,0,none⟩) 16 16 16 16 rfl rfl w.heap.size 0 (is v0) 3 HG.out (is l) (by rw [HL.out]; rfl) (fun _ => ⟨rfl,_,rfl,HC.out⟩) (by rw [HL.out]; decide) (ints_oneCell .i64 l) w.heap.size w HB.out (Nat.le_refl _) ?_; intro w2 hg2 hb2; have HB2 := hid hb2; clear hb2)
  go_ret
  rw [splice_all l HV.out.1.1] at hg2
  exact ⟨_, rfl, Iz.row hg2.out HV.out.1.1, HB2.out⟩

end Go.Proofs.YtaojeanoojnknaaDoor

/-
  What Of, Add, Join and Missing answer and leave is proved here, of the program, for all vectors.
-/
namespace Go.Proofs.YtaojeanoojnknaaDoor
open Go.RowKit
set_option linter.unusedVariables false
set_option maxRecDepth 100000

end Go.Proofs.YtaojeanoojnknaaDoor

/-
  What Missing answers is proved here, of the program, for all vectors.
-/
namespace Go.Proofs.YtaojeanoojnknaaDoor
open Go.RowKit
set_option linter.unusedVariables false
set_option maxRecDepth 100000

theorem info_cut : (Tryd.prog.info? 86).map (fun i => (i.zero, i.size, i.bytes)) = some (some (.agg #[.int .i64 0, .int .i64 0, .int .i64 0, .int .i64 0]), 4, 32) := by kernel_rfl
end Go.Proofs.YtaojeanoojnknaaDoor

/-
  What the reference's List, Join and Missing answer and leave is proved here, for all vectors.
-/
namespace Go.Proofs.YtaojeanoojnknaaDoor
open Go.RowKit
set_option linter.unusedVariables false
set_option maxRecDepth 100000

end Go.Proofs.YtaojeanoojnknaaDoor

/-
  What the reference's Of, and CopyInts and SameInts, answer is proved here, for all numbers.
-/
namespace Go.Proofs.YtaojeanoojnknaaDoor
open Go.RowKit
set_option linter.unusedVariables false
set_option maxRecDepth 100000

end Go.Proofs.YtaojeanoojnknaaDoor

/-
  What SameInts answers is proved here, for all numbers.
-/
namespace Go.Proofs.YtaojeanoojnknaaDoor
open Go.RowKit
set_option linter.unusedVariables false
set_option maxRecDepth 100000

theorem sameints_any (v u : Value) (l m : List Int) (w : World) (h : Iz w v l) (h' : Iz w u m) :
    Calls Tryd.prog 30 #[v, u] w fun e w' => e = .returned (.bool (decide (l = m))) ∧ Below w.heap.size w w' := by
  obtain ⟨z, hz⟩ : ∃ z, decide (l = m) = z := ⟨_, rfl⟩
  rw [hz]
  have HZ := hid hz
  have HV := hid h
  have HU := hid h'
  have f1 := h.form
  have f2 := h'.form
  obtain ⟨a1, c1, rfl, p1, p2⟩ := f1
  obtain ⟨a2, c2, rfl, p3, p4⟩ := f2
  clear h h' hz
  obtain ⟨N, hN⟩ : ∃ N, l.length = N := ⟨_, rfl⟩
  obtain ⟨M, hM⟩ : ∃ M, m.length = M := ⟨_, rfl⟩
  have HN := hid hN
  have HM := hid hM
  rw [hN] at p1 ⊢
  rw [hM] at p3 ⊢
  clear hN hM
  cases hd : (N == M)
  · have hd2 : ((N : Int) == (M : Int)) = false := by simp at hd ⊢; omega
    have hd3 : ((N : Int) != (M : Int)) = true := by simp at hd ⊢; omega
    have HD := hid hd
    clear hd
    go_enter Tryd.func30, Tryd.ntmps30
    go_wp2_with fail
    go_ret
    refine ⟨?_, Below.refl _ _⟩
    rw [← HZ.out, decide_eq_false (fun e => by have h1 := HN.out; have h2 := HM.out; have h3 := HD.out; rw [e] at h1; simp at h3; omega)]
    rfl
  · obtain rfl : N = M := by simpa using hd
    clear hd
    have hmx : (N : Int) ≤ 9223372036854775807 := by unfold maxLen at p2; omega
    go_enter Tryd.func30, Tryd.ntmps30
    go_wp2_with fail
    go_loopw [5] (fun i wr => ∃ k : Nat, k ≤ N ∧ i = .int .i64 k ∧ Hid (∀ j, j < k → l.getD j 0 = m.getD j 0) ∧ Below w.heap.size w wr) (fun i _ => N - (intOf i).toNat)
    case atStart => exact ⟨0, by omega, rfl, fun j hj => absurd hj (Nat.not_lt_zero _), Below.refl _ _⟩
    case round =>
      obtain ⟨k, hk, rfl, HJ, hbel⟩ := hrel
      have HB := hid hbel
      by_cases hlt : k < N
      · have hlt' : (k : Int) < (N : Int) := by omega
        obtain ⟨g1, o1, c1', e, _, _, _, hcell1⟩ := (HV.out.below hbel).inv (by have := HN.out; omega)
        rw [HN.out] at e
        simp only [Value.slice.injEq] at e
        obtain ⟨rfl, _, rfl⟩ := e
        obtain ⟨g2, o2, c2', e, _, _, _, hcell2⟩ := (HU.out.below hbel).inv (by have := HM.out; omega)
        rw [HM.out] at e
        simp only [Value.slice.injEq] at e
        obtain ⟨rfl, _, rfl⟩ := e
        have hx1 := hcell1 k (by have := HN.out; omega)
        have hx2 := hcell2 k (by have := HM.out; omega)
        obtain ⟨x, hx⟩ : ∃ x, l.getD k 0 = x := ⟨_, rfl⟩
        obtain ⟨y, hy⟩ : ∃ y, m.getD k 0 = y := ⟨_, rfl⟩
        rw [hx] at hx1
        rw [hy] at hx2
        have HX := hid hx
        have HY := hid hy
        clear hx hy hcell1 hcell2 hbel
        cases hd : (x == y)
        · have hd2 : (x != y) = true := by simpa using hd
          have HD := hid hd
          clear hd
          go_wp2_with (go_quiet (fail))
          go_ret
          refine ⟨?_, below_drewN HB.out _⟩
          rw [← HZ.out, decide_eq_false (fun e => by have h3 := HD.out; have h1 := HX.out; rw [e, HY.out] at h1; simp at h3; omega)]
          rfl
        · obtain rfl : x = y := by simpa using hd
          have hd2 : (x != x) = false := by simp
          clear hd
          go_wp2_with (go_quiet (fail))
          go_roundw
          case rel =>
            refine ⟨k + 1, by omega, by go_num, fun j hj => ?_, below_drewN HB.out _⟩
            by_cases e : j = k
            · subst e; rw [HX.out, HY.out]
            · exact HJ.out j (by omega)
          case measure => simp [intOf]; omega
      · obtain rfl : k = N := by omega
        have HE := hid (show l = m from List.ext_getElem (by rw [HN.out, HM.out]) (fun i h1 h2 => by
          have := HJ.out i (by rw [← HN.out]; exact h1)
          simpa [h1, h2] using this))
        clear hbel
        go_wp2_with fail
        go_ret
        refine ⟨?_, HB.out⟩
        rw [← HZ.out, decide_eq_true HE.out]
        rfl

end Go.Proofs.YtaojeanoojnknaaDoor
