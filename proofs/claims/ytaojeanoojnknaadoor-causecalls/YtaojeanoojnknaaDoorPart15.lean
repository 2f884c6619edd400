/-
  What New, Next and Has answer is proved here, of the program and of the reference, for all vectors.
-/
import Derived.Test.YtaojeanoojnknaaDoorPart8
import Derived.Test.YtaojeanoojnknaaDoorPart3
import Derived.Deep.CutRange
namespace Go.Proofs.YtaojeanoojnknaaDoor
open Go.RowKit
set_option linter.unusedVariables false
set_option maxRecDepth 100000

theorem new_any (w : World) : Calls Tryd.prog 10 #[] w fun e w' => e = .returned (.pointer (some ⟨w.heap.size, 0, none⟩)) ∧ Vc w' w.heap.size v0 ∧ Below w.heap.size w w' := by
  have h := hid (And.intro (Vc.new w v0 v0_ok 81) (ba w (.cells (is v0).toArray 81)))
  go_enter Tryd.func10, Tryd.ntmps10
  go_wp2_with fail
  go_ret
  exact ⟨rfl, h.out⟩

theorem next_in {l : List Int} {k : Nat} {x : Int} (hk : k < 16) (hx : l.getD k 0 = x) : nextV l k = if 1048576 ≤ x then 0 else x + 1 := by
  unfold nextV
  rw [if_neg (by omega), Int.toNat_natCast, hx]
theorem next_out {l : List Int} {r : Int} (h : ¬ (0 ≤ r ∧ r < 16)) : nextV l r = 0 := by
  unfold nextV
  rw [if_pos (by omega)]
theorem has_in {l : List Int} {k : Nat} {n x : Int} (hro : ro k n = true) (hx : l.getD k 0 = x) : hasV l k n = decide (n ≤ x) := by
  unfold hasV
  rw [hro, Int.toNat_natCast, hx, Bool.true_and]
theorem has_out {l : List Int} {r n : Int} (hro : ro r n = false) : hasV l r n = false := by
  unfold hasV
  rw [hro, Bool.false_and]
/-- A name's block. -/
abbrev Idb (W : World) (g : Nat) (r n : Int) : Prop := ∃ T, W.heap[g]? = some (ido T r n)
theorem run_ldid {o : Oper} {a : Act} {x : Operand} {g : Nat} {r n : Int} {W : World} (ho : o.op = .load 38 x) (hx : a.eval x = .pointer (some ⟨g, 0, none⟩)) (h : Idb W g r n) : (execOp a.eval o).run Tryd.prog W = .ok (.value (idv r n)) W := by
  obtain ⟨T, h⟩ := h
  have h0 : W.cell? ⟨g, 0, none⟩ = some (.int .i64 r) := by rw [cell_of_row W g 0 _ T _ h]; rfl
  have h1 : W.cell? ⟨g, 1, none⟩ = some (.int .i64 n) := by rw [cell_of_row W g 1 _ T _ h]; rfl
  unfold execOp
  simp only [ho, hx]
  simp [go_sem, h0, h1]
theorem run_ldnum {o : Oper} {a : Act} {x : Operand} {b i : Nat} {k : Int} {W : World} (ho : o.op = .load 3 x) (hx : a.eval x = .pointer (some ⟨b, i, none⟩)) (h : W.cell? ⟨b, i, none⟩ = some (.int .i64 k)) : (execOp a.eval o).run Tryd.prog W = .ok (.value (.int .i64 k)) W := by
  unfold execOp
  simp only [ho, hx]
  simp [go_sem, h]
theorem run_ixarr {o : Oper} {a : Act} {x y : Operand} {b k : Nat} {W : World} (ho : o.op = .indexAddr 34 x y) (hx : a.eval x = .pointer (some ⟨b, 0, none⟩)) (hy : a.eval y = .int .i64 k) (hk : k < 16) :
    (execOp a.eval o).run Tryd.prog W = .ok (.value (.pointer (some ⟨b, k, none⟩))) W := by
  have hk' : (k : Int) < 16 := by omega
  unfold execOp
  simp only [ho, hx, hy]
  simp [go_sem, hk']
theorem Idb.c0 {W : World} {g : Nat} {r n : Int} (h : Idb W g r n) : W.cell? ⟨g, 0, none⟩ = some (.int .i64 r) := by obtain ⟨T, h⟩ := h; rw [cell_of_row W g 0 _ T _ h]; rfl
theorem Idb.c1 {W : World} {g : Nat} {r n : Int} (h : Idb W g r n) : W.cell? ⟨g, 1, none⟩ = some (.int .i64 n) := by obtain ⟨T, h⟩ := h; rw [cell_of_row W g 1 _ T _ h]; rfl
theorem Idb.below {W W' : World} {g : Nat} {r n : Int} (h : Idb W g r n) (hb : Below W.heap.size W W') : Idb W' g r n := by
  obtain ⟨T, h⟩ := h
  exact ⟨T, by rw [hb.block g (Array.getElem?_eq_some_iff.1 h).1]; exact h⟩

theorem next_any (b : Nat) (l : List Int) (r : Int) (w : World) (h : Vc w b l) :
    Calls Tryd.prog 32 #[.pointer (some ⟨b, 0, none⟩), .int .i64 r] w fun e w' => e = .returned (.int .i64 (nextV l r)) ∧ w = w' := by
  by_cases h0 : 0 ≤ r ∧ r < 16
  · obtain ⟨k, rfl⟩ := Int.eq_ofNat_of_zero_le h0.1
    have hk : k < 16 := by omega
    have hc := h.cell hk
    obtain ⟨x, hx⟩ : ∃ x, l.getD k 0 = x := ⟨_, rfl⟩
    rw [next_in hk hx]
    have hb := h.1.2 k
    rw [hx] at hc hb
    have e1 : decide ((k : Int) < 0) = false := by simp
    have e2 : decide ((16 : Int) ≤ (k : Int)) = false := by simp; omega
    clear hx
    obtain ⟨z, hz⟩ : ∃ z, (if 1048576 ≤ x then 0 else x + 1) = z := ⟨_, rfl⟩
    rw [hz]
    have HZ := hid hz
    clear hz
    cases he : (x == 1048576)
    all_goals
      have HE := hid he
      go_enter Tryd.func32, Tryd.ntmps32
      go_wp2_with fail
      go_ret
      refine ⟨?_, rfl⟩
      have he := HE.out
      simp at he
      rw [← HZ.out]
      first
      | (rw [if_neg (by omega)]; rfl)
      | (rw [if_pos (by omega)]; rfl)
  · rw [next_out h0]
    have h1 : decide (r < 0) = true ∨ (decide (r < 0) = false ∧ decide (16 ≤ r) = true) := by simp; omega
    clear h0
    rcases h1 with h1 | ⟨h1, h2⟩
    all_goals
      go_enter Tryd.func32, Tryd.ntmps32
      go_wp2_with fail
      go_ret
      exact ⟨rfl, rfl⟩

def hs0 : Oper := { dst := some 5, op := Op.load 38 (Operand.tmp 3), type := 38, pos := "vec.go:34", after := #[], guard := none }
def hs1 : Oper := { dst := some 6, op := Op.call { callee := Callee.value (Operand.func 47), args := #[Operand.tmp 5], argTypes := #[38] }, type := 4, pos := "vec.go:34", after := #[{ on := 0, ground := Ground.data }], guard := none }
def hs2 : Oper := { dst := some 7, op := Op.move (Operand.tmp 6), type := 4, pos := "vec.go:34", after := #[{ on := 1, ground := Ground.data }, { on := 1, ground := Ground.chain }], guard := none }
def hs3 : Oper := { dst := some 8, op := Op.fieldAddr 38 (Operand.tmp 3) 1, type := 0, pos := "vec.go:34", after := #[{ on := 2, ground := Ground.guard }], guard := some (2, true) }
def hs4 : Oper := { dst := some 9, op := Op.load 3 (Operand.tmp 8), type := 3, pos := "vec.go:34", after := #[{ on := 3, ground := Ground.data }, { on := 2, ground := Ground.guard }], guard := some (2, true) }
def hs5 : Oper := { dst := some 10, op := Op.move (Operand.tmp 0), type := 31, pos := "vec.go:34", after := #[{ on := 2, ground := Ground.guard }], guard := some (2, true) }
def hs6 : Oper := { dst := some 11, op := Op.fieldAddr 38 (Operand.tmp 3) 0, type := 0, pos := "vec.go:34", after := #[{ on := 2, ground := Ground.guard }], guard := some (2, true) }
def hs7 : Oper := { dst := some 12, op := Op.load 3 (Operand.tmp 11), type := 3, pos := "vec.go:34", after := #[{ on := 6, ground := Ground.data }, { on := 2, ground := Ground.guard }], guard := some (2, true) }
def hs8 : Oper := { dst := some 13, op := Op.nilCheck (Operand.tmp 10), type := 0, pos := "vec.go:34", after := #[{ on := 5, ground := Ground.data }, { on := 2, ground := Ground.guard }], guard := some (2, true) }
def hs9 : Oper := { dst := some 14, op := Op.fieldAddr 81 (Operand.tmp 13) 0, type := 0, pos := "vec.go:34", after := #[{ on := 8, ground := Ground.data }, { on := 2, ground := Ground.guard }], guard := some (2, true) }
def hs10 : Oper := { dst := some 15, op := Op.indexAddr 34 (Operand.tmp 14) (Operand.tmp 12), type := 0, pos := "vec.go:34", after := #[{ on := 9, ground := Ground.data }, { on := 7, ground := Ground.data }, { on := 2, ground := Ground.guard }], guard := some (2, true) }
def hs11 : Oper := { dst := some 16, op := Op.load 3 (Operand.tmp 15), type := 3, pos := "vec.go:34", after := #[{ on := 10, ground := Ground.data }, { on := 2, ground := Ground.guard }], guard := some (2, true) }
def hs12 : Oper := { dst := some 17, op := Op.binOp BinOp.leq 3 (Operand.tmp 9) (Operand.tmp 16) 3, type := 4, pos := "vec.go:34", after := #[{ on := 4, ground := Ground.data }, { on := 11, ground := Ground.data }, { on := 2, ground := Ground.guard }], guard := some (2, true) }
def hs13 : Oper := { dst := some 18, op := Op.pick (Operand.tmp 7) (Operand.tmp 17) (Operand.const (Value.bool false)), type := 4, pos := "vec.go:34", after := #[{ on := 2, ground := Ground.data }, { on := 12, ground := Ground.data }], guard := none }
def hs14 : Oper := { dst := some 4,op := Op.assign (Operand.tmp 18),type := 4,pos := "vec.go:34",after := #[{ on := 13,ground := Ground.data },{ on := 2,ground := Ground.chain },{ on := 0,ground := Ground.phase },{ on := 1,ground := Ground.phase },{ on := 2,ground := Ground.phase },{ on := 3,ground := Ground.phase },{ on := 4,ground := Ground.phase },{ on := 5,ground := Ground.phase },{ on := 6,ground := Ground.phase },{ on := 7,ground := Ground.phase },{ on := 8,ground := Ground.phase },{ on := 9,ground := Ground.phase },{ on := 10,ground := Ground.phase },{ on := 11,ground := Ground.phase },{ on := 12,ground := Ground.phase },{ on := 13,ground := Ground.phase }],guard := none }
def hss : Array Oper := #[hs0, hs1, hs2, hs3, hs4, hs5, hs6, hs7, hs8, hs9, hs10, hs11, hs12, hs13, hs14]
theorem hs_lex : Region.lexB .any hss = true := by kernel_rfl
theorem hs_no (b : Nat) (r n : Int) (g : Nat) (w : World) {x2 x4 x5 x6 x7 x8 x9 aj ai ah ag af ae ad ab aa : Value} {Q : Exit → Act → World → Prop} (hro : ro r n = false) (hI : Idb w g r n)
    (hQ : ∀ W,Below w.heap.size w W → Q .normal { tmps := #[.pointer (some ⟨b,0,none⟩),idv r n,x2,.pointer (some ⟨g,0,none⟩),.bool false,idv r n,.bool false,.bool false,undef,undef,undef,undef,undef,undef,undef,undef,undef,undef,.bool false],defers := [] } W) : (Code.region 1 hss true).wp Tryd.prog Q { tmps := #[.pointer (some ⟨b,0,none⟩),idv r n,x2,.pointer (some ⟨g,0,none⟩),x4,x5,x6,x7,x8,x9,aj,ai,ah,ag,af,ae,ad,ab,aa],defers := [] } w := by
  refine wp_region_quiet (C := fun W => Below w.heap.size w W) (by kernel_rfl) hs_lex (Below.refl _ _).drew ?_
  change wpQuiet _ _ _ _ [hs0, hs1, hs2, hs3, hs4, hs5, hs6, hs7, hs8, hs9, hs10, hs11, hs12, hs13, hs14] _
  refine Wq.out ?_
  refine wq_val (idv r n) { tmps := #[.pointer (some ⟨b, 0, none⟩), idv r n, x2, .pointer (some ⟨g, 0, none⟩), x4, idv r n, x6, x7, x8, x9, aj, ai, ah, ag, af, ae, ad, ab, aa], defers := [] } (by kernel_rfl) (fun W hW => run_ldid rfl rfl (hI.below hW)) (by kernel_rfl) ?_
  refine wq_call (f := 47) (args := #[idv r n]) (.bool false) { tmps := #[.pointer (some ⟨b,0,none⟩),idv r n,x2,.pointer (some ⟨g,0,none⟩),x4,idv r n,.bool false,x7,x8,x9,aj,ai,ah,ag,af,ae,ad,ab,aa],defers := [] } (by kernel_rfl) (fun W => by kernel_rfl) (fun W hW => (ro_any _ _ W).mono fun e V ⟨h1,h2⟩ => ⟨by rw [h1,hro],by rw [h2]; exact bt hW (ba W _)⟩) (by kernel_rfl) ?_
  refine wq_val (.bool false) { tmps := #[.pointer (some ⟨b, 0, none⟩), idv r n, x2, .pointer (some ⟨g, 0, none⟩), x4, idv r n, .bool false, .bool false, x8, x9, aj, ai, ah, ag, af, ae, ad, ab, aa], defers := [] } (by kernel_rfl) (fun W hW => by kernel_rfl) (by kernel_rfl) ?_
  refine wq_skip { tmps := #[.pointer (some ⟨b, 0, none⟩), idv r n, x2, .pointer (some ⟨g, 0, none⟩), x4, idv r n, .bool false, .bool false, undef, x9, aj, ai, ah, ag, af, ae, ad, ab, aa], defers := [] } (by kernel_rfl) (by kernel_rfl) ?_
  refine wq_skip { tmps := #[.pointer (some ⟨b, 0, none⟩), idv r n, x2, .pointer (some ⟨g, 0, none⟩), x4, idv r n, .bool false, .bool false, undef, undef, aj, ai, ah, ag, af, ae, ad, ab, aa], defers := [] } (by kernel_rfl) (by kernel_rfl) ?_
  refine wq_skip { tmps := #[.pointer (some ⟨b, 0, none⟩), idv r n, x2, .pointer (some ⟨g, 0, none⟩), x4, idv r n, .bool false, .bool false, undef, undef, undef, ai, ah, ag, af, ae, ad, ab, aa], defers := [] } (by kernel_rfl) (by kernel_rfl) ?_
  refine wq_skip { tmps := #[.pointer (some ⟨b, 0, none⟩), idv r n, x2, .pointer (some ⟨g, 0, none⟩), x4, idv r n, .bool false, .bool false, undef, undef, undef, undef, ah, ag, af, ae, ad, ab, aa], defers := [] } (by kernel_rfl) (by kernel_rfl) ?_
  refine wq_skip { tmps := #[.pointer (some ⟨b, 0, none⟩), idv r n, x2, .pointer (some ⟨g, 0, none⟩), x4, idv r n, .bool false, .bool false, undef, undef, undef, undef, undef, ag, af, ae, ad, ab, aa], defers := [] } (by kernel_rfl) (by kernel_rfl) ?_
  refine wq_skip { tmps := #[.pointer (some ⟨b, 0, none⟩), idv r n, x2, .pointer (some ⟨g, 0, none⟩), x4, idv r n, .bool false, .bool false, undef, undef, undef, undef, undef, undef, af, ae, ad, ab, aa], defers := [] } (by kernel_rfl) (by kernel_rfl) ?_
  refine wq_skip { tmps := #[.pointer (some ⟨b, 0, none⟩), idv r n, x2, .pointer (some ⟨g, 0, none⟩), x4, idv r n, .bool false, .bool false, undef, undef, undef, undef, undef, undef, undef, ae, ad, ab, aa], defers := [] } (by kernel_rfl) (by kernel_rfl) ?_
  refine wq_skip { tmps := #[.pointer (some ⟨b, 0, none⟩), idv r n, x2, .pointer (some ⟨g, 0, none⟩), x4, idv r n, .bool false, .bool false, undef, undef, undef, undef, undef, undef, undef, undef, ad, ab, aa], defers := [] } (by kernel_rfl) (by kernel_rfl) ?_
  refine wq_skip { tmps := #[.pointer (some ⟨b, 0, none⟩), idv r n, x2, .pointer (some ⟨g, 0, none⟩), x4, idv r n, .bool false, .bool false, undef, undef, undef, undef, undef, undef, undef, undef, undef, ab, aa], defers := [] } (by kernel_rfl) (by kernel_rfl) ?_
  refine wq_skip { tmps := #[.pointer (some ⟨b, 0, none⟩), idv r n, x2, .pointer (some ⟨g, 0, none⟩), x4, idv r n, .bool false, .bool false, undef, undef, undef, undef, undef, undef, undef, undef, undef, undef, aa], defers := [] } (by kernel_rfl) (by kernel_rfl) ?_
  refine wq_val (.bool false) { tmps := #[.pointer (some ⟨b,0,none⟩),idv r n,x2,.pointer (some ⟨g,0,none⟩),x4,idv r n,.bool false,.bool false,undef,undef,undef,undef,undef,undef,undef,undef,undef,undef,.bool false],defers := [] } (by kernel_rfl) (fun W hW => by kernel_rfl) (by kernel_rfl) ?_
  refine wq_val (.bool false) { tmps := #[.pointer (some ⟨b,0,none⟩),idv r n,x2,.pointer (some ⟨g,0,none⟩),.bool false,idv r n,.bool false,.bool false,undef,undef,undef,undef,undef,undef,undef,undef,undef,undef,.bool false],defers := [] } (by kernel_rfl) (fun W hW => by kernel_rfl) (by kernel_rfl) ?_
  exact wq_nil hQ
theorem hs_yes (b k : Nat) (n x : Int) (l : List Int) (g : Nat) (w : World) {x2 x4 x5 x6 x7 x8 x9 aj ai ah ag af ae ad ab aa : Value} {Q : Exit → Act → World → Prop} (hro : ro (k : Int) n = true) (hk : k < 16) (hI : Idb w g k n) (hV : Vc w b l) (hx : l.getD k 0 = x)
    (hQ : ∀ W,Below w.heap.size w W → Q .normal { tmps := #[.pointer (some ⟨b,0,none⟩),idv (k : Int) n,x2,.pointer (some ⟨g,0,none⟩),.bool (decide (n ≤ x)),idv (k : Int) n,.bool true,.bool true,.pointer (some ⟨g,1,none⟩),.int .i64 n,.pointer (some ⟨b,0,none⟩),.pointer (some ⟨g,0,none⟩),.int .i64 k,.pointer (some ⟨b,0,none⟩),.pointer (some ⟨b,0,none⟩),.pointer (some ⟨b,k,none⟩),.int .i64 x,.bool (decide (n ≤ x)),.bool (decide (n ≤ x))],defers := [] } W) : (Code.region 1 hss true).wp Tryd.prog Q { tmps := #[.pointer (some ⟨b,0,none⟩),idv (k : Int) n,x2,.pointer (some ⟨g,0,none⟩),x4,x5,x6,x7,x8,x9,aj,ai,ah,ag,af,ae,ad,ab,aa],defers := [] } w := by
  refine wp_region_quiet (C := fun W => Below w.heap.size w W) (by kernel_rfl) hs_lex (Below.refl _ _).drew ?_
  change wpQuiet _ _ _ _ [hs0, hs1, hs2, hs3, hs4, hs5, hs6, hs7, hs8, hs9, hs10, hs11, hs12, hs13, hs14] _
  refine Wq.out ?_
  refine wq_val (idv (k : Int) n) { tmps := #[.pointer (some ⟨b,0,none⟩),idv (k : Int) n,x2,.pointer (some ⟨g,0,none⟩),x4,idv (k : Int) n,x6,x7,x8,x9,aj,ai,ah,ag,af,ae,ad,ab,aa],defers := [] } (by kernel_rfl) (fun W hW => run_ldid rfl rfl (hI.below hW)) (by kernel_rfl) ?_
  refine wq_call (f := 47) (args := #[idv (k : Int) n]) (.bool true) { tmps := #[.pointer (some ⟨b,0,none⟩),idv (k : Int) n,x2,.pointer (some ⟨g,0,none⟩),x4,idv (k : Int) n,.bool true,x7,x8,x9,aj,ai,ah,ag,af,ae,ad,ab,aa],defers := [] } (by kernel_rfl) (fun W => by kernel_rfl) (fun W hW => (ro_any _ _ W).mono fun e V ⟨h1,h2⟩ => ⟨by rw [h1,hro],by rw [h2]; exact bt hW (ba W _)⟩) (by kernel_rfl) ?_
  refine wq_val (.bool true) { tmps := #[.pointer (some ⟨b, 0, none⟩), idv (k : Int) n, x2, .pointer (some ⟨g, 0, none⟩), x4, idv (k : Int) n, .bool true, .bool true, x8, x9, aj, ai, ah, ag, af, ae, ad, ab, aa], defers := [] } (by kernel_rfl) (fun W hW => by kernel_rfl) (by kernel_rfl) ?_
  refine wq_val (.pointer (some ⟨g,1,none⟩)) { tmps := #[.pointer (some ⟨b,0,none⟩),idv (k : Int) n,x2,.pointer (some ⟨g,0,none⟩),x4,idv (k : Int) n,.bool true,.bool true,.pointer (some ⟨g,1,none⟩),x9,aj,ai,ah,ag,af,ae,ad,ab,aa],defers := [] } (by kernel_rfl) (fun W hW => by kernel_rfl) (by kernel_rfl) ?_
  refine wq_val (.int .i64 n) { tmps := #[.pointer (some ⟨b,0,none⟩),idv (k : Int) n,x2,.pointer (some ⟨g,0,none⟩),x4,idv (k : Int) n,.bool true,.bool true,.pointer (some ⟨g,1,none⟩),.int .i64 n,aj,ai,ah,ag,af,ae,ad,ab,aa],defers := [] } (by kernel_rfl) (fun W hW => run_ldnum rfl rfl (hI.below hW).c1) (by kernel_rfl) ?_
  refine wq_val (.pointer (some ⟨b,0,none⟩)) { tmps := #[.pointer (some ⟨b,0,none⟩),idv (k : Int) n,x2,.pointer (some ⟨g,0,none⟩),x4,idv (k : Int) n,.bool true,.bool true,.pointer (some ⟨g,1,none⟩),.int .i64 n,.pointer (some ⟨b,0,none⟩),ai,ah,ag,af,ae,ad,ab,aa],defers := [] } (by kernel_rfl) (fun W hW => by kernel_rfl) (by kernel_rfl) ?_
  refine wq_val (.pointer (some ⟨g,0,none⟩)) { tmps := #[.pointer (some ⟨b,0,none⟩),idv (k : Int) n,x2,.pointer (some ⟨g,0,none⟩),x4,idv (k : Int) n,.bool true,.bool true,.pointer (some ⟨g,1,none⟩),.int .i64 n,.pointer (some ⟨b,0,none⟩),.pointer (some ⟨g,0,none⟩),ah,ag,af,ae,ad,ab,aa],defers := [] } (by kernel_rfl) (fun W hW => by kernel_rfl) (by kernel_rfl) ?_
  refine wq_val (.int .i64 k) { tmps := #[.pointer (some ⟨b,0,none⟩),idv (k : Int) n,x2,.pointer (some ⟨g,0,none⟩),x4,idv (k : Int) n,.bool true,.bool true,.pointer (some ⟨g,1,none⟩),.int .i64 n,.pointer (some ⟨b,0,none⟩),.pointer (some ⟨g,0,none⟩),.int .i64 k,ag,af,ae,ad,ab,aa],defers := [] } (by kernel_rfl) (fun W hW => run_ldnum rfl rfl (hI.below hW).c0) (by kernel_rfl) ?_
  refine wq_val (.pointer (some ⟨b,0,none⟩)) { tmps := #[.pointer (some ⟨b,0,none⟩),idv (k : Int) n,x2,.pointer (some ⟨g,0,none⟩),x4,idv (k : Int) n,.bool true,.bool true,.pointer (some ⟨g,1,none⟩),.int .i64 n,.pointer (some ⟨b,0,none⟩),.pointer (some ⟨g,0,none⟩),.int .i64 k,.pointer (some ⟨b,0,none⟩),af,ae,ad,ab,aa],defers := [] } (by kernel_rfl) (fun W hW => by kernel_rfl) (by kernel_rfl) ?_
  refine wq_val (.pointer (some ⟨b,0,none⟩)) { tmps := #[.pointer (some ⟨b,0,none⟩),idv (k : Int) n,x2,.pointer (some ⟨g,0,none⟩),x4,idv (k : Int) n,.bool true,.bool true,.pointer (some ⟨g,1,none⟩),.int .i64 n,.pointer (some ⟨b,0,none⟩),.pointer (some ⟨g,0,none⟩),.int .i64 k,.pointer (some ⟨b,0,none⟩),.pointer (some ⟨b,0,none⟩),ae,ad,ab,aa],defers := [] } (by kernel_rfl) (fun W hW => by kernel_rfl) (by kernel_rfl) ?_
  refine wq_val (.pointer (some ⟨b,k,none⟩)) { tmps := #[.pointer (some ⟨b,0,none⟩),idv (k : Int) n,x2,.pointer (some ⟨g,0,none⟩),x4,idv (k : Int) n,.bool true,.bool true,.pointer (some ⟨g,1,none⟩),.int .i64 n,.pointer (some ⟨b,0,none⟩),.pointer (some ⟨g,0,none⟩),.int .i64 k,.pointer (some ⟨b,0,none⟩),.pointer (some ⟨b,0,none⟩),.pointer (some ⟨b,k,none⟩),ad,ab,aa],defers := [] } (by kernel_rfl) (fun W hW => run_ixarr rfl rfl rfl hk) (by kernel_rfl) ?_
  refine wq_val (.int .i64 x) { tmps := #[.pointer (some ⟨b,0,none⟩),idv (k : Int) n,x2,.pointer (some ⟨g,0,none⟩),x4,idv (k : Int) n,.bool true,.bool true,.pointer (some ⟨g,1,none⟩),.int .i64 n,.pointer (some ⟨b,0,none⟩),.pointer (some ⟨g,0,none⟩),.int .i64 k,.pointer (some ⟨b,0,none⟩),.pointer (some ⟨b,0,none⟩),.pointer (some ⟨b,k,none⟩),.int .i64 x,ab,aa],defers := [] } (by kernel_rfl) (fun W hW => run_ldnum rfl rfl (by rw [← hx]; exact (hV.below hW).cell hk)) (by kernel_rfl) ?_
  refine wq_val (.bool (decide (n ≤ x))) { tmps := #[.pointer (some ⟨b,0,none⟩),idv (k : Int) n,x2,.pointer (some ⟨g,0,none⟩),x4,idv (k : Int) n,.bool true,.bool true,.pointer (some ⟨g,1,none⟩),.int .i64 n,.pointer (some ⟨b,0,none⟩),.pointer (some ⟨g,0,none⟩),.int .i64 k,.pointer (some ⟨b,0,none⟩),.pointer (some ⟨b,0,none⟩),.pointer (some ⟨b,k,none⟩),.int .i64 x,.bool (decide (n ≤ x)),aa],defers := [] } (by kernel_rfl) (fun W hW => by kernel_rfl) (by kernel_rfl) ?_
  refine wq_val (.bool (decide (n ≤ x))) { tmps := #[.pointer (some ⟨b,0,none⟩),idv (k : Int) n,x2,.pointer (some ⟨g,0,none⟩),x4,idv (k : Int) n,.bool true,.bool true,.pointer (some ⟨g,1,none⟩),.int .i64 n,.pointer (some ⟨b,0,none⟩),.pointer (some ⟨g,0,none⟩),.int .i64 k,.pointer (some ⟨b,0,none⟩),.pointer (some ⟨b,0,none⟩),.pointer (some ⟨b,k,none⟩),.int .i64 x,.bool (decide (n ≤ x)),.bool (decide (n ≤ x))],defers := [] } (by kernel_rfl) (fun W hW => by kernel_rfl) (by kernel_rfl) ?_
  refine wq_val (.bool (decide (n ≤ x))) { tmps := #[.pointer (some ⟨b,0,none⟩),idv (k : Int) n,x2,.pointer (some ⟨g,0,none⟩),.bool (decide (n ≤ x)),idv (k : Int) n,.bool true,.bool true,.pointer (some ⟨g,1,none⟩),.int .i64 n,.pointer (some ⟨b,0,none⟩),.pointer (some ⟨g,0,none⟩),.int .i64 k,.pointer (some ⟨b,0,none⟩),.pointer (some ⟨b,0,none⟩),.pointer (some ⟨b,k,none⟩),.int .i64 x,.bool (decide (n ≤ x)),.bool (decide (n ≤ x))],defers := [] } (by kernel_rfl) (fun W hW => by kernel_rfl) (by kernel_rfl) ?_
  exact wq_nil hQ

theorem has_any (b : Nat) (l : List Int) (r n : Int) (w : World) (h : Vc w b l) :
    Calls Tryd.prog 34 #[.pointer (some ⟨b, 0, none⟩), idv r n] w fun e w' => e = .returned (.bool (hasV l r n)) ∧ Below w.heap.size w w' := by
  have HV := hid (h.below (ba w (ido 38 r n)))
  have HI := hid (show Idb (w.alloc (ido 38 r n)) w.heap.size r n from ⟨_, heap_alloc_new w _⟩)
  have HB := hid (ba w (ido 38 r n))
  cases hro : ro r n
  · rw [has_out hro]
    have HRO := hid hro
    clear h hro
    go_enter Tryd.func34, Tryd.ntmps34
    go_upto_region 1 with (fail)
    refine hs_no b r n w.heap.size _ HRO.out HI.out ?_
    intro W hW
    go_wp2_with fail
    go_ret
    exact ⟨rfl, bt HB.out hW⟩
  · have hq := ro_iff.1 hro
    obtain ⟨k, rfl⟩ := Int.eq_ofNat_of_zero_le hq.1
    obtain ⟨x, hx⟩ : ∃ x, l.getD k 0 = x := ⟨_, rfl⟩
    rw [has_in hro hx]
    have HRO := hid hro
    have HX := hid hx
    have HK := hid (show k < 16 by omega)
    clear h hro hx hq
    go_enter Tryd.func34, Tryd.ntmps34
    go_upto_region 1 with (fail)
    refine hs_yes b k n x l w.heap.size _ HRO.out HK.out HI.out HV.out HX.out ?_
    intro W hW
    go_wp2_with fail
    go_ret
    exact ⟨rfl, bt HB.out hW⟩

def xhs0 : Oper := { dst := some 5, op := Op.load 38 (Operand.tmp 3), type := 38, pos := "ref.go:28", after := #[], guard := none }
def xhs1 : Oper := { dst := some 6, op := Op.call { callee := Callee.value (Operand.func 48), args := #[Operand.tmp 5], argTypes := #[38] }, type := 4, pos := "ref.go:28", after := #[{ on := 0, ground := Ground.data }], guard := none }
def xhs2 : Oper := { dst := some 7, op := Op.move (Operand.tmp 6), type := 4, pos := "ref.go:28", after := #[{ on := 1, ground := Ground.data }, { on := 1, ground := Ground.chain }], guard := none }
def xhs3 : Oper := { dst := some 8, op := Op.fieldAddr 38 (Operand.tmp 3) 1, type := 0, pos := "ref.go:28", after := #[{ on := 2, ground := Ground.guard }], guard := some (2, true) }
def xhs4 : Oper := { dst := some 9, op := Op.load 3 (Operand.tmp 8), type := 3, pos := "ref.go:28", after := #[{ on := 3, ground := Ground.data }, { on := 2, ground := Ground.guard }], guard := some (2, true) }
def xhs5 : Oper := { dst := some 10, op := Op.move (Operand.tmp 0), type := 33, pos := "ref.go:28", after := #[{ on := 2, ground := Ground.guard }], guard := some (2, true) }
def xhs6 : Oper := { dst := some 11, op := Op.fieldAddr 38 (Operand.tmp 3) 0, type := 0, pos := "ref.go:28", after := #[{ on := 2, ground := Ground.guard }], guard := some (2, true) }
def xhs7 : Oper := { dst := some 12, op := Op.load 3 (Operand.tmp 11), type := 3, pos := "ref.go:28", after := #[{ on := 6, ground := Ground.data }, { on := 2, ground := Ground.guard }], guard := some (2, true) }
def xhs8 : Oper := { dst := some 13, op := Op.nilCheck (Operand.tmp 10), type := 0, pos := "ref.go:28", after := #[{ on := 5, ground := Ground.data }, { on := 2, ground := Ground.guard }], guard := some (2, true) }
def xhs9 : Oper := { dst := some 14, op := Op.fieldAddr 36 (Operand.tmp 13) 0, type := 0, pos := "ref.go:28", after := #[{ on := 8, ground := Ground.data }, { on := 2, ground := Ground.guard }], guard := some (2, true) }
def xhs10 : Oper := { dst := some 15, op := Op.indexAddr 34 (Operand.tmp 14) (Operand.tmp 12), type := 0, pos := "ref.go:28", after := #[{ on := 9, ground := Ground.data }, { on := 7, ground := Ground.data }, { on := 2, ground := Ground.guard }], guard := some (2, true) }
def xhs11 : Oper := { dst := some 16, op := Op.load 3 (Operand.tmp 15), type := 3, pos := "ref.go:28", after := #[{ on := 10, ground := Ground.data }, { on := 2, ground := Ground.guard }], guard := some (2, true) }
def xhs12 : Oper := { dst := some 17, op := Op.binOp BinOp.leq 3 (Operand.tmp 9) (Operand.tmp 16) 3, type := 4, pos := "ref.go:28", after := #[{ on := 4, ground := Ground.data }, { on := 11, ground := Ground.data }, { on := 2, ground := Ground.guard }], guard := some (2, true) }
def xhs13 : Oper := { dst := some 18, op := Op.pick (Operand.tmp 7) (Operand.tmp 17) (Operand.const (Value.bool false)), type := 4, pos := "ref.go:28", after := #[{ on := 2, ground := Ground.data }, { on := 12, ground := Ground.data }], guard := none }
def xhs14 : Oper := { dst := some 4,op := Op.assign (Operand.tmp 18),type := 4,pos := "ref.go:28",after := #[{ on := 13,ground := Ground.data },{ on := 2,ground := Ground.chain },{ on := 0,ground := Ground.phase },{ on := 1,ground := Ground.phase },{ on := 2,ground := Ground.phase },{ on := 3,ground := Ground.phase },{ on := 4,ground := Ground.phase },{ on := 5,ground := Ground.phase },{ on := 6,ground := Ground.phase },{ on := 7,ground := Ground.phase },{ on := 8,ground := Ground.phase },{ on := 9,ground := Ground.phase },{ on := 10,ground := Ground.phase },{ on := 11,ground := Ground.phase },{ on := 12,ground := Ground.phase },{ on := 13,ground := Ground.phase }],guard := none }
def xhss : Array Oper := #[xhs0, xhs1, xhs2, xhs3, xhs4, xhs5, xhs6, xhs7, xhs8, xhs9, xhs10, xhs11, xhs12, xhs13, xhs14]
theorem xhs_lex : Region.lexB .any xhss = true := by kernel_rfl
theorem xhs_no (b : Nat) (r n : Int) (g : Nat) (w : World) {x2 x4 x5 x6 x7 x8 x9 aj ai ah ag af ae ad ab aa : Value} {Q : Exit → Act → World → Prop} (hro : ro r n = false) (hI : Idb w g r n)
    (hQ : ∀ W,Below w.heap.size w W → Q .normal { tmps := #[.pointer (some ⟨b,0,none⟩),idv r n,x2,.pointer (some ⟨g,0,none⟩),.bool false,idv r n,.bool false,.bool false,undef,undef,undef,undef,undef,undef,undef,undef,undef,undef,.bool false],defers := [] } W) : (Code.region 1 xhss true).wp Tryd.prog Q { tmps := #[.pointer (some ⟨b,0,none⟩),idv r n,x2,.pointer (some ⟨g,0,none⟩),x4,x5,x6,x7,x8,x9,aj,ai,ah,ag,af,ae,ad,ab,aa],defers := [] } w := by
  refine wp_region_quiet (C := fun W => Below w.heap.size w W) (by kernel_rfl) xhs_lex (Below.refl _ _).drew ?_
  change wpQuiet _ _ _ _ [xhs0, xhs1, xhs2, xhs3, xhs4, xhs5, xhs6, xhs7, xhs8, xhs9, xhs10, xhs11, xhs12, xhs13, xhs14] _
  refine Wq.out ?_
  refine wq_val (idv r n) { tmps := #[.pointer (some ⟨b, 0, none⟩), idv r n, x2, .pointer (some ⟨g, 0, none⟩), x4, idv r n, x6, x7, x8, x9, aj, ai, ah, ag, af, ae, ad, ab, aa], defers := [] } (by kernel_rfl) (fun W hW => run_ldid rfl rfl (hI.below hW)) (by kernel_rfl) ?_
  refine wq_call (f := 48) (args := #[idv r n]) (.bool false) { tmps := #[.pointer (some ⟨b,0,none⟩),idv r n,x2,.pointer (some ⟨g,0,none⟩),x4,idv r n,.bool false,x7,x8,x9,aj,ai,ah,ag,af,ae,ad,ab,aa],defers := [] } (by kernel_rfl) (fun W => by kernel_rfl) (fun W hW => (xro_any _ _ W).mono fun e V ⟨h1,h2⟩ => ⟨by rw [h1,hro],by rw [h2]; exact bt hW (ba W _)⟩) (by kernel_rfl) ?_
  refine wq_val (.bool false) { tmps := #[.pointer (some ⟨b, 0, none⟩), idv r n, x2, .pointer (some ⟨g, 0, none⟩), x4, idv r n, .bool false, .bool false, x8, x9, aj, ai, ah, ag, af, ae, ad, ab, aa], defers := [] } (by kernel_rfl) (fun W hW => by kernel_rfl) (by kernel_rfl) ?_
  refine wq_skip { tmps := #[.pointer (some ⟨b, 0, none⟩), idv r n, x2, .pointer (some ⟨g, 0, none⟩), x4, idv r n, .bool false, .bool false, undef, x9, aj, ai, ah, ag, af, ae, ad, ab, aa], defers := [] } (by kernel_rfl) (by kernel_rfl) ?_
  refine wq_skip { tmps := #[.pointer (some ⟨b, 0, none⟩), idv r n, x2, .pointer (some ⟨g, 0, none⟩), x4, idv r n, .bool false, .bool false, undef, undef, aj, ai, ah, ag, af, ae, ad, ab, aa], defers := [] } (by kernel_rfl) (by kernel_rfl) ?_
  refine wq_skip { tmps := #[.pointer (some ⟨b, 0, none⟩), idv r n, x2, .pointer (some ⟨g, 0, none⟩), x4, idv r n, .bool false, .bool false, undef, undef, undef, ai, ah, ag, af, ae, ad, ab, aa], defers := [] } (by kernel_rfl) (by kernel_rfl) ?_
  refine wq_skip { tmps := #[.pointer (some ⟨b, 0, none⟩), idv r n, x2, .pointer (some ⟨g, 0, none⟩), x4, idv r n, .bool false, .bool false, undef, undef, undef, undef, ah, ag, af, ae, ad, ab, aa], defers := [] } (by kernel_rfl) (by kernel_rfl) ?_
  refine wq_skip { tmps := #[.pointer (some ⟨b, 0, none⟩), idv r n, x2, .pointer (some ⟨g, 0, none⟩), x4, idv r n, .bool false, .bool false, undef, undef, undef, undef, undef, ag, af, ae, ad, ab, aa], defers := [] } (by kernel_rfl) (by kernel_rfl) ?_
  refine wq_skip { tmps := #[.pointer (some ⟨b, 0, none⟩), idv r n, x2, .pointer (some ⟨g, 0, none⟩), x4, idv r n, .bool false, .bool false, undef, undef, undef, undef, undef, undef, af, ae, ad, ab, aa], defers := [] } (by kernel_rfl) (by kernel_rfl) ?_
  refine wq_skip { tmps := #[.pointer (some ⟨b, 0, none⟩), idv r n, x2, .pointer (some ⟨g, 0, none⟩), x4, idv r n, .bool false, .bool false, undef, undef, undef, undef, undef, undef, undef, ae, ad, ab, aa], defers := [] } (by kernel_rfl) (by kernel_rfl) ?_
  refine wq_skip { tmps := #[.pointer (some ⟨b, 0, none⟩), idv r n, x2, .pointer (some ⟨g, 0, none⟩), x4, idv r n, .bool false, .bool false, undef, undef, undef, undef, undef, undef, undef, undef, ad, ab, aa], defers := [] } (by kernel_rfl) (by kernel_rfl) ?_
  refine wq_skip { tmps := #[.pointer (some ⟨b, 0, none⟩), idv r n, x2, .pointer (some ⟨g, 0, none⟩), x4, idv r n, .bool false, .bool false, undef, undef, undef, undef, undef, undef, undef, undef, undef, ab, aa], defers := [] } (by kernel_rfl) (by kernel_rfl) ?_
  refine wq_skip { tmps := #[.pointer (some ⟨b, 0, none⟩), idv r n, x2, .pointer (some ⟨g, 0, none⟩), x4, idv r n, .bool false, .bool false, undef, undef, undef, undef, undef, undef, undef, undef, undef, undef, aa], defers := [] } (by kernel_rfl) (by kernel_rfl) ?_
  refine wq_val (.bool false) { tmps := #[.pointer (some ⟨b,0,none⟩),idv r n,x2,.pointer (some ⟨g,0,none⟩),x4,idv r n,.bool false,.bool false,undef,undef,undef,undef,undef,undef,undef,undef,undef,undef,.bool false],defers := [] } (by kernel_rfl) (fun W hW => by kernel_rfl) (by kernel_rfl) ?_
  refine wq_val (.bool false) { tmps := #[.pointer (some ⟨b,0,none⟩),idv r n,x2,.pointer (some ⟨g,0,none⟩),.bool false,idv r n,.bool false,.bool false,undef,undef,undef,undef,undef,undef,undef,undef,undef,undef,.bool false],defers := [] } (by kernel_rfl) (fun W hW => by kernel_rfl) (by kernel_rfl) ?_
  exact wq_nil hQ
theorem xhs_yes (b k : Nat) (n x : Int) (l : List Int) (g : Nat) (w : World) {x2 x4 x5 x6 x7 x8 x9 aj ai ah ag af ae ad ab aa : Value} {Q : Exit → Act → World → Prop} (hro : ro (k : Int) n = true) (hk : k < 16) (hI : Idb w g k n) (hV : Vc w b l) (hx : l.getD k 0 = x)
    (hQ : ∀ W,Below w.heap.size w W → Q .normal { tmps := #[.pointer (some ⟨b,0,none⟩),idv (k : Int) n,x2,.pointer (some ⟨g,0,none⟩),.bool (decide (n ≤ x)),idv (k : Int) n,.bool true,.bool true,.pointer (some ⟨g,1,none⟩),.int .i64 n,.pointer (some ⟨b,0,none⟩),.pointer (some ⟨g,0,none⟩),.int .i64 k,.pointer (some ⟨b,0,none⟩),.pointer (some ⟨b,0,none⟩),.pointer (some ⟨b,k,none⟩),.int .i64 x,.bool (decide (n ≤ x)),.bool (decide (n ≤ x))],defers := [] } W) : (Code.region 1 xhss true).wp Tryd.prog Q { tmps := #[.pointer (some ⟨b,0,none⟩),idv (k : Int) n,x2,.pointer (some ⟨g,0,none⟩),x4,x5,x6,x7,x8,x9,aj,ai,ah,ag,af,ae,ad,ab,aa],defers := [] } w := by
  refine wp_region_quiet (C := fun W => Below w.heap.size w W) (by kernel_rfl) xhs_lex (Below.refl _ _).drew ?_
  change wpQuiet _ _ _ _ [xhs0, xhs1, xhs2, xhs3, xhs4, xhs5, xhs6, xhs7, xhs8, xhs9, xhs10, xhs11, xhs12, xhs13, xhs14] _
  refine Wq.out ?_
  refine wq_val (idv (k : Int) n) { tmps := #[.pointer (some ⟨b,0,none⟩),idv (k : Int) n,x2,.pointer (some ⟨g,0,none⟩),x4,idv (k : Int) n,x6,x7,x8,x9,aj,ai,ah,ag,af,ae,ad,ab,aa],defers := [] } (by kernel_rfl) (fun W hW => run_ldid rfl rfl (hI.below hW)) (by kernel_rfl) ?_
  refine wq_call (f := 48) (args := #[idv (k : Int) n]) (.bool true) { tmps := #[.pointer (some ⟨b,0,none⟩),idv (k : Int) n,x2,.pointer (some ⟨g,0,none⟩),x4,idv (k : Int) n,.bool true,x7,x8,x9,aj,ai,ah,ag,af,ae,ad,ab,aa],defers := [] } (by kernel_rfl) (fun W => by kernel_rfl) (fun W hW => (xro_any _ _ W).mono fun e V ⟨h1,h2⟩ => ⟨by rw [h1,hro],by rw [h2]; exact bt hW (ba W _)⟩) (by kernel_rfl) ?_
  refine wq_val (.bool true) { tmps := #[.pointer (some ⟨b, 0, none⟩), idv (k : Int) n, x2, .pointer (some ⟨g, 0, none⟩), x4, idv (k : Int) n, .bool true, .bool true, x8, x9, aj, ai, ah, ag, af, ae, ad, ab, aa], defers := [] } (by kernel_rfl) (fun W hW => by kernel_rfl) (by kernel_rfl) ?_
  refine wq_val (.pointer (some ⟨g,1,none⟩)) { tmps := #[.pointer (some ⟨b,0,none⟩),idv (k : Int) n,x2,.pointer (some ⟨g,0,none⟩),x4,idv (k : Int) n,.bool true,.bool true,.pointer (some ⟨g,1,none⟩),x9,aj,ai,ah,ag,af,ae,ad,ab,aa],defers := [] } (by kernel_rfl) (fun W hW => by kernel_rfl) (by kernel_rfl) ?_
  refine wq_val (.int .i64 n) { tmps := #[.pointer (some ⟨b,0,none⟩),idv (k : Int) n,x2,.pointer (some ⟨g,0,none⟩),x4,idv (k : Int) n,.bool true,.bool true,.pointer (some ⟨g,1,none⟩),.int .i64 n,aj,ai,ah,ag,af,ae,ad,ab,aa],defers := [] } (by kernel_rfl) (fun W hW => run_ldnum rfl rfl (hI.below hW).c1) (by kernel_rfl) ?_
  refine wq_val (.pointer (some ⟨b,0,none⟩)) { tmps := #[.pointer (some ⟨b,0,none⟩),idv (k : Int) n,x2,.pointer (some ⟨g,0,none⟩),x4,idv (k : Int) n,.bool true,.bool true,.pointer (some ⟨g,1,none⟩),.int .i64 n,.pointer (some ⟨b,0,none⟩),ai,ah,ag,af,ae,ad,ab,aa],defers := [] } (by kernel_rfl) (fun W hW => by kernel_rfl) (by kernel_rfl) ?_
  refine wq_val (.pointer (some ⟨g,0,none⟩)) { tmps := #[.pointer (some ⟨b,0,none⟩),idv (k : Int) n,x2,.pointer (some ⟨g,0,none⟩),x4,idv (k : Int) n,.bool true,.bool true,.pointer (some ⟨g,1,none⟩),.int .i64 n,.pointer (some ⟨b,0,none⟩),.pointer (some ⟨g,0,none⟩),ah,ag,af,ae,ad,ab,aa],defers := [] } (by kernel_rfl) (fun W hW => by kernel_rfl) (by kernel_rfl) ?_
  refine wq_val (.int .i64 k) { tmps := #[.pointer (some ⟨b,0,none⟩),idv (k : Int) n,x2,.pointer (some ⟨g,0,none⟩),x4,idv (k : Int) n,.bool true,.bool true,.pointer (some ⟨g,1,none⟩),.int .i64 n,.pointer (some ⟨b,0,none⟩),.pointer (some ⟨g,0,none⟩),.int .i64 k,ag,af,ae,ad,ab,aa],defers := [] } (by kernel_rfl) (fun W hW => run_ldnum rfl rfl (hI.below hW).c0) (by kernel_rfl) ?_
  refine wq_val (.pointer (some ⟨b,0,none⟩)) { tmps := #[.pointer (some ⟨b,0,none⟩),idv (k : Int) n,x2,.pointer (some ⟨g,0,none⟩),x4,idv (k : Int) n,.bool true,.bool true,.pointer (some ⟨g,1,none⟩),.int .i64 n,.pointer (some ⟨b,0,none⟩),.pointer (some ⟨g,0,none⟩),.int .i64 k,.pointer (some ⟨b,0,none⟩),af,ae,ad,ab,aa],defers := [] } (by kernel_rfl) (fun W hW => by kernel_rfl) (by kernel_rfl) ?_
  refine wq_val (.pointer (some ⟨b,0,none⟩)) { tmps := #[.pointer (some ⟨b,0,none⟩),idv (k : Int) n,x2,.pointer (some ⟨g,0,none⟩),x4,idv (k : Int) n,.bool true,.bool true,.pointer (some ⟨g,1,none⟩),.int .i64 n,.pointer (some ⟨b,0,none⟩),.pointer (some ⟨g,0,none⟩),.int .i64 k,.pointer (some ⟨b,0,none⟩),.pointer (some ⟨b,0,none⟩),ae,ad,ab,aa],defers := [] } (by kernel_rfl) (fun W hW => by kernel_rfl) (by kernel_rfl) ?_
  refine wq_val (.pointer (some ⟨b,k,none⟩)) { tmps := #[.pointer (some ⟨b,0,none⟩),idv (k : Int) n,x2,.pointer (some ⟨g,0,none⟩),x4,idv (k : Int) n,.bool true,.bool true,.pointer (some ⟨g,1,none⟩),.int .i64 n,.pointer (some ⟨b,0,none⟩),.pointer (some ⟨g,0,none⟩),.int .i64 k,.pointer (some ⟨b,0,none⟩),.pointer (some ⟨b,0,none⟩),.pointer (some ⟨b,k,none⟩),ad,ab,aa],defers := [] } (by kernel_rfl) (fun W hW => run_ixarr rfl rfl rfl hk) (by kernel_rfl) ?_
  refine wq_val (.int .i64 x) { tmps := #[.pointer (some ⟨b,0,none⟩),idv (k : Int) n,x2,.pointer (some ⟨g,0,none⟩),x4,idv (k : Int) n,.bool true,.bool true,.pointer (some ⟨g,1,none⟩),.int .i64 n,.pointer (some ⟨b,0,none⟩),.pointer (some ⟨g,0,none⟩),.int .i64 k,.pointer (some ⟨b,0,none⟩),.pointer (some ⟨b,0,none⟩),.pointer (some ⟨b,k,none⟩),.int .i64 x,ab,aa],defers := [] } (by kernel_rfl) (fun W hW => run_ldnum rfl rfl (by rw [← hx]; exact (hV.below hW).cell hk)) (by kernel_rfl) ?_
  refine wq_val (.bool (decide (n ≤ x))) { tmps := #[.pointer (some ⟨b,0,none⟩),idv (k : Int) n,x2,.pointer (some ⟨g,0,none⟩),x4,idv (k : Int) n,.bool true,.bool true,.pointer (some ⟨g,1,none⟩),.int .i64 n,.pointer (some ⟨b,0,none⟩),.pointer (some ⟨g,0,none⟩),.int .i64 k,.pointer (some ⟨b,0,none⟩),.pointer (some ⟨b,0,none⟩),.pointer (some ⟨b,k,none⟩),.int .i64 x,.bool (decide (n ≤ x)),aa],defers := [] } (by kernel_rfl) (fun W hW => by kernel_rfl) (by kernel_rfl) ?_
  refine wq_val (.bool (decide (n ≤ x))) { tmps := #[.pointer (some ⟨b,0,none⟩),idv (k : Int) n,x2,.pointer (some ⟨g,0,none⟩),x4,idv (k : Int) n,.bool true,.bool true,.pointer (some ⟨g,1,none⟩),.int .i64 n,.pointer (some ⟨b,0,none⟩),.pointer (some ⟨g,0,none⟩),.int .i64 k,.pointer (some ⟨b,0,none⟩),.pointer (some ⟨b,0,none⟩),.pointer (some ⟨b,k,none⟩),.int .i64 x,.bool (decide (n ≤ x)),.bool (decide (n ≤ x))],defers := [] } (by kernel_rfl) (fun W hW => by kernel_rfl) (by kernel_rfl) ?_
  refine wq_val (.bool (decide (n ≤ x))) { tmps := #[.pointer (some ⟨b,0,none⟩),idv (k : Int) n,x2,.pointer (some ⟨g,0,none⟩),.bool (decide (n ≤ x)),idv (k : Int) n,.bool true,.bool true,.pointer (some ⟨g,1,none⟩),.int .i64 n,.pointer (some ⟨b,0,none⟩),.pointer (some ⟨g,0,none⟩),.int .i64 k,.pointer (some ⟨b,0,none⟩),.pointer (some ⟨b,0,none⟩),.pointer (some ⟨b,k,none⟩),.int .i64 x,.bool (decide (n ≤ x)),.bool (decide (n ≤ x))],defers := [] } (by kernel_rfl) (fun W hW => by kernel_rfl) (by kernel_rfl) ?_
  exact wq_nil hQ

theorem xhas_any (b : Nat) (l : List Int) (r n : Int) (w : World) (h : Vc w b l) :
    Calls Tryd.prog 43 #[.pointer (some ⟨b, 0, none⟩), idv r n] w fun e w' => e = .returned (.bool (hasV l r n)) ∧ Below w.heap.size w w' := by
  have HV := hid (h.below (ba w (ido 38 r n)))
  have HI := hid (show Idb (w.alloc (ido 38 r n)) w.heap.size r n from ⟨_, heap_alloc_new w _⟩)
  have HB := hid (ba w (ido 38 r n))
  cases hro : ro r n
  · rw [has_out hro]
    have HRO := hid hro
    clear h hro
    go_enter Tryd.func43, Tryd.ntmps43
    go_upto_region 1 with (fail)
    refine xhs_no b r n w.heap.size _ HRO.out HI.out ?_
    intro W hW
    go_wp2_with fail
    go_ret
    exact ⟨rfl, bt HB.out hW⟩
  · have hq := ro_iff.1 hro
    obtain ⟨k, rfl⟩ := Int.eq_ofNat_of_zero_le hq.1
    obtain ⟨x, hx⟩ : ∃ x, l.getD k 0 = x := ⟨_, rfl⟩
    rw [has_in hro hx]
    have HRO := hid hro
    have HX := hid hx
    have HK := hid (show k < 16 by omega)
    clear h hro hx hq
    go_enter Tryd.func43, Tryd.ntmps43
    go_upto_region 1 with (fail)
    refine xhs_yes b k n x l w.heap.size _ HRO.out HK.out HI.out HV.out HX.out ?_
    intro W hW
    go_wp2_with fail
    go_ret
    exact ⟨rfl, bt HB.out hW⟩

end Go.Proofs.YtaojeanoojnknaaDoor
