/-
  The op that the law fixes: what fold answers, its bytes, what it names.
-/
import Derived.Test.YtmgemgkanlpnnaaDoorODec
import Derived.Test.YtmgemgkanlpnnaaDoorONeeds
namespace Go.Proofs.YtmgemgkanlpnnaaDoor
open Go.RowKit
set_option linter.unusedVariables false
set_option maxRecDepth 100000

def foldO : Opn := ⟨6, 1, 2, 3, 0, 1, 0, 0, ⟨#[]⟩, 0, 0, 0, 0, 0, 0, 0, 0, ⟨#[]⟩, [], true⟩
abbrev foldc : Array Value := #[.int .i64 6, .int .i64 1, .int .i64 2, .int .i64 3, .int .i64 0, .int .i64 1, .int .i64 0, .int .i64 0, .string ⟨#[]⟩, .int .i64 0, .int .i64 0, .int .i64 0, .int .i64 0, .int .i64 0, .int .i64 0, .int .i64 0, .int .i64 0, .string ⟨#[]⟩, .slice none 0 0, .bool true]
theorem fold_right : rightO foldO = true := by decide
theorem fold_enc : encO foldO = [6, 1, 2, 3, 0, 1, 1] := by decide
theorem fold_dec : decO Bnd.own [6, 1, 2, 3, 0, 1, 1] = (foldO, true) := by rw [← fold_enc]; exact decO_full own_ok fold_right
theorem fold_needs : needsO foldO = [(0, 1)] := by decide
theorem fold_fine : foldO.fine := ⟨by decide, by decide⟩

theorem built_fold : Tryd.prog.built 30 [(0, .int .i64 6), (1, idv 1 2), (2, .int .i64 3), (3, idv 0 1), (11, .bool true)] = some foldc := by kernel_rfl
theorem wpList_build_fold {ops : Array Oper} {rest : List Oper} {p : Oper} {a : Act} {w : World} {Q : Exit → Act → World → Prop} (hgd : p.guard = none) (x y z u v : Operand) (ho : p.op = .build 30 #[(0, x), (1, y), (2, z), (3, u), (11, v)])
    (h0 : a.eval x = .int .i64 6) (h1 : a.eval y = idv 1 2) (h2 : a.eval z = .int .i64 3) (h3 : a.eval u = idv 0 1) (h4 : a.eval v = .bool true)
    (hk : wpList Tryd.prog ops Q rest (a.put p.dst (.agg foldc)) w) : wpList Tryd.prog ops Q (p :: rest) a w := by
  have e : (Array.map (fun ((i, x) : Nat × Operand) => (i, a.eval x)) #[(0, x), (1, y), (2, z), (3, u), (11, v)]).toList = [(0, .int .i64 6), (1, idv 1 2), (2, .int .i64 3), (3, idv 0 1), (11, .bool true)] := by simp [h0, h1, h2, h3, h4]
  refine wpList_build hgd 30 #[(0, x), (1, y), (2, z), (3, u), (11, v)] ho ?_ ?_
  · rw [e, built_fold]; rfl
  · rw [e, built_fold]; exact hk
theorem wpList_store_fold {ops : Array Oper} {rest : List Oper} {p : Oper} {a : Act} {W : World} {Q : Exit → Act → World → Prop} (hgd : p.guard = none) (x y : Operand) (ho : p.op = .store 30 x y) (k0 : Int)
    (hx : a.eval x = .pointer (some ⟨W.heap.size, 0, none⟩)) (hy : a.eval y = .agg foldc)
    (hk : wpList Tryd.prog ops Q rest (a.put p.dst undef) (W.alloc (.cells foldc 30))) : wpList Tryd.prog ops Q (p :: rest) a (W.alloc (.cells (zopc k0) 30)) :=
  wpList_store_opn hgd x y ho (zopc k0) foldc hx hy rfl rfl (by simp [Value.oneCell']) hk

theorem fold_any (w : World) : Calls Tryd.prog 26 #[] w fun e w' => e = .returned (opv foldO (.slice none 0 0)) ∧ Below w.heap.size w w' := by
  go_enter Tryd.func26, Tryd.ntmps26
  go_wp2_with (first | (refine wpList_build_fold rfl _ _ _ _ _ rfl rfl rfl rfl rfl rfl ?_) | (refine wpList_store_fold rfl _ _ rfl 0 rfl rfl ?_))
  refine bodyPost_ret (results_cell_row rfl _ _ w.heap.size 30 foldc (0, 0) _ rfl (heap_alloc_new w _) Tryd.underlying30 rfl (by kernel_rfl)) rfl ?_
  exact ⟨rfl, ba _ _⟩

end Go.Proofs.YtmgemgkanlpnnaaDoor
