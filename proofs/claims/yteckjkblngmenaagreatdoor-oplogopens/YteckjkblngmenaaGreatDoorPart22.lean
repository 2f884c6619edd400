/-
  The laws of loads and stores of an op's fields once more, with what they ask in another order (so that a law that doesn't fit fails at once).
-/
import Derived.Test.YteckjkblngmenaaGreatDoorPart8
namespace Go.Proofs.YteckjkblngmenaaGreatDoor
open Go.RowKit
set_option linter.unusedVariables false
set_option maxRecDepth 100000

section
variable {ops : Array Oper} {rest : List Oper} {p : Oper} {a : Act} {W : World} {Q : Exit → Act → World → Prop} {x y : Operand} {b : Nat} {o : Opn} {v : Value}
theorem wpList_st_id' {r n : Int} (ho : p.op = .store 72 x y) (hx : a.eval x = .pointer (some ⟨b, 1, none⟩)) (hy : a.eval y = idv r n) (h : Ob W b o v) (hw : Region.wanted p (yielded ops a.tmps) = true)
    (hk : ∀ W', Ob W' b { o with ir := r, im := n } v → Fr (fun k => k = b) W W' → wpList Tryz.prog ops Q rest (a.put p.dst undef) W') : wpList Tryz.prog ops Q (p :: rest) a W := wpList_st_id hw ho hx hy h hk
theorem wpList_st_t' {r : Int} (ho : p.op = .store 3 x y) (hx : a.eval x = .pointer (some ⟨b, 3, none⟩)) (hy : a.eval y = .int .i64 r) (h : Ob W b o v) (hw : Region.wanted p (yielded ops a.tmps) = true)
    (hk : ∀ W', Ob W' b { o with t := r } v → Fr (fun k => k = b) W W' → wpList Tryz.prog ops Q rest (a.put p.dst undef) W') : wpList Tryz.prog ops Q (p :: rest) a W := wpList_st_t hw ho hx hy h hk
theorem wpList_st_cuts' {va : Option Addr} {n c : Nat} (l : List Ct) (ho : p.op = .store 75 x y) (hx : a.eval x = .pointer (some ⟨b, 18, none⟩)) (hy : a.eval y = .slice va n c) (h : Ob W b o v) (hw : Region.wanted p (yielded ops a.tmps) = true)
    (hk : ∀ W', Ob W' b { o with cuts := l } (.slice va n c) → Fr (fun k => k = b) W W' → wpList Tryz.prog ops Q rest (a.put p.dst undef) W') : wpList Tryz.prog ops Q (p :: rest) a W := wpList_st_cuts l hw ho hx hy h hk
theorem wpList_ld_cuts' (ho : p.op = .load 75 x) (hx : a.eval x = .pointer (some ⟨b, 18, none⟩)) (h : Ob W b o v) (hw : Region.wanted p (yielded ops a.tmps) = true)
    (hk : wpList Tryz.prog ops Q rest (a.put p.dst v) W) : wpList Tryz.prog ops Q (p :: rest) a W := wpList_ld_cuts hw ho hx h hk
end

end Go.Proofs.YteckjkblngmenaaGreatDoor
