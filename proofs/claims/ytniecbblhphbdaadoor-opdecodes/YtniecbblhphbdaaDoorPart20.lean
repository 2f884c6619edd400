/-
  The laws of loads and stores of an op's fields once more, with what they ask in another order (so that a law that doesn't fit fails at once).
-/
import Derived.Test.YtniecbblhphbdaaDoorPart13
namespace Go.Proofs.YtniecbblhphbdaaDoor
open Go.RowKit
set_option linter.unusedVariables false
set_option maxRecDepth 100000

section
variable {ops : Array Oper} {rest : List Oper} {p : Oper} {a : Act} {W : World} {Q : Exit → Act → World → Prop} {x y : Operand} {b : Nat} {o : Opn} {v : Value}
theorem wpList_st_block' {r n : Int} (ho : p.op = .store 25 x y) (hx : a.eval x = .pointer (some ⟨b, 4, none⟩)) (hy : a.eval y = idv r n) (h : Ob W b o v) (hw : Region.wanted p (yielded ops a.tmps) = true)
    (hk : ∀ W', Ob W' b { o with br := r, bm := n } v → Fr (fun k => k = b) W W' → wpList Tryd.prog ops Q rest (a.put p.dst undef) W') : wpList Tryd.prog ops Q (p :: rest) a W := wpList_st_block hw ho hx hy h hk
theorem wpList_st_id' {r n : Int} (ho : p.op = .store 25 x y) (hx : a.eval x = .pointer (some ⟨b, 1, none⟩)) (hy : a.eval y = idv r n) (h : Ob W b o v) (hw : Region.wanted p (yielded ops a.tmps) = true)
    (hk : ∀ W', Ob W' b { o with ir := r, im := n } v → Fr (fun k => k = b) W W' → wpList Tryd.prog ops Q rest (a.put p.dst undef) W') : wpList Tryd.prog ops Q (p :: rest) a W := wpList_st_id hw ho hx hy h hk
theorem wpList_st_t' {r : Int} (ho : p.op = .store 3 x y) (hx : a.eval x = .pointer (some ⟨b, 3, none⟩)) (hy : a.eval y = .int .i64 r) (h : Ob W b o v) (hw : Region.wanted p (yielded ops a.tmps) = true)
    (hk : ∀ W', Ob W' b { o with t := r } v → Fr (fun k => k = b) W W' → wpList Tryd.prog ops Q rest (a.put p.dst undef) W') : wpList Tryd.prog ops Q (p :: rest) a W := wpList_st_t hw ho hx hy h hk
theorem wpList_st_parent' {r n : Int} (ho : p.op = .store 25 x y) (hx : a.eval x = .pointer (some ⟨b, 6, none⟩)) (hy : a.eval y = idv r n) (h : Ob W b o v) (hw : Region.wanted p (yielded ops a.tmps) = true)
    (hk : ∀ W', Ob W' b { o with pr := r, pm := n } v → Fr (fun k => k = b) W W' → wpList Tryd.prog ops Q rest (a.put p.dst undef) W') : wpList Tryd.prog ops Q (p :: rest) a W := wpList_st_parent hw ho hx hy h hk
theorem wpList_st_seg' {r n : Int} (ho : p.op = .store 25 x y) (hx : a.eval x = .pointer (some ⟨b, 9, none⟩)) (hy : a.eval y = idv r n) (h : Ob W b o v) (hw : Region.wanted p (yielded ops a.tmps) = true)
    (hk : ∀ W', Ob W' b { o with sr := r, sm := n } v → Fr (fun k => k = b) W W' → wpList Tryd.prog ops Q rest (a.put p.dst undef) W') : wpList Tryd.prog ops Q (p :: rest) a W := wpList_st_seg hw ho hx hy h hk
theorem wpList_st_left' {r n j : Int} (ho : p.op = .store 27 x y) (hx : a.eval x = .pointer (some ⟨b, 11, none⟩)) (hy : a.eval y = chv r n j) (h : Ob W b o v) (hw : Region.wanted p (yielded ops a.tmps) = true)
    (hk : ∀ W', Ob W' b { o with lr := r, lm := n, li := j } v → Fr (fun k => k = b) W W' → wpList Tryd.prog ops Q rest (a.put p.dst undef) W') : wpList Tryd.prog ops Q (p :: rest) a W := wpList_st_left hw ho hx hy h hk
theorem wpList_st_right' {r n j : Int} (ho : p.op = .store 27 x y) (hx : a.eval x = .pointer (some ⟨b, 14, none⟩)) (hy : a.eval y = chv r n j) (h : Ob W b o v) (hw : Region.wanted p (yielded ops a.tmps) = true)
    (hk : ∀ W', Ob W' b { o with gr := r, gm := n, gi := j } v → Fr (fun k => k = b) W W' → wpList Tryd.prog ops Q rest (a.put p.dst undef) W') : wpList Tryd.prog ops Q (p :: rest) a W := wpList_st_right hw ho hx hy h hk
theorem wpList_st_key' {s : ByteArray} (ho : p.op = .store 9 x y) (hx : a.eval x = .pointer (some ⟨b, 8, none⟩)) (hy : a.eval y = .string s) (h : Ob W b o v) (hw : Region.wanted p (yielded ops a.tmps) = true)
    (hk : ∀ W', Ob W' b { o with key := s } v → Fr (fun k => k = b) W W' → wpList Tryd.prog ops Q rest (a.put p.dst undef) W') : wpList Tryd.prog ops Q (p :: rest) a W := wpList_st_key hw ho hx hy h hk
theorem wpList_st_text' {s : ByteArray} (ho : p.op = .store 9 x y) (hx : a.eval x = .pointer (some ⟨b, 17, none⟩)) (hy : a.eval y = .string s) (h : Ob W b o v) (hw : Region.wanted p (yielded ops a.tmps) = true)
    (hk : ∀ W', Ob W' b { o with text := s } v → Fr (fun k => k = b) W W' → wpList Tryd.prog ops Q rest (a.put p.dst undef) W') : wpList Tryd.prog ops Q (p :: rest) a W := wpList_st_text hw ho hx hy h hk
theorem wpList_st_cuts' {va : Option Addr} {n c : Nat} (l : List Ct) (ho : p.op = .store 28 x y) (hx : a.eval x = .pointer (some ⟨b, 18, none⟩)) (hy : a.eval y = .slice va n c) (h : Ob W b o v) (hw : Region.wanted p (yielded ops a.tmps) = true)
    (hk : ∀ W', Ob W' b { o with cuts := l } (.slice va n c) → Fr (fun k => k = b) W W' → wpList Tryd.prog ops Q rest (a.put p.dst undef) W') : wpList Tryd.prog ops Q (p :: rest) a W := wpList_st_cuts l hw ho hx hy h hk
theorem wpList_st_flag' {s : Bool} (ho : p.op = .store 4 x y) (hx : a.eval x = .pointer (some ⟨b, 19, none⟩)) (hy : a.eval y = .bool s) (h : Ob W b o v) (hw : Region.wanted p (yielded ops a.tmps) = true)
    (hk : ∀ W', Ob W' b { o with flag := s } v → Fr (fun k => k = b) W W' → wpList Tryd.prog ops Q rest (a.put p.dst undef) W') : wpList Tryd.prog ops Q (p :: rest) a W := wpList_st_flag hw ho hx hy h hk
theorem wpList_ld_block' (ho : p.op = .load 25 x) (hx : a.eval x = .pointer (some ⟨b, 4, none⟩)) (h : Ob W b o v) (hw : Region.wanted p (yielded ops a.tmps) = true)
    (hk : wpList Tryd.prog ops Q rest (a.put p.dst (idv o.br o.bm)) W) : wpList Tryd.prog ops Q (p :: rest) a W := wpList_ld_block hw ho hx h hk
theorem wpList_ld_id' (ho : p.op = .load 25 x) (hx : a.eval x = .pointer (some ⟨b, 1, none⟩)) (h : Ob W b o v) (hw : Region.wanted p (yielded ops a.tmps) = true)
    (hk : wpList Tryd.prog ops Q rest (a.put p.dst (idv o.ir o.im)) W) : wpList Tryd.prog ops Q (p :: rest) a W := wpList_ld_id hw ho hx h hk
theorem wpList_ld_parent' (ho : p.op = .load 25 x) (hx : a.eval x = .pointer (some ⟨b, 6, none⟩)) (h : Ob W b o v) (hw : Region.wanted p (yielded ops a.tmps) = true)
    (hk : wpList Tryd.prog ops Q rest (a.put p.dst (idv o.pr o.pm)) W) : wpList Tryd.prog ops Q (p :: rest) a W := wpList_ld_parent hw ho hx h hk
theorem wpList_ld_seg' (ho : p.op = .load 25 x) (hx : a.eval x = .pointer (some ⟨b, 9, none⟩)) (h : Ob W b o v) (hw : Region.wanted p (yielded ops a.tmps) = true)
    (hk : wpList Tryd.prog ops Q rest (a.put p.dst (idv o.sr o.sm)) W) : wpList Tryd.prog ops Q (p :: rest) a W := wpList_ld_seg hw ho hx h hk
theorem wpList_ld_left' (ho : p.op = .load 27 x) (hx : a.eval x = .pointer (some ⟨b, 11, none⟩)) (h : Ob W b o v) (hw : Region.wanted p (yielded ops a.tmps) = true)
    (hk : wpList Tryd.prog ops Q rest (a.put p.dst (chv o.lr o.lm o.li)) W) : wpList Tryd.prog ops Q (p :: rest) a W := wpList_ld_left hw ho hx h hk
theorem wpList_ld_right' (ho : p.op = .load 27 x) (hx : a.eval x = .pointer (some ⟨b, 14, none⟩)) (h : Ob W b o v) (hw : Region.wanted p (yielded ops a.tmps) = true)
    (hk : wpList Tryd.prog ops Q rest (a.put p.dst (chv o.gr o.gm o.gi)) W) : wpList Tryd.prog ops Q (p :: rest) a W := wpList_ld_right hw ho hx h hk
theorem wpList_ld_kind' (ho : p.op = .load 3 x) (hx : a.eval x = .pointer (some ⟨b, 0, none⟩)) (h : Ob W b o v) (hw : Region.wanted p (yielded ops a.tmps) = true)
    (hk : wpList Tryd.prog ops Q rest (a.put p.dst (.int .i64 o.k)) W) : wpList Tryd.prog ops Q (p :: rest) a W := wpList_ld_kind hw ho hx h hk
theorem wpList_ld_t' (ho : p.op = .load 3 x) (hx : a.eval x = .pointer (some ⟨b, 3, none⟩)) (h : Ob W b o v) (hw : Region.wanted p (yielded ops a.tmps) = true)
    (hk : wpList Tryd.prog ops Q rest (a.put p.dst (.int .i64 o.t)) W) : wpList Tryd.prog ops Q (p :: rest) a W := wpList_ld_t hw ho hx h hk
theorem wpList_ld_key' (ho : p.op = .load 9 x) (hx : a.eval x = .pointer (some ⟨b, 8, none⟩)) (h : Ob W b o v) (hw : Region.wanted p (yielded ops a.tmps) = true)
    (hk : wpList Tryd.prog ops Q rest (a.put p.dst (.string o.key)) W) : wpList Tryd.prog ops Q (p :: rest) a W := wpList_ld_key hw ho hx h hk
theorem wpList_ld_text' (ho : p.op = .load 9 x) (hx : a.eval x = .pointer (some ⟨b, 17, none⟩)) (h : Ob W b o v) (hw : Region.wanted p (yielded ops a.tmps) = true)
    (hk : wpList Tryd.prog ops Q rest (a.put p.dst (.string o.text)) W) : wpList Tryd.prog ops Q (p :: rest) a W := wpList_ld_text hw ho hx h hk
theorem wpList_ld_cuts' (ho : p.op = .load 28 x) (hx : a.eval x = .pointer (some ⟨b, 18, none⟩)) (h : Ob W b o v) (hw : Region.wanted p (yielded ops a.tmps) = true)
    (hk : wpList Tryd.prog ops Q rest (a.put p.dst v) W) : wpList Tryd.prog ops Q (p :: rest) a W := wpList_ld_cuts hw ho hx h hk
theorem wpList_ld_flag' (ho : p.op = .load 4 x) (hx : a.eval x = .pointer (some ⟨b, 19, none⟩)) (h : Ob W b o v) (hw : Region.wanted p (yielded ops a.tmps) = true)
    (hk : wpList Tryd.prog ops Q rest (a.put p.dst (.bool o.flag)) W) : wpList Tryd.prog ops Q (p :: rest) a W := wpList_ld_flag hw ho hx h hk
end

end Go.Proofs.YtniecbblhphbdaaDoor
