/-
  Parts of the proof, one behind the other; what each proves stands at its head.
-/
import Derived.Test.YtniecbblhphbdaaDoorPart13
import Derived.Test.YtniecbblhphbdaaDoorPart18
import Derived.Test.YtniecbblhphbdaaDoorPart5
import Derived.Test.YtniecbblhphbdaaDoorPart12

/-
  The laws of loads and stores of an op's fields once more, with what they ask in another order (so that a law that doesn't fit fails at once).
-/
namespace Go.Proofs.YtniecbblhphbdaaDoor
open Go.RowKit
set_option linter.unusedVariables false
set_option maxRecDepth 100000

section
variable {ops : Array Oper} {rest : List Oper} {p : Oper} {a : Act} {W : World} {Q : Exit → Act → World → Prop} {x y : Operand} {b : Nat} {o : Opn} {v : Value}
theorem wpList_st_block' {r n : Int} (ho : p.op = .store 25 x y) (hx : a.eval x = .pointer (some ⟨b, 4, none⟩)) (hy : a.eval y = idv r n) (h : Ob W b o v) (hw : Region.wanted p (yielded ops a.tmps) = true)
    (hk : ∀ W', Ob W' b { o with br := r, bm := n } v → Fr (fun k => k = b) W W' → wpList Tryd.prog ops Q rest (a.put p.dst undef) W') : wpList Tryd.prog ops Q (p :: rest) a W := wpList_st_block hw ho hx hy h hk
theorem wpList_st_id' {r n : Int} (ho : p.op = .store 25 x y) (hx : a.eval x = .pointer (some ⟨b, 1, none⟩)) (hy : a.eval y = idv r n) (h : Ob W b o v) (hw : Region.wanted p (yielded ops a.tmps) = true)
    (hk : ∀ W', Ob W' b { o with ir := r, im := n } v → Fr (fun k => k = b) W W' → wpList Tryd.prog ops Q rest (a.put p.dst undef) W') : wpList Tryd.prog ops Q (p :: rest) a W := wpList_st_id hw ho hx hy h hk
theorem wpList_st_t' {r : Int} (ho : p.op = .store 3 x y) (hx : a.eval x = .pointer (some ⟨b, 3, none⟩)) (hy : a.eval y = .int .i64 r) (h : Ob W b o v) (hw : Region.wanted p (yielded ops a.tmps) = true)
    (hk : ∀ W', Ob W' b { o with t := r } v → Fr (fun k => k = b) W W' → wpList Tryd.prog ops Q rest (a.put p.dst undef) W') : wpList Tryd.prog ops Q (p :: rest) a W := wpList_st_t hw ho hx hy h hk
theorem wpList_st_parent' {r n : Int} (ho : p.op = .store 25 x y) (hx : a.eval x = .pointer (some ⟨b, 6, none⟩)) (hy : a.eval y = idv r n) (h : Ob W b o v) (hw : Region.wanted p (yielded ops a.tmps) = true)
    (hk : ∀ W', Ob W' b { o with pr := r, pm := n } v → Fr (fun k => k = b) W W' → wpList Tryd.prog ops Q rest (a.put p.dst undef) W') : wpList Tryd.prog ops Q (p :: rest) a W := wpList_st_parent hw ho hx hy h hk
theorem wpList_st_seg' {r n : Int} (ho : p.op = .store 25 x y) (hx : a.eval x = .pointer (some ⟨b, 9, none⟩)) (hy : a.eval y = idv r n) (h : Ob W b o v) (hw : Region.wanted p (yielded ops a.tmps) = true)
    (hk : ∀ W', Ob W' b { o with sr := r, sm := n } v → Fr (fun k => k = b) W W' → wpList Tryd.prog ops Q rest (a.put p.dst undef) W') : wpList Tryd.prog ops Q (p :: rest) a W := wpList_st_seg hw ho hx hy h hk
theorem wpList_st_left' {r n j : Int} (ho : p.op = .store 27 x y) (hx : a.eval x = .pointer (some ⟨b, 11, none⟩)) (hy : a.eval y = chv r n j) (h : Ob W b o v) (hw : Region.wanted p (yielded ops a.tmps) = true)
    (hk : ∀ W', Ob W' b { o with lr := r, lm := n, li := j } v → Fr (fun k => k = b) W W' → wpList Tryd.prog ops Q rest (a.put p.dst undef) W') : wpList Tryd.prog ops Q (p :: rest) a W := wpList_st_left hw ho hx hy h hk
theorem wpList_st_right' {r n j : Int} (ho : p.op = .store 27 x y) (hx : a.eval x = .pointer (some ⟨b, 14, none⟩)) (hy : a.eval y = chv r n j) (h : Ob W b o v) (hw : Region.wanted p (yielded ops a.tmps) = true)
    (hk : ∀ W', Ob W' b { o with gr := r, gm := n, gi := j } v → Fr (fun k => k = b) W W' → wpList Tryd.prog ops Q rest (a.put p.dst undef) W') : wpList Tryd.prog ops Q (p :: rest) a W := wpList_st_right hw ho hx hy h hk
theorem wpList_st_key' {s : ByteArray} (ho : p.op = .store 9 x y) (hx : a.eval x = .pointer (some ⟨b, 8, none⟩)) (hy : a.eval y = .string s) (h : Ob W b o v) (hw : Region.wanted p (yielded ops a.tmps) = true)
    (hk : ∀ W', Ob W' b { o with key := s } v → Fr (fun k => k = b) W W' → wpList Tryd.prog ops Q rest (a.put p.dst undef) W') : wpList Tryd.prog ops Q (p :: rest) a W := wpList_st_key hw ho hx hy h hk
theorem wpList_st_text' {s : ByteArray} (ho : p.op = .store 9 x y) (hx : a.eval x = .pointer (some ⟨b, 17, none⟩)) (hy : a.eval y = .string s) (h : Ob W b o v) (hw : Region.wanted p (yielded ops a.tmps) = true)
    (hk : ∀ W', Ob W' b { o with text := s } v → Fr (fun k => k = b) W W' → wpList Tryd.prog ops Q rest (a.put p.dst undef) W') : wpList Tryd.prog ops Q (p :: rest) a W := wpList_st_text hw ho hx hy h hk
theorem wpList_st_cuts' {va : Option Addr} {n c : Nat} (l : List Ct) (ho : p.op = .store 28 x y) (hx : a.eval x = .pointer (some ⟨b, 18, none⟩)) (hy : a.eval y = .slice va n c) (h : Ob W b o v) (hw : Region.wanted p (yielded ops a.tmps) = true)
    (hk : ∀ W', Ob W' b { o with cuts := l } (.slice va n c) → Fr (fun k => k = b) W W' → wpList Tryd.prog ops Q rest (a.put p.dst undef) W') : wpList Tryd.prog ops Q (p :: rest) a W := wpList_st_cuts l hw ho hx hy h hk
theorem wpList_st_flag' {s : Bool} (ho : p.op = .store 4 x y) (hx : a.eval x = .pointer (some ⟨b, 19, none⟩)) (hy : a.eval y = .bool s) (h : Ob W b o v) (hw : Region.wanted p (yielded ops a.tmps) = true)
    (hk : ∀ W', Ob W' b { o with flag := s } v → Fr (fun k => k = b) W W' → wpList Tryd.prog ops Q rest (a.put p.dst undef) W') : wpList Tryd.prog ops Q (p :: rest) a W := wpList_st_flag hw ho hx hy h hk
theorem wpList_ld_block' (ho : p.op = .load 25 x) (hx : a.eval x = .pointer (some ⟨b, 4, none⟩)) (h : Ob W b o v) (hw : Region.wanted p (yielded ops a.tmps) = true)
    (hk : wpList Tryd.prog ops Q rest (a.put p.dst (idv o.br o.bm)) W) : wpList Tryd.prog ops Q (p :: rest) a W := wpList_ld_block hw ho hx h hk
theorem wpList_ld_id' (ho : p.op = .load 25 x) (hx : a.eval x = .pointer (some ⟨b, 1, none⟩)) (h : Ob W b o v) (hw : Region.wanted p (yielded ops a.tmps) = true)
    (hk : wpList Tryd.prog ops Q rest (a.put p.dst (idv o.ir o.im)) W) : wpList Tryd.prog ops Q (p :: rest) a W := wpList_ld_id hw ho hx h hk
theorem wpList_ld_parent' (ho : p.op = .load 25 x) (hx : a.eval x = .pointer (some ⟨b, 6, none⟩)) (h : Ob W b o v) (hw : Region.wanted p (yielded ops a.tmps) = true)
    (hk : wpList Tryd.prog ops Q rest (a.put p.dst (idv o.pr o.pm)) W) : wpList Tryd.prog ops Q (p :: rest) a W := wpList_ld_parent hw ho hx h hk
theorem wpList_ld_seg' (ho : p.op = .load 25 x) (hx : a.eval x = .pointer (some ⟨b, 9, none⟩)) (h : Ob W b o v) (hw : Region.wanted p (yielded ops a.tmps) = true)
    (hk : wpList Tryd.prog ops Q rest (a.put p.dst (idv o.sr o.sm)) W) : wpList Tryd.prog ops Q (p :: rest) a W := wpList_ld_seg hw ho hx h hk
theorem wpList_ld_left' (ho : p.op = .load 27 x) (hx : a.eval x = .pointer (some ⟨b, 11, none⟩)) (h : Ob W b o v) (hw : Region.wanted p (yielded ops a.tmps) = true)
    (hk : wpList Tryd.prog ops Q rest (a.put p.dst (chv o.lr o.lm o.li)) W) : wpList Tryd.prog ops Q (p :: rest) a W := wpList_ld_left hw ho hx h hk
theorem wpList_ld_right' (ho : p.op = .load 27 x) (hx : a.eval x = .pointer (some ⟨b, 14, none⟩)) (h : Ob W b o v) (hw : Region.wanted p (yielded ops a.tmps) = true)
    (hk : wpList Tryd.prog ops Q rest (a.put p.dst (chv o.gr o.gm o.gi)) W) : wpList Tryd.prog ops Q (p :: rest) a W := wpList_ld_right hw ho hx h hk
theorem wpList_ld_kind' (ho : p.op = .load 3 x) (hx : a.eval x = .pointer (some ⟨b, 0, none⟩)) (h : Ob W b o v) (hw : Region.wanted p (yielded ops a.tmps) = true)
    (hk : wpList Tryd.prog ops Q rest (a.put p.dst (.int .i64 o.k)) W) : wpList Tryd.prog ops Q (p :: rest) a W := wpList_ld_kind hw ho hx h hk
theorem wpList_ld_t' (ho : p.op = .load 3 x) (hx : a.eval x = .pointer (some ⟨b, 3, none⟩)) (h : Ob W b o v) (hw : Region.wanted p (yielded ops a.tmps) = true)
    (hk : wpList Tryd.prog ops Q rest (a.put p.dst (.int .i64 o.t)) W) : wpList Tryd.prog ops Q (p :: rest) a W := wpList_ld_t hw ho hx h hk
theorem wpList_ld_key' (ho : p.op = .load 9 x) (hx : a.eval x = .pointer (some ⟨b, 8, none⟩)) (h : Ob W b o v) (hw : Region.wanted p (yielded ops a.tmps) = true)
    (hk : wpList Tryd.prog ops Q rest (a.put p.dst (.string o.key)) W) : wpList Tryd.prog ops Q (p :: rest) a W := wpList_ld_key hw ho hx h hk
theorem wpList_ld_text' (ho : p.op = .load 9 x) (hx : a.eval x = .pointer (some ⟨b, 17, none⟩)) (h : Ob W b o v) (hw : Region.wanted p (yielded ops a.tmps) = true)
    (hk : wpList Tryd.prog ops Q rest (a.put p.dst (.string o.text)) W) : wpList Tryd.prog ops Q (p :: rest) a W := wpList_ld_text hw ho hx h hk
theorem wpList_ld_cuts' (ho : p.op = .load 28 x) (hx : a.eval x = .pointer (some ⟨b, 18, none⟩)) (h : Ob W b o v) (hw : Region.wanted p (yielded ops a.tmps) = true)
    (hk : wpList Tryd.prog ops Q rest (a.put p.dst v) W) : wpList Tryd.prog ops Q (p :: rest) a W := wpList_ld_cuts hw ho hx h hk
theorem wpList_ld_flag' (ho : p.op = .load 4 x) (hx : a.eval x = .pointer (some ⟨b, 19, none⟩)) (h : Ob W b o v) (hw : Region.wanted p (yielded ops a.tmps) = true)
    (hk : wpList Tryd.prog ops Q rest (a.put p.dst (.bool o.flag)) W) : wpList Tryd.prog ops Q (p :: rest) a W := wpList_ld_flag hw ho hx h hk
end

end Go.Proofs.YtniecbblhphbdaaDoor

/-
  For the reference's Encode: that all numbers of a right op are right, rows of bytes that grow, and what its callees return.
-/
namespace Go.Proofs.YtniecbblhphbdaaDoor
open Go.RowKit
set_option linter.unusedVariables false
set_option maxRecDepth 100000

structure AllN (o : Opn) : Prop where
  k : Num49 o.k
  ir : Num49 o.ir
  im : Num49 o.im
  t : Num49 o.t
  br : Num49 o.br
  bm : Num49 o.bm
  pr : Num49 o.pr
  pm : Num49 o.pm
  sr : Num49 o.sr
  sm : Num49 o.sm
  lr : Num49 o.lr
  lm : Num49 o.lm
  li : Num49 o.li
  gr : Num49 o.gr
  gm : Num49 o.gm
  gi : Num49 o.gi
  key : o.key.size ≤ 549755813888
  text : o.text.size ≤ 549755813888
theorem good_or {o : Opn} {f : Nat} (h : goodF o f = true) : rightF o f = true ∨ noughtF o f = true := by
  unfold goodF at h
  split at h
  · exact .inl h
  · exact .inr h
theorem alln {o : Opn} (h : rightO o = true) : AllN o := by
  obtain ⟨⟨p1, p2, p3⟩, hg⟩ := right_parts h
  have q1 := ro_bounds p1
  have q2 : 0 ≤ o.ir ∧ o.ir < 16 ∧ 1 ≤ o.t ∧ o.t ≤ 1099511627776 := by simpa [rs] using p2
  have q3 := six p3
  have f0 : 0 ≤ o.br ∧ o.br < 16 ∧ 0 ≤ o.bm ∧ o.bm ≤ 1048576 := by
    rcases good_or (hg 0 (by decide)) with h | h
    · have := ro_bounds h; omega
    · simp [noughtF] at h; omega
  have f1 : 0 ≤ o.pr ∧ o.pr < 16 ∧ 0 ≤ o.pm ∧ o.pm ≤ 1048576 := by
    rcases good_or (hg 1 (by decide)) with h | h
    · have := rb_bounds h; omega
    · simp [noughtF] at h; omega
  have f2 : o.key.size ≤ 549755813888 := by
    rcases good_or (hg 2 (by decide)) with h | h
    · simp [rightF, K.right, tx_length] at h; omega
    · have : o.key.size = 0 := by simpa only [noughtF, decide_eq_true_eq] using h
      omega
  have f3 : 0 ≤ o.sr ∧ o.sr < 16 ∧ 0 ≤ o.sm ∧ o.sm ≤ 1048576 := by
    rcases good_or (hg 3 (by decide)) with h | h
    · have := ro_bounds h; omega
    · simp [noughtF] at h; omega
  have f4 : 0 ≤ o.lr ∧ o.lr < 16 ∧ 0 ≤ o.lm ∧ o.lm ≤ 1048576 ∧ 0 ≤ o.li ∧ o.li < 64 := by
    rcases good_or (hg 4 (by decide)) with h | h
    · exact rc_bounds h
    · simp [noughtF] at h; omega
  have f5 : 0 ≤ o.gr ∧ o.gr < 16 ∧ 0 ≤ o.gm ∧ o.gm ≤ 1048576 ∧ 0 ≤ o.gi ∧ o.gi < 64 := by
    rcases good_or (hg 5 (by decide)) with h | h
    · exact rc_bounds h
    · simp [noughtF] at h; omega
  have f6 : o.text.size ≤ 549755813888 := by
    rcases good_or (hg 6 (by decide)) with h | h
    · simp [rightF] at h; omega
    · have : o.text.size = 0 := by simpa only [noughtF, decide_eq_true_eq] using h
      omega
  constructor <;> first | (unfold Num49; omega) | assumption

/-- Bytes that grow: so many appends of at most 2^40 bytes each. -/
def En (B : Nat) (w : World) (v : Value) (xs : List Int) (k : Nat) : Prop := w.ownsRow B 5 1 v xs.length (cs xs) ∧ xs.length ≤ k * 1099511627776 ∧ ∀ x ∈ xs, 0 ≤ x ∧ x < 256
theorem En.below {B : Nat} {w w' : World} {v : Value} {xs : List Int} {k : Nat} (h : En B w v xs k) (hb : Below w.heap.size w w') : En B w' v xs k := ⟨own_below h.1 hb, h.2⟩
theorem En.form {B : Nat} {w : World} {v : Value} {xs : List Int} {k : Nat} (h : En B w v xs k) : ∃ a n c, v = .slice a n c := by
  obtain ⟨a, c, e, _⟩ := own_form h.1
  exact ⟨a, _, c, e⟩
theorem wpList_append_en {w w0 : World} {ops : Array Oper} {rest : List Oper} {o : Oper} {a : Act} {Q : Exit → Act → World → Prop} (hgd : o.guard = none) (s x : Operand)
    (ho : o.op = .call { callee := .builtin .append, args := #[s, x], argTypes := #[22, 22] })
    {v : Value} {xs : List Int} {k : Nat} (hs : a.eval s = v) (hW : En w0.heap.size w v xs k) (u : Value) {ys : List Int} (hx : a.eval x = u) (hu : Bs w u ys) (hul : ys.length ≤ 1099511627776) (hk : k ≤ 100)
    (hB : Below w0.heap.size w0 w) {b : Nat} {p : Opn} {pv : Value} (hO : Ob w b p pv)
    (h : ∀ va n vc w', En w0.heap.size w' (.slice va n vc) (xs ++ ys) (k + 1) → Ob w' b p pv → Below w0.heap.size w0 w' → wpList Tryd.prog ops Q rest (a.put o.dst (.slice va n vc)) w') :
    wpList Tryd.prog ops Q (o :: rest) a w := by
  have hl := hW.2.1
  have hkk : k * 1099511627776 ≤ 100 * 1099511627776 := Nat.mul_le_mul_right _ hk
  refine wpList_append_bs hgd s x ho w0.heap.size v xs.length xs hs hW.1 u ys hx hu (by omega) hB.size ?_
  intro v' w' h1 h2 _
  have hE : En w0.heap.size w' v' (xs ++ ys) (k + 1) := ⟨by rw [List.length_append]; exact h1, by rw [List.length_append, Nat.add_mul]; omega, fun z hz => by
    rcases List.mem_append.1 hz with hz | hz
    · exact hW.2.2 z hz
    · exact hu.range z hz⟩
  have hO' : Ob w' b p pv := (h2.block b hO.lt (fun e => own_far hW.1 hO (by decide) e.symm)).trans hO
  have hB' : Below w0.heap.size w0 w' := Below.grown hB h2 hB.size (fun j hj => (hW.1.lt j hj).1)
  obtain ⟨va, n, vc, rfl⟩ := hE.form
  exact h va n vc w' hE hO' hB'

/-- What a callee returns: bytes. -/
def Gv (e : List Int) (w : World) (z : Ending) (w' : World) : Prop := ∃ va n vc, z = .returned (.slice va n vc) ∧ Bs w' (.slice va n vc) e ∧ e.length ≤ 1099511627776 ∧ Below w.heap.size w w'
theorem Gv.mk {e : List Int} {w w' : World} {v : Value} (h : Mk e w v w') (hr : ∀ x ∈ e, 0 ≤ x ∧ x < 256) (hl : e.length ≤ 1099511627776) : Gv e w (.returned v) w' := by
  obtain ⟨a, c, rfl, _⟩ := own_form h.1
  exact ⟨a, _, c, rfl, Bs.of_own h.1 hr, hl, h.2⟩
theorem enc_b {n : Int} (h : Num49 n) : ∀ x ∈ M.enc n, 0 ≤ x ∧ x < 256 := M.enc_byte n h.1 h.2
theorem enc_l (n : Int) : (M.enc n).length ≤ 7 := by rw [M.enc_length]; exact (M.sz_pos n).2
theorem en2_b {a b : Int} (h1 : Num49 a) (h2 : Num49 b) : ∀ x ∈ en2 a b, 0 ≤ x ∧ x < 256 := fun x hx => (List.mem_append.1 hx).elim (enc_b h1 x) (enc_b h2 x)
theorem en3_b {a b c : Int} (h1 : Num49 a) (h2 : Num49 b) (h3 : Num49 c) : ∀ x ∈ en3 a b c, 0 ≤ x ∧ x < 256 := fun x hx => (List.mem_append.1 hx).elim (en2_b h1 h2 x) (enc_b h3 x)
theorem xnum_f (n : Int) (w : World) (h : Num49 n) : Calls Tryd.prog 42 #[.int .i64 n] w fun z w' => Gv (M.enc n) w z w' :=
  (xnumb n w h).mono fun _ _ ⟨v, h1, h2⟩ => by subst h1; exact Gv.mk h2 (enc_b h) (by have := enc_l n; omega)
theorem xname_f (r n : Int) (w : World) (h1 : Num49 r) (h2 : Num49 n) : Calls Tryd.prog 70 #[idv r n] w fun z w' => Gv (en2 r n) w z w' :=
  (xname_own r n w h1 h2).mono fun _ _ ⟨v, e, h⟩ => by subst e; exact Gv.mk h (en2_b h1 h2) (by unfold en2; rw [List.length_append]; have := enc_l r; have := enc_l n; omega)
theorem xchar_f (r n i : Int) (w : World) (h1 : Num49 r) (h2 : Num49 n) (h3 : Num49 i) : Calls Tryd.prog 71 #[chv r n i] w fun z w' => Gv (en3 r n i) w z w' :=
  (xchar_own r n i w h1 h2 h3).mono fun _ _ ⟨v, e, h⟩ => by subst e; exact Gv.mk h (en3_b h1 h2 h3) (by unfold en3; rw [List.length_append, List.length_append]; have := enc_l r; have := enc_l n; have := enc_l i; omega)
theorem xtext_f (s : ByteArray) (w : World) (h : s.size ≤ 549755813888) : Calls Tryd.prog 44 #[.string s] w fun z w' => Gv (M.encText s) w z w' :=
  (refputtext_bs s w (by omega)).mono fun _ _ ⟨v, e, hb, hB⟩ => by
    subst e
    obtain ⟨a, c, rfl⟩ := hb.form
    exact ⟨a, _, c, rfl, hb, by rw [encText_length]; have := (M.sz_pos s.size).2; omega, hB⟩
theorem cut_cells {w : World} {v : Value} {l : List Ct} (h : Cs w v l) {j : Nat} (hj : j < l.length) : ∃ gb off c, v = .slice (some ⟨gb, off, none⟩) l.length c ∧ w.cell? ⟨gb, off + j * 4, none⟩ = some (.int .i64 l[j].r) ∧ w.cell? ⟨gb, off + j * 4 + 1, none⟩ = some (.int .i64 l[j].n) ∧ w.cell? ⟨gb, off + j * 4 + 2, none⟩ = some (.int .i64 l[j].f) ∧ w.cell? ⟨gb, off + j * 4 + 3, none⟩ = some (.int .i64 l[j].t) := by
  obtain ⟨gb, off, c, e, _, _, _, hc⟩ := Sl.inv h (by omega) (by decide)
  have hat : ∀ m, m < 4 → (l.flatMap cutc)[j * 4 + m]? = (cutc l[j])[m]? := fun m hm => by
    have hgen : ∀ (l : List Ct) (j : Nat) (hj : j < l.length), (l.flatMap cutc)[j * 4 + m]? = (cutc l[j])[m]? := by
      intro l
      induction l with
      | nil => intro j hj; simp at hj
      | cons a r ih =>
        intro j hj
        rw [List.flatMap_cons]
        cases j with
        | zero => rw [List.getElem?_append_left (by simp; omega)]; simp
        | succ j =>
          rw [List.getElem?_append_right (by simp; omega)]
          have hx := ih j (by simpa using hj)
          have he : (j + 1) * 4 + m - (cutc a).length = j * 4 + m := by simp; omega
          rw [he, hx]
          simp
    exact hgen l j hj
  refine ⟨gb, off, c, e, hc (j * 4) _ (by have := hat 0 (by decide); simpa using this), ?_, ?_, ?_⟩
  · rw [Nat.add_assoc]; exact hc (j * 4 + 1) _ (by rw [hat 1 (by decide)]; rfl)
  · rw [Nat.add_assoc]; exact hc (j * 4 + 2) _ (by rw [hat 2 (by decide)]; rfl)
  · rw [Nat.add_assoc]; exact hc (j * 4 + 3) _ (by rw [hat 3 (by decide)]; rfl)
end Go.Proofs.YtniecbblhphbdaaDoor

/-
  What the reference's Encode returns is proved here, for all fine ops.
-/
namespace Go.Proofs.YtniecbblhphbdaaDoor
open Go.RowKit
set_option linter.unusedVariables false
set_option maxRecDepth 100000

/-- A right op's bytes. -/
def Ev (xs : List Int) (w : World) (z : Ending) (w' : World) : Prop := ∃ va n vc, z = .returned (.tuple #[.slice va n vc, .bool true]) ∧ Bs w' (.slice va n vc) xs ∧ Below w.heap.size w w'
theorem Ev.mk {xs ys : List Int} {w w' : World} {va : Option Addr} {n vc k : Nat} (h : En w.heap.size w' (.slice va n vc) ys k) (he : ys = xs) (hb : Below w.heap.size w w') : Ev xs w (.returned (.tuple #[.slice va n vc, .bool true])) w' := by
  subst he
  exact ⟨va, n, vc, rfl, Bs.of_own h.1 h.2.2, hb⟩

end Go.Proofs.YtniecbblhphbdaaDoor

/-
  What the reference's Encode returns is proved here, for all fine right ops of kind 1.
-/
namespace Go.Proofs.YtniecbblhphbdaaDoor
open Go.RowKit
set_option linter.unusedVariables false
set_option maxRecDepth 100000

set_option maxHeartbeats 8000000 in
theorem xenc1 (A : Value) (o : Opn) (v : Value) (hA : A = opv o v) (w : World) (hC : Cs w v o.cuts) (hfin : o.fine) (hR : rightO o = true) (hk : o.k = 1) : Calls Tryd.prog 43 #[A] w fun z w' => Ev (encO o) w z w' := by
  have HEQ : Hid (encO o = (M.enc o.k ++ M.enc o.ir ++ M.enc o.im ++ M.enc o.t) ++ (told 1).flatMap (encF o)) := by show encO o = _; unfold encO; rw [hk]
  have HAA := hid hA
  have HC := hid hC
  have HFIN := hid hfin
  have HRI := hid hR
  have AN := hid (alln hR)
  clear hA hC hfin
  go_enter Tryd.func43, Tryd.ntmps43
  go_wp2_with (first | (refine wpList_box_op rfl _ rfl A rfl o v HAA.out ?_; intro w1 hob hb1 hlt1; have HO1 := hid hob; have B1 := hid hb1; clear hob hb1 hlt1) | (refine wpList_load_op rfl _ rfl _ rfl _ _ HO1.out ?_))
  refine (xright_any o v w1 (HC.out.below B1.out) HFIN.out).mono ?_
  rintro e w2 ⟨rfl, b2⟩
  rw [HRI.out]
  have HO2 := hid (HO1.out.below b2)
  have B2 := hid (bt B1.out b2)
  clear b2 hR
  go_wp2_with fail
  refine enc_reg (b := w.heap.size) (o := o) (v := v) (e1 := M.enc o.k) (e2 := en2 o.ir o.im) HO2.out (fun W => xnumb o.k W AN.out.k) (fun W => xname_own o.ir o.im W AN.out.ir AN.out.im) (en2_b AN.out.ir AN.out.im) (by unfold en2; rw [List.length_append]; have := enc_l o.k; have := enc_l o.ir; have := enc_l o.im; omega) (fun _ _ _ _ _ h => h) (fun v1 v2 v3 W3 ho hb => ?_)
  have HW : Hid (En w.heap.size W3 v3 (M.enc o.k ++ en2 o.ir o.im) 1) := ⟨own_lower ho B2.out.size, by unfold en2; rw [List.length_append, List.length_append]; have := enc_l o.k; have := enc_l o.ir; have := enc_l o.im; omega, fun x hx => (List.mem_append.1 hx).elim (enc_b AN.out.k x) (en2_b AN.out.ir AN.out.im x)⟩
  have HO := hid (HO2.out.below hb)
  have BB := hid (bt B2.out hb)
  obtain ⟨va3, n3, vc3, hv3⟩ := HW.out.form
  subst hv3
  clear ho hb HO1 HO2 B1 B2
  go_upto_region 4 with fail
  go_upto_region 5 with (first | (refine wpList_ld_t' rfl rfl HO.out rfl ?_) | (go_at_call 42; refine (xnum_f o.t _ AN.out.t).mono ?_; rintro e w9 ⟨ua, un, uc, rfl, hu, hul, hb⟩; replace HO := hid (HO.out.below hb); replace HW := hid (HW.out.below hb); replace BB := hid (bt BB.out hb); have HU := hid hu; have HUL := hid hul; clear hu hul hb) | (at_builtin; refine wpList_append_en rfl _ _ rfl rfl HW.out _ rfl HU.out HUL.out (by decide) BB.out HO.out ?_; intro va9 n9 vc9 w9 hw hob hbb; replace HW := hid hw; replace HO := hid hob; replace BB := hid hbb; clear hw hob hbb))
  go_upto_region 7 with (first | (refine wpList_ld_kind' rfl rfl HO.out rfl ?_))
  go_upto_region 11 with (first | (refine wpList_ld_kind' rfl rfl HO.out rfl ?_))
  go_upto_region 12 with (first | (refine wpList_ld_kind' rfl rfl HO.out rfl ?_))
  go_upto_region 13 with (first | (refine wpList_ld_parent' rfl rfl HO.out rfl ?_) | (go_at_call 70; refine (xname_f o.pr o.pm _ AN.out.pr AN.out.pm).mono ?_; rintro e w9 ⟨ua, un, uc, rfl, hu, hul, hb⟩; replace HO := hid (HO.out.below hb); replace HW := hid (HW.out.below hb); replace BB := hid (bt BB.out hb); have HU := hid hu; have HUL := hid hul; clear hu hul hb) | (at_builtin; refine wpList_append_en rfl _ _ rfl rfl HW.out _ rfl HU.out HUL.out (by decide) BB.out HO.out ?_; intro va9 n9 vc9 w9 hw hob hbb; replace HW := hid hw; replace HO := hid hob; replace BB := hid hbb; clear hw hob hbb))
  go_upto_region 14 with (first | (refine wpList_ld_key' rfl rfl HO.out rfl ?_) | (go_at_call 44; refine (xtext_f o.key _ AN.out.key).mono ?_; rintro e w9 ⟨ua, un, uc, rfl, hu, hul, hb⟩; replace HO := hid (HO.out.below hb); replace HW := hid (HW.out.below hb); replace BB := hid (bt BB.out hb); have HU := hid hu; have HUL := hid hul; clear hu hul hb) | (at_builtin; refine wpList_append_en rfl _ _ rfl rfl HW.out _ rfl HU.out HUL.out (by decide) BB.out HO.out ?_; intro va9 n9 vc9 w9 hw hob hbb; replace HW := hid hw; replace HO := hid hob; replace BB := hid hbb; clear hw hob hbb))
  go_upto_region 16 with (first | (refine wpList_ld_kind' rfl rfl HO.out rfl ?_))
  go_upto_region 24 with (first | (refine wpList_ld_kind' rfl rfl HO.out rfl ?_))
  go_upto_region 29 with (first | (refine wpList_ld_kind' rfl rfl HO.out rfl ?_))
  go_wp2
  go_ret2
  refine Ev.mk HW.out ?_ BB.out
  rw [HEQ.out]
  simp [told, encF, en2, List.append_assoc]
end Go.Proofs.YtniecbblhphbdaaDoor

/-
  What the reference's Encode returns is proved here, for all fine right ops of kind 2.
-/
namespace Go.Proofs.YtniecbblhphbdaaDoor
open Go.RowKit
set_option linter.unusedVariables false
set_option maxRecDepth 100000

set_option maxHeartbeats 8000000 in
theorem xenc2 (A : Value) (o : Opn) (v : Value) (hA : A = opv o v) (w : World) (hC : Cs w v o.cuts) (hfin : o.fine) (hR : rightO o = true) (hk : o.k = 2) : Calls Tryd.prog 43 #[A] w fun z w' => Ev (encO o) w z w' := by
  have HEQ : Hid (encO o = (M.enc o.k ++ M.enc o.ir ++ M.enc o.im ++ M.enc o.t) ++ (told 2).flatMap (encF o)) := by show encO o = _; unfold encO; rw [hk]
  have HAA := hid hA
  have HC := hid hC
  have HFIN := hid hfin
  have HRI := hid hR
  have AN := hid (alln hR)
  clear hA hC hfin
  go_enter Tryd.func43, Tryd.ntmps43
  go_wp2_with (first | (refine wpList_box_op rfl _ rfl A rfl o v HAA.out ?_; intro w1 hob hb1 hlt1; have HO1 := hid hob; have B1 := hid hb1; clear hob hb1 hlt1) | (refine wpList_load_op rfl _ rfl _ rfl _ _ HO1.out ?_))
  refine (xright_any o v w1 (HC.out.below B1.out) HFIN.out).mono ?_
  rintro e w2 ⟨rfl, b2⟩
  rw [HRI.out]
  have HO2 := hid (HO1.out.below b2)
  have B2 := hid (bt B1.out b2)
  clear b2 hR
  go_wp2_with fail
  refine enc_reg (b := w.heap.size) (o := o) (v := v) (e1 := M.enc o.k) (e2 := en2 o.ir o.im) HO2.out (fun W => xnumb o.k W AN.out.k) (fun W => xname_own o.ir o.im W AN.out.ir AN.out.im) (en2_b AN.out.ir AN.out.im) (by unfold en2; rw [List.length_append]; have := enc_l o.k; have := enc_l o.ir; have := enc_l o.im; omega) (fun _ _ _ _ _ h => h) (fun v1 v2 v3 W3 ho hb => ?_)
  have HW : Hid (En w.heap.size W3 v3 (M.enc o.k ++ en2 o.ir o.im) 1) := ⟨own_lower ho B2.out.size, by unfold en2; rw [List.length_append, List.length_append]; have := enc_l o.k; have := enc_l o.ir; have := enc_l o.im; omega, fun x hx => (List.mem_append.1 hx).elim (enc_b AN.out.k x) (en2_b AN.out.ir AN.out.im x)⟩
  have HO := hid (HO2.out.below hb)
  have BB := hid (bt B2.out hb)
  obtain ⟨va3, n3, vc3, hv3⟩ := HW.out.form
  subst hv3
  clear ho hb HO1 HO2 B1 B2
  go_upto_region 4 with fail
  go_upto_region 5 with (first | (refine wpList_ld_t' rfl rfl HO.out rfl ?_) | (go_at_call 42; refine (xnum_f o.t _ AN.out.t).mono ?_; rintro e w9 ⟨ua, un, uc, rfl, hu, hul, hb⟩; replace HO := hid (HO.out.below hb); replace HW := hid (HW.out.below hb); replace BB := hid (bt BB.out hb); have HU := hid hu; have HUL := hid hul; clear hu hul hb) | (at_builtin; refine wpList_append_en rfl _ _ rfl rfl HW.out _ rfl HU.out HUL.out (by decide) BB.out HO.out ?_; intro va9 n9 vc9 w9 hw hob hbb; replace HW := hid hw; replace HO := hid hob; replace BB := hid hbb; clear hw hob hbb))
  go_upto_region 6 with (first | (refine wpList_ld_kind' rfl rfl HO.out rfl ?_))
  go_upto_region 7 with (first | (refine wpList_ld_block' rfl rfl HO.out rfl ?_) | (go_at_call 70; refine (xname_f o.br o.bm _ AN.out.br AN.out.bm).mono ?_; rintro e w9 ⟨ua, un, uc, rfl, hu, hul, hb⟩; replace HO := hid (HO.out.below hb); replace HW := hid (HW.out.below hb); replace BB := hid (bt BB.out hb); have HU := hid hu; have HUL := hid hul; clear hu hul hb) | (at_builtin; refine wpList_append_en rfl _ _ rfl rfl HW.out _ rfl HU.out HUL.out (by decide) BB.out HO.out ?_; intro va9 n9 vc9 w9 hw hob hbb; replace HW := hid hw; replace HO := hid hob; replace BB := hid hbb; clear hw hob hbb))
  go_upto_region 11 with (first | (refine wpList_ld_kind' rfl rfl HO.out rfl ?_))
  go_upto_region 12 with (first | (refine wpList_ld_kind' rfl rfl HO.out rfl ?_))
  go_upto_region 13 with (first | (refine wpList_ld_parent' rfl rfl HO.out rfl ?_) | (go_at_call 70; refine (xname_f o.pr o.pm _ AN.out.pr AN.out.pm).mono ?_; rintro e w9 ⟨ua, un, uc, rfl, hu, hul, hb⟩; replace HO := hid (HO.out.below hb); replace HW := hid (HW.out.below hb); replace BB := hid (bt BB.out hb); have HU := hid hu; have HUL := hid hul; clear hu hul hb) | (at_builtin; refine wpList_append_en rfl _ _ rfl rfl HW.out _ rfl HU.out HUL.out (by decide) BB.out HO.out ?_; intro va9 n9 vc9 w9 hw hob hbb; replace HW := hid hw; replace HO := hid hob; replace BB := hid hbb; clear hw hob hbb))
  go_upto_region 14 with (first | (refine wpList_ld_key' rfl rfl HO.out rfl ?_) | (go_at_call 44; refine (xtext_f o.key _ AN.out.key).mono ?_; rintro e w9 ⟨ua, un, uc, rfl, hu, hul, hb⟩; replace HO := hid (HO.out.below hb); replace HW := hid (HW.out.below hb); replace BB := hid (bt BB.out hb); have HU := hid hu; have HUL := hid hul; clear hu hul hb) | (at_builtin; refine wpList_append_en rfl _ _ rfl rfl HW.out _ rfl HU.out HUL.out (by decide) BB.out HO.out ?_; intro va9 n9 vc9 w9 hw hob hbb; replace HW := hid hw; replace HO := hid hob; replace BB := hid hbb; clear hw hob hbb))
  go_upto_region 16 with (first | (refine wpList_ld_kind' rfl rfl HO.out rfl ?_))
  go_upto_region 24 with (first | (refine wpList_ld_kind' rfl rfl HO.out rfl ?_))
  go_upto_region 29 with (first | (refine wpList_ld_kind' rfl rfl HO.out rfl ?_))
  go_wp2
  go_ret2
  refine Ev.mk HW.out ?_ BB.out
  rw [HEQ.out]
  simp [told, encF, en2, List.append_assoc]
end Go.Proofs.YtniecbblhphbdaaDoor

/-
  What the reference's Encode returns is proved here, for all fine right ops of kind 3.
-/
namespace Go.Proofs.YtniecbblhphbdaaDoor
open Go.RowKit
set_option linter.unusedVariables false
set_option maxRecDepth 100000

set_option maxHeartbeats 8000000 in
theorem xenc3 (A : Value) (o : Opn) (v : Value) (hA : A = opv o v) (w : World) (hC : Cs w v o.cuts) (hfin : o.fine) (hR : rightO o = true) (hk : o.k = 3) : Calls Tryd.prog 43 #[A] w fun z w' => Ev (encO o) w z w' := by
  have HEQ : Hid (encO o = (M.enc o.k ++ M.enc o.ir ++ M.enc o.im ++ M.enc o.t) ++ (told 3).flatMap (encF o)) := by show encO o = _; unfold encO; rw [hk]
  have HAA := hid hA
  have HC := hid hC
  have HFIN := hid hfin
  have HRI := hid hR
  have AN := hid (alln hR)
  clear hA hC hfin
  go_enter Tryd.func43, Tryd.ntmps43
  go_wp2_with (first | (refine wpList_box_op rfl _ rfl A rfl o v HAA.out ?_; intro w1 hob hb1 hlt1; have HO1 := hid hob; have B1 := hid hb1; clear hob hb1 hlt1) | (refine wpList_load_op rfl _ rfl _ rfl _ _ HO1.out ?_))
  refine (xright_any o v w1 (HC.out.below B1.out) HFIN.out).mono ?_
  rintro e w2 ⟨rfl, b2⟩
  rw [HRI.out]
  have HO2 := hid (HO1.out.below b2)
  have B2 := hid (bt B1.out b2)
  clear b2 hR
  go_wp2_with fail
  refine enc_reg (b := w.heap.size) (o := o) (v := v) (e1 := M.enc o.k) (e2 := en2 o.ir o.im) HO2.out (fun W => xnumb o.k W AN.out.k) (fun W => xname_own o.ir o.im W AN.out.ir AN.out.im) (en2_b AN.out.ir AN.out.im) (by unfold en2; rw [List.length_append]; have := enc_l o.k; have := enc_l o.ir; have := enc_l o.im; omega) (fun _ _ _ _ _ h => h) (fun v1 v2 v3 W3 ho hb => ?_)
  have HW : Hid (En w.heap.size W3 v3 (M.enc o.k ++ en2 o.ir o.im) 1) := ⟨own_lower ho B2.out.size, by unfold en2; rw [List.length_append, List.length_append]; have := enc_l o.k; have := enc_l o.ir; have := enc_l o.im; omega, fun x hx => (List.mem_append.1 hx).elim (enc_b AN.out.k x) (en2_b AN.out.ir AN.out.im x)⟩
  have HO := hid (HO2.out.below hb)
  have BB := hid (bt B2.out hb)
  obtain ⟨va3, n3, vc3, hv3⟩ := HW.out.form
  subst hv3
  clear ho hb HO1 HO2 B1 B2
  go_upto_region 4 with fail
  go_upto_region 5 with (first | (refine wpList_ld_t' rfl rfl HO.out rfl ?_) | (go_at_call 42; refine (xnum_f o.t _ AN.out.t).mono ?_; rintro e w9 ⟨ua, un, uc, rfl, hu, hul, hb⟩; replace HO := hid (HO.out.below hb); replace HW := hid (HW.out.below hb); replace BB := hid (bt BB.out hb); have HU := hid hu; have HUL := hid hul; clear hu hul hb) | (at_builtin; refine wpList_append_en rfl _ _ rfl rfl HW.out _ rfl HU.out HUL.out (by decide) BB.out HO.out ?_; intro va9 n9 vc9 w9 hw hob hbb; replace HW := hid hw; replace HO := hid hob; replace BB := hid hbb; clear hw hob hbb))
  go_upto_region 7 with (first | (refine wpList_ld_kind' rfl rfl HO.out rfl ?_))
  go_upto_region 8 with (first | (refine wpList_ld_kind' rfl rfl HO.out rfl ?_))
  go_upto_region 9 with (first | (refine wpList_ld_seg' rfl rfl HO.out rfl ?_) | (go_at_call 70; refine (xname_f o.sr o.sm _ AN.out.sr AN.out.sm).mono ?_; rintro e w9 ⟨ua, un, uc, rfl, hu, hul, hb⟩; replace HO := hid (HO.out.below hb); replace HW := hid (HW.out.below hb); replace BB := hid (bt BB.out hb); have HU := hid hu; have HUL := hid hul; clear hu hul hb) | (at_builtin; refine wpList_append_en rfl _ _ rfl rfl HW.out _ rfl HU.out HUL.out (by decide) BB.out HO.out ?_; intro va9 n9 vc9 w9 hw hob hbb; replace HW := hid hw; replace HO := hid hob; replace BB := hid hbb; clear hw hob hbb))
  go_upto_region 10 with (first | (refine wpList_ld_left' rfl rfl HO.out rfl ?_) | (go_at_call 71; refine (xchar_f o.lr o.lm o.li _ AN.out.lr AN.out.lm AN.out.li).mono ?_; rintro e w9 ⟨ua, un, uc, rfl, hu, hul, hb⟩; replace HO := hid (HO.out.below hb); replace HW := hid (HW.out.below hb); replace BB := hid (bt BB.out hb); have HU := hid hu; have HUL := hid hul; clear hu hul hb) | (at_builtin; refine wpList_append_en rfl _ _ rfl rfl HW.out _ rfl HU.out HUL.out (by decide) BB.out HO.out ?_; intro va9 n9 vc9 w9 hw hob hbb; replace HW := hid hw; replace HO := hid hob; replace BB := hid hbb; clear hw hob hbb))
  go_upto_region 11 with (first | (refine wpList_ld_right' rfl rfl HO.out rfl ?_) | (go_at_call 71; refine (xchar_f o.gr o.gm o.gi _ AN.out.gr AN.out.gm AN.out.gi).mono ?_; rintro e w9 ⟨ua, un, uc, rfl, hu, hul, hb⟩; replace HO := hid (HO.out.below hb); replace HW := hid (HW.out.below hb); replace BB := hid (bt BB.out hb); have HU := hid hu; have HUL := hid hul; clear hu hul hb) | (at_builtin; refine wpList_append_en rfl _ _ rfl rfl HW.out _ rfl HU.out HUL.out (by decide) BB.out HO.out ?_; intro va9 n9 vc9 w9 hw hob hbb; replace HW := hid hw; replace HO := hid hob; replace BB := hid hbb; clear hw hob hbb))
  go_upto_region 14 with (first | (refine wpList_ld_kind' rfl rfl HO.out rfl ?_))
  go_upto_region 15 with (first | (refine wpList_ld_kind' rfl rfl HO.out rfl ?_))
  go_upto_region 16 with (first | (refine wpList_ld_text' rfl rfl HO.out rfl ?_) | (go_at_call 44; refine (xtext_f o.text _ AN.out.text).mono ?_; rintro e w9 ⟨ua, un, uc, rfl, hu, hul, hb⟩; replace HO := hid (HO.out.below hb); replace HW := hid (HW.out.below hb); replace BB := hid (bt BB.out hb); have HU := hid hu; have HUL := hid hul; clear hu hul hb) | (at_builtin; refine wpList_append_en rfl _ _ rfl rfl HW.out _ rfl HU.out HUL.out (by decide) BB.out HO.out ?_; intro va9 n9 vc9 w9 hw hob hbb; replace HW := hid hw; replace HO := hid hob; replace BB := hid hbb; clear hw hob hbb))
  go_upto_region 24 with (first | (refine wpList_ld_kind' rfl rfl HO.out rfl ?_))
  go_upto_region 29 with (first | (refine wpList_ld_kind' rfl rfl HO.out rfl ?_))
  go_wp2
  go_ret2
  refine Ev.mk HW.out ?_ BB.out
  rw [HEQ.out]
  simp [told, encF, en2, List.append_assoc]
end Go.Proofs.YtniecbblhphbdaaDoor

/-
  What the reference's Encode returns is proved here, for all fine right ops of kind 4.
-/
namespace Go.Proofs.YtniecbblhphbdaaDoor
open Go.RowKit
set_option linter.unusedVariables false
set_option maxRecDepth 100000

set_option maxHeartbeats 8000000 in
theorem xenc4 (A : Value) (o : Opn) (v : Value) (hA : A = opv o v) (w : World) (hC : Cs w v o.cuts) (hfin : o.fine) (hR : rightO o = true) (hk : o.k = 4) : Calls Tryd.prog 43 #[A] w fun z w' => Ev (encO o) w z w' := by
  have HEQ : Hid (encO o = (M.enc o.k ++ M.enc o.ir ++ M.enc o.im ++ M.enc o.t) ++ (told 4).flatMap (encF o)) := by show encO o = _; unfold encO; rw [hk]
  have hcr : (1 ≤ o.cuts.length ∧ o.cuts.length ≤ 16) ∧ ∀ c ∈ o.cuts, rct c = true := by
    have hg := (right_parts hR).2 7 (by decide)
    unfold goodF at hg
    rw [hk, if_pos (by decide)] at hg
    simpa [rightF] using hg
  obtain ⟨L, hL⟩ : ∃ L, o.cuts.length = L := ⟨_, rfl⟩
  have HLN := hid hL
  have HCT := hid hcr.2
  have hL1 : 1 ≤ L ∧ L ≤ 16 := by rw [← hL]; exact hcr.1
  have hvf : ∃ va vc, v = .slice va L vc := by
    obtain ⟨a, c, e, _⟩ := hC.form
    exact ⟨a, c, by rw [e, hL]⟩
  have HNL : Hid (Num49 (L : Int)) := ⟨by omega, by omega⟩
  clear hL hcr
  have HAA := hid hA
  have HC := hid hC
  have HFIN := hid hfin
  have HRI := hid hR
  have AN := hid (alln hR)
  clear hA hC hfin
  go_enter Tryd.func43, Tryd.ntmps43
  go_wp2_with (first | (refine wpList_box_op rfl _ rfl A rfl o v HAA.out ?_; intro w1 hob hb1 hlt1; have HO1 := hid hob; have B1 := hid hb1; clear hob hb1 hlt1) | (refine wpList_load_op rfl _ rfl _ rfl _ _ HO1.out ?_))
  refine (xright_any o v w1 (HC.out.below B1.out) HFIN.out).mono ?_
  rintro e w2 ⟨rfl, b2⟩
  rw [HRI.out]
  have HO2 := hid (HO1.out.below b2)
  have B2 := hid (bt B1.out b2)
  clear b2 hR
  go_wp2_with fail
  refine enc_reg (b := w.heap.size) (o := o) (v := v) (e1 := M.enc o.k) (e2 := en2 o.ir o.im) HO2.out (fun W => xnumb o.k W AN.out.k) (fun W => xname_own o.ir o.im W AN.out.ir AN.out.im) (en2_b AN.out.ir AN.out.im) (by unfold en2; rw [List.length_append]; have := enc_l o.k; have := enc_l o.ir; have := enc_l o.im; omega) (fun _ _ _ _ _ h => h) (fun v1 v2 v3 W3 ho hb => ?_)
  have HW : Hid (En w.heap.size W3 v3 (M.enc o.k ++ en2 o.ir o.im) 1) := ⟨own_lower ho B2.out.size, by unfold en2; rw [List.length_append, List.length_append]; have := enc_l o.k; have := enc_l o.ir; have := enc_l o.im; omega, fun x hx => (List.mem_append.1 hx).elim (enc_b AN.out.k x) (en2_b AN.out.ir AN.out.im x)⟩
  have HO := hid (HO2.out.below hb)
  have BB := hid (bt B2.out hb)
  obtain ⟨va3, n3, vc3, hv3⟩ := HW.out.form
  subst hv3
  clear ho hb HO1 HO2 B1 B2
  obtain ⟨cva, cvc, hvf⟩ := hvf
  go_upto_region 4 with fail
  go_upto_region 5 with (first | (refine wpList_ld_t' rfl rfl HO.out rfl ?_) | (go_at_call 42; refine (xnum_f o.t _ AN.out.t).mono ?_; rintro e w9 ⟨ua, un, uc, rfl, hu, hul, hb⟩; replace HO := hid (HO.out.below hb); replace HW := hid (HW.out.below hb); replace BB := hid (bt BB.out hb); have HU := hid hu; have HUL := hid hul; clear hu hul hb) | (at_builtin; refine wpList_append_en rfl _ _ rfl rfl HW.out _ rfl HU.out HUL.out (by decide) BB.out HO.out ?_; intro va9 n9 vc9 w9 hw hob hbb; replace HW := hid hw; replace HO := hid hob; replace BB := hid hbb; clear hw hob hbb))
  go_upto_region 7 with (first | (refine wpList_ld_kind' rfl rfl HO.out rfl ?_))
  go_upto_region 11 with (first | (refine wpList_ld_kind' rfl rfl HO.out rfl ?_))
  go_upto_region 14 with (first | (refine wpList_ld_kind' rfl rfl HO.out rfl ?_))
  go_upto_region 16 with (first | (refine wpList_ld_kind' rfl rfl HO.out rfl ?_))
  go_upto_region 17 with (first | (refine wpList_ld_kind' rfl rfl HO.out rfl ?_))
  subst hvf
  go_upto_region 18 with (first | (refine wpList_ld_cuts' rfl rfl HO.out rfl ?_) | (go_at_call 42; refine (xnum_f (L : Int) _ HNL.out).mono ?_; rintro e w9 ⟨ua, un, uc, rfl, hu, hul, hb⟩; replace HO := hid (HO.out.below hb); replace HW := hid (HW.out.below hb); replace BB := hid (bt BB.out hb); have HU := hid hu; have HUL := hid hul; clear hu hul hb) | (at_builtin; refine wpList_append_en rfl _ _ rfl rfl HW.out _ rfl HU.out HUL.out (by decide) BB.out HO.out ?_; intro va9 n9 vc9 w9 hw hob hbb; replace HW := hid hw; replace HO := hid hob; replace BB := hid hbb; clear hw hob hbb))
  go_upto_region 19 with fail
  obtain ⟨acc, hE, hacc⟩ : ∃ acc, En w.heap.size w9 (.slice va9 n9 vc9) acc 3 ∧ acc = M.enc o.k ++ en2 o.ir o.im ++ M.enc o.t ++ M.enc (L : Int) := ⟨_, HW.out, rfl⟩
  have HACC := hid hacc
  have HE := hid hE
  clear hE hacc HW
  go_loopw [4, 5] (fun out i wr => ∃ (j : Nat) (va : Option Addr) (n8 vc : Nat), j ≤ L ∧ i = .int .i64 j ∧ out = .slice va n8 vc ∧ En w.heap.size wr (.slice va n8 vc) (acc ++ (o.cuts.take j).flatMap enC) (3 + 3 * j) ∧ Ob wr w.heap.size o (.slice cva L cvc) ∧ Below w.heap.size w wr) (fun _ i _ => L - (intOf i).toNat)
  case atStart => exact ⟨0, _, _, _, Nat.zero_le _, rfl, rfl, by simpa using HE.out, HO.out, BB.out⟩
  case round =>
    obtain ⟨j, va, n8, vc, hj, rfl, rfl, hw, hob, hbb⟩ := hrel
    have HW := hid hw
    have HO := hid hob
    have BB := hid hbb
    clear hw hob hbb
    by_cases hlt : j < L
    · have b1' : (j : Int) < (L : Int) := by omega
      have hjl : j < o.cuts.length := by rw [HLN.out]; exact hlt
      obtain ⟨gb, off, cc, hv, d0, d1, d2, d3⟩ := cut_cells HC.out hjl
      simp only [Value.slice.injEq] at hv
      obtain ⟨rfl, -, rfl⟩ := hv
      have hct := rct_nums (HCT.out _ (List.getElem_mem hjl))
      have hst := cuts_step o.cuts j hjl
      obtain ⟨ct, hcte⟩ : ∃ ct, o.cuts[j] = ct := ⟨_, rfl⟩
      rw [hcte] at d0 d1 d2 d3 hct hst
      have HST := hid hst
      have N0 := hid (hct ct.r (by simp))
      have N1 := hid (hct ct.n (by simp))
      have N2 := hid (hct ct.f (by simp))
      have N3 := hid (hct ct.t (by simp))
      have D2 := hid d2
      have D3 := hid d3
      have HG := World.block_lt_of_cell? _ _ d0
      have K1 : Hid (3 + 3 * j ≤ 100) := by show _ ≤ _; omega
      have K2 : Hid (3 + 3 * j + 1 ≤ 100) := by show _ ≤ _; omega
      have K3 : Hid (3 + 3 * j + 1 + 1 ≤ 100) := by show _ ≤ _; omega
      have c0 : wr.cell? ⟨gb, off + j * 4, none⟩ = some (.int .i64 ct.r) := (BB.out.cell (p := ⟨gb, off + j * 4, none⟩) HG).trans d0
      have c1 : wr.cell? ⟨gb, off + j * 4 + 1, none⟩ = some (.int .i64 ct.n) := (BB.out.cell (p := ⟨gb, off + j * 4 + 1, none⟩) HG).trans d1
      clear hct hcte hst d0 d1 d2 d3
      go_upto_region 22 with (first | (refine wpList_ld_cuts' rfl rfl HO.out rfl ?_) | (go_at_call 70; refine (xname_f ct.r ct.n _ N0.out N1.out).mono ?_; rintro e w9 ⟨ua, un, uc, rfl, hu, hul, hb⟩; replace HO := hid (HO.out.below hb); replace HW := hid (HW.out.below hb); replace BB := hid (bt BB.out hb); have HU := hid hu; have HUL := hid hul; clear hu hul hb) | (at_builtin; refine wpList_append_en rfl _ _ rfl rfl HW.out _ rfl HU.out HUL.out K1.out BB.out HO.out ?_; intro va9 n9 vc9 w9 hw hob hbb; replace HW := hid hw; replace HO := hid hob; replace BB := hid hbb; clear hw hob hbb))
      have c2 : w9.cell? ⟨gb, off + j * 4 + 2, none⟩ = some (.int .i64 ct.f) := by rw [BB.out.cell HG]; exact D2.out
      clear c0 c1
      go_upto_region 23 with (first | (refine wpList_ld_cuts' rfl rfl HO.out rfl ?_) | (go_at_call 42; refine (xnum_f ct.f _ N2.out).mono ?_; rintro e w9 ⟨ua, un, uc, rfl, hu, hul, hb⟩; replace HO := hid (HO.out.below hb); replace HW := hid (HW.out.below hb); replace BB := hid (bt BB.out hb); have HU := hid hu; have HUL := hid hul; clear hu hul hb) | (at_builtin; refine wpList_append_en rfl _ _ rfl rfl HW.out _ rfl HU.out HUL.out K2.out BB.out HO.out ?_; intro va9 n9 vc9 w9 hw hob hbb; replace HW := hid hw; replace HO := hid hob; replace BB := hid hbb; clear hw hob hbb))
      have c3 : w9.cell? ⟨gb, off + j * 4 + 3, none⟩ = some (.int .i64 ct.t) := by rw [BB.out.cell HG]; exact D3.out
      clear c2
      go_wp2_with (first | (refine wpList_ld_cuts' rfl rfl HO.out rfl ?_) | (go_at_call 42; refine (xnum_f ct.t _ N3.out).mono ?_; rintro e w9 ⟨ua, un, uc, rfl, hu, hul, hb⟩; replace HO := hid (HO.out.below hb); replace HW := hid (HW.out.below hb); replace BB := hid (bt BB.out hb); have HU := hid hu; have HUL := hid hul; clear hu hul hb) | (at_builtin; refine wpList_append_en rfl _ _ rfl rfl HW.out _ rfl HU.out HUL.out K3.out BB.out HO.out ?_; intro va9 n9 vc9 w9 hw hob hbb; replace HW := hid hw; replace HO := hid hob; replace BB := hid hbb; clear hw hob hbb))
      refine ⟨⟨j + 1, _, _, _, by omega, by go_num, rfl, ?_, HO.out, BB.out⟩, by simp [intOf]; omega⟩
      have h := HW.out
      rw [HST.out, ← List.append_assoc]
      rw [show 3 + 3 * (j + 1) = 3 + 3 * j + 1 + 1 + 1 by omega]
      simpa [enC, en2, List.append_assoc] using h
    · obtain rfl : j = L := by omega
      have b1' : ¬ (j : Int) < (j : Int) := by omega
      go_upto_region 24 with (first | (refine wpList_ld_cuts' rfl rfl HO.out rfl ?_))
      go_upto_region 29 with (first | (refine wpList_ld_kind' rfl rfl HO.out rfl ?_))
      go_wp2
      go_ret2
      refine Ev.mk HW.out ?_ BB.out
      rw [HEQ.out, HACC.out, List.take_of_length_le (by rw [HLN.out]; exact Nat.le_refl _)]
      have hl := HLN.out
      simp [told, encF, en2, hl, List.append_assoc]
end Go.Proofs.YtniecbblhphbdaaDoor

/-
  What the reference's Encode returns is proved here, for all fine right ops of kind 5.
-/
namespace Go.Proofs.YtniecbblhphbdaaDoor
open Go.RowKit
set_option linter.unusedVariables false
set_option maxRecDepth 100000

set_option maxHeartbeats 8000000 in
theorem xenc5 (A : Value) (o : Opn) (v : Value) (hA : A = opv o v) (w : World) (hC : Cs w v o.cuts) (hfin : o.fine) (hR : rightO o = true) (hk : o.k = 5) : Calls Tryd.prog 43 #[A] w fun z w' => Ev (encO o) w z w' := by
  have HEQ : Hid (encO o = (M.enc o.k ++ M.enc o.ir ++ M.enc o.im ++ M.enc o.t) ++ (told 5).flatMap (encF o)) := by show encO o = _; unfold encO; rw [hk]
  have HAA := hid hA
  have HC := hid hC
  have HFIN := hid hfin
  have HRI := hid hR
  have AN := hid (alln hR)
  clear hA hC hfin
  go_enter Tryd.func43, Tryd.ntmps43
  go_wp2_with (first | (refine wpList_box_op rfl _ rfl A rfl o v HAA.out ?_; intro w1 hob hb1 hlt1; have HO1 := hid hob; have B1 := hid hb1; clear hob hb1 hlt1) | (refine wpList_load_op rfl _ rfl _ rfl _ _ HO1.out ?_))
  refine (xright_any o v w1 (HC.out.below B1.out) HFIN.out).mono ?_
  rintro e w2 ⟨rfl, b2⟩
  rw [HRI.out]
  have HO2 := hid (HO1.out.below b2)
  have B2 := hid (bt B1.out b2)
  clear b2 hR
  go_wp2_with fail
  refine enc_reg (b := w.heap.size) (o := o) (v := v) (e1 := M.enc o.k) (e2 := en2 o.ir o.im) HO2.out (fun W => xnumb o.k W AN.out.k) (fun W => xname_own o.ir o.im W AN.out.ir AN.out.im) (en2_b AN.out.ir AN.out.im) (by unfold en2; rw [List.length_append]; have := enc_l o.k; have := enc_l o.ir; have := enc_l o.im; omega) (fun _ _ _ _ _ h => h) (fun v1 v2 v3 W3 ho hb => ?_)
  have HW : Hid (En w.heap.size W3 v3 (M.enc o.k ++ en2 o.ir o.im) 1) := ⟨own_lower ho B2.out.size, by unfold en2; rw [List.length_append, List.length_append]; have := enc_l o.k; have := enc_l o.ir; have := enc_l o.im; omega, fun x hx => (List.mem_append.1 hx).elim (enc_b AN.out.k x) (en2_b AN.out.ir AN.out.im x)⟩
  have HO := hid (HO2.out.below hb)
  have BB := hid (bt B2.out hb)
  obtain ⟨va3, n3, vc3, hv3⟩ := HW.out.form
  subst hv3
  clear ho hb HO1 HO2 B1 B2
  go_upto_region 4 with fail
  go_upto_region 5 with (first | (refine wpList_ld_t' rfl rfl HO.out rfl ?_) | (go_at_call 42; refine (xnum_f o.t _ AN.out.t).mono ?_; rintro e w9 ⟨ua, un, uc, rfl, hu, hul, hb⟩; replace HO := hid (HO.out.below hb); replace HW := hid (HW.out.below hb); replace BB := hid (bt BB.out hb); have HU := hid hu; have HUL := hid hul; clear hu hul hb) | (at_builtin; refine wpList_append_en rfl _ _ rfl rfl HW.out _ rfl HU.out HUL.out (by decide) BB.out HO.out ?_; intro va9 n9 vc9 w9 hw hob hbb; replace HW := hid hw; replace HO := hid hob; replace BB := hid hbb; clear hw hob hbb))
  go_upto_region 7 with (first | (refine wpList_ld_kind' rfl rfl HO.out rfl ?_))
  go_upto_region 8 with (first | (refine wpList_ld_kind' rfl rfl HO.out rfl ?_))
  go_upto_region 9 with (first | (refine wpList_ld_seg' rfl rfl HO.out rfl ?_) | (go_at_call 70; refine (xname_f o.sr o.sm _ AN.out.sr AN.out.sm).mono ?_; rintro e w9 ⟨ua, un, uc, rfl, hu, hul, hb⟩; replace HO := hid (HO.out.below hb); replace HW := hid (HW.out.below hb); replace BB := hid (bt BB.out hb); have HU := hid hu; have HUL := hid hul; clear hu hul hb) | (at_builtin; refine wpList_append_en rfl _ _ rfl rfl HW.out _ rfl HU.out HUL.out (by decide) BB.out HO.out ?_; intro va9 n9 vc9 w9 hw hob hbb; replace HW := hid hw; replace HO := hid hob; replace BB := hid hbb; clear hw hob hbb))
  go_upto_region 10 with (first | (refine wpList_ld_left' rfl rfl HO.out rfl ?_) | (go_at_call 71; refine (xchar_f o.lr o.lm o.li _ AN.out.lr AN.out.lm AN.out.li).mono ?_; rintro e w9 ⟨ua, un, uc, rfl, hu, hul, hb⟩; replace HO := hid (HO.out.below hb); replace HW := hid (HW.out.below hb); replace BB := hid (bt BB.out hb); have HU := hid hu; have HUL := hid hul; clear hu hul hb) | (at_builtin; refine wpList_append_en rfl _ _ rfl rfl HW.out _ rfl HU.out HUL.out (by decide) BB.out HO.out ?_; intro va9 n9 vc9 w9 hw hob hbb; replace HW := hid hw; replace HO := hid hob; replace BB := hid hbb; clear hw hob hbb))
  go_upto_region 11 with (first | (refine wpList_ld_right' rfl rfl HO.out rfl ?_) | (go_at_call 71; refine (xchar_f o.gr o.gm o.gi _ AN.out.gr AN.out.gm AN.out.gi).mono ?_; rintro e w9 ⟨ua, un, uc, rfl, hu, hul, hb⟩; replace HO := hid (HO.out.below hb); replace HW := hid (HW.out.below hb); replace BB := hid (bt BB.out hb); have HU := hid hu; have HUL := hid hul; clear hu hul hb) | (at_builtin; refine wpList_append_en rfl _ _ rfl rfl HW.out _ rfl HU.out HUL.out (by decide) BB.out HO.out ?_; intro va9 n9 vc9 w9 hw hob hbb; replace HW := hid hw; replace HO := hid hob; replace BB := hid hbb; clear hw hob hbb))
  go_upto_region 12 with (first | (refine wpList_ld_kind' rfl rfl HO.out rfl ?_))
  go_upto_region 13 with (first | (refine wpList_ld_parent' rfl rfl HO.out rfl ?_) | (go_at_call 70; refine (xname_f o.pr o.pm _ AN.out.pr AN.out.pm).mono ?_; rintro e w9 ⟨ua, un, uc, rfl, hu, hul, hb⟩; replace HO := hid (HO.out.below hb); replace HW := hid (HW.out.below hb); replace BB := hid (bt BB.out hb); have HU := hid hu; have HUL := hid hul; clear hu hul hb) | (at_builtin; refine wpList_append_en rfl _ _ rfl rfl HW.out _ rfl HU.out HUL.out (by decide) BB.out HO.out ?_; intro va9 n9 vc9 w9 hw hob hbb; replace HW := hid hw; replace HO := hid hob; replace BB := hid hbb; clear hw hob hbb))
  go_upto_region 14 with (first | (refine wpList_ld_key' rfl rfl HO.out rfl ?_) | (go_at_call 44; refine (xtext_f o.key _ AN.out.key).mono ?_; rintro e w9 ⟨ua, un, uc, rfl, hu, hul, hb⟩; replace HO := hid (HO.out.below hb); replace HW := hid (HW.out.below hb); replace BB := hid (bt BB.out hb); have HU := hid hu; have HUL := hid hul; clear hu hul hb) | (at_builtin; refine wpList_append_en rfl _ _ rfl rfl HW.out _ rfl HU.out HUL.out (by decide) BB.out HO.out ?_; intro va9 n9 vc9 w9 hw hob hbb; replace HW := hid hw; replace HO := hid hob; replace BB := hid hbb; clear hw hob hbb))
  go_upto_region 16 with (first | (refine wpList_ld_kind' rfl rfl HO.out rfl ?_))
  go_upto_region 24 with (first | (refine wpList_ld_kind' rfl rfl HO.out rfl ?_))
  go_upto_region 29 with (first | (refine wpList_ld_kind' rfl rfl HO.out rfl ?_))
  go_wp2
  go_ret2
  refine Ev.mk HW.out ?_ BB.out
  rw [HEQ.out]
  simp [told, encF, en2, List.append_assoc]
end Go.Proofs.YtniecbblhphbdaaDoor

/-
  What the reference's Encode returns is proved here, for all fine right ops of kind 6.
-/
namespace Go.Proofs.YtniecbblhphbdaaDoor
open Go.RowKit
set_option linter.unusedVariables false
set_option maxRecDepth 100000

set_option maxHeartbeats 8000000 in
theorem xenc6 (A : Value) (o : Opn) (v : Value) (hA : A = opv o v) (w : World) (hC : Cs w v o.cuts) (hfin : o.fine) (hR : rightO o = true) (hk : o.k = 6) : Calls Tryd.prog 43 #[A] w fun z w' => Ev (encO o) w z w' := by
  have HEQ : Hid (encO o = (M.enc o.k ++ M.enc o.ir ++ M.enc o.im ++ M.enc o.t) ++ (told 6).flatMap (encF o)) := by show encO o = _; unfold encO; rw [hk]
  have HN1 : Hid (Num49 1) := ⟨by decide, by decide⟩
  have HN0 : Hid (Num49 0) := ⟨by decide, by decide⟩
  have HAA := hid hA
  have HC := hid hC
  have HFIN := hid hfin
  have HRI := hid hR
  have AN := hid (alln hR)
  clear hA hC hfin
  go_enter Tryd.func43, Tryd.ntmps43
  go_wp2_with (first | (refine wpList_box_op rfl _ rfl A rfl o v HAA.out ?_; intro w1 hob hb1 hlt1; have HO1 := hid hob; have B1 := hid hb1; clear hob hb1 hlt1) | (refine wpList_load_op rfl _ rfl _ rfl _ _ HO1.out ?_))
  refine (xright_any o v w1 (HC.out.below B1.out) HFIN.out).mono ?_
  rintro e w2 ⟨rfl, b2⟩
  rw [HRI.out]
  have HO2 := hid (HO1.out.below b2)
  have B2 := hid (bt B1.out b2)
  clear b2 hR
  go_wp2_with fail
  refine enc_reg (b := w.heap.size) (o := o) (v := v) (e1 := M.enc o.k) (e2 := en2 o.ir o.im) HO2.out (fun W => xnumb o.k W AN.out.k) (fun W => xname_own o.ir o.im W AN.out.ir AN.out.im) (en2_b AN.out.ir AN.out.im) (by unfold en2; rw [List.length_append]; have := enc_l o.k; have := enc_l o.ir; have := enc_l o.im; omega) (fun _ _ _ _ _ h => h) (fun v1 v2 v3 W3 ho hb => ?_)
  have HW : Hid (En w.heap.size W3 v3 (M.enc o.k ++ en2 o.ir o.im) 1) := ⟨own_lower ho B2.out.size, by unfold en2; rw [List.length_append, List.length_append]; have := enc_l o.k; have := enc_l o.ir; have := enc_l o.im; omega, fun x hx => (List.mem_append.1 hx).elim (enc_b AN.out.k x) (en2_b AN.out.ir AN.out.im x)⟩
  have HO := hid (HO2.out.below hb)
  have BB := hid (bt B2.out hb)
  obtain ⟨va3, n3, vc3, hv3⟩ := HW.out.form
  subst hv3
  clear ho hb HO1 HO2 B1 B2
  go_upto_region 4 with fail
  go_upto_region 5 with (first | (refine wpList_ld_t' rfl rfl HO.out rfl ?_) | (go_at_call 42; refine (xnum_f o.t _ AN.out.t).mono ?_; rintro e w9 ⟨ua, un, uc, rfl, hu, hul, hb⟩; replace HO := hid (HO.out.below hb); replace HW := hid (HW.out.below hb); replace BB := hid (bt BB.out hb); have HU := hid hu; have HUL := hid hul; clear hu hul hb) | (at_builtin; refine wpList_append_en rfl _ _ rfl rfl HW.out _ rfl HU.out HUL.out (by decide) BB.out HO.out ?_; intro va9 n9 vc9 w9 hw hob hbb; replace HW := hid hw; replace HO := hid hob; replace BB := hid hbb; clear hw hob hbb))
  go_upto_region 6 with (first | (refine wpList_ld_kind' rfl rfl HO.out rfl ?_))
  go_upto_region 7 with (first | (refine wpList_ld_block' rfl rfl HO.out rfl ?_) | (go_at_call 70; refine (xname_f o.br o.bm _ AN.out.br AN.out.bm).mono ?_; rintro e w9 ⟨ua, un, uc, rfl, hu, hul, hb⟩; replace HO := hid (HO.out.below hb); replace HW := hid (HW.out.below hb); replace BB := hid (bt BB.out hb); have HU := hid hu; have HUL := hid hul; clear hu hul hb) | (at_builtin; refine wpList_append_en rfl _ _ rfl rfl HW.out _ rfl HU.out HUL.out (by decide) BB.out HO.out ?_; intro va9 n9 vc9 w9 hw hob hbb; replace HW := hid hw; replace HO := hid hob; replace BB := hid hbb; clear hw hob hbb))
  go_upto_region 11 with (first | (refine wpList_ld_kind' rfl rfl HO.out rfl ?_))
  go_upto_region 14 with (first | (refine wpList_ld_kind' rfl rfl HO.out rfl ?_))
  go_upto_region 16 with (first | (refine wpList_ld_kind' rfl rfl HO.out rfl ?_))
  go_upto_region 24 with (first | (refine wpList_ld_kind' rfl rfl HO.out rfl ?_))
  go_upto_region 26 with (first | (refine wpList_ld_kind' rfl rfl HO.out rfl ?_))
  go_wp2_with (refine wpList_ld_flag' rfl rfl HO.out rfl ?_)
  · have HFL : Hid (o.flag = true) := by first | assumption | (simp_all; done)
    refine (xnum_f 1 _ HN1.out).mono ?_
    rintro e w9 ⟨ua, un, uc, rfl, hu, hul, hb⟩
    replace HO := hid (HO.out.below hb)
    replace HW := hid (HW.out.below hb)
    replace BB := hid (bt BB.out hb)
    have HU := hid hu
    have HUL := hid hul
    clear hu hul hb
    go_wp2_with ((at_builtin; refine wpList_append_en rfl _ _ rfl rfl HW.out _ rfl HU.out HUL.out (by decide) BB.out HO.out ?_; intro va9 n9 vc9 w9 hw hob hbb; replace HW := hid hw; replace HO := hid hob; replace BB := hid hbb; clear hw hob hbb))
    go_ret2
    refine Ev.mk HW.out ?_ BB.out
    rw [HEQ.out]
    simp [told, encF, en2, HFL.out, List.append_assoc]
  · have HFL : Hid (o.flag = false) := by first | assumption | (simp_all; done)
    refine (xnum_f 0 _ HN0.out).mono ?_
    rintro e w9 ⟨ua, un, uc, rfl, hu, hul, hb⟩
    replace HO := hid (HO.out.below hb)
    replace HW := hid (HW.out.below hb)
    replace BB := hid (bt BB.out hb)
    have HU := hid hu
    have HUL := hid hul
    clear hu hul hb
    go_wp2_with ((at_builtin; refine wpList_append_en rfl _ _ rfl rfl HW.out _ rfl HU.out HUL.out (by decide) BB.out HO.out ?_; intro va9 n9 vc9 w9 hw hob hbb; replace HW := hid hw; replace HO := hid hob; replace BB := hid hbb; clear hw hob hbb))
    go_ret2
    refine Ev.mk HW.out ?_ BB.out
    rw [HEQ.out]
    simp [told, encF, en2, HFL.out, List.append_assoc]
end Go.Proofs.YtniecbblhphbdaaDoor

/-
  What the reference's Encode returns is proved here, for all fine ops.
-/
namespace Go.Proofs.YtniecbblhphbdaaDoor
open Go.RowKit
set_option linter.unusedVariables false
set_option maxRecDepth 100000

theorem xencode_yes (A : Value) (o : Opn) (v : Value) (hA : A = opv o v) (w : World) (hC : Cs w v o.cuts) (hfin : o.fine) (hR : rightO o = true) : Calls Tryd.prog 43 #[A] w fun z w' => Ev (encO o) w z w' := by
  rcases six (right_parts hR).1.2.2 with hk | hk | hk | hk | hk | hk
  · exact xenc1 A o v hA w hC hfin hR hk
  · exact xenc2 A o v hA w hC hfin hR hk
  · exact xenc3 A o v hA w hC hfin hR hk
  · exact xenc4 A o v hA w hC hfin hR hk
  · exact xenc5 A o v hA w hC hfin hR hk
  · exact xenc6 A o v hA w hC hfin hR hk

set_option maxHeartbeats 4000000 in
theorem xencode_no (A : Value) (o : Opn) (v : Value) (hA : A = opv o v) (w : World) (hC : Cs w v o.cuts) (hfin : o.fine) (hR : rightO o = false) : Calls Tryd.prog 43 #[A] w fun z w' => z = .returned (.tuple #[.slice none 0 0, .bool false]) ∧ Below w.heap.size w w' := by
  have HAA := hid hA
  have HC := hid hC
  have HFIN := hid hfin
  have HRI := hid hR
  clear hA hC hfin
  go_enter Tryd.func43, Tryd.ntmps43
  go_wp2_with (first | (refine wpList_box_op rfl _ rfl A rfl o v HAA.out ?_; intro w1 hob hb1 hlt1; have HO1 := hid hob; have B1 := hid hb1; clear hob hb1 hlt1) | (refine wpList_load_op rfl _ rfl _ rfl _ _ HO1.out ?_))
  refine (xright_any o v w1 (HC.out.below B1.out) HFIN.out).mono ?_
  rintro e w2 ⟨rfl, b2⟩
  rw [HRI.out]
  have B2 := hid (bt B1.out b2)
  clear b2 hR
  go_wp2
  go_ret2
  exact ⟨rfl, B2.out⟩
end Go.Proofs.YtniecbblhphbdaaDoor
