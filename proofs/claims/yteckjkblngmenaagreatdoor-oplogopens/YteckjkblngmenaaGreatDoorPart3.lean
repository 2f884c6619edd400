/-
  Parts of the proof, one behind the other; what each proves stands at its head.
-/
import Derived.Test.YteckjkblngmenaaGreatDoorPart2
import Derived.Test.YteckjkblngmenaaGreatDoorPart1
import Derived.Maps.AppendAt
import Derived.Laws.AppendOwnNone
import Derived.Lib.AppendStr
import Derived.Deep.RegionLaw

/-
  Slices in memory, whatever their elements: 'Sl sz w v n cells': the slice v has n elements of sz cells each, which read as 'cells'; rows of names, cuts and ops.
-/
namespace Go.Proofs.YteckjkblngmenaaGreatDoor
open Go.RowKit
set_option linter.unusedVariables false
set_option maxRecDepth 100000

def Sl (sz : Nat) (w : World) (v : Value) (n : Nat) (cells : List Value) : Prop :=
  cells.length = n * sz ∧ ∃ a c, v = .slice a n c ∧ n ≤ c ∧ c ≤ maxLen ∧ (a = none → c = 0) ∧ ∀ j u, cells[j]? = some u → ∃ b off, a = some ⟨b, off, none⟩ ∧ w.cell? ⟨b, off + j, none⟩ = some u

theorem Sl.nil (sz : Nat) (w : World) : Sl sz w (.slice none 0 0) 0 [] := ⟨by simp, none, 0, rfl, Nat.le_refl _, Nat.zero_le _, fun _ => rfl, fun j u h => by simp at h⟩
theorem Sl.form {sz : Nat} {w : World} {v : Value} {n : Nat} {cells : List Value} (h : Sl sz w v n cells) : ∃ a c, v = .slice a n c ∧ n ≤ c ∧ c ≤ maxLen := by
  obtain ⟨_, a, c, e, h2, h3, _⟩ := h
  exact ⟨a, c, e, h2, h3⟩
theorem Sl.len {sz : Nat} {w : World} {v : Value} {n : Nat} {cells : List Value} (h : Sl sz w v n cells) : n ≤ maxLen := by
  obtain ⟨a, c, _, h2, h3⟩ := h.form
  omega
/-- As long as its own block is as it was. -/
theorem Sl.kept {sz : Nat} {w w' : World} {v : Value} {n : Nat} {cells : List Value} (h : Sl sz w v n cells) (hb : ∀ k, v.ownBlock = some k → k < w.heap.size → w'.heap[k]? = w.heap[k]?) : Sl sz w' v n cells := by
  obtain ⟨h0, a, c, rfl, h2, h3, h4, h5⟩ := h
  refine ⟨h0, a, c, rfl, h2, h3, h4, fun j u hu => ?_⟩
  obtain ⟨b, off, rfl, e2⟩ := h5 j u hu
  refine ⟨b, off, rfl, ?_⟩
  rw [World.cell?_of_block (w := w) (hb b rfl (World.block_lt_of_cell? _ _ e2))]
  exact e2
theorem Sl.below {sz : Nat} {w w' : World} {v : Value} {n : Nat} {cells : List Value} (h : Sl sz w v n cells) (hb : Below w.heap.size w w') : Sl sz w' v n cells := h.kept fun k _ hk => hb.block k hk
theorem Sl.inv {sz : Nat} {w : World} {v : Value} {n : Nat} {cells : List Value} (h : Sl sz w v n cells) (hn : 0 < n) (hs : 0 < sz) :
    ∃ b off c, v = .slice (some ⟨b, off, none⟩) n c ∧ n ≤ c ∧ c ≤ maxLen ∧ b < w.heap.size ∧ ∀ j u, cells[j]? = some u → w.cell? ⟨b, off + j, none⟩ = some u := by
  obtain ⟨h0, a, c, rfl, h2, h3, h4, h5⟩ := h
  have hl : 0 < cells.length := by rw [h0]; exact Nat.mul_pos hn hs
  obtain ⟨b, off, rfl, e⟩ := h5 0 cells[0] (by simp [hl])
  refine ⟨b, off, c, rfl, h2, h3, World.block_lt_of_cell? _ _ e, fun j u hu => ?_⟩
  obtain ⟨b', off', e1, e2⟩ := h5 j u hu
  simp only [Option.some.injEq, Addr.mk.injEq, and_true] at e1
  obtain ⟨rfl, rfl⟩ := e1
  exact e2
theorem Sl.of_own {sz : Nat} {w : World} {base e : Nat} {v : Value} {n : Nat} {cells : List Value} (h : w.ownsRow base e sz v n cells) : Sl sz w v n cells := by
  refine ⟨h.1, ?_⟩
  have h' := h
  rcases h.2 with ⟨rfl, rfl⟩ | ⟨g, cap, cur, rfl, hb, hg, hnc, hcm, hcs, htake⟩
  · have : cells = [] := List.eq_nil_of_length_eq_zero (by simpa using h.1)
    subst this
    exact (Sl.nil sz w).2
  · refine ⟨some ⟨g, 0, none⟩, cap, rfl, hnc, hcm, (fun e => by cases e), fun j u hu => ⟨g, 0, rfl, ?_⟩⟩
    have hj : j < n * sz := by rw [← h.1]; exact (List.getElem?_eq_some_iff.1 hu).1
    rw [Nat.zero_add, h'.cellAt j hj, hu]
theorem Sl.none_nil {sz : Nat} {w : World} {n c : Nat} {cells : List Value} (h : Sl sz w (.slice none n c) n cells) : cells = [] ∧ n = 0 ∧ c = 0 := by
  obtain ⟨h0, a', c', h1, h2, _, h4, _⟩ := h
  simp only [Value.slice.injEq] at h1
  have := h4 h1.1.symm
  have hn : n = 0 := by omega
  subst hn
  exact ⟨List.eq_nil_of_length_eq_zero (by simpa using h0), rfl, by omega⟩
theorem Sl.cells_at {sz : Nat} {w : World} {A : Addr} {n c : Nat} {cells : List Value} (h : Sl sz w (.slice (some A) n c) n cells) : ∀ j u, cells[j]? = some u → w.cell? (A.add j) = some u := by
  intro j u hu
  obtain ⟨_, a', c', h1, _, _, _, h5⟩ := h
  simp only [Value.slice.injEq] at h1
  obtain ⟨rfl, _, rfl⟩ := h1
  obtain ⟨b, off, e1, e2⟩ := h5 j u hu
  simp only [Option.some.injEq] at e1
  subst e1
  have e3 : (⟨b, off, none⟩ : Addr).add j = ⟨b, off + j, none⟩ := by
    unfold Addr.add; split <;> simp_all
  rw [e3, e2]
/-- The first elements. -/
theorem Sl.lit {sz : Nat} (w : World) (e : Nat) (cells : Array Value) (n : Nat) (hm : n ≤ maxLen) (hs : cells.size = n * sz) : Sl sz (w.alloc (.cells cells e)) (.slice (some ⟨w.heap.size, 0, none⟩) n n) n cells.toList :=
  Sl.of_own (World.ownsRow_lit (base := w.heap.size) (e := e) (size := sz) w cells n (Nat.le_refl _) hm hs)

/-- The cells of an element among those of all. -/
theorem flat_at {α : Type} (f : α → List Value) (sz : Nat) (hf : ∀ x, (f x).length = sz) : ∀ (l : List α) (i j : Nat) (hi : i < l.length), j < sz → (l.flatMap f)[i * sz + j]? = (f (l[i]))[j]? := by
  intro l
  induction l with
  | nil => intro i j hi; exact absurd hi (Nat.not_lt_zero _)
  | cons x l ih =>
    intro i j hi hj
    rw [List.flatMap_cons]
    cases i with
    | zero =>
      rw [Nat.zero_mul, Nat.zero_add, List.getElem?_append_left (by rw [hf]; exact hj)]
      rfl
    | succ i =>
      have e : (i + 1) * sz + j - sz = i * sz + j := by rw [Nat.add_mul, Nat.one_mul]; omega
      rw [List.getElem?_append_right (by rw [hf, Nat.add_mul, Nat.one_mul]; omega), hf, e, ih i j (by simpa using hi) hj]
      rfl
theorem flat_length {α : Type} (f : α → List Value) (sz : Nat) (hf : ∀ x, (f x).length = sz) (l : List α) : (l.flatMap f).length = l.length * sz := by
  induction l with
  | nil => simp
  | cons x l ih => rw [List.flatMap_cons, List.length_append, hf, ih, List.length_cons, Nat.add_mul, Nat.one_mul, Nat.add_comm]

/-- Cuts. -/
abbrev cutc (c : Ct) : List Value := [.int .i64 c.r, .int .i64 c.n, .int .i64 c.f, .int .i64 c.t]
def Cs (w : World) (v : Value) (l : List Ct) : Prop := Sl 4 w v l.length (l.flatMap cutc)
theorem Cs.below {w w' : World} {v : Value} {l : List Ct} (h : Cs w v l) (hb : Below w.heap.size w w') : Cs w' v l := Sl.below h hb
theorem Cs.nil (w : World) : Cs w (.slice none 0 0) [] := Sl.nil 4 w
theorem Cs.form {w : World} {v : Value} {l : List Ct} (h : Cs w v l) : ∃ a c, v = .slice a l.length c ∧ l.length ≤ c ∧ c ≤ maxLen := Sl.form h
theorem Cs.inv {w : World} {v : Value} {l : List Ct} (h : Cs w v l) (hn : 0 < l.length) :
    ∃ b off c, v = .slice (some ⟨b, off, none⟩) l.length c ∧ l.length ≤ c ∧ c ≤ maxLen ∧ b < w.heap.size ∧ ∀ i (hi : i < l.length), w.cell? ⟨b, off + i * 4, none⟩ = some (.int .i64 (l[i]).r) ∧ w.cell? ⟨b, off + i * 4 + 1, none⟩ = some (.int .i64 (l[i]).n) ∧
      w.cell? ⟨b, off + i * 4 + 2, none⟩ = some (.int .i64 (l[i]).f) ∧ w.cell? ⟨b, off + i * 4 + 3, none⟩ = some (.int .i64 (l[i]).t) := by
  obtain ⟨b, off, c, h1, h2, h3, h4, h5⟩ := Sl.inv h hn (by decide)
  refine ⟨b, off, c, h1, h2, h3, h4, fun i hi => ?_⟩
  have k := fun j (hj : j < 4) => flat_at cutc 4 (fun _ => rfl) l i j hi hj
  refine ⟨h5 _ _ (k 0 (by decide)), ?_, ?_, ?_⟩
  · rw [Nat.add_assoc]; exact h5 _ _ (k 1 (by decide))
  · rw [Nat.add_assoc]; exact h5 _ _ (k 2 (by decide))
  · rw [Nat.add_assoc]; exact h5 _ _ (k 3 (by decide))

/-- An op in memory. -/
def Ob (w : World) (b : Nat) (o : Opn) (v : Value) : Prop := w.heap[b]? = some (opo o v)
theorem Ob.new (w : World) (o : Opn) (v : Value) : Ob (w.alloc (opo o v)) w.heap.size o v := heap_alloc_new w _
theorem Ob.lt {w : World} {b : Nat} {o : Opn} {v : Value} (h : Ob w b o v) : b < w.heap.size := (Array.getElem?_eq_some_iff.1 h).1
theorem Ob.below {w w' : World} {b : Nat} {o : Opn} {v : Value} (h : Ob w b o v) (hb : Below w.heap.size w w') : Ob w' b o v := by
  unfold Ob; rw [hb.block b h.lt]; exact h
theorem Ob.cell {w : World} {b : Nat} {o : Opn} {v : Value} (h : Ob w b o v) (j : Nat) : w.cell? ⟨b, j, none⟩ = (opl o v)[j]? := cell_of_row w b j _ _ _ h
theorem Ob.frozen {w : World} {b : Nat} {o : Opn} {v : Value} (h : Ob w b o v) (j : Nat) : w.frozen? ⟨b, j, none⟩ = false := frozen_of_row w b j _ _ h
/-- All its cells, for the walk. -/
structure Oc (w : World) (b : Nat) (o : Opn) (v : Value) : Prop where
  c0 : w.cell? ⟨b, 0, none⟩ = some (.int .i64 o.k)
  c1 : w.cell? ⟨b, 1, none⟩ = some (.int .i64 o.ir)
  c2 : w.cell? ⟨b, 2, none⟩ = some (.int .i64 o.im)
  c3 : w.cell? ⟨b, 3, none⟩ = some (.int .i64 o.t)
  c4 : w.cell? ⟨b, 4, none⟩ = some (.int .i64 o.br)
  c5 : w.cell? ⟨b, 5, none⟩ = some (.int .i64 o.bm)
  c6 : w.cell? ⟨b, 6, none⟩ = some (.int .i64 o.pr)
  c7 : w.cell? ⟨b, 7, none⟩ = some (.int .i64 o.pm)
  c8 : w.cell? ⟨b, 8, none⟩ = some (.string o.key)
  c9 : w.cell? ⟨b, 9, none⟩ = some (.int .i64 o.sr)
  c10 : w.cell? ⟨b, 10, none⟩ = some (.int .i64 o.sm)
  c11 : w.cell? ⟨b, 11, none⟩ = some (.int .i64 o.lr)
  c12 : w.cell? ⟨b, 12, none⟩ = some (.int .i64 o.lm)
  c13 : w.cell? ⟨b, 13, none⟩ = some (.int .i64 o.li)
  c14 : w.cell? ⟨b, 14, none⟩ = some (.int .i64 o.gr)
  c15 : w.cell? ⟨b, 15, none⟩ = some (.int .i64 o.gm)
  c16 : w.cell? ⟨b, 16, none⟩ = some (.int .i64 o.gi)
  c17 : w.cell? ⟨b, 17, none⟩ = some (.string o.text)
  c18 : w.cell? ⟨b, 18, none⟩ = some v
  c19 : w.cell? ⟨b, 19, none⟩ = some (.bool o.flag)
theorem Ob.cells {w : World} {b : Nat} {o : Opn} {v : Value} (h : Ob w b o v) : Oc w b o v :=
  ⟨h.cell 0, h.cell 1, h.cell 2, h.cell 3, h.cell 4, h.cell 5, h.cell 6, h.cell 7, h.cell 8, h.cell 9, h.cell 10, h.cell 11, h.cell 12, h.cell 13, h.cell 14, h.cell 15, h.cell 16, h.cell 17, h.cell 18, h.cell 19⟩

theorem Ob.load {w : World} {b : Nat} {o : Opn} {v : Value} (h : Ob w b o v) : (loadVar 77 ⟨b, 0, none⟩).run Tryz.prog w = .ok (opv o v) w :=
  run_loadVar_row w b 77 77 (opl o v) (0, 0) _ h Tryz.underlying77 rfl (by kernel_rfl)

theorem wpList_load_op {ops : Array Oper} {rest : List Oper} {p : Oper} {a : Act} {w : World} {Q : Exit → Act → World → Prop} (hgd : p.guard = none) (x : Operand) (ho : p.op = .load 77 x)
    (b : Nat) (hx : a.eval x = .pointer (some ⟨b, 0, none⟩)) (o : Opn) (v : Value) (h : Ob w b o v)
    (hk : wpList Tryz.prog ops Q rest (a.put p.dst (opv o v)) w) : wpList Tryz.prog ops Q (p :: rest) a w :=
  wpList_load_row hgd 77 x ho b hx 77 (opl o v) (0, 0) _ h Tryz.underlying77 rfl (by kernel_rfl) hk

end Go.Proofs.YteckjkblngmenaaGreatDoor

/-
  What num.Put returns is proved here, for every number: nothing and false for one that isn't right; else its bytes, in a row of the call's own.
-/
namespace Go.Proofs.YteckjkblngmenaaGreatDoor
open Go.RowKit
set_option linter.unusedVariables false
set_option maxRecDepth 100000

theorem Tryz.info5 : (Tryz.prog.info? 5).map (fun i => (i.zero, i.size, i.bytes)) = some (some (.int .u8 0), 1, 1) := by kernel_rfl

theorem row_at (m j : Nat) (n : Int) : (cs (List.replicate (m + 1) 0 ++ M.be j n))[m]? = some (.int .u8 0) := by
  simp [List.getElem?_append, cs]
theorem row_set (m j : Nat) (n x : Int) : (cs (List.replicate (m + 1) 0 ++ M.be j n)).set m (.int .u8 x) = cs (List.replicate m 0 ++ x :: M.be j n) := by
  have e : List.replicate (m + 1) (0 : Int) ++ M.be j n = List.replicate m 0 ++ 0 :: M.be j n := by
    rw [List.replicate_succ', List.append_assoc]; rfl
  rw [e]
  simp [cs]

theorem or_mask_all : ∀ j : Nat, j < 8 → 1 ≤ j → ∀ x : Nat, x < 128 → x < 2 ^ (8 - j) →
    bits BinOp.or IntKind.u8 (x : Int) (bits BinOp.xor IntKind.u8 IntKind.u8.max (255 / 2 ^ (j - 1))) = x + M.mask j := by
  decide +kernel
theorem or_mask {x c : Int} {j : Nat} (h0 : 0 ≤ x) (h1 : x < 2 ^ (8 - j)) (hc : c = 255 / 2 ^ (j - 1)) (hj : 1 ≤ j ∧ j ≤ 7) :
    bits BinOp.or IntKind.u8 x (bits BinOp.xor IntKind.u8 IntKind.u8.max c) = x + M.mask j := by
  subst hc
  obtain ⟨y, rfl⟩ := Int.eq_ofNat_of_zero_le h0
  have h2 : y < 2 ^ (8 - j) := by exact_mod_cast h1
  have h3 : 2 ^ (8 - j) ≤ 2 ^ 7 := Nat.pow_le_pow_right (by decide) (by omega)
  exact or_mask_all j (by omega) hj.1 y (by omega) h2

set_option maxHeartbeats 1000000 in
theorem put_right (n : Int) (w : World) (h0 : 0 ≤ n) (h1 : n < 562949953421312) :
    Calls Tryz.prog 72 #[.int .i64 n] w fun e w' => ∃ g, e = .returned (.tuple #[.slice (some ⟨g, 0, none⟩) (M.sz n) (M.sz n), .bool true]) ∧
      w'.ownsRow w.heap.size 5 1 (.slice (some ⟨g, 0, none⟩) (M.sz n) (M.sz n)) (M.sz n) (cs (M.enc n)) ∧ Below w.heap.size w w' := by
  have hb : M.bd 7 = 562949953421312 := by rfl
  obtain ⟨k, hk⟩ : ∃ k, M.sz n = k := ⟨_, rfl⟩
  have hk1 := M.sz_pos n
  rw [hk] at hk1
  obtain ⟨i0, hi, hz0, hz1, hz2⟩ := info_parts Tryz.info5
  have hkb : i0.bytes * k ≤ 281474976710656 := by rw [hz2]; omega
  have hkm : k ≤ maxLen := by unfold maxLen; omega
  go_enter Tryz.func72, Tryz.ntmps72
  go_wp2_with (first
    | (go_at_call 106; refine (bound_any _ _ (by omega) (by omega)).mono ?_; rintro e w' ⟨rfl, rfl⟩)
    | (go_at_call 107; refine (size_any _ _ (by omega)).mono ?_; rintro e w' ⟨rfl, rfl⟩)
    | (at_make; refine wpList_make_full _ rfl (.tmp 16) (.tmp 16) 36 rfl _ 5 i0 (.int .u8 0) 1 Tryz.underlying36 hi hz0 hz1 .i64 .i64 _ _ k rfl rfl (by simp) (by simp) hkb hkm (Nat.le_refl _) ?_; intro w1 hown hgrow))
  have hrow : w1.ownsRow w.heap.size 5 1 (.slice (some ⟨w.heap.size, 0, none⟩) k k) k (cs (List.replicate (k - 0) 0 ++ M.be 0 n)) := by
    have e : (madeCells #[Value.int .u8 0] (k * 1)).toList = cs (List.replicate (k - 0) 0 ++ M.be 0 n) := by simp [toList_madeCells_one, M.be]
    rw [← e]; exact hown
  have hbel : Below w.heap.size w w1 := (Below.refl _ w).grown hgrow (Nat.le_refl _) (by intro k hk; cases hk)
  clear hown hgrow
  go_loopw [0, 6] (fun nn i wr => ∃ m j : Nat, m + j = k ∧ i = .int .i64 ((m : Int) - 1) ∧ nn = .int .i64 (n / 256 ^ j) ∧
      wr.ownsRow w.heap.size 5 1 (.slice (some ⟨w.heap.size, 0, none⟩) k k) k (cs (List.replicate m 0 ++ M.be j n)) ∧ Below w.heap.size w wr) (fun _ i _ => (intOf i + 1).toNat)
  case atStart => exact ⟨k, 0, by omega, rfl, by simp, by simpa using hrow, hbel⟩
  case round =>
    clear hrow hbel
    obtain ⟨m, j, hmj, rfl, rfl, hrow, hbel⟩ := hrel
    by_cases hm : m = 0
    · subst hm
      go_wp2
      obtain rfl : j = k := by omega
      obtain ⟨x, r, hx⟩ : ∃ x r, M.be j n = x :: r := by
        cases j with
        | zero => omega
        | succ j => exact ⟨_, _, rfl⟩
      have hrow2 := hrow
      rw [List.replicate_zero, List.nil_append, hx] at hrow2
      have hcell : wr.cell? ⟨w.heap.size, 0, none⟩ = some (.int .u8 x) := by rw [hrow2.cellAt 0 (by omega)]; rfl
      have hfz := hrow2.frozenAt 0
      have HX := hid hx
      have HR := hid hrow2
      have HK := hid hk
      clear hx hrow hrow2 hk hkb hkm
      have hp : (0 : Int) < (j : Int) := by omega
      have : j = 1 ∨ j = 2 ∨ j = 3 ∨ j = 4 ∨ j = 5 ∨ j = 6 ∨ j = 7 := by omega
      rcases this with rfl | rfl | rfl | rfl | rfl | rfl | rfl
      all_goals
        have hxr := M.be_head h0 h1 HK.out HX.out
        go_region
        go_wp2
        go_ret2
        have hs := (World.ownsRow.stored HR.out 0 (.int .u8 (x + M.mask (M.sz n)))).1
        refine ⟨w.heap.size, by rw [HK.out]; rfl, ?_, (hbel.setCell (Nat.le_refl _) _).drew⟩
        rw [or_mask (by omega) (by rw [HK.out]; exact hxr.2) (by rw [HK.out]; rfl) (M.sz_pos n)]
        rw [M.enc, M.encK, HK.out, HX.out]
        rw [HK.out] at hs
        exact hs
    · obtain ⟨m', rfl⟩ : ∃ m', m = m' + 1 := ⟨m - 1, by omega⟩
      rw [show (((m' + 1 : Nat) : Int) - 1) = (m' : Int) from by omega]
      have hcell := hrow.cellAt m' (by omega)
      have hfz := hrow.frozenAt m'
      have hst := hrow.stored m'
      have HS := hid hst
      clear hst
      have hc2 : wr.cell? ⟨w.heap.size, m', none⟩ = some (.int .u8 0) := by rw [hcell]; exact row_at _ _ _
      clear hcell
      go_wp2
      go_roundw
      case rel =>
        have hs := HS.out (.int .u8 (n / 256 ^ j % 256))
        refine ⟨m', j + 1, by omega, rfl, ?_, ?_, hbel.setCell (Nat.le_refl _) _⟩
        · rw [Int.pow_succ, Int.ediv_ediv_of_nonneg (by exact Int.le_of_lt (Int.pow_pos (by decide)))]
        · have e := hs.1
          rw [row_set] at e
          exact e
      case measure => simp [intOf]

theorem put_bs (n : Int) (w : World) (h0 : 0 ≤ n) (h1 : n < 562949953421312) :
    Calls Tryz.prog 72 #[.int .i64 n] w fun e w' => ∃ v, e = .returned (.tuple #[v, .bool true]) ∧ Bs w' v (M.enc n) ∧ Below w.heap.size w w' :=
  (put_right n w h0 h1).mono fun _ _ ⟨_, he, ho, hb⟩ => ⟨_, he, Bs.of_own ho (M.enc_byte n h0 h1), hb⟩

end Go.Proofs.YteckjkblngmenaaGreatDoor

/-
  What num.PutText returns is proved here, for texts of at most 2^46 bytes.
-/
namespace Go.Proofs.YteckjkblngmenaaGreatDoor
open Go.RowKit
set_option linter.unusedVariables false
set_option maxRecDepth 100000

theorem cs_ofStr (s : ByteArray) : cs (M.ofStr s) = Lib.strCells s := by
  simp [cs, M.ofStr, Lib.strCells]
theorem encText_byte (s : ByteArray) (hs : s.size ≤ 70368744177664) : ∀ x ∈ M.encText s, 0 ≤ x ∧ x < 256 := by
  intro x hx
  unfold M.encText at hx
  rcases List.mem_append.1 hx with h | h
  · exact M.enc_byte _ (by omega) (by omega) x h
  · exact M.ofStr_byte s x h
theorem encText_length (s : ByteArray) : (M.encText s).length = M.sz s.size + s.size := by
  unfold M.encText; rw [List.length_append, M.enc_length, M.ofStr_length]

set_option maxHeartbeats 1000000 in
theorem puttext_own (s : ByteArray) (w : World) (hs : s.size ≤ 70368744177664) :
    Calls Tryz.prog 111 #[.string s] w fun e w' => ∃ v, e = .returned v ∧ w'.ownsRow w.heap.size 5 1 v (M.sz s.size + s.size) (cs (M.encText s)) ∧ Below w.heap.size w w' := by
  obtain ⟨i0, hi, hz0, hz1, hz2⟩ := info_parts info_u8
  have hsz := M.sz_pos s.size
  go_enter Tryz.func111, Tryz.ntmps111
  go_wp2_with fail
  refine (put_right s.size _ (by omega) (by omega)).mono ?_
  rintro e w1 ⟨g, rfl, hown, b1⟩
  go_wp2_with (at_builtin; refine Lib.wpList_append_own_string _ rfl (.tmp 11) (.tmp 12) 36 9 rfl w.heap.size 5 i0 Tryz.underlying36 Tryz.underlying9 hi hz0 hz1 hz2 _ _ _ rfl hown s rfl ?c1 ?c2 ?c3 ?_)
  case c1 => unfold maxLen; omega
  case c2 => omega
  case c3 => exact b1.size
  intro v' w2 hown2 hgrow _
  have b2 : Below w.heap.size w w2 := b1.grown hgrow b1.size (fun k hk => (hown.lt k hk).1)
  have H2 := hid hown2
  clear hown2 hown hgrow b1
  go_wp2
  go_ret
  refine ⟨_, rfl, ?_, b2⟩
  have := H2.out
  rw [← cs_ofStr, ← List.map_append] at this
  exact this

theorem puttext_bs (s : ByteArray) (w : World) (hs : s.size ≤ 70368744177664) :
    Calls Tryz.prog 111 #[.string s] w fun e w' => ∃ v, e = .returned v ∧ Bs w' v (M.encText s) ∧ Below w.heap.size w w' :=
  (puttext_own s w hs).mono fun _ _ ⟨_, he, ho, hb⟩ => ⟨_, he, Bs.of_own ho (encText_byte s hs), hb⟩

end Go.Proofs.YteckjkblngmenaaGreatDoor

/-
  A writer in memory ('Wr'), what may change while it writes ('Wx'), and what its method numbers writes: proved for all right numbers.
-/
namespace Go.Proofs.YteckjkblngmenaaGreatDoor
open Go.RowKit
set_option linter.unusedVariables false
set_option maxRecDepth 100000

/-- A writer's block, whose row of bytes is the call's own. -/
def Wr (B : Nat) (w : World) (b : Nat) (v : Value) (xs : List Int) : Prop :=
  w.heap[b]? = some (.cells #[v] 135 (0, 0)) ∧ w.ownsRow B 5 1 v xs.length (cs xs) ∧ ∀ x ∈ xs, 0 ≤ x ∧ x < 256
/-- What a writer's work changes: its block, its row's. -/
def Wx (b : Nat) (v v' : Value) (w w' : World) : Prop :=
  Fr (fun k => k = b ∨ v.ownBlock = some k) w w' ∧ (v'.ownBlock = v.ownBlock ∨ ∃ k, v'.ownBlock = some k ∧ w.heap.size ≤ k)
theorem Wx.refl (b : Nat) (v : Value) (w : World) : Wx b v v w w := ⟨Fr.refl _ _, .inl rfl⟩
theorem Wx.of_below {b : Nat} {v : Value} {w w' : World} (h : Below w.heap.size w w') : Wx b v v w w' := ⟨Fr.of_below h, .inl rfl⟩
theorem Wx.size {b : Nat} {v v' : Value} {w w' : World} (h : Wx b v v' w w') : w.heap.size ≤ w'.heap.size := h.1.size
theorem Wx.trans {b : Nat} {u v x : Value} {w w1 w2 : World} (h : Wx b u v w w1) (k : Wx b v x w1 w2) : Wx b u x w w2 := by
  refine ⟨h.1.trans k.1 ?_, ?_⟩
  · intro i hi hs
    rcases hs with hs | hs
    · exact .inl hs
    · rcases h.2 with e | ⟨j, e, hj⟩
      · rw [e] at hs; exact .inr hs
      · rw [e] at hs
        simp only [Option.some.injEq] at hs
        omega
  · have := h.1.size
    rcases k.2 with e | ⟨j, e, hj⟩
    · rw [e]; exact h.2
    · exact .inr ⟨j, e, by omega⟩
theorem Wx.block {b : Nat} {v v' : Value} {w w' : World} (h : Wx b v v' w w') {k : Nat} (hk : k < w.heap.size) (hb : k ≠ b) (hv : v.ownBlock ≠ some k) : w'.heap[k]? = w.heap[k]? := h.1.block k hk (fun h => h.elim hb hv)
theorem Wr.lt {B : Nat} {w : World} {b : Nat} {v : Value} {xs : List Int} (h : Wr B w b v xs) : b < w.heap.size := (Array.getElem?_eq_some_iff.1 h.1).1
theorem Wr.far {B : Nat} {w : World} {b : Nat} {v : Value} {xs : List Int} (h : Wr B w b v xs) {k : Nat} {c : Array Value} {T : TypeId} {fr : Nat × Nat} (hk : w.heap[k]? = some (.cells c T fr)) (hT : T ≠ 5) : v.ownBlock ≠ some k := by
  intro e
  rcases h.2.1.2 with ⟨rfl, _⟩ | ⟨g, cap, cur, rfl, _, hg, _⟩
  · cases e
  · simp [Value.ownBlock] at e
    subst e
    rw [hg] at hk
    simp at hk
    exact hT hk.2.1.symm
theorem Wr.below {B : Nat} {w w' : World} {b : Nat} {v : Value} {xs : List Int} (h : Wr B w b v xs) (hb : Below w.heap.size w w') : Wr B w' b v xs :=
  ⟨by rw [hb.block b h.lt]; exact h.1, own_below h.2.1 hb, h.2.2⟩
/-- A store of the row as it is now. -/
theorem Wr.put {B : Nat} {w w' : World} {b : Nat} {v v' : Value} {xs ys : List Int} (h : Wr B w b v xs) (hown : w'.ownsRow B 5 1 v' (xs ++ ys).length (cs (xs ++ ys))) (hg : w.grownBy w' v.ownBlock) (hy : ∀ x ∈ ys, 0 ≤ x ∧ x < 256)
    (hv : v'.ownBlock = v.ownBlock ∨ v'.ownBlock = some w.heap.size) : Wr B (w'.setCell ⟨b, 0, none⟩ v') b v' (xs ++ ys) ∧ Wx b v v' w (w'.setCell ⟨b, 0, none⟩ v') := by
  have hne := h.far h.1 (by decide)
  have hb' : w'.heap[b]? = some (.cells #[v] 135 (0, 0)) := by rw [hg.block b h.lt (Ne.symm hne)]; exact h.1
  have hne' : v'.ownBlock ≠ some b := by
    rcases hv with e | e
    · rw [e]; exact hne
    · rw [e]
      have := h.lt
      simp
      omega
  refine ⟨⟨by rw [heap_setCell_same w' b 0 _ _ v' hb']; simp, ownsRow_setCell_other hown hne' _, ?_⟩, ?_, ?_⟩
  · intro x hx
    rcases List.mem_append.1 hx with hx | hx
    · exact h.2.2 x hx
    · exact hy x hx
  · exact (Fr.of_grown hg (fun k e => .inr e)).trans ((Fr.of_set w' b 0 v').mono (fun k e => .inl e)) (fun _ _ h => h)
  · rcases hv with e | e
    · exact .inl e
    · exact .inr ⟨_, e, Nat.le_refl _⟩
theorem Wr.cell {B : Nat} {w : World} {b : Nat} {v : Value} {xs : List Int} (h : Wr B w b v xs) : w.cell? ⟨b, 0, none⟩ = some v ∧ w.frozen? ⟨b, 0, none⟩ = false ∧ ∃ a c, v = .slice a xs.length c ∧ xs.length ≤ c := by
  refine ⟨by rw [cell_of_row w b 0 _ _ _ h.1]; rfl, frozen_of_row w b 0 _ _ h.1, own_form h.2.1⟩

def Num49 (n : Int) : Prop := 0 ≤ n ∧ n < 562949953421312
theorem encs_len (ns : List Int) : (ns.flatMap M.enc).length ≤ 7 * ns.length := by
  induction ns with
  | nil => simp
  | cons n ns ih =>
    rw [List.flatMap_cons, List.length_append, M.enc_length, List.length_cons]
    have := (M.sz_pos n).2
    omega
theorem encs_step (ns : List Int) (k : Nat) (hk : k < ns.length) : (ns.take (k + 1)).flatMap M.enc = (ns.take k).flatMap M.enc ++ M.enc ns[k] := by
  rw [List.take_succ_eq_append_getElem hk, List.flatMap_append]
  simp

set_option maxHeartbeats 2000000 in
theorem numbers_any (B b : Nat) (v : Value) (xs ns : List Int) (g : Nat) (w : World) (h : Wr B w b v xs) (hB : B ≤ w.heap.size) (hns : ∀ n ∈ ns, Num49 n) (hlen : xs.length + 7 * ns.length ≤ 140737488355328) (hpos : 0 < ns.length)
    (hg : w.heap[g]? = some (.cells (ns.map (Value.int .i64)).toArray 3 (0, 0))) :
    Calls Tryz.prog 103 #[.pointer (some ⟨b, 0, none⟩), .slice (some ⟨g, 0, none⟩) ns.length ns.length] w fun e w' =>
      e = .returned (.tuple #[]) ∧ ∃ v', Wr B w' b v' (xs ++ ns.flatMap M.enc) ∧ Wx b v v' w w' := by
  obtain ⟨n, hn⟩ : ∃ n, ns.length = n := ⟨_, rfl⟩
  have HN := hid hn
  have HW := hid h
  have HG := hid hg
  have HS := hid hns
  have HGL : g < w.heap.size := (Array.getElem?_eq_some_iff.1 hg).1
  have HGB : g ≠ b := by intro e; subst e; rw [h.1] at hg; simp at hg
  have HGV := hid (h.far hg (by decide))
  rw [hn] at hlen hpos ⊢
  clear hn h hg hns
  go_enter Tryz.func103, Tryz.ntmps103
  go_wp2
  go_loopw [10] (fun i wr => ∃ (k : Nat) (v' : Value), k ≤ n ∧ i = .int .i64 k ∧ Wr B wr b v' (xs ++ (ns.take k).flatMap M.enc) ∧ Wx b v v' w wr) (fun i _ => n - (intOf i).toNat)
  case atStart => exact ⟨0, v, Nat.zero_le _, rfl, by simpa using HW.out, Wx.refl _ _ _⟩
  case round =>
    obtain ⟨k, v1, hk, rfl, hw1, hx1⟩ := hrel
    have HX1 := hid hx1
    obtain ⟨ys, hys⟩ : ∃ ys, xs ++ (ns.take k).flatMap M.enc = ys := ⟨_, rfl⟩
    rw [hys] at hw1
    have HY := hid hys
    have HW1 := hid hw1
    clear hx1 hw1 hys
    by_cases hlt : k < n
    · have hkl : k < ns.length := by rw [HN.out]; exact hlt
      have hg1 : wr.heap[g]? = some (.cells (ns.map (Value.int .i64)).toArray 3 (0, 0)) := by rw [HX1.out.block HGL HGB HGV.out]; exact HG.out
      have g1 : wr.cell? ⟨g, k, none⟩ = some (.int .i64 ns[k]) := by
        rw [cell_of_row wr g k _ _ _ hg1]
        simp [hkl]
      obtain ⟨x, hx⟩ : ∃ x, ns[k] = x := ⟨_, rfl⟩
      have hx49 : Num49 x := by rw [← hx]; exact HS.out _ (List.getElem_mem hkl)
      rw [hx] at g1
      have HX := hid hx
      have HX49 := hid hx49
      have b1' : (k : Int) < (n : Int) := by omega
      clear hx hg1 hx49
      go_wp2_with fail
      refine (put_bs x _ HX49.out.1 HX49.out.2).mono ?_
      rintro e w2 ⟨u, rfl, hu, hb2⟩
      have HW2 := hid (HW1.out.below hb2)
      have HX2 := hid (HX1.out.trans (Wx.of_below (v := v1) (b := b) hb2))
      have HU := hid hu
      have hsz : w.heap.size ≤ w2.heap.size := HX2.out.size
      have hlx : ys.length + (M.enc x).length ≤ 140737488355328 := by
        have := encs_len (ns.take k)
        rw [← HY.out]
        have := (M.sz_pos x).2
        have := HN.out
        rw [List.length_append, M.enc_length]
        rw [List.length_take] at *
        omega
      obtain ⟨hc, hfz, a1, c1, rfl, _⟩ := HW2.out.cell
      clear hb2 hu g1
      go_wp2_with (at_builtin; refine wpList_append_bs rfl _ _ rfl B _ _ ys rfl HW2.out.2.1 _ (M.enc x) rfl HU.out hlx (by omega) ?_)
      intro v3 w3 hown3 hg3 hv3
      rw [← List.length_append, ← List.map_append] at hown3
      have hp := HW2.out.put hown3 hg3 (M.enc_byte x HX49.out.1 HX49.out.2) hv3
      have HP := hid hp
      obtain ⟨a3, c3, rfl, _⟩ := own_form hown3
      simp only [List.length_append] at HP
      have hc3 : w3.cell? ⟨b, 0, none⟩ = some (.slice a1 ys.length c1) := hg3.cell hc (Ne.symm (HW2.out.far HW2.out.1 (by decide)))
      have hfz3 : w3.frozen? ⟨b, 0, none⟩ = false := by rw [World.frozen?_of_block (w := w2) (hg3.block b HW2.out.lt (Ne.symm (HW2.out.far HW2.out.1 (by decide))))]; exact hfz
      clear hp hown3 hg3 hv3 hc hfz
      go_wp2
      go_roundw
      case rel =>
        refine ⟨k + 1, _, by omega, by go_num, ?_, HX2.out.trans HP.out.2⟩
        rw [encs_step ns k hkl, HX.out, ← List.append_assoc, HY.out]
        exact HP.out.1
      case measure => simp [intOf]; omega
    · have e1 : k = n := by omega
      go_wp2
      go_end0
      refine ⟨rfl, v1, ?_, HX1.out⟩
      have := HW1.out
      rw [← HY.out, List.take_of_length_le (by have := HN.out; omega)] at this
      exact this

end Go.Proofs.YteckjkblngmenaaGreatDoor

/-
  What a reader's method name reads is proved here, for every cursor.
-/
namespace Go.Proofs.YteckjkblngmenaaGreatDoor
open Go.RowKit
set_option linter.unusedVariables false
set_option maxRecDepth 100000

/-- A reader: a pointer to a cursor. -/
abbrev rdv (c : Nat) : Value := .agg #[.pointer (some ⟨c, 0, none⟩)]
abbrev rdo (c : Nat) : Obj := .cells #[.pointer (some ⟨c, 0, none⟩)] 128

/-- A store that meets no byte keeps a cursor. -/
theorem Bs.set {w : World} {u : Value} {xs : List Int} (h : Bs w u xs) {b i : Nat} {z : Value} (hz : w.cell? ⟨b, i, none⟩ = some z) (hn : ∀ x, z ≠ .int .u8 x) (v : Value) : Bs (w.setCell ⟨b, i, none⟩ v) u xs := by
  obtain ⟨a, c, h1, h2, h3, h4, h5, h6⟩ := h
  refine ⟨a, c, h1, h2, h3, h4, fun j hj => ?_, h6⟩
  obtain ⟨b', off, e1, e2⟩ := h5 j hj
  refine ⟨b', off, e1, ?_⟩
  by_cases hb : b' = b ∧ off + j = i
  · obtain ⟨rfl, hoff⟩ := hb
    rw [hoff] at e2
    rw [hz] at e2
    exact absurd (Option.some.inj e2) (hn _)
  · have hne : (⟨b, i, none⟩ : Addr) ≠ ⟨b', off + j, none⟩ := by
      intro e
      simp only [Addr.mk.injEq, and_true] at e
      exact hb ⟨e.1.symm, e.2.symm⟩
    rw [World.cell?_setCell_other _ _ _ _ hne]
    exact e2
theorem Cur.set {T : Nat} {w : World} {c : Nat} {xs : List Int} {lost : Bool} (h : Cur T w c xs lost) {b i : Nat} {z : Value} (hbc : b ≠ c) (hz : w.cell? ⟨b, i, none⟩ = some z) (hn : ∀ x, z ≠ .int .u8 x) (v : Value) : Cur T (w.setCell ⟨b, i, none⟩ v) c xs lost := by
  obtain ⟨u, h1, h2⟩ := h
  exact ⟨u, by rw [heap_setCell_other w ⟨b, i, none⟩ c v (fun e => hbc e.symm)]; exact h1, h2.set hz hn v⟩


/-- A cursor that is elsewhere while another block changes. -/
theorem Fr.rows {S : Nat → Prop} {w w' : World} (h : Fr S w w') {k : Nat} {c : Array Value} {T : TypeId} {f : Nat × Nat} (hk : w.heap[k]? = some (.cells c T f)) (hs : ¬ S k) : w'.heap[k]? = some (.cells c T f) := by
  rw [h.block k (Array.getElem?_eq_some_iff.1 hk).1 hs]; exact hk
theorem Fr.grown {w w' : World} {b : Nat} (h : w.grownBy w' (some b)) : Fr (fun k => k = b) w w' := Fr.of_grown h (fun k e => by simpa using e.symm)
theorem grown_row {w w' : World} {b k : Nat} {c : Array Value} {T : TypeId} {f : Nat × Nat} (h : w.grownBy w' (some b)) (hk : w.heap[k]? = some (.cells c T f)) (hs : k ≠ b) : w'.heap[k]? = some (.cells c T f) := (Fr.grown h).rows hk hs

/-- A store into a row. -/
theorem set_row {w : World} {b i : Nat} {cs : Array Value} {T : TypeId} (h : w.heap[b]? = some (.cells cs T (0, 0))) (v : Value) : (w.setCell ⟨b, i, none⟩ v).heap[b]? = some (.cells (cs.setIfInBounds i v) T (0, 0)) := heap_setCell_same w b i cs T v h
theorem Cur.set_row {U : Nat} {w : World} {c : Nat} {xs : List Int} {lost : Bool} (h : Cur U w c xs lost) {b i : Nat} {cs : Array Value} {T : TypeId} (hr : w.heap[b]? = some (.cells cs T (0,0))) (hbc : b ≠ c) (hi : ∃ z,cs[i]? = some z ∧ ∀ x,z ≠ .int .u8 x) (v : Value) : Cur U (w.setCell ⟨b,i,none⟩ v) c xs lost := by
  obtain ⟨z, h1, h2⟩ := hi
  exact h.set hbc (by rw [cell_of_row w b i _ _ _ hr]; exact h1) h2 v
theorem Fr.set {S : Nat → Prop} {a w : World} (h : Fr S a w) {b : Nat} (i : Nat) (v : Value) (hb : a.heap.size ≤ b ∨ S b) : Fr S a (w.setCell ⟨b, i, none⟩ v) :=
  h.trans (Fr.of_set w b i v) (fun k hk e => by subst e; rcases hb with hb | hb; omega; exact hb)

/-- What a cursor's state is told by. -/
abbrev Cu (w : World) (c : Nat) (s : St) : Prop := Cur 143 w c s.1 s.2
theorem num_s (c : Nat) (s : St) (most : Int) (w : World) (h : Cu w c s) :
    Calls Tryz.prog 92 #[.pointer (some ⟨c, 0, none⟩), .int .i64 most] w fun e w' =>
      e = .returned (.int .i64 (rn most s).1) ∧ Cu w' c (rn most s).2 ∧ w.grownBy w' (some c) := num_any c s.1 s.2 most w h
theorem text_s (c : Nat) (s : St) (most : Int) (w : World) (h : Cu w c s) :
    Calls Tryz.prog 95 #[.pointer (some ⟨c, 0, none⟩), .int .i64 most] w fun e w' =>
      e = .returned (.string (rt most s).1) ∧ Cu w' c (rt most s).2 ∧ w.grownBy w' (some c) := text_any c s.1 s.2 most w h

set_option maxHeartbeats 1000000 in
theorem name_r (c : Nat) (s : St) (w : World) (h : Cu w c s) :
    Calls Tryz.prog 117 #[rdv c] w fun e w' =>
      e = .returned (idv (rn 15 s).1 (rn 1048576 (rn 15 s).2).1) ∧ Cu w' c (rn 1048576 (rn 15 s).2).2 ∧ Fr (fun k => k = c) w w' := by
  have hlt := h.lt
  have HA := hid (bt (ba w (rdo c)) (ba _ (ido 72 0 0)))
  have HC := hid (h.below HA.out)
  have r1 := heap_alloc2_old w (rdo c) (ido 72 0 0)
  have r2 := heap_alloc2_new w (rdo c) (ido 72 0 0)
  have R1 := hid r1
  have R2 := hid r2
  obtain ⟨p1, hp1⟩ : ∃ p1, rn 15 s = p1 := ⟨_, rfl⟩
  have N1 := hid (fun W => num_s c s 15 W)
  rw [hp1] at N1 ⊢
  obtain ⟨p2, hp2⟩ : ∃ p2, rn 1048576 p1.2 = p2 := ⟨_, rfl⟩
  have N2 := hid (fun W => num_s c p1.2 1048576 W)
  rw [hp2] at N2 ⊢
  clear h r1 r2 hp1 hp2
  go_enter Tryz.func117, Tryz.ntmps117
  go_wp2_with fail
  refine (N1.out _ HC.out).mono ?_
  rintro e w1 ⟨rfl, hc1, hg1⟩
  have H1 := hid (grown_row hg1 R1.out (by omega))
  have H2 := hid (grown_row hg1 R2.out (by omega))
  have HC1 := hid hc1
  have HG1 := hid hg1
  have q1 := cell_of_row w1 w.heap.size 0 _ _ _ H1.out
  simp at q1
  clear hc1 hg1
  go_wp2_with fail
  refine (N2.out _ HC1.out).mono ?_
  rintro e w2 ⟨rfl, hc2, hg2⟩
  have H3 := hid (grown_row hg2 H2.out (by omega))
  have HC2 := hid hc2
  have HG2 := hid hg2
  have q2 : w2.cell? ⟨w.heap.size + 1, 0, none⟩ = some (.int .i64 0) := cell_of_row w2 (w.heap.size + 1) 0 _ _ _ H3.out
  have q3 : w2.cell? ⟨w.heap.size + 1, 1, none⟩ = some (.int .i64 0) := cell_of_row w2 (w.heap.size + 1) 1 _ _ _ H3.out
  have f2 := frozen_of_row w2 (w.heap.size + 1) 0 _ _ H3.out
  have f3 := frozen_of_row w2 (w.heap.size + 1) 1 _ _ H3.out
  clear hc2 hg2 q1
  go_wp2
  have H4 := set_row (i := 0) H3.out (.int .i64 p1.1)
  have H5 := set_row (i := 1) H4 (.int .i64 p2.1)
  refine bodyPost_ret (results_cell_row rfl _ _ (w.heap.size + 1) 72 #[.int .i64 p1.1, .int .i64 p2.1] (0, 0) _ rfl H5 Tryz.underlying72 rfl (by kernel_rfl)) rfl ?_
  refine ⟨rfl, ?_, ?_⟩
  · exact (HC2.out.set_row H3.out (by omega) ⟨_, rfl, fun x => by simp⟩ _).set_row H4 (by omega) ⟨_, rfl, fun x => by simp⟩ _
  · have h0 : Fr (fun k => k = c) w w2 := ((Fr.of_below HA.out).trans (Fr.grown HG1.out) (fun _ _ h => h)).trans (Fr.grown HG2.out) (fun _ _ h => h)
    exact (h0.set 0 _ (.inl (by omega))).set 1 _ (.inl (by omega))

end Go.Proofs.YteckjkblngmenaaGreatDoor

/-
  What a reader's method char reads is proved here, for every cursor.
-/
namespace Go.Proofs.YteckjkblngmenaaGreatDoor
open Go.RowKit
set_option linter.unusedVariables false
set_option maxRecDepth 100000

abbrev cho (r n i : Int) : Obj := .cells #[.int .i64 r, .int .i64 n, .int .i64 i] 74
abbrev chw (r n i : Int) : Value := .agg #[.int .i64 r, .int .i64 n, .int .i64 i]

set_option maxHeartbeats 2000000 in
theorem char_r (c : Nat) (s : St) (w : World) (h : Cu w c s) :
    Calls Tryz.prog 130 #[rdv c] w fun e w' =>
      e = .returned (chw (rn 15 s).1 (rn 1048576 (rn 15 s).2).1 (rn 63 (rn 1048576 (rn 15 s).2).2).1) ∧ Cu w' c (rn 63 (rn 1048576 (rn 15 s).2).2).2 ∧ Fr (fun k => k = c) w w' := by
  have hlt := h.lt
  have HA := hid (bt (ba w (rdo c)) (ba _ (cho 0 0 0)))
  have HC := hid (h.below HA.out)
  have R1 := hid (heap_alloc2_old w (rdo c) (cho 0 0 0))
  have R2 := hid (heap_alloc2_new w (rdo c) (cho 0 0 0))
  have N1 := hid (fun W => name_r c s W)
  obtain ⟨p1, hp1⟩ : ∃ p1, rn 15 s = p1 := ⟨_, rfl⟩
  rw [hp1] at N1 ⊢
  obtain ⟨p2, hp2⟩ : ∃ p2, rn 1048576 p1.2 = p2 := ⟨_, rfl⟩
  rw [hp2] at N1 ⊢
  have N2 := hid (fun W => num_s c p2.2 63 W)
  obtain ⟨p3, hp3⟩ : ∃ p3, rn 63 p2.2 = p3 := ⟨_, rfl⟩
  rw [hp3] at N2 ⊢
  clear h hp1 hp2 hp3
  go_enter Tryz.func130, Tryz.ntmps130
  go_wp2_with fail
  refine (N1.out _ HC.out).mono ?_
  rintro e w1 ⟨rfl, hc1, hf1⟩
  have H1 := hid (hf1.rows R1.out (by omega))
  have H2 := hid (hf1.rows R2.out (by omega))
  have HF1 := hid ((Fr.of_below HA.out).trans hf1 (fun _ _ h => h))
  have hs1 : w.heap.size + 1 < w1.heap.size := (Array.getElem?_eq_some_iff.1 H2.out).1
  have HA2 := hid (ba w1 (ido 72 p1.1 p2.1))
  have HC1 := hid (hc1.below HA2.out)
  have H3 := hid (((Fr.of_below HA2.out : Fr (fun k => k = c) _ _)).rows H1.out (by omega))
  have H4 := hid (((Fr.of_below HA2.out : Fr (fun k => k = c) _ _)).rows H2.out (by omega))
  have H5 := hid (heap_alloc_new w1 (ido 72 p1.1 p2.1))
  have q1 := cell_of_row _ _ 0 _ _ _ H3.out
  simp at q1
  clear hc1 hf1
  go_wp2_with fail
  go_region_law (go_simp; go_at_call 92; refine (N2.out (w1.alloc (ido 72 p1.1 p2.1)).drew HC1.out).mono ?_; rintro e w2 ⟨rfl,hc2,hg2⟩; have HG2 := hid hg2; have HC2 := hid hc2; have H6 := hid (grown_row hg2 H4.out (by omega)); have H7 := hid (grown_row hg2 H5.out (by omega)); have t0 := cell_of_row w2 _ 0 _ _ _ H6.out; have t1 := cell_of_row w2 _ 1 _ _ _ H6.out; have t2 := cell_of_row w2 _ 2 _ _ _ H6.out; have g0 := frozen_of_row w2 _ 0 _ _ H6.out; have g1 := frozen_of_row w2 _ 1 _ _ H6.out; have g2 := frozen_of_row w2 _ 2 _ _ H6.out; have u0 := cell_of_row w2 _ 0 _ _ _ H7.out; have u1 := cell_of_row w2 _ 1 _ _ _ H7.out; simp at t0 t1 t2 u0 u1)
  all_goals
    go_wp2
    have K1 := set_row (i := 0) H6.out (.int .i64 p1.1)
    have K2 := set_row (i := 1) K1 (.int .i64 p2.1)
    have K3 := set_row (i := 2) K2 (.int .i64 p3.1)
    refine bodyPost_ret (results_cell_row rfl _ _ (w.heap.size + 1) 74 #[.int .i64 p1.1, .int .i64 p2.1, .int .i64 p3.1] (0, 0) _ rfl K3 Tryz.underlying74 rfl (by kernel_rfl)) rfl ?_
    refine ⟨rfl, ?_, ?_⟩
    · exact ((HC2.out.set_row H6.out (by omega) ⟨_, rfl, fun x => by simp⟩ _).set_row K1 (by omega) ⟨_, rfl, fun x => by simp⟩ _).set_row K2 (by omega) ⟨_, rfl, fun x => by simp⟩ _
    · have h0 : Fr (fun k => k = c) w w2 := (HF1.out.trans (Fr.of_below ((HA2.out).drew) : Fr (fun k => k = c) _ _) (fun _ _ h => h)).trans (Fr.grown HG2.out) (fun _ _ h => h)
      exact ((h0.set 0 _ (.inl (by omega))).set 1 _ (.inl (by omega))).set 2 _ (.inl (by omega))

end Go.Proofs.YteckjkblngmenaaGreatDoor

/-
  What told, slices.Contains (of fields), rightCuts and the functions that they call answer is proved here, for all kinds, fields and cuts.
-/
namespace Go.Proofs.YteckjkblngmenaaGreatDoor
open Go.RowKit
set_option linter.unusedVariables false
set_option maxRecDepth 100000

/-- Fields. -/
abbrev fc (l : List Nat) : List Value := l.map (fun (f : Nat) => .int .i64 f)
def Fs (w : World) (v : Value) (l : List Nat) : Prop := Sl 1 w v l.length (fc l)
theorem Fs.below {w w' : World} {v : Value} {l : List Nat} (h : Fs w v l) (hb : Below w.heap.size w w') : Fs w' v l := Sl.below h hb
theorem Fs.inv {w : World} {v : Value} {l : List Nat} (h : Fs w v l) (hn : 0 < l.length) :
    ∃ b off c, v = .slice (some ⟨b, off, none⟩) l.length c ∧ l.length ≤ c ∧ c ≤ maxLen ∧ b < w.heap.size ∧ ∀ i (hi : i < l.length), w.cell? ⟨b, off + i, none⟩ = some (.int .i64 (l[i] : Nat)) := by
  obtain ⟨b, off, c, h1, h2, h3, h4, h5⟩ := Sl.inv h hn (by decide)
  exact ⟨b, off, c, h1, h2, h3, h4, fun i hi => h5 i _ (by simp [hi])⟩

theorem told_lit (w : World) (l : List Nat) (h : l.length ≤ 9) : Fs (w.alloc (.cells (fc l).toArray 149)) (.slice (some ⟨w.heap.size, 0, none⟩) l.length l.length) l := by
  have := Sl.lit (sz := 1) w 149 (fc l).toArray l.length (by unfold maxLen; omega) (by simp)
  unfold Fs
  simpa using this

theorem told_any (k : Int) (w : World) : Calls Tryz.prog 118 #[.int .i64 k] w fun e w' => ∃ v, e = .returned v ∧ Fs w' v (told k) ∧ Below w.heap.size w w' ∧ ∀ b, v.ownBlock = some b → w.heap.size ≤ b := by
  by_cases hk : told k = []
  · rw [hk]
    have h1 : (k == 1) = false := by simp; rintro rfl; simp [told] at hk
    have h2 : (k == 2) = false := by simp; rintro rfl; simp [told] at hk
    have h3 : (k == 3) = false := by simp; rintro rfl; simp [told] at hk
    have h4 : (k == 4) = false := by simp; rintro rfl; simp [told] at hk
    have h5 : (k == 5) = false := by simp; rintro rfl; simp [told] at hk
    have h6 : (k == 6) = false := by simp; rintro rfl; simp [told] at hk
    clear hk
    go_enter Tryz.func118, Tryz.ntmps118
    go_wp2
    go_ret
    exact ⟨_, rfl, Sl.nil 1 w, Below.refl _ _, fun b hb => by cases hb⟩
  · rcases six hk with rfl | rfl | rfl | rfl | rfl | rfl
    · rw [show told 1 = [1, 2] from rfl]
      have HF := hid (told_lit w [1, 2] (by decide))
      go_enter Tryz.func118, Tryz.ntmps118
      go_wp2
      go_ret
      exact ⟨_, rfl, HF.out, ba _ _, fun b hb => by simp [Value.ownBlock] at hb; omega⟩
    · rw [show told 2 = [0, 1, 2] from rfl]
      have HF := hid (told_lit w [0, 1, 2] (by decide))
      go_enter Tryz.func118, Tryz.ntmps118
      go_wp2
      go_ret
      exact ⟨_, rfl, HF.out, ba _ _, fun b hb => by simp [Value.ownBlock] at hb; omega⟩
    · rw [show told 3 = [3, 4, 5, 6] from rfl]
      have HF := hid (told_lit w [3, 4, 5, 6] (by decide))
      go_enter Tryz.func118, Tryz.ntmps118
      go_wp2
      go_ret
      exact ⟨_, rfl, HF.out, ba _ _, fun b hb => by simp [Value.ownBlock] at hb; omega⟩
    · rw [show told 4 = [7] from rfl]
      have HF := hid (told_lit w [7] (by decide))
      go_enter Tryz.func118, Tryz.ntmps118
      go_wp2
      go_ret
      exact ⟨_, rfl, HF.out, ba _ _, fun b hb => by simp [Value.ownBlock] at hb; omega⟩
    · rw [show told 5 = [3, 4, 5, 1, 2] from rfl]
      have HF := hid (told_lit w [3, 4, 5, 1, 2] (by decide))
      go_enter Tryz.func118, Tryz.ntmps118
      go_wp2
      go_ret
      exact ⟨_, rfl, HF.out, ba _ _, fun b hb => by simp [Value.ownBlock] at hb; omega⟩
    · rw [show told 6 = [0, 8] from rfl]
      have HF := hid (told_lit w [0, 8] (by decide))
      go_enter Tryz.func118, Tryz.ntmps118
      go_wp2
      go_ret
      exact ⟨_, rfl, HF.out, ba _ _, fun b hb => by simp [Value.ownBlock] at hb; omega⟩

theorem index_any (v : Value) (l : List Nat) (f : Nat) (w : World) (h : Fs w v l) (hl : l.length ≤ 9) (hf : f ≤ 8) (hall : ∀ x ∈ l, x ≤ 8) :
    Calls Tryz.prog 144 #[v, .int .i64 f] w fun e w' => ∃ n : Int, e = .returned (.int .i64 n) ∧ (0 ≤ n ↔ f ∈ l) ∧ w = w' := by
  by_cases hz : l.length = 0
  · obtain rfl := List.eq_nil_of_length_eq_zero hz
    obtain ⟨a, c, rfl, _, _⟩ := Sl.form h
    clear h hl hall hz
    go_enter Tryz.func144, Tryz.ntmps144
    go_wp2
    refine wp_loop_rounds 1 ?_
    rw [rounds_succ]
    go_wp2
    go_ret
    exact ⟨_, rfl, by simp, rfl⟩
  · obtain ⟨b, off, c, rfl, _, _, _, hc⟩ := h.inv (by omega)
    obtain ⟨n, hn⟩ : ∃ n, l.length = n := ⟨_, rfl⟩
    have HN := hid hn
    rw [hn] at hl hz ⊢
    have HC := hid hc
    clear hn hc h hall
    go_enter Tryz.func144, Tryz.ntmps144
    go_wp2
    go_loopw [8] (fun i wr => ∃ k : Nat, k ≤ n ∧ i = .int .i64 k ∧ wr = w ∧ ∀ j (hj : j < l.length), j < k → l[j] ≠ f) (fun i _ => n - (intOf i).toNat)
    case atStart => exact ⟨0, Nat.zero_le _, rfl, rfl, fun j _ h => absurd h (Nat.not_lt_zero _)⟩
    case round =>
      obtain ⟨k, hk, rfl, rfl, ht⟩ := hrel
      have HT := hid ht
      clear ht
      by_cases hlt : k < n
      · have hkl : k < l.length := by rw [HN.out]; exact hlt
        have g1 := HC.out k hkl
        obtain ⟨x, hx⟩ : ∃ x, l[k] = x := ⟨_, rfl⟩
        rw [hx] at g1
        have HX := hid hx
        clear hx
        have b1' : (k : Int) < (n : Int) := by omega
        by_cases he : x = f
        · have he' : ((f : Int) == (x : Int)) = true := by simp [he]
          have HE := hid he
          clear he
          go_wp2
          go_ret
          refine ⟨_, rfl, ?_, rfl⟩
          have hkl : k < l.length := by rw [HN.out]; exact hlt
          have hm : l[k] ∈ l := List.getElem_mem hkl
          rw [HX.out, HE.out] at hm
          exact ⟨fun _ => hm, fun _ => by omega⟩
        · have he' : ((f : Int) == (x : Int)) = false := by simp; omega
          have HE := hid he
          clear he
          go_wp2
          go_roundw
          case rel =>
            refine ⟨k + 1, by omega, by go_num, by first | rfl | trivial, fun j hj hjk => ?_⟩
            by_cases e : j = k
            · subst e
              rw [HX.out]; exact HE.out
            · exact HT.out j hj (by omega)
          case measure => simp [intOf]; omega
      · have e1 : k = n := by omega
        clear HC
        go_wp2
        go_ret
        refine ⟨_, rfl, ?_, rfl⟩
        constructor
        · intro h; omega
        · intro hm
          obtain ⟨j, hj, e⟩ := List.getElem_of_mem hm
          exact absurd e (HT.out j hj (by have := HN.out; omega))

theorem contains_any (v : Value) (l : List Nat) (f : Nat) (w : World) (h : Fs w v l) (hl : l.length ≤ 9) (hf : f ≤ 8) (hall : ∀ x ∈ l, x ≤ 8) :
    Calls Tryz.prog 135 #[v, .int .i64 f] w fun e w' => e = .returned (.bool (decide (f ∈ l))) ∧ w = w' := by
  have HI := hid (fun W => index_any v l f W)
  obtain ⟨a, c, rfl, _, _⟩ := Sl.form h
  go_enter Tryz.func135, Tryz.ntmps135
  go_wp2_with fail
  refine (HI.out _ h hl hf hall).mono ?_
  rintro e w1 ⟨n, rfl, hn, rfl⟩
  have HN := hid hn
  clear hn h hl hf hall
  go_wp2
  go_ret
  refine ⟨retb ?_, rfl⟩
  simpa using HN.out


abbrev cutv (c : Ct) : Value := .agg #[.int .i64 c.r, .int .i64 c.n, .int .i64 c.f, .int .i64 c.t]

theorem wrong_any (c : Ct) (w : World) : Calls Tryz.prog 149 #[cutv c] w fun e w' => e = .returned (.bool (!rct c)) ∧ Below w.heap.size w w' := by
  obtain ⟨b, hb⟩ : ∃ b, rct c = b := ⟨_, rfl⟩
  rw [hb]
  have HR := hid hb
  have HB := hid (ba w (.cells #[.int .i64 c.r, .int .i64 c.n, .int .i64 c.f, .int .i64 c.t] 113))
  have hp := heap_alloc_new w (.cells #[.int .i64 c.r, .int .i64 c.n, .int .i64 c.f, .int .i64 c.t] 113)
  have k2 := fun o => ((ba (w.alloc (.cells #[.int .i64 c.r, .int .i64 c.n, .int .i64 c.f, .int .i64 c.t] 113)) o).cell (p := ⟨w.heap.size, 2, none⟩) (by simp)).trans (by rw [cell_of_row _ _ 2 _ _ _ hp]; rfl : _ = some (.int .i64 c.f))
  have k3 := fun o => ((ba (w.alloc (.cells #[.int .i64 c.r, .int .i64 c.n, .int .i64 c.f, .int .i64 c.t] 113)) o).cell (p := ⟨w.heap.size, 3, none⟩) (by simp)).trans (by rw [cell_of_row _ _ 3 _ _ _ hp]; rfl : _ = some (.int .i64 c.t))
  clear hp hb
  cases hro : ro c.r c.n
  all_goals cases h0 : decide (c.f < 0)
  all_goals cases h1 : decide (c.f < c.t)
  all_goals
    have HO := hid hro
    have H0 := hid h0
    have H1 := hid h1
    have h1' : decide (c.t ≤ c.f) = !decide (c.f < c.t) := by rw [Bool.eq_iff_iff]; simp
    rw [h1] at h1'
    go_enter Tryz.func149, Tryz.ntmps149
    go_wp2_with (go_at_call 132; refine (ro_any _ _ _).mono ?_; rintro e w2 ⟨rfl, rfl⟩; rw [hro])
    go_ret
    refine ⟨retb ?_, bt HB.out (ba _ _)⟩
    rw [← HR.out]
    have a1 := HO.out
    have a2 := H0.out
    have a3 := H1.out
    simp at a2 a3
    simp [rct, a1]
    try omega


abbrev wrongv : Value := .func (.func 149) #[] #[]

set_option maxHeartbeats 1000000 in
theorem indexf_any (v : Value) (l : List Ct) (w : World) (h : Cs w v l) :
    Calls Tryz.prog 151 #[v, wrongv] w fun e w' => ∃ n : Int, e = .returned (.int .i64 n) ∧ (0 ≤ n ↔ l.all rct = false) ∧ Below w.heap.size w w' := by
  by_cases hz : l.length = 0
  · obtain rfl := List.eq_nil_of_length_eq_zero hz
    obtain ⟨a, c, rfl, _, _⟩ := h.form
    clear h hz
    go_enter Tryz.func151, Tryz.ntmps151
    go_wp2
    refine wp_loop_rounds 1 ?_
    rw [rounds_succ]
    go_wp2
    go_ret
    exact ⟨_, rfl, by simp, Below.refl _ _⟩
  · obtain ⟨b, off, c, rfl, hlc, hcm, hbl, hc⟩ := h.inv (by omega)
    obtain ⟨n, hn⟩ : ∃ n, l.length = n := ⟨_, rfl⟩
    have HN := hid hn
    rw [hn] at hz hlc ⊢
    unfold maxLen at hcm
    have HC := hid hc
    have HBL := hid hbl
    clear hn hc h hbl
    go_enter Tryz.func151, Tryz.ntmps151
    go_wp2
    go_loopw [8] (fun i wr => ∃ k : Nat, k ≤ n ∧ i = .int .i64 k ∧ Below w.heap.size w wr ∧ ∀ j (hj : j < l.length), j < k → rct l[j] = true) (fun i _ => n - (intOf i).toNat)
    case atStart => exact ⟨0, Nat.zero_le _, rfl, Below.refl _ _, fun j _ h => absurd h (Nat.not_lt_zero _)⟩
    case round =>
      obtain ⟨k, hk, rfl, hbel, ht⟩ := hrel
      have HT := hid ht
      have HBE := hid hbel
      clear ht hbel
      by_cases hlt : k < n
      · have hkl : k < l.length := by rw [HN.out]; exact hlt
        obtain ⟨x, hx⟩ : ∃ x, l[k] = x := ⟨_, rfl⟩
        have g := HC.out k hkl
        rw [hx] at g
        have g0 := (HBE.out.cell (p := ⟨b, off + k * 4, none⟩) HBL.out).trans g.1
        have g1 := (HBE.out.cell (p := ⟨b, off + k * 4 + 1, none⟩) HBL.out).trans g.2.1
        have g2 := (HBE.out.cell (p := ⟨b, off + k * 4 + 2, none⟩) HBL.out).trans g.2.2.1
        have g3 := (HBE.out.cell (p := ⟨b, off + k * 4 + 3, none⟩) HBL.out).trans g.2.2.2
        have HX := hid hx
        clear hx g
        have b1' : (k : Int) < (n : Int) := by omega
        cases he : rct x
        · go_wp2_with fail
          refine (wrong_any x _).mono ?_
          rintro e w1 ⟨rfl, hb1⟩
          have HB1 := hid hb1
          clear hb1
          rw [he]
          have HE := hid he
          clear he
          go_wp2
          go_ret
          refine ⟨_, rfl, ?_, HBE.out.trans (HB1.out.mono HBE.out.size)⟩
          have hm : l[k] ∈ l := List.getElem_mem hkl
          rw [HX.out] at hm
          refine ⟨fun _ => ?_, fun _ => by omega⟩
          rw [List.all_eq_false]
          exact ⟨x, hm, by rw [HE.out]; decide⟩
        · go_wp2_with fail
          refine (wrong_any x _).mono ?_
          rintro e w1 ⟨rfl, hb1⟩
          have HB1 := hid hb1
          clear hb1
          rw [he]
          have HE := hid he
          clear he
          go_wp2
          go_roundw
          case rel =>
            refine ⟨k + 1, by omega, by go_num, HBE.out.trans (HB1.out.mono HBE.out.size), fun j hj hjk => ?_⟩
            by_cases e : j = k
            · subst e
              rw [HX.out]; exact HE.out
            · exact HT.out j hj (by omega)
          case measure => simp [intOf]; omega
      · have e1 : k = n := by omega
        clear HC
        go_wp2
        go_ret
        refine ⟨_, rfl, ?_, HBE.out⟩
        constructor
        · intro h; omega
        · intro hm
          rw [List.all_eq_false] at hm
          obtain ⟨x, hx, hne⟩ := hm
          obtain ⟨j, hj, e⟩ := List.getElem_of_mem hx
          have := HT.out j hj (by have := HN.out; omega)
          rw [e] at this
          exact absurd this hne

theorem containsf_any (v : Value) (l : List Ct) (w : World) (h : Cs w v l) :
    Calls Tryz.prog 150 #[v, wrongv] w fun e w' => e = .returned (.bool (!l.all rct)) ∧ Below w.heap.size w w' := by
  have HI := hid (fun W => indexf_any v l W)
  obtain ⟨a, c, rfl, _, _⟩ := h.form
  go_enter Tryz.func150, Tryz.ntmps150
  go_wp2_with fail
  refine (HI.out _ h).mono ?_
  rintro e w1 ⟨n, rfl, hn, hb⟩
  have HN := hid hn
  have HB := hid hb
  clear hn h hb
  go_wp2
  go_ret
  refine ⟨retb ?_, HB.out⟩
  have := HN.out
  simp only [decide_eq_true_eq, Bool.not_eq_true']
  exact this

theorem cuts_any (v : Value) (l : List Ct) (w : World) (h : Cs w v l) :
    Calls Tryz.prog 148 #[v] w fun e w' => e = .returned (.bool (decide (1 ≤ l.length ∧ l.length ≤ 16) && l.all rct)) ∧ Below w.heap.size w w' := by
  have HI := hid (fun W => containsf_any v l W)
  obtain ⟨a, c, rfl, _, _⟩ := h.form
  obtain ⟨b, hb⟩ : ∃ b, l.all rct = b := ⟨_, rfl⟩
  rw [hb] at HI ⊢
  clear hb
  have HH := hid h
  clear h
  obtain ⟨n, hn⟩ : ∃ n, l.length = n := ⟨_, rfl⟩
  rw [hn] at HI HH ⊢
  clear hn
  by_cases h1 : 1 ≤ n
  · by_cases h2 : n ≤ 16
    · rw [decide_eq_true ⟨h1, h2⟩]
      have h1' : decide ((1 : Int) ≤ n) = true := by simp; omega
      have h2' : decide ((n : Int) ≤ 16) = true := by simp; omega
      go_enter Tryz.func148, Tryz.ntmps148
      go_wp2_with fail
      refine (HI.out _ HH.out).mono ?_
      rintro e w1 ⟨rfl, hb⟩
      have HB := hid hb
      clear hb
      go_wp2
      go_ret
      refine ⟨retb ?_, HB.out⟩
      simp
    · rw [decide_eq_false (fun h => h2 h.2)]
      have h1' : decide ((1 : Int) ≤ n) = true := by simp; omega
      have h2' : decide ((n : Int) ≤ 16) = false := by simp; omega
      go_enter Tryz.func148, Tryz.ntmps148
      go_wp2
      go_ret
      exact ⟨rfl, Below.refl _ _⟩
  · rw [decide_eq_false (fun h => h1 h.1)]
    have h1' : decide ((1 : Int) ≤ n) = false := by simp; omega
    go_enter Tryz.func148, Tryz.ntmps148
    go_wp2
    go_ret
    exact ⟨rfl, Below.refl _ _⟩

end Go.Proofs.YteckjkblngmenaaGreatDoor
