/-
  Slices in memory, whatever their elements: 'Sl sz w v n cells': the slice v has n elements of sz cells each, which read as 'cells'; rows of names, cuts and ops.
-/
import Derived.Test.YtmgemgkanlpnnaaDoorOVal
import Derived.Test.YtmgemgkanlpnnaaDoorCells
import Derived.Maps.AppendAt
import Derived.Laws.AppendOwnNone
namespace Go.Proofs.YtmgemgkanlpnnaaDoor
open Go.RowKit
set_option linter.unusedVariables false
set_option maxRecDepth 100000

def Sl (sz : Nat) (w : World) (v : Value) (n : Nat) (cells : List Value) : Prop :=
  cells.length = n * sz ∧ ∃ a c, v = .slice a n c ∧ n ≤ c ∧ c ≤ maxLen ∧ (a = none → c = 0) ∧ ∀ j u, cells[j]? = some u → ∃ b off, a = some ⟨b, off, none⟩ ∧ w.cell? ⟨b, off + j, none⟩ = some u

theorem Sl.nil (sz : Nat) (w : World) : Sl sz w (.slice none 0 0) 0 [] := ⟨by simp, none, 0, rfl, Nat.le_refl _, Nat.zero_le _, fun _ => rfl, fun j u h => by simp at h⟩
theorem Sl.form {sz : Nat} {w : World} {v : Value} {n : Nat} {cells : List Value} (h : Sl sz w v n cells) : ∃ a c, v = .slice a n c ∧ n ≤ c ∧ c ≤ maxLen := by
  obtain ⟨_, a, c, e, h2, h3, _⟩ := h
  exact ⟨a, c, e, h2, h3⟩
theorem Sl.len {sz : Nat} {w : World} {v : Value} {n : Nat} {cells : List Value} (h : Sl sz w v n cells) : n ≤ maxLen := by
  obtain ⟨a, c, _, h2, h3⟩ := h.form
  omega
/-- As long as its own block is as it was. -/
theorem Sl.kept {sz : Nat} {w w' : World} {v : Value} {n : Nat} {cells : List Value} (h : Sl sz w v n cells) (hb : ∀ k, v.ownBlock = some k → k < w.heap.size → w'.heap[k]? = w.heap[k]?) : Sl sz w' v n cells := by
  obtain ⟨h0, a, c, rfl, h2, h3, h4, h5⟩ := h
  refine ⟨h0, a, c, rfl, h2, h3, h4, fun j u hu => ?_⟩
  obtain ⟨b, off, rfl, e2⟩ := h5 j u hu
  refine ⟨b, off, rfl, ?_⟩
  rw [World.cell?_of_block (w := w) (hb b rfl (World.block_lt_of_cell? _ _ e2))]
  exact e2
theorem Sl.below {sz : Nat} {w w' : World} {v : Value} {n : Nat} {cells : List Value} (h : Sl sz w v n cells) (hb : Below w.heap.size w w') : Sl sz w' v n cells := h.kept fun k _ hk => hb.block k hk
theorem Sl.drewN {sz : Nat} {w : World} {v : Value} {n : Nat} {cells : List Value} (h : Sl sz w v n cells) (m : Nat) : Sl sz (w.drewN m) v n cells := h
theorem Sl.inv {sz : Nat} {w : World} {v : Value} {n : Nat} {cells : List Value} (h : Sl sz w v n cells) (hn : 0 < n) (hs : 0 < sz) :
    ∃ b off c, v = .slice (some ⟨b, off, none⟩) n c ∧ n ≤ c ∧ c ≤ maxLen ∧ b < w.heap.size ∧ ∀ j u, cells[j]? = some u → w.cell? ⟨b, off + j, none⟩ = some u := by
  obtain ⟨h0, a, c, rfl, h2, h3, h4, h5⟩ := h
  have hl : 0 < cells.length := by rw [h0]; exact Nat.mul_pos hn hs
  obtain ⟨b, off, rfl, e⟩ := h5 0 cells[0] (by simp [hl])
  refine ⟨b, off, c, rfl, h2, h3, World.block_lt_of_cell? _ _ e, fun j u hu => ?_⟩
  obtain ⟨b', off', e1, e2⟩ := h5 j u hu
  simp only [Option.some.injEq, Addr.mk.injEq, and_true] at e1
  obtain ⟨rfl, rfl⟩ := e1
  exact e2
theorem Sl.of_own {sz : Nat} {w : World} {base e : Nat} {v : Value} {n : Nat} {cells : List Value} (h : w.ownsRow base e sz v n cells) : Sl sz w v n cells := by
  refine ⟨h.1, ?_⟩
  have h' := h
  rcases h.2 with ⟨rfl, rfl⟩ | ⟨g, cap, cur, rfl, hb, hg, hnc, hcm, hcs, htake⟩
  · have : cells = [] := List.eq_nil_of_length_eq_zero (by simpa using h.1)
    subst this
    exact (Sl.nil sz w).2
  · refine ⟨some ⟨g, 0, none⟩, cap, rfl, hnc, hcm, (fun e => by cases e), fun j u hu => ⟨g, 0, rfl, ?_⟩⟩
    have hj : j < n * sz := by rw [← h.1]; exact (List.getElem?_eq_some_iff.1 hu).1
    rw [Nat.zero_add, h'.cellAt j hj, hu]
theorem Sl.none_nil {sz : Nat} {w : World} {n c : Nat} {cells : List Value} (h : Sl sz w (.slice none n c) n cells) : cells = [] ∧ n = 0 ∧ c = 0 := by
  obtain ⟨h0, a', c', h1, h2, _, h4, _⟩ := h
  simp only [Value.slice.injEq] at h1
  have := h4 h1.1.symm
  have hn : n = 0 := by omega
  subst hn
  exact ⟨List.eq_nil_of_length_eq_zero (by simpa using h0), rfl, by omega⟩
theorem Sl.cells_at {sz : Nat} {w : World} {A : Addr} {n c : Nat} {cells : List Value} (h : Sl sz w (.slice (some A) n c) n cells) : ∀ j u, cells[j]? = some u → w.cell? (A.add j) = some u := by
  intro j u hu
  obtain ⟨_, a', c', h1, _, _, _, h5⟩ := h
  simp only [Value.slice.injEq] at h1
  obtain ⟨rfl, _, rfl⟩ := h1
  obtain ⟨b, off, e1, e2⟩ := h5 j u hu
  simp only [Option.some.injEq] at e1
  subst e1
  have e3 : (⟨b, off, none⟩ : Addr).add j = ⟨b, off + j, none⟩ := by
    unfold Addr.add; split <;> simp_all
  rw [e3, e2]
/-- The first elements. -/
theorem Sl.lit {sz : Nat} (w : World) (e : Nat) (cells : Array Value) (n : Nat) (hm : n ≤ maxLen) (hs : cells.size = n * sz) : Sl sz (w.alloc (.cells cells e)) (.slice (some ⟨w.heap.size, 0, none⟩) n n) n cells.toList :=
  Sl.of_own (World.ownsRow_lit (base := w.heap.size) (e := e) (size := sz) w cells n (Nat.le_refl _) hm hs)

/-- The cells of an element among those of all. -/
theorem flat_at {α : Type} (f : α → List Value) (sz : Nat) (hf : ∀ x, (f x).length = sz) : ∀ (l : List α) (i j : Nat) (hi : i < l.length), j < sz → (l.flatMap f)[i * sz + j]? = (f (l[i]))[j]? := by
  intro l
  induction l with
  | nil => intro i j hi; exact absurd hi (Nat.not_lt_zero _)
  | cons x l ih =>
    intro i j hi hj
    rw [List.flatMap_cons]
    cases i with
    | zero =>
      rw [Nat.zero_mul, Nat.zero_add, List.getElem?_append_left (by rw [hf]; exact hj)]
      rfl
    | succ i =>
      have e : (i + 1) * sz + j - sz = i * sz + j := by rw [Nat.add_mul, Nat.one_mul]; omega
      rw [List.getElem?_append_right (by rw [hf, Nat.add_mul, Nat.one_mul]; omega), hf, e, ih i j (by simpa using hi) hj]
      rfl
theorem flat_length {α : Type} (f : α → List Value) (sz : Nat) (hf : ∀ x, (f x).length = sz) (l : List α) : (l.flatMap f).length = l.length * sz := by
  induction l with
  | nil => simp
  | cons x l ih => rw [List.flatMap_cons, List.length_append, hf, ih, List.length_cons, Nat.add_mul, Nat.one_mul, Nat.add_comm]

/-- Cuts. -/
abbrev cutc (c : Ct) : List Value := [.int .i64 c.r, .int .i64 c.n, .int .i64 c.f, .int .i64 c.t]
def Cs (w : World) (v : Value) (l : List Ct) : Prop := Sl 4 w v l.length (l.flatMap cutc)
theorem Cs.below {w w' : World} {v : Value} {l : List Ct} (h : Cs w v l) (hb : Below w.heap.size w w') : Cs w' v l := Sl.below h hb
theorem Cs.nil (w : World) : Cs w (.slice none 0 0) [] := Sl.nil 4 w
theorem Cs.form {w : World} {v : Value} {l : List Ct} (h : Cs w v l) : ∃ a c, v = .slice a l.length c ∧ l.length ≤ c ∧ c ≤ maxLen := Sl.form h
theorem Cs.inv {w : World} {v : Value} {l : List Ct} (h : Cs w v l) (hn : 0 < l.length) :
    ∃ b off c, v = .slice (some ⟨b, off, none⟩) l.length c ∧ l.length ≤ c ∧ c ≤ maxLen ∧ b < w.heap.size ∧ ∀ i (hi : i < l.length), w.cell? ⟨b, off + i * 4, none⟩ = some (.int .i64 (l[i]).r) ∧ w.cell? ⟨b, off + i * 4 + 1, none⟩ = some (.int .i64 (l[i]).n) ∧
      w.cell? ⟨b, off + i * 4 + 2, none⟩ = some (.int .i64 (l[i]).f) ∧ w.cell? ⟨b, off + i * 4 + 3, none⟩ = some (.int .i64 (l[i]).t) := by
  obtain ⟨b, off, c, h1, h2, h3, h4, h5⟩ := Sl.inv h hn (by decide)
  refine ⟨b, off, c, h1, h2, h3, h4, fun i hi => ?_⟩
  have k := fun j (hj : j < 4) => flat_at cutc 4 (fun _ => rfl) l i j hi hj
  refine ⟨h5 _ _ (k 0 (by decide)), ?_, ?_, ?_⟩
  · rw [Nat.add_assoc]; exact h5 _ _ (k 1 (by decide))
  · rw [Nat.add_assoc]; exact h5 _ _ (k 2 (by decide))
  · rw [Nat.add_assoc]; exact h5 _ _ (k 3 (by decide))

/-- Names. -/
abbrev idc (x : Int × Int) : List Value := [.int .i64 x.1, .int .i64 x.2]
def Ns (w : World) (v : Value) (l : List (Int × Int)) : Prop := Sl 2 w v l.length (l.flatMap idc)
theorem Ns.below {w w' : World} {v : Value} {l : List (Int × Int)} (h : Ns w v l) (hb : Below w.heap.size w w') : Ns w' v l := Sl.below h hb
theorem Ns.form {w : World} {v : Value} {l : List (Int × Int)} (h : Ns w v l) : ∃ a c, v = .slice a l.length c ∧ l.length ≤ c ∧ c ≤ maxLen := Sl.form h
theorem Ns.inv {w : World} {v : Value} {l : List (Int × Int)} (h : Ns w v l) (hn : 0 < l.length) :
    ∃ b off c, v = .slice (some ⟨b, off, none⟩) l.length c ∧ l.length ≤ c ∧ c ≤ maxLen ∧ b < w.heap.size ∧ ∀ i (hi : i < l.length), w.cell? ⟨b, off + i * 2, none⟩ = some (.int .i64 (l[i]).1) ∧ w.cell? ⟨b, off + i * 2 + 1, none⟩ = some (.int .i64 (l[i]).2) := by
  obtain ⟨b, off, c, h1, h2, h3, h4, h5⟩ := Sl.inv h hn (by decide)
  refine ⟨b, off, c, h1, h2, h3, h4, fun i hi => ?_⟩
  have k := fun j (hj : j < 2) => flat_at idc 2 (fun _ => rfl) l i j hi hj
  refine ⟨h5 _ _ (k 0 (by decide)), ?_⟩
  rw [Nat.add_assoc]; exact h5 _ _ (k 1 (by decide))

/-- An op in memory. -/
def Ob (w : World) (b : Nat) (o : Opn) (v : Value) : Prop := w.heap[b]? = some (opo o v)
theorem Ob.new (w : World) (o : Opn) (v : Value) : Ob (w.alloc (opo o v)) w.heap.size o v := heap_alloc_new w _
theorem Ob.lt {w : World} {b : Nat} {o : Opn} {v : Value} (h : Ob w b o v) : b < w.heap.size := (Array.getElem?_eq_some_iff.1 h).1
theorem Ob.below {w w' : World} {b : Nat} {o : Opn} {v : Value} (h : Ob w b o v) (hb : Below w.heap.size w w') : Ob w' b o v := by
  unfold Ob; rw [hb.block b h.lt]; exact h
theorem Ob.cell {w : World} {b : Nat} {o : Opn} {v : Value} (h : Ob w b o v) (j : Nat) : w.cell? ⟨b, j, none⟩ = (opl o v)[j]? := cell_of_row w b j _ _ _ h
theorem Ob.frozen {w : World} {b : Nat} {o : Opn} {v : Value} (h : Ob w b o v) (j : Nat) : w.frozen? ⟨b, j, none⟩ = false := frozen_of_row w b j _ _ h
/-- All its cells, for the walk. -/
structure Oc (w : World) (b : Nat) (o : Opn) (v : Value) : Prop where
  c0 : w.cell? ⟨b, 0, none⟩ = some (.int .i64 o.k)
  c1 : w.cell? ⟨b, 1, none⟩ = some (.int .i64 o.ir)
  c2 : w.cell? ⟨b, 2, none⟩ = some (.int .i64 o.im)
  c3 : w.cell? ⟨b, 3, none⟩ = some (.int .i64 o.t)
  c4 : w.cell? ⟨b, 4, none⟩ = some (.int .i64 o.br)
  c5 : w.cell? ⟨b, 5, none⟩ = some (.int .i64 o.bm)
  c6 : w.cell? ⟨b, 6, none⟩ = some (.int .i64 o.pr)
  c7 : w.cell? ⟨b, 7, none⟩ = some (.int .i64 o.pm)
  c8 : w.cell? ⟨b, 8, none⟩ = some (.string o.key)
  c9 : w.cell? ⟨b, 9, none⟩ = some (.int .i64 o.sr)
  c10 : w.cell? ⟨b, 10, none⟩ = some (.int .i64 o.sm)
  c11 : w.cell? ⟨b, 11, none⟩ = some (.int .i64 o.lr)
  c12 : w.cell? ⟨b, 12, none⟩ = some (.int .i64 o.lm)
  c13 : w.cell? ⟨b, 13, none⟩ = some (.int .i64 o.li)
  c14 : w.cell? ⟨b, 14, none⟩ = some (.int .i64 o.gr)
  c15 : w.cell? ⟨b, 15, none⟩ = some (.int .i64 o.gm)
  c16 : w.cell? ⟨b, 16, none⟩ = some (.int .i64 o.gi)
  c17 : w.cell? ⟨b, 17, none⟩ = some (.string o.text)
  c18 : w.cell? ⟨b, 18, none⟩ = some v
  c19 : w.cell? ⟨b, 19, none⟩ = some (.bool o.flag)
theorem Ob.cells {w : World} {b : Nat} {o : Opn} {v : Value} (h : Ob w b o v) : Oc w b o v :=
  ⟨h.cell 0, h.cell 1, h.cell 2, h.cell 3, h.cell 4, h.cell 5, h.cell 6, h.cell 7, h.cell 8, h.cell 9, h.cell 10, h.cell 11, h.cell 12, h.cell 13, h.cell 14, h.cell 15, h.cell 16, h.cell 17, h.cell 18, h.cell 19⟩

theorem Ob.load {w : World} {b : Nat} {o : Opn} {v : Value} (h : Ob w b o v) : (loadVar 30 ⟨b, 0, none⟩).run Tryd.prog w = .ok (opv o v) w :=
  run_loadVar_row w b 30 30 (opl o v) (0, 0) _ h Tryd.underlying30 rfl (by kernel_rfl)

theorem wpList_load_op {ops : Array Oper} {rest : List Oper} {p : Oper} {a : Act} {w : World} {Q : Exit → Act → World → Prop} (hgd : p.guard = none) (x : Operand) (ho : p.op = .load 30 x)
    (b : Nat) (hx : a.eval x = .pointer (some ⟨b, 0, none⟩)) (o : Opn) (v : Value) (h : Ob w b o v)
    (hk : wpList Tryd.prog ops Q rest (a.put p.dst (opv o v)) w) : wpList Tryd.prog ops Q (p :: rest) a w :=
  wpList_load_row hgd 30 x ho b hx 30 (opl o v) (0, 0) _ h Tryd.underlying30 rfl (by kernel_rfl) hk

end Go.Proofs.YtmgemgkanlpnnaaDoor
