/-
  Rows of texts in memory: 'Ss w v ss': the slice v reads as the texts ss; what an append of texts to a row of the call's own comes to.
-/
import Derived.Test.YtobnnidlpbnbkaaFStr
import Derived.Test.YtobnnidlpbnbkaaAppend
namespace Go.Proofs.Ytobnnidlpbnbkaa
open Go.RowKit
set_option linter.unusedVariables false

theorem info_str : (Try.prog.info? 9).map (fun i => (i.zero, i.size, i.bytes)) = some (some (.string ⟨#[]⟩), 1, 16) := by kernel_rfl

/-- Texts as cells. -/
abbrev ts (l : List ByteArray) : List Value := l.map Value.string

def Ss (w : World) (v : Value) (ss : List ByteArray) : Prop :=
  ∃ a c, v = .slice a ss.length c ∧ ss.length ≤ c ∧ c ≤ maxLen ∧ (a = none → c = 0) ∧
    ∀ i, i < ss.length → ∃ b off, a = some ⟨b, off, none⟩ ∧ w.cell? ⟨b, off + i, none⟩ = some (.string (ss.getD i ⟨#[]⟩))

theorem Ss.nil (w : World) : Ss w (.slice none 0 0) [] := ⟨none, 0, rfl, Nat.le_refl _, Nat.zero_le _, fun _ => rfl, fun i hi => absurd hi (Nat.not_lt_zero _)⟩
theorem Ss.form {w : World} {v : Value} {ss : List ByteArray} (h : Ss w v ss) : ∃ a c, v = .slice a ss.length c ∧ ss.length ≤ c := by
  obtain ⟨a, c, e, h2, _⟩ := h
  exact ⟨a, c, e, h2⟩
theorem Ss.below {w w' : World} {v : Value} {ss : List ByteArray} (h : Ss w v ss) (hb : Below w.heap.size w w') : Ss w' v ss := by
  obtain ⟨a, c, h1, h2, h3, h4, h5⟩ := h
  refine ⟨a, c, h1, h2, h3, h4, fun i hi => ?_⟩
  obtain ⟨b, off, e1, e2⟩ := h5 i hi
  exact ⟨b, off, e1, by rw [hb.cell (World.block_lt_of_cell? _ _ e2)]; exact e2⟩
theorem Ss.drewN {w : World} {v : Value} {ss : List ByteArray} (h : Ss w v ss) (n : Nat) : Ss (w.drewN n) v ss := h
theorem Ss.inv {w : World} {v : Value} {ss : List ByteArray} (h : Ss w v ss) (hx : 0 < ss.length) :
    ∃ b off c, v = .slice (some ⟨b, off, none⟩) ss.length c ∧ ss.length ≤ c ∧ c ≤ maxLen ∧ ∀ i, i < ss.length → w.cell? ⟨b, off + i, none⟩ = some (.string (ss.getD i ⟨#[]⟩)) := by
  obtain ⟨a, c, h1, h2, h3, _, h5⟩ := h
  obtain ⟨b, off, e1, _⟩ := h5 0 hx
  refine ⟨b, off, c, by rw [h1, e1], h2, h3, fun i hi => ?_⟩
  obtain ⟨b', off', e2, e3⟩ := h5 i hi
  rw [e1] at e2
  simp only [Option.some.injEq, Addr.mk.injEq, and_true] at e2
  obtain ⟨rfl, rfl⟩ := e2
  exact e3
theorem Ss.of_own {w : World} {base e : Nat} {v : Value} {n : Nat} {ss : List ByteArray} (h : w.ownsRow base e 1 v n (ts ss)) : Ss w v ss := by
  have hl : ss.length = n := by simpa using h.1
  rcases h.2 with ⟨rfl, rfl⟩ | ⟨g, cap, cur, rfl, hb, hg, hnc, hcm, hcs, htake⟩
  · have : ss = [] := List.eq_nil_of_length_eq_zero hl
    subst this
    exact Ss.nil w
  · refine ⟨some ⟨g, 0, none⟩, cap, by rw [hl], by omega, hcm, (fun e => by cases e), fun i hi => ⟨g, 0, rfl, ?_⟩⟩
    have := h.cellAt (g := g) i (by omega)
    rw [Nat.zero_add, this]
    simp [hi]
/-- A literal of one text. -/
theorem Ss.lit (w : World) (s : ByteArray) : Ss (w.alloc (.cells #[.string s] 9)) (.slice (some ⟨w.heap.size, 0, none⟩) 1 1) [s] :=
  Ss.of_own (base := w.heap.size) (e := 9) (n := 1) (by
    have := World.ownsRow_lit (base := w.heap.size) (e := 9) (size := 1) w #[.string s] 1 (Nat.le_refl _) (by unfold maxLen; omega) (by simp)
    simpa using this)
theorem Ss.drop {w : World} {a : Option Addr} {ss : List ByteArray} {n c : Nat} (h : Ss w (.slice a n c) ss) (l : Nat) (hl : l ≤ n) :
    Ss w (.slice (if c = l then a else a.map (·.add l)) (n - l) (c - l)) (ss.drop l) := by
  obtain ⟨a', c', h1, h2, h3, h4, h5⟩ := h
  simp only [Value.slice.injEq] at h1
  obtain ⟨rfl, rfl, rfl⟩ := h1
  refine ⟨_, c - l, by rw [List.length_drop], by rw [List.length_drop]; omega, by omega, ?_, ?_⟩
  · intro e
    split at e
    · have := h4 e; omega
    · simp at e; have := h4 e; omega
  · intro i hi
    rw [List.length_drop] at hi
    obtain ⟨b, off, e1, e2⟩ := h5 (l + i) (by omega)
    have hcl : c ≠ l := by omega
    rw [if_neg hcl, e1]
    refine ⟨b, off + l, ?_, ?_⟩
    · simp [Addr.add]
      try (intro h; simp [h])
    · rw [Nat.add_assoc, e2]; simp [List.getD, List.getElem?_drop]
theorem Ss.take {w : World} {a : Option Addr} {ss : List ByteArray} {n c : Nat} (h : Ss w (.slice a n c) ss) (l : Nat) (hl : l ≤ n) : Ss w (.slice a l c) (ss.take l) := by
  obtain ⟨a', c', h1, h2, h3, h4, h5⟩ := h
  simp only [Value.slice.injEq] at h1
  obtain ⟨rfl, rfl, rfl⟩ := h1
  have hlen : (ss.take l).length = l := by rw [List.length_take]; omega
  refine ⟨a, c, by rw [hlen], by omega, h3, h4, fun i hi => ?_⟩
  obtain ⟨b, off, e1, e2⟩ := h5 i (by omega)
  exact ⟨b, off, e1, by rw [e2]; simp [List.getD, show i < l by omega]⟩
theorem Ss.none_nil {w : World} {n c : Nat} {ss : List ByteArray} (h : Ss w (.slice none n c) ss) : ss = [] ∧ n = 0 ∧ c = 0 := by
  obtain ⟨a', c', h1, h2, _, h4, _⟩ := h
  simp only [Value.slice.injEq] at h1
  have := h4 h1.1.symm
  have e : ss.length = 0 := by omega
  exact ⟨List.eq_nil_of_length_eq_zero e, by omega, by omega⟩
theorem Ss.cells_at {w : World} {A : Addr} {n c : Nat} {ss : List ByteArray} (h : Ss w (.slice (some A) n c) ss) : ∀ j u, (ts ss)[j]? = some u → w.cell? (A.add j) = some u := by
  intro j u hu
  obtain ⟨a', c', h1, _, _, _, h5⟩ := h
  simp only [Value.slice.injEq] at h1
  obtain ⟨rfl, rfl, rfl⟩ := h1
  have hj : j < ss.length := by have := (List.getElem?_eq_some_iff.1 hu).1; simpa using this
  obtain ⟨b, off, e1, e2⟩ := h5 j hj
  simp only [Option.some.injEq] at e1
  subst e1
  have e3 : (⟨b, off, none⟩ : Addr).add j = ⟨b, off + j, none⟩ := by
    unfold Addr.add; split <;> simp_all
  rw [e3, e2]
  simp [hj] at hu
  simp [hj, hu]

theorem wpList_append_ss {w : World} {ops : Array Oper} {rest : List Oper} {o : Oper} {a : Act} {Q : Exit → Act → World → Prop} (hgd : o.guard = none) (s x : Operand)
    (ho : o.op = .call { callee := .builtin .append, args := #[s, x], argTypes := #[28, 28] })
    (base : Nat) (v : Value) (n : Nat) (xs : List ByteArray) (hs : a.eval s = v) (hown : w.ownsRow base 9 1 v n (ts xs)) (u : Value) (ys : List ByteArray) (hx : a.eval x = u) (hu : Ss w u ys)
    (hb : n + ys.length ≤ 1000000) (hbase : base ≤ w.heap.size)
    (h : ∀ v' w', w'.ownsRow base 9 1 v' (n + ys.length) (ts (xs ++ ys)) → w.grownBy w' v.ownBlock → (v'.ownBlock = v.ownBlock ∨ v'.ownBlock = some w.heap.size) → wpList Try.prog ops Q rest (a.put o.dst v') w') :
    wpList Try.prog ops Q (o :: rest) a w := by
  obtain ⟨i0, hi, hz0, hz1, hz2⟩ := info_parts info_str
  have hf : ∃ A c, u = .slice A ys.length c := by
    obtain ⟨A, c, e, _⟩ := hu
    exact ⟨A, c, e⟩
  obtain ⟨A, c, rfl⟩ := hf
  cases A with
  | none =>
    obtain ⟨rfl, _, rfl⟩ := hu.none_nil
    refine wpList_append_own_none hgd s x 28 ho base 9 i0 1 Try.underlying28 hi v n (ts xs) hs hown hx ?_
    exact h v w (by simpa using hown) (World.grownBy.rfl' _ _) (Or.inl rfl)
  | some A =>
    refine wpList_append_own_at _ hgd s x 28 ho base 9 i0 (.string ⟨#[]⟩) 1 16 Try.underlying28 hi hz0 hz1 hz2 rfl (by decide) v n (ts xs) hs hown A ys.length c (ts ys) hx (by simp) hu.cells_at (by intro u hu; obtain ⟨b, _, rfl⟩ := List.mem_map.1 hu; rfl) (by unfold maxLen; omega) (by omega) hbase ?_
    intro v' w' h1 h2 _ h4
    exact h v' w' (by simpa using h1) h2 h4

end Go.Proofs.Ytobnnidlpbnbkaa
