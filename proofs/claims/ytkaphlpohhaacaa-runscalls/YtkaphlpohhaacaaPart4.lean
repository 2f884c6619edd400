/-
  Parts of the proof, one behind the other; what each proves stands at its head.
-/
import Derived.Test.YtkaphlpohhaacaaRows
import Derived.Test.YtkaphlpohhaacaaPart3
import Derived.Maps.AppendAt
import Derived.Laws.AppendOwnNone

/-
  Slices in memory, whatever their elements: 'Sl sz w v n cells': the slice v has n elements of sz cells each, which read as 'cells'; an append to a row of the call's own.
-/
namespace Go.Proofs.Ytkaphlpohhaacaa
open Go.RowKit
set_option linter.unusedVariables false
set_option linter.unusedSimpArgs false
set_option maxRecDepth 100000

def Sl (sz : Nat) (w : World) (v : Value) (n : Nat) (cells : List Value) : Prop :=
  cells.length = n * sz ∧ ∃ a c, v = .slice a n c ∧ n ≤ c ∧ c ≤ maxLen ∧ (a = none → c = 0) ∧ ∀ j u, cells[j]? = some u → ∃ b off, a = some ⟨b, off, none⟩ ∧ w.cell? ⟨b, off + j, none⟩ = some u

theorem Sl.nil (sz : Nat) (w : World) : Sl sz w (.slice none 0 0) 0 [] := ⟨by simp, none, 0, rfl, Nat.le_refl _, Nat.zero_le _, fun _ => rfl, fun j u h => by simp at h⟩
theorem Sl.form {sz : Nat} {w : World} {v : Value} {n : Nat} {cells : List Value} (h : Sl sz w v n cells) : ∃ a c, v = .slice a n c ∧ n ≤ c ∧ c ≤ maxLen := by
  obtain ⟨_, a, c, e, h2, h3, _⟩ := h
  exact ⟨a, c, e, h2, h3⟩
/-- As long as its own block is as it was. -/
theorem Sl.kept {sz : Nat} {w w' : World} {v : Value} {n : Nat} {cells : List Value} (h : Sl sz w v n cells) (hb : ∀ k, v.ownBlock = some k → k < w.heap.size → w'.heap[k]? = w.heap[k]?) : Sl sz w' v n cells := by
  obtain ⟨h0, a, c, rfl, h2, h3, h4, h5⟩ := h
  refine ⟨h0, a, c, rfl, h2, h3, h4, fun j u hu => ?_⟩
  obtain ⟨b, off, rfl, e2⟩ := h5 j u hu
  refine ⟨b, off, rfl, ?_⟩
  rw [World.cell?_of_block (w := w) (hb b rfl (World.block_lt_of_cell? _ _ e2))]
  exact e2
theorem Sl.below {sz : Nat} {w w' : World} {v : Value} {n : Nat} {cells : List Value} (h : Sl sz w v n cells) (hb : Below w.heap.size w w') : Sl sz w' v n cells := h.kept fun k _ hk => hb.block k hk
theorem Sl.inv {sz : Nat} {w : World} {v : Value} {n : Nat} {cells : List Value} (h : Sl sz w v n cells) (hn : 0 < n) (hs : 0 < sz) :
    ∃ b off c, v = .slice (some ⟨b, off, none⟩) n c ∧ n ≤ c ∧ c ≤ maxLen ∧ b < w.heap.size ∧ ∀ j u, cells[j]? = some u → w.cell? ⟨b, off + j, none⟩ = some u := by
  obtain ⟨h0, a, c, rfl, h2, h3, h4, h5⟩ := h
  have hl : 0 < cells.length := by rw [h0]; exact Nat.mul_pos hn hs
  obtain ⟨b, off, rfl, e⟩ := h5 0 cells[0] (by simp [hl])
  refine ⟨b, off, c, rfl, h2, h3, World.block_lt_of_cell? _ _ e, fun j u hu => ?_⟩
  obtain ⟨b', off', e1, e2⟩ := h5 j u hu
  simp only [Option.some.injEq, Addr.mk.injEq, and_true] at e1
  obtain ⟨rfl, rfl⟩ := e1
  exact e2
theorem Sl.of_own {sz : Nat} {w : World} {base e : Nat} {v : Value} {n : Nat} {cells : List Value} (h : w.ownsRow base e sz v n cells) : Sl sz w v n cells := by
  refine ⟨h.1, ?_⟩
  have h' := h
  rcases h.2 with ⟨rfl, rfl⟩ | ⟨g, cap, cur, rfl, hb, hg, hnc, hcm, hcs, htake⟩
  · have : cells = [] := List.eq_nil_of_length_eq_zero (by simpa using h.1)
    subst this
    exact (Sl.nil sz w).2
  · refine ⟨some ⟨g, 0, none⟩, cap, rfl, hnc, hcm, (fun e => by cases e), fun j u hu => ⟨g, 0, rfl, ?_⟩⟩
    have hj : j < n * sz := by rw [← h.1]; exact (List.getElem?_eq_some_iff.1 hu).1
    rw [Nat.zero_add, h'.cellAt j hj, hu]
theorem Sl.none_nil {sz : Nat} {w : World} {n c : Nat} {cells : List Value} (h : Sl sz w (.slice none n c) n cells) : cells = [] ∧ n = 0 ∧ c = 0 := by
  obtain ⟨h0, a', c', h1, h2, _, h4, _⟩ := h
  simp only [Value.slice.injEq] at h1
  have := h4 h1.1.symm
  have hn : n = 0 := by omega
  subst hn
  exact ⟨List.eq_nil_of_length_eq_zero (by simpa using h0), rfl, by omega⟩
theorem Sl.cells_at {sz : Nat} {w : World} {A : Addr} {n c : Nat} {cells : List Value} (h : Sl sz w (.slice (some A) n c) n cells) : ∀ j u, cells[j]? = some u → w.cell? (A.add j) = some u := by
  intro j u hu
  obtain ⟨_, a', c', h1, _, _, _, h5⟩ := h
  simp only [Value.slice.injEq] at h1
  obtain ⟨rfl, _, rfl⟩ := h1
  obtain ⟨b, off, e1, e2⟩ := h5 j u hu
  simp only [Option.some.injEq] at e1
  subst e1
  have e3 : (⟨b, off, none⟩ : Addr).add j = ⟨b, off + j, none⟩ := by
    unfold Addr.add; split <;> simp_all
  rw [e3, e2]
/-- The first elements. -/
theorem Sl.lit {sz : Nat} (w : World) (e : Nat) (cells : Array Value) (n : Nat) (hm : n ≤ maxLen) (hs : cells.size = n * sz) : Sl sz (w.alloc (.cells cells e)) (.slice (some ⟨w.heap.size, 0, none⟩) n n) n cells.toList :=
  Sl.of_own (World.ownsRow_lit (base := w.heap.size) (e := e) (size := sz) w cells n (Nat.le_refl _) hm hs)

/-- The cells of an element among those of all. -/
theorem flat_at {α : Type} (f : α → List Value) (sz : Nat) (hf : ∀ x, (f x).length = sz) : ∀ (l : List α) (i j : Nat) (hi : i < l.length), j < sz → (l.flatMap f)[i * sz + j]? = (f (l[i]))[j]? := by
  intro l
  induction l with
  | nil => intro i j hi; exact absurd hi (Nat.not_lt_zero _)
  | cons x l ih =>
    intro i j hi hj
    rw [List.flatMap_cons]
    cases i with
    | zero =>
      rw [Nat.zero_mul, Nat.zero_add, List.getElem?_append_left (by rw [hf]; exact hj)]
      rfl
    | succ i =>
      have e : (i + 1) * sz + j - sz = i * sz + j := by rw [Nat.add_mul, Nat.one_mul]; omega
      rw [List.getElem?_append_right (by rw [hf, Nat.add_mul, Nat.one_mul]; omega), hf, e, ih i j (by simpa using hi) hj]
      rfl
theorem flat_length {α : Type} (f : α → List Value) (sz : Nat) (hf : ∀ x, (f x).length = sz) (l : List α) : (l.flatMap f).length = l.length * sz := by
  induction l with
  | nil => simp
  | cons x l ih => rw [List.flatMap_cons, List.length_append, hf, ih, List.length_cons, Nat.add_mul, Nat.one_mul, Nat.add_comm]

/-- An append to a row of the call's own, whatever its elements. -/
theorem wpList_append_sl {w : World} {ops : Array Oper} {rest : List Oper} {o : Oper} {a : Act} {Q : Exit → Act → World → Prop} (t e : TypeId) (sz bytes : Nat) (z : Value) (ht : Try.prog.underlying t = some (.slice e))
    (hinfo : (Try.prog.info? e).map (fun i => (i.zero, i.size, i.bytes)) = some (some z, sz, bytes)) (hzs : z.cells.size = sz) (hsz : 0 < sz) (hgd : o.guard = none) (s x : Operand)
    (ho : o.op = .call { callee := .builtin .append, args := #[s, x], argTypes := #[t, t] })
    (base : Nat) (v : Value) (n : Nat) (cells : List Value) (hs : a.eval s = v) (hown : w.ownsRow base e sz v n cells) (u : Value) (m : Nat) (news : List Value) (hx : a.eval x = u) (hu : Sl sz w u m news) (h1c : ∀ u ∈ news, u.oneCell' = true)
    (hb : (n + m) * bytes ≤ 140737488355328) (hl : n + m ≤ maxLen) (hbase : base ≤ w.heap.size)
    (h : ∀ v' w', w'.ownsRow base e sz v' (n + m) (cells ++ news) → w.grownBy w' v.ownBlock → (v'.ownBlock = v.ownBlock ∨ v'.ownBlock = some w.heap.size) → wpList Try.prog ops Q rest (a.put o.dst v') w') :
    wpList Try.prog ops Q (o :: rest) a w := by
  obtain ⟨i0, hi, hz0, hz1, hz2⟩ := info_parts hinfo
  obtain ⟨A, c, rfl, _, _⟩ := hu.form
  cases A with
  | none =>
    obtain ⟨rfl, rfl, rfl⟩ := hu.none_nil
    refine wpList_append_own_none hgd s x t ho base e i0 sz ht hi v n cells hs hown hx ?_
    exact h v w (by simpa using hown) ⟨rfl, rfl, rfl, Nat.le_refl _, fun _ _ _ => rfl⟩ (Or.inl rfl)
  | some A =>
    refine wpList_append_own_at _ hgd s x t ho base e i0 z sz bytes ht hi hz0 hz1 hz2 hzs hsz v n cells hs hown A m c news hx hu.1 hu.cells_at h1c hl hb hbase ?_
    intro v' w' h1 h2 _ h4
    exact h v' w' h1 h2 h4

end Go.Proofs.Ytkaphlpohhaacaa

/-
  What RightOp, RightStamp and rightReplica answer is proved here, of the program and of the reference, for all names and stamps.
-/
namespace Go.Proofs.Ytkaphlpohhaacaa
open Go.RowKit
set_option linter.unusedVariables false
set_option linter.unusedSimpArgs false
set_option maxRecDepth 100000

/-- A name, a stamp as values (two numbers). -/
abbrev idv (r n : Int) : Value := .agg #[.int .i64 r, .int .i64 n]
abbrev ido (T : Nat) (r n : Int) : Obj := .cells #[.int .i64 r, .int .i64 n] T
/-- A replica; an op's name; a stamp that is right. -/
def rr (r : Int) : Bool := decide (0 ≤ r ∧ r < 16)
def ro (r n : Int) : Bool := decide (0 ≤ r ∧ r < 16 ∧ 1 ≤ n ∧ n ≤ 1048576)
def rs (t r : Int) : Bool := decide (0 ≤ r ∧ r < 16 ∧ 1 ≤ t ∧ t ≤ 1099511627776)

theorem retb {a b : Bool} (h : a = true ↔ b = true) : Ending.returned (.bool a) = .returned (.bool b) := by rw [Bool.eq_iff_iff.2 h]

theorem rr_any (r : Int) (w : World) : Calls Try.prog 48 #[.int .i64 r] w fun e w' => e = .returned (.bool (rr r)) ∧ w = w' := by
  obtain ⟨b, hb⟩ : ∃ b, rr r = b := ⟨_, rfl⟩
  rw [hb]
  have HB := hid hb
  clear hb
  cases h0 : decide (0 ≤ r)
  all_goals
    go_enter Try.func48, Try.ntmps48
    go_wp2
    go_ret
    refine ⟨retb ?_, rfl⟩
    rw [← HB.out]
    simp at h0
    simp [rr]
    try omega

theorem ro_any (r n : Int) (w : World) : Calls Try.prog 42 #[idv r n] w fun e w' => e = .returned (.bool (ro r n)) ∧ w' = w.alloc (ido 24 r n) := by
  obtain ⟨b, hb⟩ : ∃ b, ro r n = b := ⟨_, rfl⟩
  rw [hb]
  have HB := hid hb
  clear hb
  cases hr : rr r
  all_goals cases h0 : decide (1 ≤ n)
  all_goals
    have HR := hid hr
    go_enter Try.func42, Try.ntmps42
    go_wp2_with (go_at_call 48; refine (rr_any r _).mono ?_; rintro e w' ⟨rfl, rfl⟩; rw [hr])
    go_ret
    refine ⟨retb ?_, rfl⟩
    rw [← HB.out]
    have := HR.out
    simp [rr] at this h0
    simp [ro]
    try omega

theorem xro_any (r n : Int) (w : World) : Calls Try.prog 34 #[idv r n] w fun e w' => e = .returned (.bool (ro r n)) ∧ w' = w.alloc (ido 24 r n) := by
  obtain ⟨b, hb⟩ : ∃ b, ro r n = b := ⟨_, rfl⟩
  rw [hb]
  have HB := hid hb
  clear hb
  cases h0 : decide (0 ≤ r)
  all_goals cases h1 : decide (r ≤ 15)
  all_goals cases h2 : decide (1 ≤ n)
  all_goals
    go_enter Try.func34, Try.ntmps34
    go_wp2
    go_ret
    refine ⟨retb ?_, rfl⟩
    rw [← HB.out]
    simp at h0 h1 h2
    simp [ro]
    try omega

end Go.Proofs.Ytkaphlpohhaacaa
