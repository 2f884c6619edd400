/-
  What bytes.Clone and num.At return is proved here, for all slices that read as bytes, of at most 2^47 of them: a copy in new memory, a cursor over it.
-/
import Derived.Test.YthlieokodljhkaaRows
import Derived.Test.YthlieokodljhkaaMem
namespace Go.Proofs.Ythlieokodljhkaa
open Go.RowKit
set_option linter.unusedVariables false

theorem info_u8 : (Try.prog.info? 5).map (fun i => (i.zero, i.size, i.bytes)) = some (some (.int .u8 0), 1, 1) := by kernel_rfl

theorem cells_at {w : World} {A : Addr} {n c : Nat} {xs : List Int} (h : Bs w (.slice (some A) n c) xs) : ∀ j u, (cs xs)[j]? = some u → w.cell? (A.add j) = some u := by
  intro j u hu
  obtain ⟨a', c', h1, _, _, _, h5, _⟩ := h
  simp only [Value.slice.injEq] at h1
  obtain ⟨rfl, rfl, rfl⟩ := h1
  have hj : j < xs.length := by have := (List.getElem?_eq_some_iff.1 hu).1; simpa using this
  obtain ⟨b, off, e1, e2⟩ := h5 j hj
  simp only [Option.some.injEq] at e1
  subst e1
  have e3 : (⟨b, off, none⟩ : Addr).add j = ⟨b, off + j, none⟩ := by
    unfold Addr.add; split <;> simp_all
  rw [e3, e2]
  simp [hj] at hu
  simp [hj, hu]

/-- A slice that lies in a block from B on. -/
def Fresh (B : Nat) (v : Value) : Prop := ∀ x n c, v = .slice (some x) n c → B ≤ x.block

theorem Fresh.of_own {w : World} {base e : Nat} {v : Value} {n : Nat} {xs : List Value} (h : w.ownsRow base e 1 v n xs) : Fresh base v := by
  intro x m c hv
  exact (h.lt x.block (by rw [hv]; rfl)).1

set_option maxHeartbeats 1000000 in
theorem clone_fresh (v : Value) (xs : List Int) (w : World) (h : Bs w v xs) (hn : xs.length ≤ 140737488355328) :
    Calls Try.prog 28 #[v] w fun e w' => ∃ v', e = .returned v' ∧ Bs w' v' xs ∧ Below w.heap.size w w' ∧ Fresh w.heap.size v' := by
  have h' := h
  obtain ⟨a, c, rfl, _⟩ := h
  cases a with
  | none =>
    have hx : xs.length = 0 := by
      obtain ⟨a', c', h1, h2, _, h4, _⟩ := h'
      simp only [Value.slice.injEq] at h1
      have := h4 h1.1.symm
      omega
    have e1 : xs = [] := List.eq_nil_of_length_eq_zero hx
    subst e1
    clear h'
    have q : ∀ (w : World) (n c : Nat), (binOp .eql 23 (.slice none n c) (.slice none 0 0)).run Try.prog w = .ok (.bool true) w := fun _ _ _ => rfl
    go_enter Try.func28, Try.ntmps28
    go_wp2
    go_ret
    exact ⟨_, rfl, Bs.nil _, Below.refl _ _, fun x n c e => by cases e⟩
  | some A =>
    obtain ⟨i0, hi, hz0, hz1, hz2⟩ := info_parts info_u8
    have q : ∀ w : World, (binOp .eql 23 (.slice (some A) xs.length c) (.slice none 0 0)).run Try.prog w = .ok (.bool false) w := fun _ => rfl
    have hcell := cells_at h'
    have HC := hid hcell
    have HB := hid h'
    clear hcell h'
    have hown0 : (w.alloc (.cells #[] 5)).ownsRow w.heap.size 5 1 (.slice (some ⟨w.heap.size, 0, none⟩) 0 0) 0 [] := World.ownsRow_made w #[] 0 (Nat.le_refl _) (Nat.zero_le _) rfl
    go_enter Try.func28, Try.ntmps28
    go_wp2_with (at_builtin; refine wpList_append_own _ rfl (.tmp 5) (.tmp 6) 23 rfl w.heap.size 5 i0 (.int .u8 0) 1 1 Try.underlying23 hi hz0 hz1 hz2 rfl (by decide) _ _ _ rfl hown0 A xs.length c (cs xs) rfl ?c0 ?c1 (ints_oneCell .u8 xs) ?c3 ?c4 ?c5 ?_)
    case c0 => simp
    case c1 =>
      intro j u hu
      have h1 := HC.out j u hu
      have hb := World.block_lt_of_cell? _ _ h1
      rw [((Below.refl w.heap.size w).alloc (Nat.le_refl _) _).cell hb]
      exact h1
    case c3 => unfold maxLen; omega
    case c4 => omega
    case c5 => simp
    intro v' w1 hown hgrow _
    have hb : Below w.heap.size w w1 := ((Below.refl _ w).alloc (Nat.le_refl _) (.cells #[] 5)).grown hgrow (by simp) (by intro k hk; simp [Value.ownBlock] at hk; omega)
    have hB : Bs w1 v' xs := Bs.of_own (by simpa using hown) (Bs.range HB.out)
    have hF : Fresh w.heap.size v' := Fresh.of_own hown
    clear hown hgrow hown0
    go_wp2
    go_ret
    exact ⟨_, rfl, hB, hb, hF⟩

theorem clone_any (v : Value) (xs : List Int) (w : World) (h : Bs w v xs) (hn : xs.length ≤ 140737488355328) :
    Calls Try.prog 28 #[v] w fun e w' => ∃ v', e = .returned v' ∧ Bs w' v' xs ∧ Below w.heap.size w w' :=
  (clone_fresh v xs w h hn).mono fun _ _ ⟨v', he, hB, hb, _⟩ => ⟨v', he, hB, hb⟩

set_option maxHeartbeats 400000 in
theorem at_fresh (v : Value) (xs : List Int) (w : World) (h : Bs w v xs) (hn : xs.length ≤ 140737488355328) :
    Calls Try.prog 16 #[v] w fun e w' => ∃ b, e = .returned (.pointer (some ⟨b, 0, none⟩)) ∧ w.heap.size ≤ b ∧ Below w.heap.size w w' ∧
      ∃ v', w'.heap[b]? = some (.cells #[v', .bool false] 47 (0, 0)) ∧ Bs w' v' xs ∧ Fresh w.heap.size v' := by
  go_enter Try.func16, Try.ntmps16
  go_wp2_with fail
  refine (clone_fresh v xs _ h hn).mono ?_
  rintro e w1 ⟨v', rfl, hB, hb, hF⟩
  have hB' := hB
  obtain ⟨a, c, rfl, _⟩ := hB
  go_wp2
  go_ret
  have ha : Below w1.heap.size w1 (w1.alloc (.cells #[.slice a xs.length c, .bool false] 47)) := (Below.refl _ _).alloc (Nat.le_refl _) _
  exact ⟨w1.heap.size, rfl, hb.size, hb.trans (ha.mono hb.size), _, heap_alloc_new w1 _, hB'.below ha, hF⟩

theorem at_any (v : Value) (xs : List Int) (w : World) (h : Bs w v xs) (hn : xs.length ≤ 140737488355328) :
    Calls Try.prog 16 #[v] w fun e w' => ∃ b, e = .returned (.pointer (some ⟨b, 0, none⟩)) ∧ w.heap.size ≤ b ∧ Cur 47 w' b xs false ∧ Below w.heap.size w w' :=
  (at_fresh v xs w h hn).mono fun _ _ ⟨b, he, h1, h2, v', h3, h4, _⟩ => ⟨b, he, h1, ⟨v', h3, h4⟩, h2⟩

end Go.Proofs.Ythlieokodljhkaa
