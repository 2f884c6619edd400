/-
  What bytes.Clone returns is proved here, for all slices that read as bytes, of at most 2^47 of them: a copy in new memory.
-/
import Derived.Test.YtmgemgkanlpnnaaDoorRows
import Derived.Test.YtmgemgkanlpnnaaDoorCells
namespace Go.Proofs.YtmgemgkanlpnnaaDoor
open Go.RowKit
set_option linter.unusedVariables false
set_option maxRecDepth 100000

set_option maxHeartbeats 1000000 in
theorem clone_fresh (v : Value) (xs : List Int) (w : World) (h : Bs w v xs) (hn : xs.length ≤ 140737488355328) :
    Calls Tryd.prog 54 #[v] w fun e w' => ∃ v', e = .returned v' ∧ Bs w' v' xs ∧ Below w.heap.size w w' ∧ Fresh w.heap.size v' := by
  have h' := h
  obtain ⟨a, c, rfl, _⟩ := h
  cases a with
  | none =>
    have hx : xs.length = 0 := by
      obtain ⟨a', c', h1, h2, _, h4, _⟩ := h'
      simp only [Value.slice.injEq] at h1
      have := h4 h1.1.symm
      omega
    have e1 : xs = [] := List.eq_nil_of_length_eq_zero hx
    subst e1
    clear h'
    have q : ∀ (w : World) (n c : Nat), (binOp .eql 22 (.slice none n c) (.slice none 0 0)).run Tryd.prog w = .ok (.bool true) w := fun _ _ _ => rfl
    go_enter Tryd.func54, Tryd.ntmps54
    go_wp2
    go_ret
    exact ⟨_, rfl, Bs.nil _, Below.refl _ _, fun x n c e => by cases e⟩
  | some A =>
    obtain ⟨i0, hi, hz0, hz1, hz2⟩ := info_parts info_u8
    have q : ∀ w : World, (binOp .eql 22 (.slice (some A) xs.length c) (.slice none 0 0)).run Tryd.prog w = .ok (.bool false) w := fun _ => rfl
    have hcell := cells_at h'
    have HC := hid hcell
    have HB := hid h'
    clear hcell h'
    have hown0 : (w.alloc (.cells #[] 5)).ownsRow w.heap.size 5 1 (.slice (some ⟨w.heap.size, 0, none⟩) 0 0) 0 [] := World.ownsRow_made w #[] 0 (Nat.le_refl _) (Nat.zero_le _) rfl
    go_enter Tryd.func54, Tryd.ntmps54
    go_wp2_with (at_builtin; refine wpList_append_own _ rfl (.tmp 5) (.tmp 6) 22 rfl w.heap.size 5 i0 (.int .u8 0) 1 1 Tryd.underlying22 hi hz0 hz1 hz2 rfl (by decide) _ _ _ rfl hown0 A xs.length c (cs xs) rfl ?c0 ?c1 (ints_oneCell .u8 xs) ?c3 ?c4 ?c5 ?_)
    case c0 => simp
    case c1 =>
      intro j u hu
      have h1 := HC.out j u hu
      have hb := World.block_lt_of_cell? _ _ h1
      rw [((Below.refl w.heap.size w).alloc (Nat.le_refl _) _).cell hb]
      exact h1
    case c3 => unfold maxLen; omega
    case c4 => omega
    case c5 => simp
    intro v' w1 hown hgrow _
    have hb : Below w.heap.size w w1 := ((Below.refl _ w).alloc (Nat.le_refl _) (.cells #[] 5)).grown hgrow (by simp) (by intro k hk; simp [Value.ownBlock] at hk; omega)
    have hB : Bs w1 v' xs := Bs.of_own (by simpa using hown) (Bs.range HB.out)
    have hF : Fresh w.heap.size v' := Fresh.of_own hown
    clear hown hgrow hown0
    go_wp2
    go_ret
    exact ⟨_, rfl, hB, hb, hF⟩

theorem clone_any (v : Value) (xs : List Int) (w : World) (h : Bs w v xs) (hn : xs.length ≤ 140737488355328) :
    Calls Tryd.prog 54 #[v] w fun e w' => ∃ v', e = .returned v' ∧ Bs w' v' xs ∧ Below w.heap.size w w' :=
  (clone_fresh v xs w h hn).mono fun _ _ ⟨v', he, hB, hb, _⟩ => ⟨v', he, hB, hb⟩

end Go.Proofs.YtmgemgkanlpnnaaDoor
