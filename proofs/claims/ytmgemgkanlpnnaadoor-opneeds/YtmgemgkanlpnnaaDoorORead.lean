/-
  What a reader's method name reads is proved here, for every cursor.
-/
import Derived.Test.YtmgemgkanlpnnaaDoorOWrite
import Derived.Test.YtmgemgkanlpnnaaDoorCur
namespace Go.Proofs.YtmgemgkanlpnnaaDoor
open Go.RowKit
set_option linter.unusedVariables false
set_option maxRecDepth 100000

/-- A reader: a pointer to a cursor. -/
abbrev rdv (c : Nat) : Value := .agg #[.pointer (some ⟨c, 0, none⟩)]
abbrev rdo (c : Nat) : Obj := .cells #[.pointer (some ⟨c, 0, none⟩)] 56

/-- A store that meets no byte keeps a cursor. -/
theorem Bs.set {w : World} {u : Value} {xs : List Int} (h : Bs w u xs) {b i : Nat} {z : Value} (hz : w.cell? ⟨b, i, none⟩ = some z) (hn : ∀ x, z ≠ .int .u8 x) (v : Value) : Bs (w.setCell ⟨b, i, none⟩ v) u xs := by
  obtain ⟨a, c, h1, h2, h3, h4, h5, h6⟩ := h
  refine ⟨a, c, h1, h2, h3, h4, fun j hj => ?_, h6⟩
  obtain ⟨b', off, e1, e2⟩ := h5 j hj
  refine ⟨b', off, e1, ?_⟩
  by_cases hb : b' = b ∧ off + j = i
  · obtain ⟨rfl, hoff⟩ := hb
    rw [hoff] at e2
    rw [hz] at e2
    exact absurd (Option.some.inj e2) (hn _)
  · have hne : (⟨b, i, none⟩ : Addr) ≠ ⟨b', off + j, none⟩ := by
      intro e
      simp only [Addr.mk.injEq, and_true] at e
      exact hb ⟨e.1.symm, e.2.symm⟩
    rw [World.cell?_setCell_other _ _ _ _ hne]
    exact e2
theorem Cur.set {T : Nat} {w : World} {c : Nat} {xs : List Int} {lost : Bool} (h : Cur T w c xs lost) {b i : Nat} {z : Value} (hbc : b ≠ c) (hz : w.cell? ⟨b, i, none⟩ = some z) (hn : ∀ x, z ≠ .int .u8 x) (v : Value) : Cur T (w.setCell ⟨b, i, none⟩ v) c xs lost := by
  obtain ⟨u, h1, h2⟩ := h
  exact ⟨u, by rw [heap_setCell_other w ⟨b, i, none⟩ c v (fun e => hbc e.symm)]; exact h1, h2.set hz hn v⟩


/-- A cursor that is elsewhere while another block changes. -/
theorem Fr.rows {S : Nat → Prop} {w w' : World} (h : Fr S w w') {k : Nat} {c : Array Value} {T : TypeId} {f : Nat × Nat} (hk : w.heap[k]? = some (.cells c T f)) (hs : ¬ S k) : w'.heap[k]? = some (.cells c T f) := by
  rw [h.block k (Array.getElem?_eq_some_iff.1 hk).1 hs]; exact hk
theorem Fr.grown {w w' : World} {b : Nat} (h : w.grownBy w' (some b)) : Fr (fun k => k = b) w w' := Fr.of_grown h (fun k e => by simpa using e.symm)
theorem grown_row {w w' : World} {b k : Nat} {c : Array Value} {T : TypeId} {f : Nat × Nat} (h : w.grownBy w' (some b)) (hk : w.heap[k]? = some (.cells c T f)) (hs : k ≠ b) : w'.heap[k]? = some (.cells c T f) := (Fr.grown h).rows hk hs

/-- A store into a row. -/
theorem set_row {w : World} {b i : Nat} {cs : Array Value} {T : TypeId} (h : w.heap[b]? = some (.cells cs T (0, 0))) (v : Value) : (w.setCell ⟨b, i, none⟩ v).heap[b]? = some (.cells (cs.setIfInBounds i v) T (0, 0)) := heap_setCell_same w b i cs T v h
theorem Cur.set_row {U : Nat} {w : World} {c : Nat} {xs : List Int} {lost : Bool} (h : Cur U w c xs lost) {b i : Nat} {cs : Array Value} {T : TypeId} (hr : w.heap[b]? = some (.cells cs T (0, 0))) (hbc : b ≠ c) (hi : ∃ z, cs[i]? = some z ∧ ∀ x, z ≠ .int .u8 x) (v : Value) : Cur U (w.setCell ⟨b, i, none⟩ v) c xs lost := by
  obtain ⟨z, h1, h2⟩ := hi
  exact h.set hbc (by rw [cell_of_row w b i _ _ _ hr]; exact h1) h2 v
theorem Fr.set {S : Nat → Prop} {a w : World} (h : Fr S a w) {b : Nat} (i : Nat) (v : Value) (hb : a.heap.size ≤ b ∨ S b) : Fr S a (w.setCell ⟨b, i, none⟩ v) :=
  h.trans (Fr.of_set w b i v) (fun k hk e => by subst e; rcases hb with hb | hb; omega; exact hb)

/-- What a cursor's state is told by. -/
abbrev Cu (w : World) (c : Nat) (s : St) : Prop := Cur 94 w c s.1 s.2
theorem num_s (c : Nat) (s : St) (most : Int) (w : World) (h : Cu w c s) :
    Calls Tryd.prog 28 #[.pointer (some ⟨c, 0, none⟩), .int .i64 most] w fun e w' =>
      e = .returned (.int .i64 (rn most s).1) ∧ Cu w' c (rn most s).2 ∧ w.grownBy w' (some c) := num_any c s.1 s.2 most w h
theorem text_s (c : Nat) (s : St) (most : Int) (w : World) (h : Cu w c s) :
    Calls Tryd.prog 38 #[.pointer (some ⟨c, 0, none⟩), .int .i64 most] w fun e w' =>
      e = .returned (.string (rt most s).1) ∧ Cu w' c (rt most s).2 ∧ w.grownBy w' (some c) := text_any c s.1 s.2 most w h

set_option maxHeartbeats 1000000 in
theorem name_r (c : Nat) (s : St) (w : World) (h : Cu w c s) :
    Calls Tryd.prog 29 #[rdv c] w fun e w' =>
      e = .returned (idv (rn 15 s).1 (rn 1048576 (rn 15 s).2).1) ∧ Cu w' c (rn 1048576 (rn 15 s).2).2 ∧ Fr (fun k => k = c) w w' := by
  have hlt := h.lt
  have HA := hid (bt (ba w (rdo c)) (ba _ (ido 25 0 0)))
  have HC := hid (h.below HA.out)
  have r1 := heap_alloc2_old w (rdo c) (ido 25 0 0)
  have r2 := heap_alloc2_new w (rdo c) (ido 25 0 0)
  have R1 := hid r1
  have R2 := hid r2
  obtain ⟨p1, hp1⟩ : ∃ p1, rn 15 s = p1 := ⟨_, rfl⟩
  have N1 := hid (fun W => num_s c s 15 W)
  rw [hp1] at N1 ⊢
  obtain ⟨p2, hp2⟩ : ∃ p2, rn 1048576 p1.2 = p2 := ⟨_, rfl⟩
  have N2 := hid (fun W => num_s c p1.2 1048576 W)
  rw [hp2] at N2 ⊢
  clear h r1 r2 hp1 hp2
  go_enter Tryd.func29, Tryd.ntmps29
  go_wp2_with fail
  refine (N1.out _ HC.out).mono ?_
  rintro e w1 ⟨rfl, hc1, hg1⟩
  have H1 := hid (grown_row hg1 R1.out (by omega))
  have H2 := hid (grown_row hg1 R2.out (by omega))
  have HC1 := hid hc1
  have HG1 := hid hg1
  have q1 := cell_of_row w1 w.heap.size 0 _ _ _ H1.out
  simp at q1
  clear hc1 hg1
  go_wp2_with fail
  refine (N2.out _ HC1.out).mono ?_
  rintro e w2 ⟨rfl, hc2, hg2⟩
  have H3 := hid (grown_row hg2 H2.out (by omega))
  have HC2 := hid hc2
  have HG2 := hid hg2
  have q2 : w2.cell? ⟨w.heap.size + 1, 0, none⟩ = some (.int .i64 0) := cell_of_row w2 (w.heap.size + 1) 0 _ _ _ H3.out
  have q3 : w2.cell? ⟨w.heap.size + 1, 1, none⟩ = some (.int .i64 0) := cell_of_row w2 (w.heap.size + 1) 1 _ _ _ H3.out
  have f2 := frozen_of_row w2 (w.heap.size + 1) 0 _ _ H3.out
  have f3 := frozen_of_row w2 (w.heap.size + 1) 1 _ _ H3.out
  clear hc2 hg2 q1
  go_wp2
  have H4 := set_row (i := 0) H3.out (.int .i64 p1.1)
  have H5 := set_row (i := 1) H4 (.int .i64 p2.1)
  refine bodyPost_ret (results_cell_row rfl _ _ (w.heap.size + 1) 25 #[.int .i64 p1.1, .int .i64 p2.1] (0, 0) _ rfl H5 Tryd.underlying25 rfl (by kernel_rfl)) rfl ?_
  refine ⟨rfl, ?_, ?_⟩
  · exact (HC2.out.set_row H3.out (by omega) ⟨_, rfl, fun x => by simp⟩ _).set_row H4 (by omega) ⟨_, rfl, fun x => by simp⟩ _
  · have h0 : Fr (fun k => k = c) w w2 := ((Fr.of_below HA.out).trans (Fr.grown HG1.out) (fun _ _ h => h)).trans (Fr.grown HG2.out) (fun _ _ h => h)
    exact (h0.set 0 _ (.inl (by omega))).set 1 _ (.inl (by omega))

end Go.Proofs.YtmgemgkanlpnnaaDoor
