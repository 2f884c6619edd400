/-
  Parts of the proof, one behind the other; what each proves stands at its head.
-/
import Derived.Test.YtaojeanoojnknaaDoorPart4
import Derived.Test.YtaojeanoojnknaaDoorPart17
import Derived.Test.YtaojeanoojnknaaDoorPart11
import Derived.Test.YtaojeanoojnknaaDoorPart14
import Derived.Test.YtaojeanoojnknaaDoorPart21
import Derived.Test.YtaojeanoojnknaaDoorPart10
import Derived.Test.YtaojeanoojnknaaDoorPart19

/-
  That op.Clone hands back the same op, its cuts in new memory, is proved here, for every op.
-/
namespace Go.Proofs.YtaojeanoojnknaaDoor
open Go.RowKit
set_option linter.unusedVariables false
set_option maxRecDepth 100000

theorem strclone_any (s : ByteArray) (w : World) (h : s.size ≤ 1099511627776) : Calls Tryd.prog 64 #[.string s] w fun e w' => e = .returned (.string s) ∧ Below w.heap.size w w' := by
  have HC := hid (Tryd.stringslite_Clone s w (by omega))
  go_enter Tryd.func64, Tryd.ntmps64
  go_wp2_with fail
  refine HC.out.mono ?_
  rintro e w1 ⟨rfl, b1⟩
  have B1 := hid b1
  clear b1
  go_wp2
  go_ret
  exact ⟨rfl, B1.out⟩

theorem Ob.other {w : World} {r b i : Nat} {x : Value} {o : Opn} {v : Value} (h : Ob w r o v) (hne : r ≠ b) : Ob (w.setCell ⟨b, i, none⟩ x) r o v := by
  unfold Ob; rw [heap_setCell_other w ⟨b, i, none⟩ r x hne]; exact h

theorem Ob.grown {w w' : World} {b : Nat} {o : Opn} {v : Value} {row : Option Nat} (h : Ob w b o v) (g : w.grownBy w' row) (hne : row ≠ some b) : Ob w' b o v := by
  unfold Ob; rw [g.block b h.lt (fun e => hne (by rw [e]))]; exact h
theorem own_slice {w : World} {B e sz n : Nat} {v : Value} {xs : List Value} (h : w.ownsRow B e sz v n xs) : ∃ a c, v = .slice a n c := by
  obtain ⟨a, c, h, _⟩ := (Sl.of_own h).form
  exact ⟨a, c, h⟩

set_option maxHeartbeats 4000000 in
theorem clone_new (A : Value) (o : Opn) (v : Value) (hA : A = opv o v) (w : World) (hC : Cs w v o.cuts) (hfin : o.fine) (hl : o.cuts.length ≤ 100000) :
    Calls Tryd.prog 45 #[A] w fun e w' => ∃ u, e = .returned (opv o u) ∧ Cs w' u o.cuts ∧ Below w.heap.size w w' ∧ ∀ k, u.ownBlock = some k → w.heap.size ≤ k := by
  have HAA := hid hA
  have HC := hid hC
  have HF := hid hfin
  have HLN := hid hl
  clear hA hC hfin hl
  go_enter Tryd.func45, Tryd.ntmps45
  go_wp2_with (refine wpList_box_op rfl _ rfl A rfl o v HAA.out ?_; intro w1 hob hb1 hlt1; have HO1 := hid hob; have B1 := hid hb1; have HLT := hid hlt1; have HA2 := hid (ba w1 (.cells (zopc 0) 43)); have HO2 := hid (HO1.out.below HA2.out); have HZ2 := hid (Ob.zop w1 0); have B2 := hid (bt B1.out HA2.out); have c8 := HO2.out.cells.c8; clear hob hb1 hlt1)
  refine (strclone_any o.key _ HF.out.1).mono ?_
  rintro e w3 ⟨rfl, b3⟩
  obtain ⟨W2, hW2⟩ : ∃ W2, w1.alloc (.cells (zopc 0) 43) = W2 := ⟨_, rfl⟩
  have HZ2' : Hid (Ob (w1.alloc (.cells (zopc 0) 43)) w1.heap.size Opn.zero (.slice none 0 0)) := hid (heap_alloc_new w1 _)
  obtain ⟨r, hr⟩ : ∃ r, w1.heap.size = r := ⟨_, rfl⟩
  rw [hW2] at HO2 B2 HZ2' b3
  rw [hr] at HZ2' HLT ⊢
  have hrb : r ≠ w.heap.size := by have := HLT.out; omega
  clear c8 HZ2 HA2 HO1 B1 hr hW2
  have HO3 := hid (HO2.out.below b3)
  have HZ3 := hid (HZ2'.out.below b3)
  have B3 := hid (bt B2.out b3)
  have f8 := HO3.out.frozen 8
  have c8 := HO3.out.cells.c8
  have HO4 : Hid (Ob (w3.setCell ⟨w.heap.size, 8, none⟩ (.string o.key)) w.heap.size o v) := hid (set_row (i := 8) HO3.out (.string o.key))
  have HZ4 : Hid (Ob (w3.setCell ⟨w.heap.size, 8, none⟩ (.string o.key)) r Opn.zero (.slice none 0 0)) := hid (HZ3.out.other hrb)
  have B4 := hid (B3.out.setCell (p := ⟨w.heap.size, 8, none⟩) (Nat.le_refl _) (.string o.key))
  have c17 := HO4.out.cells.c17
  clear b3 HO2 HZ2' B2
  go_wp2_with fail
  refine (strclone_any o.text _ HF.out.2).mono ?_
  rintro e w5 ⟨rfl, b5⟩
  have HO5 := hid (HO4.out.below b5)
  have HZ5 := hid (HZ4.out.below b5)
  have B5 := hid (bt B4.out b5)
  have f17 := HO5.out.frozen 17
  clear c17 c8 f8 HO3 HZ3 HO4 HZ4 B3 B4 b5
  have c17 := HO5.out.cells.c17
  have HO6 : Hid (Ob (w5.setCell ⟨w.heap.size, 17, none⟩ (.string o.text)) w.heap.size o v) := hid (set_row (i := 17) HO5.out (.string o.text))
  have HZ6 : Hid (Ob (w5.setCell ⟨w.heap.size, 17, none⟩ (.string o.text)) r Opn.zero (.slice none 0 0)) := hid (HZ5.out.other hrb)
  have B6 := hid (B5.out.setCell (p := ⟨w.heap.size, 17, none⟩) (Nat.le_refl _) (.string o.text))
  have c18 := HO6.out.cells.c18
  have HC6 := hid (HC.out.below B6.out)
  have HOW : Hid ((w5.setCell ⟨w.heap.size, 17, none⟩ (.string o.text)).ownsRow w.heap.size 86 4 (.slice none 0 0) 0 []) := hid ⟨rfl, .inl ⟨rfl, rfl⟩⟩
  have H1C : Hid (∀ x ∈ o.cuts.flatMap cutc, x.oneCell' = true) := hid (fun x hx => by
    obtain ⟨c, _, hx⟩ := List.mem_flatMap.1 hx
    simp at hx
    rcases hx with rfl | rfl | rfl | rfl <;> rfl)
  have HLL : Hid ((0 + o.cuts.length) * 32 ≤ 140737488355328 ∧ 0 + o.cuts.length ≤ maxLen) := hid (by have := HLN.out; unfold maxLen; omega)
  have HNB : Hid ((Value.slice none 0 0).ownBlock ≠ some w.heap.size ∧ (Value.slice none 0 0).ownBlock ≠ some r) := hid (by simp [Value.ownBlock])
  have HBK : Hid (∀ k, (Value.slice none 0 0).ownBlock = some k → w.heap.size ≤ k) := hid (by simp [Value.ownBlock])
  go_wp2_with (first | (refine wpList_load_op rfl (.tmp 1) rfl w.heap.size rfl o _ HO8.out ?_) | (refine wpList_store_op rfl (.tmp 2) (.tmp 15) rfl r rfl o _ ⟨_,_,_,rfl⟩ rfl Opn.zero (.slice none 0 0) HZ8.out ?_) | (at_builtin; refine wpList_append_sl 41 86 4 32 _ Tryd.underlying41 info_cut rfl (by decide) rfl _ _ rfl w.heap.size _ _ [] rfl HOW.out v _ (o.cuts.flatMap cutc) rfl HC6.out H1C.out HLL.out.1 HLL.out.2 B6.out.size ?_; intro v' w7 hown7 hgrow7 hat7; rw [Nat.zero_add,List.nil_append] at hown7; have HO7 := hid (HO6.out.grown hgrow7 HNB.out.1); have HZ7 := hid (HZ6.out.grown hgrow7 HNB.out.2); have B7 := hid (Below.grown B6.out hgrow7 B6.out.size HBK.out); have c7 := HO7.out.cells.c18; have f7 := HO7.out.frozen 18; have H7 := hid hown7; have AT7 := hid hat7; obtain ⟨a7,q7,rfl⟩ := own_slice hown7; have HO8 : Hid (Ob (w7.setCell ⟨w.heap.size,18,none⟩ (.slice a7 o.cuts.length q7)) w.heap.size o (.slice a7 o.cuts.length q7)) := hid (set_row (i := 18) HO7.out (.slice a7 o.cuts.length q7)); have HZ8 : Hid (Ob (w7.setCell ⟨w.heap.size,18,none⟩ (.slice a7 o.cuts.length q7)) r Opn.zero (.slice none 0 0)) := hid (HZ7.out.other hrb); clear hown7 hgrow7 hat7 c18))
  have hne : ∀ k, (Value.slice a7 o.cuts.length q7).ownBlock = some k → k ≠ w.heap.size ∧ k ≠ r := by
    intro k hk
    rcases H7.out.2 with ⟨h, _⟩ | ⟨g, cap, cur, hv, _, hg, _⟩
    · rw [h] at hk; cases hk
    · rw [hv] at hk
      simp [Value.ownBlock] at hk
      subst hk
      have h1 := HO7.out
      have h2 := HZ7.out
      refine ⟨fun e => ?_, fun e => ?_⟩
      · rw [e] at hg; unfold Ob at h1; rw [hg] at h1; simp at h1
      · rw [e] at hg; unfold Ob at h2; rw [hg] at h2; simp at h2
  have hcs : Cs w7 (.slice a7 o.cuts.length q7) o.cuts := Sl.of_own H7.out
  refine bodyPost_ret (results_cell_row rfl _ _ r 43 (opl o (.slice a7 o.cuts.length q7)) (0, 0) _ rfl (setRow_heap _ _ _ _ _ _ HZ8.out) Tryd.underlying43 rfl (by kernel_rfl)) rfl ?_
  refine ⟨_, rfl, Sl.kept hcs (fun k hk _ => ?_), ?_, fun k hk => (H7.out.lt k hk).1⟩
  · rw [setRow_other _ _ _ _ (hne k hk).2, heap_setCell_other _ _ _ _ (hne k hk).1]
  · have b1 := B7.out.setCell (p := ⟨w.heap.size, 18, none⟩) (Nat.le_refl _) (.slice a7 o.cuts.length q7)
    have hr0 := HLT.out
    exact b1.trans ⟨rfl, rfl, rfl, by simp [World.setRow], fun k hk => setRow_other _ _ _ _ (by omega)⟩
end Go.Proofs.YtaojeanoojnknaaDoor

/-
  OpNeeds returns true for every op: its walk.
-/
namespace Go.Proofs.YtaojeanoojnknaaDoor
open Go.RowKit
set_option linter.unusedVariables false
set_option maxRecDepth 100000

end Go.Proofs.YtaojeanoojnknaaDoor
