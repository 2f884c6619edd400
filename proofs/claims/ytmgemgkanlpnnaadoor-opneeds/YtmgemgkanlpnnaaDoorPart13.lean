/-
  Parts of the proof, one behind the other; what each proves stands at its head.
-/
import Derived.Test.YtmgemgkanlpnnaaDoorPart12
import Derived.Test.YtmgemgkanlpnnaaDoorPart6
import Derived.Test.YtmgemgkanlpnnaaDoorPart7
import Derived.Test.YtmgemgkanlpnnaaDoorCards
import Derived.Test.YtmgemgkanlpnnaaDoorTie
import Derived.Test.YtmgemgkanlpnnaaDoorPart11
import Derived.Test.YtmgemgkanlpnnaaDoorPart5
import Derived.Deep.SlicePairs
import Derived.LaidMore
import Derived.Deep.DeepWitnessRowRef
import Derived.SevenTiedAt

/-
  That op.Clone hands back the same op, its cuts in new memory, is proved here, for every op.
-/
namespace Go.Proofs.YtmgemgkanlpnnaaDoor
open Go.RowKit
set_option linter.unusedVariables false
set_option maxRecDepth 100000

theorem strclone_any (s : ByteArray) (w : World) (h : s.size ≤ 1099511627776) : Calls Tryd.prog 53 #[.string s] w fun e w' => e = .returned (.string s) ∧ Below w.heap.size w w' := by
  have HC := hid (Tryd.stringslite_Clone s w (by omega))
  go_enter Tryd.func53, Tryd.ntmps53
  go_wp2_with fail
  refine HC.out.mono ?_
  rintro e w1 ⟨rfl, b1⟩
  have B1 := hid b1
  clear b1
  go_wp2
  go_ret
  exact ⟨rfl, B1.out⟩

theorem Ob.other {w : World} {r b i : Nat} {x : Value} {o : Opn} {v : Value} (h : Ob w r o v) (hne : r ≠ b) : Ob (w.setCell ⟨b, i, none⟩ x) r o v := by
  unfold Ob; rw [heap_setCell_other w ⟨b, i, none⟩ r x hne]; exact h

theorem Ob.grown {w w' : World} {b : Nat} {o : Opn} {v : Value} {row : Option Nat} (h : Ob w b o v) (g : w.grownBy w' row) (hne : row ≠ some b) : Ob w' b o v := by
  unfold Ob; rw [g.block b h.lt (fun e => hne (by rw [e]))]; exact h
theorem own_slice {w : World} {B e sz n : Nat} {v : Value} {xs : List Value} (h : w.ownsRow B e sz v n xs) : ∃ a c, v = .slice a n c := by
  obtain ⟨a, c, h, _⟩ := (Sl.of_own h).form
  exact ⟨a, c, h⟩

set_option maxHeartbeats 4000000 in
theorem clone_box (A : Value) (o : Opn) (v : Value) (hA : A = opv o v) (w : World) (hC : Cs w v o.cuts) (hfin : o.fine) (hl : o.cuts.length ≤ 100000) :
    Calls Tryd.prog 25 #[A] w fun e w' => ∃ u, e = .returned (opv o u) ∧ Cs w' u o.cuts ∧ Below w.heap.size w w' := by
  have HAA := hid hA
  have HC := hid hC
  have HF := hid hfin
  have HLN := hid hl
  clear hA hC hfin hl
  go_enter Tryd.func25, Tryd.ntmps25
  go_wp2_with (refine wpList_box_op rfl _ rfl A rfl o v HAA.out ?_; intro w1 hob hb1 hlt1; have HO1 := hid hob; have B1 := hid hb1; have HLT := hid hlt1; have HA2 := hid (ba w1 (.cells (zopc 0) 30)); have HO2 := hid (HO1.out.below HA2.out); have HZ2 := hid (Ob.zop w1 0); have B2 := hid (bt B1.out HA2.out); have c8 := HO2.out.cells.c8; clear hob hb1 hlt1)
  refine (strclone_any o.key _ HF.out.1).mono ?_
  rintro e w3 ⟨rfl, b3⟩
  obtain ⟨W2, hW2⟩ : ∃ W2, w1.alloc (.cells (zopc 0) 30) = W2 := ⟨_, rfl⟩
  have HZ2' : Hid (Ob (w1.alloc (.cells (zopc 0) 30)) w1.heap.size Opn.zero (.slice none 0 0)) := hid (heap_alloc_new w1 _)
  obtain ⟨r, hr⟩ : ∃ r, w1.heap.size = r := ⟨_, rfl⟩
  rw [hW2] at HO2 B2 HZ2' b3
  rw [hr] at HZ2' HLT ⊢
  have hrb : r ≠ w.heap.size := by have := HLT.out; omega
  clear c8 HZ2 HA2 HO1 B1 hr hW2
  have HO3 := hid (HO2.out.below b3)
  have HZ3 := hid (HZ2'.out.below b3)
  have B3 := hid (bt B2.out b3)
  have f8 := HO3.out.frozen 8
  have c8 := HO3.out.cells.c8
  have HO4 : Hid (Ob (w3.setCell ⟨w.heap.size, 8, none⟩ (.string o.key)) w.heap.size o v) := hid (set_row (i := 8) HO3.out (.string o.key))
  have HZ4 : Hid (Ob (w3.setCell ⟨w.heap.size, 8, none⟩ (.string o.key)) r Opn.zero (.slice none 0 0)) := hid (HZ3.out.other hrb)
  have B4 := hid (B3.out.setCell (p := ⟨w.heap.size, 8, none⟩) (Nat.le_refl _) (.string o.key))
  have c17 := HO4.out.cells.c17
  clear b3 HO2 HZ2' B2
  go_wp2_with fail
  refine (strclone_any o.text _ HF.out.2).mono ?_
  rintro e w5 ⟨rfl, b5⟩
  have HO5 := hid (HO4.out.below b5)
  have HZ5 := hid (HZ4.out.below b5)
  have B5 := hid (bt B4.out b5)
  have f17 := HO5.out.frozen 17
  clear c17 c8 f8 HO3 HZ3 HO4 HZ4 B3 B4 b5
  have c17 := HO5.out.cells.c17
  have HO6 : Hid (Ob (w5.setCell ⟨w.heap.size, 17, none⟩ (.string o.text)) w.heap.size o v) := hid (set_row (i := 17) HO5.out (.string o.text))
  have HZ6 : Hid (Ob (w5.setCell ⟨w.heap.size, 17, none⟩ (.string o.text)) r Opn.zero (.slice none 0 0)) := hid (HZ5.out.other hrb)
  have B6 := hid (B5.out.setCell (p := ⟨w.heap.size, 17, none⟩) (Nat.le_refl _) (.string o.text))
  have c18 := HO6.out.cells.c18
  have HC6 := hid (HC.out.below B6.out)
  have HOW : Hid ((w5.setCell ⟨w.heap.size, 17, none⟩ (.string o.text)).ownsRow w.heap.size 71 4 (.slice none 0 0) 0 []) := hid ⟨rfl, .inl ⟨rfl, rfl⟩⟩
  have H1C : Hid (∀ x ∈ o.cuts.flatMap cutc, x.oneCell' = true) := hid (fun x hx => by
    obtain ⟨c, _, hx⟩ := List.mem_flatMap.1 hx
    simp at hx
    rcases hx with rfl | rfl | rfl | rfl <;> rfl)
  have HLL : Hid ((0 + o.cuts.length) * 32 ≤ 140737488355328 ∧ 0 + o.cuts.length ≤ maxLen) := hid (by have := HLN.out; unfold maxLen; omega)
  have HNB : Hid ((Value.slice none 0 0).ownBlock ≠ some w.heap.size ∧ (Value.slice none 0 0).ownBlock ≠ some r) := hid (by simp [Value.ownBlock])
  have HBK : Hid (∀ k, (Value.slice none 0 0).ownBlock = some k → w.heap.size ≤ k) := hid (by simp [Value.ownBlock])
  go_wp2_with (first | (refine wpList_load_op rfl (.tmp 1) rfl w.heap.size rfl o _ HO8.out ?_) | (refine wpList_store_op rfl (.tmp 2) (.tmp 15) rfl r rfl o _ ⟨_, _, _, rfl⟩ rfl Opn.zero (.slice none 0 0) HZ8.out ?_) | (at_builtin; refine wpList_append_sl 28 71 4 32 _ Tryd.underlying28 info_cut rfl (by decide) rfl _ _ rfl w.heap.size _ _ [] rfl HOW.out v _ (o.cuts.flatMap cutc) rfl HC6.out H1C.out HLL.out.1 HLL.out.2 B6.out.size ?_; intro v' w7 hown7 hgrow7 hat7; rw [Nat.zero_add, List.nil_append] at hown7; have HO7 := hid (HO6.out.grown hgrow7 HNB.out.1); have HZ7 := hid (HZ6.out.grown hgrow7 HNB.out.2); have B7 := hid (Below.grown B6.out hgrow7 B6.out.size HBK.out); have c7 := HO7.out.cells.c18; have f7 := HO7.out.frozen 18; have H7 := hid hown7; have AT7 := hid hat7; obtain ⟨a7, q7, rfl⟩ := own_slice hown7; have HO8 : Hid (Ob (w7.setCell ⟨w.heap.size, 18, none⟩ (.slice a7 o.cuts.length q7)) w.heap.size o (.slice a7 o.cuts.length q7)) := hid (set_row (i := 18) HO7.out (.slice a7 o.cuts.length q7)); have HZ8 : Hid (Ob (w7.setCell ⟨w.heap.size, 18, none⟩ (.slice a7 o.cuts.length q7)) r Opn.zero (.slice none 0 0)) := hid (HZ7.out.other hrb); clear hown7 hgrow7 hat7 c18))
  have hne : ∀ k, (Value.slice a7 o.cuts.length q7).ownBlock = some k → k ≠ w.heap.size ∧ k ≠ r := by
    intro k hk
    rcases H7.out.2 with ⟨h, _⟩ | ⟨g, cap, cur, hv, _, hg, _⟩
    · rw [h] at hk; cases hk
    · rw [hv] at hk
      simp [Value.ownBlock] at hk
      subst hk
      have h1 := HO7.out
      have h2 := HZ7.out
      refine ⟨fun e => ?_, fun e => ?_⟩
      · rw [e] at hg; unfold Ob at h1; rw [hg] at h1; simp at h1
      · rw [e] at hg; unfold Ob at h2; rw [hg] at h2; simp at h2
  have hcs : Cs w7 (.slice a7 o.cuts.length q7) o.cuts := Sl.of_own H7.out
  refine bodyPost_ret (results_cell_row rfl _ _ r 30 (opl o (.slice a7 o.cuts.length q7)) (0, 0) _ rfl (setRow_heap _ _ _ _ _ _ HZ8.out) Tryd.underlying30 rfl (by kernel_rfl)) rfl ?_
  refine ⟨_, rfl, Sl.kept hcs (fun k hk _ => ?_), ?_⟩
  · rw [setRow_other _ _ _ _ (hne k hk).2, heap_setCell_other _ _ _ _ (hne k hk).1]
  · have b1 := B7.out.setCell (p := ⟨w.heap.size, 18, none⟩) (Nat.le_refl _) (.slice a7 o.cuts.length q7)
    have hr0 := HLT.out
    exact b1.trans ⟨rfl, rfl, rfl, by simp [World.setRow], fun k hk => setRow_other _ _ _ _ (by omega)⟩
theorem cloneop_any (o : Opn) (v : Value) (w : World) (hC : Cs w v o.cuts) (hfin : o.fine) (hl : o.cuts.length ≤ 100000) :
    Calls Tryd.prog 25 #[opv o v] w fun e w' => ∃ u, e = .returned (opv o u) ∧ Cs w' u o.cuts ∧ Below w.heap.size w w' := clone_box _ o v rfl w hC hfin hl

end Go.Proofs.YtmgemgkanlpnnaaDoor

/-
  OpNeeds returns true for every op: its walk.
-/
namespace Go.Proofs.YtmgemgkanlpnnaaDoor
open Go.RowKit
set_option linter.unusedVariables false
set_option maxRecDepth 100000

theorem note_mem (xs : List (Int × Int)) : ∀ (l : List (Int × Int)) x, x ∈ xs.foldl noteL l → x ∈ l ∨ (x ∈ xs ∧ x.2 ≠ 0) := by
  induction xs with
  | nil => intro l x h; exact .inl h
  | cons y xs ih =>
    intro l x h
    rcases ih _ x h with h | ⟨h, h0⟩
    · unfold noteL at h
      split at h
      · exact .inl h
      · rename_i hn
        rcases List.mem_append.1 h with h | h
        · exact .inl h
        · obtain rfl := List.mem_singleton.1 h
          exact .inr ⟨List.mem_cons_self, fun e => hn (.inr e)⟩
    · exact .inr ⟨List.mem_cons_of_mem _ h, h0⟩
theorem note_nodup (xs : List (Int × Int)) : ∀ l : List (Int × Int), l.Nodup → (xs.foldl noteL l).Nodup := by
  induction xs with
  | nil => intro l h; exact h
  | cons y xs ih =>
    intro l h
    refine ih _ ?_
    unfold noteL
    split
    · exact h
    · rename_i hn
      rw [List.nodup_append]
      refine ⟨h, by simp, fun a ha b hb e => ?_⟩
      rw [List.mem_singleton] at hb
      subst hb
      subst e
      exact hn (.inl ha)
theorem needs_right {o : Opn} (h : rightO o = true) : ∀ x ∈ needsO o, 0 ≤ x.1 ∧ x.1 < 16 ∧ 1 ≤ x.2 ∧ x.2 ≤ 1048576 := by
  intro x hx
  have hp := (right_parts h).2
  rcases note_mem _ _ x hx with hx | ⟨hx, h0⟩
  · cases hx
  · rcases List.mem_append.1 hx with hx | hx
    · simp only [fiveO, List.mem_cons, List.not_mem_nil, or_false] at hx
      rcases hx with rfl | rfl | rfl | rfl | rfl
      · have g := hp 0 (by decide)
        unfold goodF at g
        split at g
        · have := ro_bounds (r := o.br) (n := o.bm) g; dsimp only at h0 ⊢; omega
        · simp [noughtF] at g; exact absurd g.2 h0
      · have g := hp 1 (by decide)
        unfold goodF at g
        split at g
        · have := rb_bounds (r := o.pr) (n := o.pm) g; dsimp only at h0 ⊢; omega
        · simp [noughtF] at g; exact absurd g.2 h0
      · have g := hp 3 (by decide)
        unfold goodF at g
        split at g
        · have := ro_bounds (r := o.sr) (n := o.sm) g; dsimp only at h0 ⊢; omega
        · simp [noughtF] at g; exact absurd g.2 h0
      · have g := hp 4 (by decide)
        unfold goodF at g
        split at g
        · have := rc_bounds (r := o.lr) (n := o.lm) (i := o.li) g; dsimp only at h0 ⊢; omega
        · simp [noughtF] at g; exact absurd g.2.1 h0
      · have g := hp 5 (by decide)
        unfold goodF at g
        split at g
        · have := rc_bounds (r := o.gr) (n := o.gm) (i := o.gi) g; dsimp only at h0 ⊢; omega
        · simp [noughtF] at g; exact absurd g.2.1 h0
    · obtain ⟨c, hc, rfl⟩ := List.mem_map.1 hx
      have g := hp 7 (by decide)
      unfold goodF at g
      split at g
      · simp only [rightF, Bool.and_eq_true, List.all_eq_true] at g
        have := g.2 c hc
        simp [rct, ro] at this
        dsimp only
        omega
      · have e : o.cuts.length = 0 := of_decide_eq_true g
        rw [List.eq_nil_of_length_eq_zero e] at hc
        cases hc
theorem needs_len (o : Opn) : (needsO o).length ≤ 5 + o.cuts.length := by
  have := fold_len (fiveO o ++ cutsN o.cuts) []
  simp [needsO, fiveO, cutsN] at this ⊢
  omega

set_option maxHeartbeats 8000000 in
theorem needs_walk (A : Value) (o : Opn) (v : Value) (hA : A = opv o v) (w : World) (hC : Cs w v o.cuts) (hL : Lay w) :
    Calls Tryd.prog 7 #[A] w fun e w' => e = .returned (.bool true) ∧ Below w.heap.size w w' := by
  have HAA := hid hA
  have HC := hid hC
  have HL := hid hL
  clear hA hC hL
  go_enter Tryd.func7, Tryd.ntmps7
  go_wp2_with (refine wpList_box_op rfl _ rfl A rfl o v HAA.out ?_; intro w1 hob hb1 hlt1; have HO1 := hid hob; have B1 := hid hb1; clear hob hb1 hlt1)
  refine (alive_any w1 (HL.out.below B1.out)).mono ?_
  rintro e w2 ⟨rfl, b2⟩
  have HO2 := hid (HO1.out.below b2)
  have B2 := hid (bt B1.out b2)
  have HC2 := hid (HC.out.below B2.out)
  clear b2
  have HA3 := hid (ba w2 (opo o v))
  have HL3 := hid (long_any _ [(o, v)] 1 _ (Os.one w2 o v HC2.out) (by simp) (by decide))
  rw [show ([(o, v)].all fun p => small p.1) = small o from by simp] at HL3
  have HO3 := hid (HO2.out.below HA3.out)
  have B3 := hid (bt B2.out HA3.out)
  have HC3 := hid (HC2.out.below HA3.out)
  go_wp2_with (first | (refine wpList_load_op rfl _ rfl w.heap.size rfl o v HO2.out ?_) | (refine wpList_ops1 rfl _ rfl o v rfl ?_) | fail)
  refine HL3.out.mono ?_
  rintro e w3 ⟨rfl, rfl⟩
  clear HL3
  obtain ⟨W, hW⟩ : ∃ W, w2.alloc (opo o v) = W := ⟨_, rfl⟩
  rw [hW] at HO3 B3 HC3 ⊢
  clear hW HA3 HO2 B2 HC2 HO1 B1 HC
  cases hs : small o
  · go_wp2
    go_ret
    exact ⟨rfl, B3.out⟩
  · obtain ⟨hfin, hcl⟩ := small_fine hs
    have HF := hid hfin
    have HCL := hid hcl
    clear hs hfin hcl
    have HR := hid (right_any o v W (HL.out.below B3.out) HC3.out HF.out)
    go_wp2_with (first | (refine wpList_load_opg (by kernel_rfl) _ rfl w.heap.size rfl o v HO3.out ?_) | fail)
    refine HR.out.mono ?_
    rintro e w4 ⟨rfl, b4⟩
    have HO4 := hid (HO3.out.below b4)
    have HC4 := hid (HC3.out.below b4)
    have B4 := hid (bt B3.out b4)
    clear b4 HR HO3 HC3 B3
    cases hr : rightO o
    · go_wp2
      go_ret
      exact ⟨rfl, B4.out⟩
    · have HNR := hid (needs_right hr)
      have HND : Hid (needsO o).Nodup := hid (note_nodup _ [] (by simp))
      have HNL := hid (needs_len o)
      have HNE := hid (needs_any o v w4 HC4.out (by have := HCL.out; omega))
      obtain ⟨L, hL'⟩ : ∃ L, needsO o = L := ⟨_, rfl⟩
      have HLD := hid hL'
      rw [hL'] at HNR HND HNL HNE
      clear hr hL'
      go_wp2_with (first | (refine wpList_load_op rfl _ rfl w.heap.size rfl o v HO4.out ?_) | fail)
      refine HNE.out.mono ?_
      rintro e w5 ⟨vl, rfl, hns, b5⟩
      have HO5 := hid (HO4.out.below b5)
      have HC5 := hid (HC4.out.below b5)
      have B5 := hid (bt B4.out b5)
      have HNS := hid hns
      obtain ⟨la, lc, rfl, _, _⟩ := hns.form
      obtain ⟨n, hn⟩ : ∃ n, L.length = n := ⟨_, rfl⟩
      have HN := hid hn
      rw [hn] at HNS HNL ⊢
      have hcell : ∀ i (h : i < L.length), ∃ b off, la = some ⟨b, off, none⟩ ∧ w5.cell? ⟨b, off + i * 2, none⟩ = some (.int .i64 (L[i]).1) ∧ w5.cell? ⟨b, off + i * 2 + 1, none⟩ = some (.int .i64 (L[i]).2) := by
        intro i h
        obtain ⟨b, off, c, e, _, _, _, hc⟩ := hns.inv (by omega)
        simp only [Value.slice.injEq] at e
        exact ⟨b, off, e.1, hc i h⟩
      have HCE := hid hcell
      clear b5 HNE hns hcell HO4 HC4 B4 hn
      have hnb : n ≤ 45 := by have := HNL.out; have := HCL.out; omega
      go_wp2
      go_loopw [4] (fun i wr => ∃ k m : Nat, k ≤ n ∧ i = .int .i64 k ∧ wr = w5.drewN m) (fun i _ => n - (intOf i).toNat)
      case atStart => exact ⟨0, 0, Nat.zero_le _, rfl, rfl⟩
      case round =>
        obtain ⟨k, m, hk, rfl, rfl⟩ := hrel
        by_cases hlt : k < n
        · have hx : k < L.length := by have := HN.out; omega
          obtain ⟨b, off, rfl, g1, g2⟩ := HCE.out k hx
          obtain ⟨⟨p1, p2⟩, hp⟩ : ∃ p, L[k] = p := ⟨_, rfl⟩
          have hbd := HNR.out _ (List.getElem_mem hx)
          rw [hp] at g1 g2 hbd
          have HP := hid hp
          clear hp
          dsimp only at g1 g2 hbd
          have b1' : (k : Int) < (n : Int) := by omega
          have d1 : decide (p2 < 1) = false := by simp; omega
          have d2 : decide (1048576 < p2) = false := by simp; omega
          have d3 : decide (p1 < 0) = false := by simp; omega
          have d4 : decide (16 ≤ p1) = false := by simp; omega
          have d5 : ¬ p2 < 1 := by omega
          have d6 : ¬ 1048576 < p2 := by omega
          have d7 : ¬ p1 < 0 := by omega
          have d8 : ¬ 16 ≤ p1 := by omega
          go_wp2
          go_loopw [5] (fun i wr => ∃ j m' : Nat, j ≤ k ∧ i = .int .i64 j ∧ wr = w5.drewN m') (fun i _ => k - (intOf i).toNat)
          case atStart => exact ⟨0, _, Nat.zero_le _, rfl, rfl⟩
          case round =>
            obtain ⟨j, m', hj, rfl, rfl⟩ := hrel
            by_cases hjk : j < k
            · have hy : j < L.length := by omega
              obtain ⟨b', off', e', g3, g4⟩ := HCE.out j hy
              simp only [Option.some.injEq, Addr.mk.injEq, and_true] at e'
              obtain ⟨rfl, rfl⟩ := e'
              obtain ⟨⟨q1, q2⟩, hq⟩ : ∃ p, L[j] = p := ⟨_, rfl⟩
              rw [hq] at g3 g4
              dsimp only at g3 g4
              have hne : (q1, q2) ≠ (p1, p2) := fun e => by
                have h1 := HP.out
                rw [← hq, ← h1] at e
                exact (List.pairwise_iff_getElem.1 HND.out) j k hy hx hjk e
              have HQ := hid hq
              clear hq
              have b2' : (j : Int) < (k : Int) := by omega
              have b3' : (j : Int) < (n : Int) := by omega
              by_cases e1 : q1 = p1
              · subst e1
                have e2 : q2 ≠ p2 := fun e => hne (by rw [e])
                have e2' : (q2 == p2) = false := by simpa using e2
                go_wp2
                go_quiet (fail)
                go_wp2
                go_roundw
                case rel => exact ⟨j + 1, _, by omega, by go_num, rfl⟩
                case measure => simp [intOf]; omega
              · have e1' : (q1 == p1) = false := by simpa using e1
                go_wp2
                go_quiet (fail)
                go_wp2
                go_roundw
                case rel => exact ⟨j + 1, _, by omega, by go_num, rfl⟩
                case measure => simp [intOf]; omega
            · have b2' : ¬ (j : Int) < (k : Int) := by omega
              go_wp2
              go_roundw
              case rel => exact ⟨k + 1, _, by omega, by go_num, rfl⟩
              case measure => simp [intOf]; omega
        · have b1' : ¬ (k : Int) < (n : Int) := by omega
          have HO6 := hid (HO5.out.below (bd w5 m))
          have HC6 := hid (HC5.out.below (bd w5 m))
          have B6 := hid (bt B5.out (bd w5 m))
          have HNS6 := hid (Sl.below HNS.out (bd w5 m))
          go_wp2_with (first | (refine wpList_load_op rfl _ rfl w.heap.size rfl o v HO6.out ?_) | fail)
          refine (cloneop_any o v _ HC6.out HF.out (by have := HCL.out; omega)).mono ?_
          rintro e w7 ⟨u7, rfl, hc7, b7⟩
          have HO7 := hid (HO6.out.below b7)
          have HNS7 := hid (Sl.below HNS6.out b7)
          have HC7 := hid (HC6.out.below b7)
          have B7 := hid (bt B6.out b7)
          have HNE := hid (needs_any o u7 w7 hc7 (by have := HCL.out; omega))
          rw [HLD.out] at HNE
          clear b7 hc7
          go_wp2_with fail
          refine HNE.out.mono ?_
          rintro e w8 ⟨u8, rfl, hn8, b8⟩
          have HNS8 : Hid (Ns w8 (.slice la n lc) L) := hid (Sl.below HNS7.out b8)
          have HSI := hid (sameids_any u8 (.slice la n lc) L L w8 hn8 HNS8.out)
          rw [show decide (L = L) = true from by simp] at HSI
          have HO8 := hid (HO7.out.below b8)
          have HC8 := hid (HC7.out.below b8)
          have B8 := hid (bt B7.out b8)
          clear b8 hn8 HNE
          go_wp2_with fail
          refine HSI.out.mono ?_
          rintro e w9 ⟨rfl, q9, rfl⟩
          have HO9 := hid (HO8.out.below (bd w8 q9))
          have B9 := hid (bt B8.out (bd w8 q9))
          obtain ⟨va, vc, hv, _, _⟩ := HC8.out.form
          have c18 := HO9.out.cells.c18
          rw [hv] at c18
          have hle : ((n : Int) ≤ 5 + (o.cuts.length : Int)) := by have := HNL.out; omega
          have hwr : wrap64 (5 + (o.cuts.length : Int)) = 5 + (o.cuts.length : Int) := by have := HCL.out; unfold wrap64; omega
          rw [← hwr] at hle
          clear hv hwr
          go_wp2
          go_ret
          exact ⟨rfl, B9.out⟩

end Go.Proofs.YtmgemgkanlpnnaaDoor

/-
  From a walk to the given statement: what the arguments' readings give (ops, rows of ops, bytes), and a world for the witness.
-/
namespace Go.Proofs.YtmgemgkanlpnnaaDoor
open Go.RowKit Go.ChangeShapes Go.WideShapes Go.ChangeAt
set_option linter.unusedVariables false
set_option maxRecDepth 100000

theorem own : ownKnob Tryd.prog.godebug = none := by kernel_rfl
theorem laidOut : laidOutB Tryd.prog = true := by kernel_rfl

theorem Sl.of_rows {sz : Nat} {W : World} {x : Addr} {len cap : Nat} (hs : 0 < sz) (hl : len ≤ cap) (hm : cap ≤ maxLen) (R : Nat → List Value)
    (h : ∀ i, i < len → (R i).length = sz ∧ ∀ j u, (R i)[j]? = some u → W.cell? (x.add (i * sz + j)) = some u) : Sl sz W (.slice (some x) len cap) len ((List.range len).flatMap R) := by
  have hlen : ∀ n, n ≤ len → ((List.range n).flatMap R).length = n * sz := by
    intro n
    induction n with
    | zero => intro _; simp
    | succ n ih => intro hn; rw [List.range_succ, List.flatMap_append, List.length_append, ih (by omega)]; simp [(h n (by omega)).1, Nat.add_mul]
  have hat : ∀ n, n ≤ len → ∀ j u, ((List.range n).flatMap R)[j]? = some u → W.cell? (x.add j) = some u := by
    intro n
    induction n with
    | zero => intro _ j u hj; simp at hj
    | succ n ih =>
      intro hn j u hj
      rw [List.range_succ, List.flatMap_append] at hj
      by_cases hjl : j < n * sz
      · rw [List.getElem?_append_left (by rw [hlen n (by omega)]; exact hjl)] at hj
        exact ih (by omega) j u hj
      · rw [List.getElem?_append_right (by rw [hlen n (by omega)]; omega), hlen n (by omega)] at hj
        simp at hj
        have := (h n (by omega)).2 _ u hj
        rw [show n * sz + (j - n * sz) = j from by omega] at this
        exact this
  refine ⟨hlen len (Nat.le_refl _), some x, cap, rfl, hl, hm, fun h => (by cases h), fun j u hu => ?_⟩
  have h1 := hat len (Nat.le_refl _) j u hu
  have hpos : 0 < len := by
    rcases Nat.eq_zero_or_pos len with e | e
    · subst e; simp at hu
    · exact e
  obtain ⟨b, off, spot⟩ := x
  have hs0 : spot = none := by
    obtain ⟨h0, h0'⟩ := h 0 hpos
    obtain ⟨u0, hu0⟩ : ∃ u0, (R 0)[0]? = some u0 := ⟨_, List.getElem?_eq_getElem (by omega)⟩
    have := World.cell?_spot (h0' 0 u0 hu0)
    simpa [Addr.add] using this
  subst hs0
  rw [Addr.add_lit] at h1
  exact ⟨b, off, rfl, h1⟩

theorem cells_cut : Tryd.prog.cellsOf 71 = 4 := by kernel_rfl
theorem cells_id : Tryd.prog.cellsOf 25 = 2 := by kernel_rfl
theorem cells_char : Tryd.prog.cellsOf 27 = 3 := by kernel_rfl
theorem cells_int : Tryd.prog.cellsOf 3 = 1 := by kernel_rfl
theorem cells_str : Tryd.prog.cellsOf 9 = 1 := by kernel_rfl
theorem cells_bool : Tryd.prog.cellsOf 4 = 1 := by kernel_rfl
theorem cells_cuts : Tryd.prog.cellsOf 28 = 1 := by kernel_rfl
theorem cells_op : Tryd.prog.cellsOf 30 = 20 := by kernel_rfl

theorem list_3 {α : Type} {l : List α} (h : l.length = 3) : ∃ a b c, l = [a, b, c] := by
  match l, h with
  | [a, b, c], _ => exact ⟨a, b, c, rfl⟩
theorem list_4 {α : Type} {l : List α} (h : l.length = 4) : ∃ a b c d, l = [a, b, c, d] := by
  match l, h with
  | [a, b, c, d], _ => exact ⟨a, b, c, d, rfl⟩
theorem list_20 {α : Type} {l : List α} (h : l.length = 20) : ∃ a b c d e f g h i j k m n o p q r s t u, l = [a, b, c, d, e, f, g, h, i, j, k, m, n, o, p, q, r, s, t, u] := by
  match l, h with
  | [a, b, c, d, e, f, g, h, i, j, k, m, n, o, p, q, r, s, t, u], _ => exact ⟨a, b, c, d, e, f, g, h, i, j, k, m, n, o, p, q, r, s, t, u, rfl⟩

section
variable {H : Type} {enc : TypeId × Value → H} {W : World} {held : Bool}
theorem trod_id {n : Nat} {a b : Value} {x : DataW H × List MemPlace} (h : DataW.trod enc Tryd.prog W 0 (fun _ => true) held n 25 [a, b] = some x) : ∃ r m, a = .int .i64 r ∧ b = .int .i64 m := by
  obtain ⟨y0, y1, n, _, hl, h0, h1⟩ := trod_struct2 Tryd.underlying25 h
  simp [cells_int] at h0 h1
  obtain ⟨r, e0, _⟩ := DataW.trod_int Tryd.underlying3 h0
  obtain ⟨m, e1, _⟩ := DataW.trod_int Tryd.underlying3 h1
  simp at e0 e1
  exact ⟨r, m, e0, e1⟩
theorem trod_char {n : Nat} {a b c : Value} {x : DataW H × List MemPlace} (h : DataW.trod enc Tryd.prog W 0 (fun _ => true) held n 27 [a, b, c] = some x) : ∃ r m i, a = .int .i64 r ∧ b = .int .i64 m ∧ c = .int .i64 i := by
  obtain ⟨y0, y1, n, _, hl, h0, h1⟩ := trod_struct2 Tryd.underlying27 h
  simp [cells_int, cells_id] at h0 h1
  obtain ⟨r, m, e0, e1⟩ := trod_id h0
  obtain ⟨i, e2, _⟩ := DataW.trod_int Tryd.underlying3 h1
  simp at e2
  exact ⟨r, m, i, e0, e1, e2⟩
theorem trod_cut {n : Nat} {cs : List Value} {x : DataW H × List MemPlace} (h : DataW.trod enc Tryd.prog W 0 (fun _ => true) held n 71 cs = some x) : ∃ c : Ct, cs = cutc c := by
  obtain ⟨xs, k, hk, hxy, hlen, hxl, hfl⟩ := DataW.trod_struct Tryd.underlying71 h
  rw [cells_cut] at hlen
  obtain ⟨y0, y1, y2, rfl⟩ := list_3 hxl
  obtain ⟨v0, v1, v2, v3, rfl⟩ := list_4 hlen
  have g0 := hfl 0 _ rfl
  have g1 := hfl 1 _ rfl
  have g2 := hfl 2 _ rfl
  simp [cells_int, cells_id] at g0 g1 g2
  obtain ⟨r, m, rfl, rfl⟩ := trod_id g0
  obtain ⟨f, e1, _⟩ := DataW.trod_int Tryd.underlying3 g1
  obtain ⟨t, e2, _⟩ := DataW.trod_int Tryd.underlying3 g2
  simp at e1 e2
  subst e1; subst e2
  exact ⟨⟨r, m, f, t⟩, rfl⟩
theorem trod_cuts {n : Nat} {v : Value} {x : DataW H × List MemPlace} (h : DataW.trod enc Tryd.prog W 0 (fun _ => true) held n 28 [v] = some x) : ∃ l, Cs W v l := by
  rcases Go.Deep.open_slice Tryd.underlying28 h with ⟨hcs, _⟩ | ⟨x, len, c, m, n, D, Pl, hcs, _, hl, hm, hmm, _, hx⟩
  · simp at hcs
    subst hcs
    exact ⟨[], Cs.nil W⟩
  · simp at hcs
    subst hcs
    simp at hmm
    subst hmm
    rw [cells_cut] at hx
    have each : ∀ i, i < len → ∃ q : Ct, W.cells? 0 (x.add (i * 4)) 4 = some (cutc q) := fun i hi => by
      obtain ⟨cs', h1, h2⟩ := hx i (by omega)
      obtain ⟨q, rfl⟩ := trod_cut h2
      exact ⟨q, h1⟩
    have hinh : Inhabited Ct := ⟨Ct.zero⟩
    obtain ⟨q, hq⟩ := Go.Deep.choose_lt each
    refine ⟨(List.range len).map q, ?_⟩
    have := Sl.of_rows (sz := 4) (W := W) (x := x) (by decide) hl hm (fun i => cutc (q i)) (fun i hi => ⟨rfl, fun j u hu => by
      obtain ⟨_, _, hcell⟩ := World.cells?_some (hq i hi)
      have hj : j < 4 := (List.getElem?_eq_some_iff.1 hu).1
      have := hcell j hj
      rw [Go.Deep.add_add] at this
      rw [this, hu]⟩)
    unfold Cs
    rw [List.length_map, List.length_range, List.flatMap_map]
    exact this
theorem trod_op {n : Nat} {cs : List Value} {x : DataW H × List MemPlace} (h : DataW.trod enc Tryd.prog W 0 (fun _ => true) held n 30 cs = some x) : ∃ o v, cs = opc (o, v) ∧ Cs W v o.cuts := by
  obtain ⟨xs, k, hk, hxy, hlen, hxl, hfl⟩ := DataW.trod_struct Tryd.underlying30 h
  rw [cells_op] at hlen
  obtain ⟨v0, v1, v2, v3, v4, v5, v6, v7, v8, v9, v10, v11, v12, v13, v14, v15, v16, v17, v18, v19, rfl⟩ := list_20 hlen
  have hsz : xs.length = 12 := hxl
  have hat : ∀ i, i < 12 → ∃ y, xs[i]? = some y := fun i hi => ⟨_, List.getElem?_eq_getElem (by omega)⟩
  obtain ⟨z0, k0⟩ := hat 0 (by decide)
  obtain ⟨z1, k1⟩ := hat 1 (by decide)
  obtain ⟨z2, k2⟩ := hat 2 (by decide)
  obtain ⟨z3, k3⟩ := hat 3 (by decide)
  obtain ⟨z4, k4⟩ := hat 4 (by decide)
  obtain ⟨z5, k5⟩ := hat 5 (by decide)
  obtain ⟨z6, k6⟩ := hat 6 (by decide)
  obtain ⟨z7, k7⟩ := hat 7 (by decide)
  obtain ⟨z8, k8⟩ := hat 8 (by decide)
  obtain ⟨z9, k9⟩ := hat 9 (by decide)
  obtain ⟨z10, k10⟩ := hat 10 (by decide)
  obtain ⟨z11, k11⟩ := hat 11 (by decide)
  have g0 := (hfl 0 _ rfl).trans k0
  have g1 := (hfl 1 _ rfl).trans k1
  have g2 := (hfl 2 _ rfl).trans k2
  have g3 := (hfl 3 _ rfl).trans k3
  have g4 := (hfl 4 _ rfl).trans k4
  have g5 := (hfl 5 _ rfl).trans k5
  have g6 := (hfl 6 _ rfl).trans k6
  have g7 := (hfl 7 _ rfl).trans k7
  have g8 := (hfl 8 _ rfl).trans k8
  have g9 := (hfl 9 _ rfl).trans k9
  have g10 := (hfl 10 _ rfl).trans k10
  have g11 := (hfl 11 _ rfl).trans k11
  simp [cells_int] at g0
  simp [cells_id] at g1
  simp [cells_int] at g2
  simp [cells_id] at g3
  simp [cells_id] at g4
  simp [cells_str] at g5
  simp [cells_id] at g6
  simp [cells_char] at g7
  simp [cells_char] at g8
  simp [cells_str] at g9
  simp [cells_cuts] at g10
  simp [cells_bool] at g11
  obtain ⟨a0, e0, _⟩ := DataW.trod_int Tryd.underlying3 g0
  obtain ⟨a1, a2, rfl, rfl⟩ := trod_id g1
  obtain ⟨a3, e3, _⟩ := DataW.trod_int Tryd.underlying3 g2
  obtain ⟨a4, a5, rfl, rfl⟩ := trod_id g3
  obtain ⟨a6, a7, rfl, rfl⟩ := trod_id g4
  obtain ⟨a8, e8, _⟩ := DataW.trod_string Tryd.underlying9 g5
  obtain ⟨a9, a10, rfl, rfl⟩ := trod_id g6
  obtain ⟨a11, a12, a13, rfl, rfl, rfl⟩ := trod_char g7
  obtain ⟨a14, a15, a16, rfl, rfl, rfl⟩ := trod_char g8
  obtain ⟨a17, e17, _⟩ := DataW.trod_string Tryd.underlying9 g9
  obtain ⟨l, hl⟩ := trod_cuts g10
  obtain ⟨a19, e19, _⟩ := DataW.trod_bool Tryd.underlying4 g11
  obtain rfl : v0 = _ := by simpa using e0
  obtain rfl : v3 = _ := by simpa using e3
  obtain rfl : v8 = _ := by simpa using e8
  obtain rfl : v17 = _ := by simpa using e17
  obtain rfl : v19 = _ := by simpa using e19
  exact ⟨⟨a0, a1, a2, a3, a4, a5, a6, a7, a8, a9, a10, a11, a12, a13, a14, a15, a16, a17, l, a19⟩, v18, rfl, hl⟩
theorem open_op {b0 : Nat} {v : Value} {d : DataW H} {p : List MemPlace} (hv : Value.okWide Tryd.prog W .any b0 30 v) (h : DataW.Trod enc Tryd.prog W 0 (fun _ => true) held 30 v d p) : ∃ o u, v = opv o u ∧ Cs W u o.cuts := by
  obtain ⟨cs, rfl, hsz⟩ := okWide_struct Tryd.underlying30 hv
  obtain ⟨fuel, hf⟩ := h
  obtain ⟨o, u, e, hc⟩ := trod_op hf
  refine ⟨o, u, ?_, hc⟩
  obtain ⟨l⟩ := cs
  have e' : l = opc (o, u) := by simpa [Value.cells] using e
  rw [e']
theorem open_ops {b0 : Nat} {v : Value} {d : DataW H} {p : List MemPlace} (hv : Value.okWide Tryd.prog W .any b0 33 v) (h : DataW.Trod enc Tryd.prog W 0 (fun _ => true) held 33 v d p) : ∃ l, Os W v l := by
  obtain ⟨a, len, cap, rfl⟩ := okWide_slice Tryd.underlying33 hv
  obtain ⟨fuel, hf⟩ := h
  rcases Go.Deep.open_slice Tryd.underlying33 hf with ⟨hcs, _⟩ | ⟨x, l, c, m, n, D, Pl, hcs, _, hl, hm, hmm, _, hx⟩
  · simp [Value.cells] at hcs
    obtain ⟨rfl, rfl, rfl⟩ := hcs
    exact ⟨[], Sl.nil 20 W, fun p hp => by cases hp⟩
  · simp [Value.cells] at hcs
    obtain ⟨rfl, rfl, rfl⟩ := hcs
    simp at hmm
    subst hmm
    rw [cells_op] at hx
    have each : ∀ i, i < len → ∃ q : Opn × Value, W.cells? 0 (x.add (i * 20)) 20 = some (opc q) ∧ Cs W q.2 q.1.cuts := fun i hi => by
      obtain ⟨cs', h1, h2⟩ := hx i (by omega)
      obtain ⟨o, u, rfl, hc⟩ := trod_op h2
      exact ⟨(o, u), h1, hc⟩
    have hinh : Inhabited (Opn × Value) := ⟨(Opn.zero, .slice none 0 0)⟩
    obtain ⟨q, hq⟩ := Go.Deep.choose_lt each
    refine ⟨(List.range len).map q, ?_, fun p hp => ?_⟩
    · have := Sl.of_rows (sz := 20) (W := W) (x := x) (by decide) hl hm (fun i => opc (q i)) (fun i hi => ⟨rfl, fun j u hu => by
        obtain ⟨_, _, hcell⟩ := World.cells?_some (hq i hi).1
        have hj : j < 20 := (List.getElem?_eq_some_iff.1 hu).1
        have := hcell j hj
        rw [Go.Deep.add_add] at this
        rw [this, hu]⟩)
      rw [List.length_map, List.length_range, List.flatMap_map]
      exact this
    · obtain ⟨i, hi, rfl⟩ := List.mem_map.1 hp
      exact (hq i (List.mem_range.1 hi)).2
theorem open_u8s {b0 : Nat} {v : Value} {d : DataW H} {p : List MemPlace} (hv : Value.okWide Tryd.prog W .any b0 22 v) (h : DataW.Trod enc Tryd.prog W 0 (fun _ => true) held 22 v d p) : ∃ xs, Bs W v xs := by
  obtain ⟨a, len, cap, rfl⟩ := okWide_slice Tryd.underlying22 hv
  obtain ⟨fuel, hf⟩ := h
  rcases open_ints Tryd.underlying22 Tryd.underlying5 (by kernel_rfl) hf with ⟨hcs, _⟩ | ⟨x, l, c, zs, hcs, _, hl, hm, hz, _, hcell, hwz⟩
  · simp [Value.cells] at hcs
    obtain ⟨rfl, rfl, rfl⟩ := hcs
    exact ⟨[], Bs.nil W⟩
  · simp [Value.cells] at hcs
    obtain ⟨rfl, rfl, rfl⟩ := hcs
    exact ⟨zs.take len, Bs.of_row hl hm (by simpa using hz) hcell hwz⟩
theorem open_byte {b0 : Nat} {v : Value} {d : DataW H} {p : List MemPlace} (hv : Value.okWide Tryd.prog W .any b0 5 v) (h : DataW.Trod enc Tryd.prog W 0 (fun _ => true) held 5 v d p) : ∃ x, v = .int .u8 x ∧ 0 ≤ x ∧ x < 256 := by
  obtain ⟨a, rfl, _, _, hw⟩ := open_int Tryd.underlying5 hv h
  refine ⟨a, rfl, ?_⟩
  simp [Lit.wf, IntKind.min, IntKind.max, IntKind.signed, IntKind.bits] at hw
  omega
end

/-- The heap that the program's own text lays meets the list. -/
theorem door_met (os : Go.Os) (args : Array Value) : laidMetH Tryd.prog Rows.opBackRow.laid ((World.doorLaid Tryd.prog 72 os).forCall (fun _ _ => 0) ⟨#[], args, []⟩).memory := by
  rw [MakeChecks.laidMetH_plain _ _ _ (by kernel_rfl)]
  exact laidMet_of_run' 8 (by kernel_rfl) (by kernel_rfl)

end Go.Proofs.YtmgemgkanlpnnaaDoor
