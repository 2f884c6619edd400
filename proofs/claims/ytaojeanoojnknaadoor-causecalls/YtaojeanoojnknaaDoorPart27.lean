/-
  Parts of the proof, one behind the other; what each proves stands at its head.
-/
import Derived.Test.YtaojeanoojnknaaDoorPart4
import Derived.Test.YtaojeanoojnknaaDoorPart18
import Derived.Test.YtaojeanoojnknaaDoorPart11
import Derived.Test.YtaojeanoojnknaaDoorPart14
import Derived.Test.YtaojeanoojnknaaDoorPart22
import Derived.Test.YtaojeanoojnknaaDoorPart10
import Derived.Test.YtaojeanoojnknaaDoorPart20

/-
  That op.Clone hands back the same op, its cuts in new memory, is proved here, for every op.
-/
namespace Go.Proofs.YtaojeanoojnknaaDoor
open Go.RowKit
set_option linter.unusedVariables false
set_option maxRecDepth 100000

theorem strclone_any (s : ByteArray) (w : World) (h : s.size ≤ 1099511627776) : Calls Tryd.prog 64 #[.string s] w fun e w' => e = .returned (.string s) ∧ Below w.heap.size w w' := by
  have HC := hid (Tryd.stringslite_Clone s w (by omega))
  go_enter Tryd.func64, Tryd.ntmps64
  go_wp2_with fail
  refine HC.out.mono ?_
  rintro e w1 ⟨rfl, b1⟩
  have B1 := hid b1
  clear b1
  go_wp2
  go_ret
  exact ⟨rfl, B1.out⟩

theorem Ob.other {w : World} {r b i : Nat} {x : Value} {o : Opn} {v : Value} (h : Ob w r o v) (hne : r ≠ b) : Ob (w.setCell ⟨b, i, none⟩ x) r o v := by
  unfold Ob; rw [heap_setCell_other w ⟨b, i, none⟩ r x hne]; exact h

theorem Ob.grown {w w' : World} {b : Nat} {o : Opn} {v : Value} {row : Option Nat} (h : Ob w b o v) (g : w.grownBy w' row) (hne : row ≠ some b) : Ob w' b o v := by
  unfold Ob; rw [g.block b h.lt (fun e => hne (by rw [e]))]; exact h
theorem own_slice {w : World} {B e sz n : Nat} {v : Value} {xs : List Value} (h : w.ownsRow B e sz v n xs) : ∃ a c, v = .slice a n c := by
  obtain ⟨a, c, h, _⟩ := (Sl.of_own h).form
  exact ⟨a, c, h⟩

set_option maxHeartbeats 4000000 in
theorem clone_new (A : Value) (o : Opn) (v : Value) (hA : A = opv o v) (w : World) (hC : Cs w v o.cuts) (hfin : o.fine) (hl : o.cuts.length ≤ 100000) :
    Calls Tryd.prog 45 #[A] w fun e w' => ∃ u, e = .returned (opv o u) ∧ Cs w' u o.cuts ∧ Below w.heap.size w w' ∧ ∀ k, u.ownBlock = some k → w.heap.size ≤ k := by
  have HAA := hid hA
  have HC := hid hC
  have HF := hid hfin
  have HLN := hid hl
  clear hA hC hfin hl
  go_enter Tryd.func45, Tryd.ntmps45
  go_wp2_with (refine wpList_box_op rfl _ rfl A rfl o v HAA.out ?_; intro w1 hob hb1 hlt1; have HO1 := hid hob; have B1 := hid hb1; have HLT := hid hlt1; have HA2 := hid (ba w1 (.cells (zopc 0) 43)); have HO2 := hid (HO1.out.below HA2.out); have HZ2 := hid (Ob.zop w1 0); have B2 := hid (bt B1.out HA2.out); have c8 := HO2.out.cells.c8; clear hob hb1 hlt1)
  refine (strclone_any o.key _ HF.out.1).mono ?_
  rintro e w3 ⟨rfl, b3⟩
  obtain ⟨W2, hW2⟩ : ∃ W2, w1.alloc (.cells (zopc 0) 43) = W2 := ⟨_, rfl⟩
  have HZ2' : Hid (Ob (w1.alloc (.cells (zopc 0) 43)) w1.heap.size Opn.zero (.slice none 0 0)) := hid (heap_alloc_new w1 _)
  obtain ⟨r, hr⟩ : ∃ r, w1.heap.size = r := ⟨_, rfl⟩
  rw [hW2] at HO2 B2 HZ2' b3
  rw [hr] at HZ2' HLT ⊢
  have hrb : r ≠ w.heap.size := by have := HLT.out; omega
  clear c8 HZ2 HA2 HO1 B1 hr hW2
  have HO3 := hid (HO2.out.below b3)
  have HZ3 := hid (HZ2'.out.below b3)
  have B3 := hid (bt B2.out b3)
  have f8 := HO3.out.frozen 8
  have c8 := HO3.out.cells.c8
  have HO4 : Hid (Ob (w3.setCell ⟨w.heap.size, 8, none⟩ (.string o.key)) w.heap.size o v) := hid (set_row (i := 8) HO3.out (.string o.key))
  have HZ4 : Hid (Ob (w3.setCell ⟨w.heap.size, 8, none⟩ (.string o.key)) r Opn.zero (.slice none 0 0)) := hid (HZ3.out.other hrb)
  have B4 := hid (B3.out.setCell (p := ⟨w.heap.size, 8, none⟩) (Nat.le_refl _) (.string o.key))
  have c17 := HO4.out.cells.c17
  clear b3 HO2 HZ2' B2
  go_wp2_with fail
  refine (strclone_any o.text _ HF.out.2).mono ?_
  rintro e w5 ⟨rfl, b5⟩
  have HO5 := hid (HO4.out.below b5)
  have HZ5 := hid (HZ4.out.below b5)
  have B5 := hid (bt B4.out b5)
  have f17 := HO5.out.frozen 17
  clear c17 c8 f8 HO3 HZ3 HO4 HZ4 B3 B4 b5
  have c17 := HO5.out.cells.c17
  have HO6 : Hid (Ob (w5.setCell ⟨w.heap.size, 17, none⟩ (.string o.text)) w.heap.size o v) := hid (set_row (i := 17) HO5.out (.string o.text))
  have HZ6 : Hid (Ob (w5.setCell ⟨w.heap.size, 17, none⟩ (.string o.text)) r Opn.zero (.slice none 0 0)) := hid (HZ5.out.other hrb)
  have B6 := hid (B5.out.setCell (p := ⟨w.heap.size, 17, none⟩) (Nat.le_refl _) (.string o.text))
  have c18 := HO6.out.cells.c18
  have HC6 := hid (HC.out.below B6.out)
  have HOW : Hid ((w5.setCell ⟨w.heap.size, 17, none⟩ (.string o.text)).ownsRow w.heap.size 86 4 (.slice none 0 0) 0 []) := hid ⟨rfl, .inl ⟨rfl, rfl⟩⟩
  have H1C : Hid (∀ x ∈ o.cuts.flatMap cutc, x.oneCell' = true) := hid (fun x hx => by
    obtain ⟨c, _, hx⟩ := List.mem_flatMap.1 hx
    simp at hx
    rcases hx with rfl | rfl | rfl | rfl <;> rfl)
  have HLL : Hid ((0 + o.cuts.length) * 32 ≤ 140737488355328 ∧ 0 + o.cuts.length ≤ maxLen) := hid (by have := HLN.out; unfold maxLen; omega)
  have HNB : Hid ((Value.slice none 0 0).ownBlock ≠ some w.heap.size ∧ (Value.slice none 0 0).ownBlock ≠ some r) := hid (by simp [Value.ownBlock])
  have HBK : Hid (∀ k, (Value.slice none 0 0).ownBlock = some k → w.heap.size ≤ k) := hid (by simp [Value.ownBlock])
  go_wp2_with (first | (refine wpList_load_op rfl (.tmp 1) rfl w.heap.size rfl o _ HO8.out ?_) | (refine wpList_store_op rfl (.tmp 2) (.tmp 15) rfl r rfl o _ ⟨_,_,_,rfl⟩ rfl Opn.zero (.slice none 0 0) HZ8.out ?_) | (at_builtin; refine wpList_append_sl 41 86 4 32 _ Tryd.underlying41 info_cut rfl (by decide) rfl _ _ rfl w.heap.size _ _ [] rfl HOW.out v _ (o.cuts.flatMap cutc) rfl HC6.out H1C.out HLL.out.1 HLL.out.2 B6.out.size ?_; intro v' w7 hown7 hgrow7 hat7; rw [Nat.zero_add,List.nil_append] at hown7; have HO7 := hid (HO6.out.grown hgrow7 HNB.out.1); have HZ7 := hid (HZ6.out.grown hgrow7 HNB.out.2); have B7 := hid (Below.grown B6.out hgrow7 B6.out.size HBK.out); have c7 := HO7.out.cells.c18; have f7 := HO7.out.frozen 18; have H7 := hid hown7; have AT7 := hid hat7; obtain ⟨a7,q7,rfl⟩ := own_slice hown7; have HO8 : Hid (Ob (w7.setCell ⟨w.heap.size,18,none⟩ (.slice a7 o.cuts.length q7)) w.heap.size o (.slice a7 o.cuts.length q7)) := hid (set_row (i := 18) HO7.out (.slice a7 o.cuts.length q7)); have HZ8 : Hid (Ob (w7.setCell ⟨w.heap.size,18,none⟩ (.slice a7 o.cuts.length q7)) r Opn.zero (.slice none 0 0)) := hid (HZ7.out.other hrb); clear hown7 hgrow7 hat7 c18))
  have hne : ∀ k, (Value.slice a7 o.cuts.length q7).ownBlock = some k → k ≠ w.heap.size ∧ k ≠ r := by
    intro k hk
    rcases H7.out.2 with ⟨h, _⟩ | ⟨g, cap, cur, hv, _, hg, _⟩
    · rw [h] at hk; cases hk
    · rw [hv] at hk
      simp [Value.ownBlock] at hk
      subst hk
      have h1 := HO7.out
      have h2 := HZ7.out
      refine ⟨fun e => ?_, fun e => ?_⟩
      · rw [e] at hg; unfold Ob at h1; rw [hg] at h1; simp at h1
      · rw [e] at hg; unfold Ob at h2; rw [hg] at h2; simp at h2
  have hcs : Cs w7 (.slice a7 o.cuts.length q7) o.cuts := Sl.of_own H7.out
  refine bodyPost_ret (results_cell_row rfl _ _ r 43 (opl o (.slice a7 o.cuts.length q7)) (0, 0) _ rfl (setRow_heap _ _ _ _ _ _ HZ8.out) Tryd.underlying43 rfl (by kernel_rfl)) rfl ?_
  refine ⟨_, rfl, Sl.kept hcs (fun k hk _ => ?_), ?_, fun k hk => (H7.out.lt k hk).1⟩
  · rw [setRow_other _ _ _ _ (hne k hk).2, heap_setCell_other _ _ _ _ (hne k hk).1]
  · have b1 := B7.out.setCell (p := ⟨w.heap.size, 18, none⟩) (Nat.le_refl _) (.slice a7 o.cuts.length q7)
    have hr0 := HLT.out
    exact b1.trans ⟨rfl, rfl, rfl, by simp [World.setRow], fun k hk => setRow_other _ _ _ _ (by omega)⟩
end Go.Proofs.YtaojeanoojnknaaDoor

/-
  OpNeeds returns true for every op: its walk.
-/
namespace Go.Proofs.YtaojeanoojnknaaDoor
open Go.RowKit
set_option linter.unusedVariables false
set_option maxRecDepth 100000

end Go.Proofs.YtaojeanoojnknaaDoor

/-
  What the reference's Needs answers is proved here: what an op names.
-/
namespace Go.Proofs.YtaojeanoojnknaaDoor
open Go.RowKit
set_option linter.unusedVariables false
set_option maxRecDepth 100000

theorem own_below3 {w w' : World} {B e sz : Nat} {v : Value} {n : Nat} {xs : List Value} (h : w.ownsRow B e sz v n xs) (hb : Below w.heap.size w w') : w'.ownsRow B e sz v n xs := own_below2 h (fun k hk => hb.block k (h.lt k hk).2)

theorem below_dn {B : Nat} {w W : World} (h : Below B w W) (n : Nat) : Below B w (W.drewN n) := ⟨h.os, h.tape, h.output, h.size, h.block⟩

set_option maxHeartbeats 1000000 in
theorem xwith_any (B : Nat) (v : Value) (l : List (Int × Int)) (r n : Int) (w : World) (h : w.ownsRow B 38 2 v l.length (l.flatMap idc)) (hB : B ≤ w.heap.size) (hl : l.length ≤ 1000000) :
    Calls Tryd.prog 52 #[v, idv r n] w fun e w' => ∃ v', e = .returned v' ∧ w'.ownsRow B 38 2 v' (noteL l (r, n)).length ((noteL l (r, n)).flatMap idc) ∧ Below B w w' := by
  obtain ⟨a, c, rfl⟩ := own_shape h
  have HA := hid (ba w (ido 38 r n))
  have HH := hid (own_below3 h HA.out)
  have HB := hid hB
  have BA : Hid (Below B w (w.alloc (ido 38 r n))) := hid (HA.out.mono hB)
  obtain ⟨L, hL⟩ : ∃ L, l.length = L := ⟨_, rfl⟩
  have HLN := hid hL
  clear h hB
  by_cases hn : n = 0
  · subst hn
    have e : noteL l (r, 0) = l := by unfold noteL; rw [if_pos (.inr rfl)]
    rw [e]
    rw [hL] at HH ⊢
    clear hL
    go_enter Tryd.func52, Tryd.ntmps52
    go_wp2
    go_ret
    exact ⟨_, rfl, HH.out, BA.out⟩
  · have hn' : (n == 0) = false := by simpa using hn
    have HNZ := hid hn
    rw [hL] at HH hl ⊢
    clear hn hL
    have g0 : (w.alloc (ido 38 r n)).cell? ⟨w.heap.size, 0, none⟩ = some (.int .i64 r) := by rw [cell_of_row _ _ 0 _ _ _ (heap_alloc_new w _)]; rfl
    have g1 : (w.alloc (ido 38 r n)).cell? ⟨w.heap.size, 1, none⟩ = some (.int .i64 n) := by rw [cell_of_row _ _ 1 _ _ _ (heap_alloc_new w _)]; rfl
    go_enter Tryd.func52, Tryd.ntmps52
    go_wp2
    obtain ⟨w1, hw1⟩ : ∃ w1, w.alloc (ido 38 r n) = w1 := ⟨_, rfl⟩
    rw [hw1] at HH BA g0 g1 ⊢
    have S1 := hid (show B ≤ w1.heap.size from by have := BA.out.size; have := HB.out; omega)
    clear hw1 HA
    go_loopw [5] (fun i wr => ∃ k m : Nat, k ≤ L ∧ i = .int .i64 k ∧ wr = w1.drewN m ∧ (r, n) ∉ l.take k) (fun i _ => L - (intOf i).toNat)
    case atStart => exact ⟨0, 0, Nat.zero_le _, rfl, rfl, by simp⟩
    case round =>
      obtain ⟨k, m, hk, rfl, rfl, ht⟩ := hrel
      have HT := hid ht
      clear ht
      by_cases hlt : k < L
      · have hx : k < l.length := by rw [HLN.out]; exact hlt
        have hns : Ns w1 (.slice a L c) l := by have := Sl.of_own HH.out; unfold Ns; rw [HLN.out]; exact this
        obtain ⟨b, off, c', e1, _, _, hbl, hc⟩ := hns.inv (by omega)
        rw [HLN.out] at e1
        simp only [Value.slice.injEq] at e1
        obtain ⟨rfl, -, rfl⟩ := e1
        obtain ⟨c0, c1⟩ := hc k hx
        obtain ⟨⟨p1, p2⟩, hp⟩ : ∃ p, l[k] = p := ⟨_, rfl⟩
        rw [hp] at c0 c1
        dsimp only at c0 c1
        have HP := hid hp
        have b1' : (k : Int) < (L : Int) := by omega
        clear hp hns hc
        by_cases e1 : p1 = r
        · subst e1
          by_cases e2 : p2 = n
          · subst e2
            have hin : noteL l (p1, p2) = l := by
              unfold noteL
              rw [if_pos (.inl (by rw [← HP.out]; exact List.getElem_mem hx))]
            have HIN := hid hin
            clear hin
            go_wp2
            go_quiet (fail)
            go_wp2
            go_ret
            refine ⟨_, rfl, ?_, below_dn (below_dn BA.out _) _⟩
            rw [HIN.out, HLN.out]
            exact HH.out
          · have e2' : (p2 == n) = false := by simpa using e2
            go_wp2
            go_quiet (fail)
            go_wp2
            go_roundw
            case rel =>
              refine ⟨k + 1, _, by omega, by go_num, rfl, ?_⟩
              rw [List.take_succ_eq_append_getElem hx, HP.out, List.mem_append, List.mem_singleton]
              rintro (h | h)
              · exact HT.out h
              · simp only [Prod.mk.injEq] at h; exact e2 h.2.symm
            case measure => simp [intOf]; omega
        · have e1' : (p1 == r) = false := by simpa using e1
          go_wp2
          go_quiet (fail)
          go_wp2
          go_roundw
          case rel =>
            refine ⟨k + 1, _, by omega, by go_num, rfl, ?_⟩
            rw [List.take_succ_eq_append_getElem hx, HP.out, List.mem_append, List.mem_singleton]
            rintro (h | h)
            · exact HT.out h
            · simp only [Prod.mk.injEq] at h; exact e1 h.1.symm
          case measure => simp [intOf]; omega
      · have hk' : k = L := by omega
        subst hk'
        have hnot : noteL l (r, n) = l ++ [(r, n)] := by
          have h1 := HT.out
          rw [List.take_of_length_le (by rw [HLN.out]; exact Nat.le_refl _)] at h1
          unfold noteL
          rw [if_neg (by rintro (h | h); exact h1 h; exact HNZ.out h)]
        have hlen : (l ++ [(r, n)]).length = k + 1 := by rw [List.length_append, HLN.out]; rfl
        have HNOT := hid hnot
        have HLEN := hid hlen
        have hk9 : ¬ (k : Int) < (k : Int) := by omega
        have O1 : Hid ((w1.drewN m).ownsRow B 38 2 (.slice a k c) k (l.flatMap idc)) := hid HH.out
        have hSn := hid (Sl.lit (w1.drewN m) 38 #[.int .i64 r, .int .i64 n] 1 (by decide) rfl : Sl 2 ((w1.drewN m).alloc (ido 38 r n)) (.slice (some ⟨w1.heap.size, 0, none⟩) 1 1) 1 [.int .i64 r, .int .i64 n])
        have h1c : Hid (∀ u ∈ [Value.int .i64 r, .int .i64 n], u.oneCell' = true) := hid (by intro u hu; simp at hu; rcases hu with rfl | rfl <;> rfl)
        have A2 := hid (ba (w1.drewN m) (ido 38 r n))
        have O2 := hid (own_below3 O1.out A2.out)
        have hb9 : (k + 1) * 16 ≤ 140737488355328 := by omega
        have hm9 : k + 1 ≤ maxLen := by unfold maxLen; omega
        have S2 := hid (show B ≤ ((w1.drewN m).alloc (ido 38 r n)).heap.size from by have := S1.out; simp; omega)
        have B2 := hid (show Below B w ((w1.drewN m).alloc (ido 38 r n)) from ((below_dn BA.out m).trans (A2.out.mono S1.out)))
        clear hnot hlen A2 O1
        go_wp2_with (first | (at_builtin; refine wpList_append_sl 61 38 2 16 _ Tryd.underlying61 info_id rfl (Nat.succ_pos 1) rfl _ _ rfl B (.slice a k c) k (l.flatMap idc) rfl O2.out _ 1 [.int .i64 r,.int .i64 n] rfl hSn.out h1c.out hb9 hm9 S2.out ?_; intro v5 w5 hown5 hg5 hv5; obtain ⟨a5,c5,rfl⟩ := own_shape hown5; have HO5 := hid hown5; have HG5 := hid hg5; clear hown5 hg5 hv5) | fail)
        go_ret
        exact ⟨_, rfl, by rw [HNOT.out, HLEN.out, List.flatMap_append]; simpa using HO5.out, B2.out.grown HG5.out S2.out (fun j e => (O2.out.lt j e).1)⟩

end Go.Proofs.YtaojeanoojnknaaDoor

/-
  What the reference's Needs answers is proved here, for every op.
-/
namespace Go.Proofs.YtaojeanoojnknaaDoor
open Go.RowKit
set_option linter.unusedVariables false
set_option maxRecDepth 100000

/-- An op's block, and what has been gathered of it. -/
structure Nx (w : World) (B : Nat) (o : Opn) (v : Value) (W : World) (u : Value) (l : List (Int × Int)) : Prop where
  ob : Ob W w.heap.size o v
  row : W.ownsRow B 38 2 u l.length (l.flatMap idc)
  bw : Below w.heap.size w W
  le : w.heap.size < B ∧ B ≤ W.heap.size
theorem Nx.step {w : World} {B : Nat} {o : Opn} {v : Value} {W W' : World} {u u' : Value} {l l' : List (Int × Int)} (h : Nx w B o v W u l) (hr : W'.ownsRow B 38 2 u' l'.length (l'.flatMap idc)) (hb : Below B W W') : Nx w B o v W' u' l' :=
  ⟨by unfold Ob; rw [hb.block _ h.le.1]; exact h.ob, hr, h.bw.trans (hb.mono (Nat.le_of_lt h.le.1)), h.le.1, Nat.le_trans h.le.2 hb.size⟩
theorem noteL_le {l : List (Int × Int)} {x : Int × Int} {n : Nat} (h : l.length ≤ n) : (noteL l x).length ≤ n + 1 := Nat.le_trans (noteL_len l x) (by omega)

set_option maxHeartbeats 4000000 in
theorem xneeds_box (A : Value) (o : Opn) (v : Value) (hA : A = opv o v) (w : World) (hC : Cs w v o.cuts) (hl : o.cuts.length ≤ 100000) :
    Calls Tryd.prog 33 #[A] w fun e w' => ∃ u, e = .returned u ∧ Ns w' u (needsO o) ∧ Below w.heap.size w w' := by
  obtain ⟨va, vc, hv, _⟩ := hC.form
  obtain ⟨n, hn⟩ : ∃ n, o.cuts.length = n := ⟨_, rfl⟩
  have HN := hid hn
  have HA := hid hA
  have HC := hid hC
  rw [hn] at hv hl
  subst hv
  clear hA hC hn
  go_enter Tryd.func33, Tryd.ntmps33
  go_wp2_with (first | (refine wpList_box_op rfl _ rfl A rfl o (.slice va n vc) HA.out ?_; intro w1 hob hb1 hlt1; have HO1 := hid hob; have B1 := hid hb1; have LT1 := hid hlt1; have A1 := hid (ba w1 (.cells #[] 38)); have c4 := (HO1.out.below A1.out).cells.c4; have c5 := (HO1.out.below A1.out).cells.c5; clear hob hb1 hlt1) | fail)
  obtain ⟨B, hB⟩ : ∃ B, w1.heap.size = B := ⟨_, rfl⟩
  have X0 : Hid (Nx w B o (.slice va n vc) (w1.alloc (.cells #[] 38)) (.slice (some ⟨B, 0, none⟩) 0 0) []) := hid ⟨HO1.out.below A1.out, by rw [← hB]; exact World.ownsRow_made w1 #[] 0 (Nat.le_refl _) (Nat.zero_le _) rfl, bt B1.out A1.out, by have := LT1.out; omega, by simp; omega⟩
  rw [hB]
  obtain ⟨w2, hw2⟩ : ∃ w2, w1.alloc (.cells #[] 38) = w2 := ⟨_, rfl⟩
  rw [hw2] at X0 ⊢
  clear hB hw2 HO1 B1 LT1 A1 c4 c5
  refine (xwith_any B _ [] o.br o.bm w2 X0.out.row X0.out.le.2 (by decide)).mono ?_
  rintro e w3 ⟨u3, rfl, h3, b3⟩
  have X1 := hid (X0.out.step h3 b3)
  have L1 := hid (noteL_le (x := (o.br, o.bm)) (show ([] : List (Int × Int)).length ≤ 0 from Nat.le_refl _))
  obtain ⟨l1, hl1⟩ : ∃ l1, noteL [] (o.br, o.bm) = l1 := ⟨_, rfl⟩
  have E1 := hid hl1
  rw [hl1] at X1 L1
  obtain ⟨a3, k3, rfl⟩ := own_shape h3
  rw [hl1] at X1 ⊢
  have c6 := X1.out.ob.cells.c6
  have c7 := X1.out.ob.cells.c7
  clear h3 b3 X0 hl1
  go_wp2_with fail
  refine (xwith_any B _ l1 o.pr o.pm w3 X1.out.row X1.out.le.2 (by have := L1.out; omega)).mono ?_
  rintro e w4 ⟨u4, rfl, h4, b4⟩
  have X2 := hid (X1.out.step h4 b4)
  have L2 := hid (noteL_le (x := (o.pr, o.pm)) L1.out)
  obtain ⟨l2, hl2⟩ : ∃ l2, noteL l1 (o.pr, o.pm) = l2 := ⟨_, rfl⟩
  have E2 := hid hl2
  obtain ⟨a4, k4, rfl⟩ := own_shape h4
  rw [hl2] at X2 L2 ⊢
  have c9 := X2.out.ob.cells.c9
  have c10 := X2.out.ob.cells.c10
  clear h4 b4 X1 hl2 c6 c7
  go_wp2_with fail
  refine (xwith_any B _ l2 o.sr o.sm w4 X2.out.row X2.out.le.2 (by have := L2.out; omega)).mono ?_
  rintro e w5 ⟨u5, rfl, h5, b5⟩
  have X3 := hid (X2.out.step h5 b5)
  have L3 := hid (noteL_le (x := (o.sr, o.sm)) L2.out)
  obtain ⟨l3, hl3⟩ : ∃ l3, noteL l2 (o.sr, o.sm) = l3 := ⟨_, rfl⟩
  have E3 := hid hl3
  obtain ⟨a5, k5, rfl⟩ := own_shape h5
  rw [hl3] at X3 L3 ⊢
  have c11 := X3.out.ob.cells.c11
  have c12 := X3.out.ob.cells.c12
  clear h5 b5 X2 hl3 c9 c10
  go_wp2_with fail
  refine (xwith_any B _ l3 o.lr o.lm w5 X3.out.row X3.out.le.2 (by have := L3.out; omega)).mono ?_
  rintro e w6 ⟨u6, rfl, h6, b6⟩
  have X4 := hid (X3.out.step h6 b6)
  have L4 := hid (noteL_le (x := (o.lr, o.lm)) L3.out)
  obtain ⟨l4, hl4⟩ : ∃ l4, noteL l3 (o.lr, o.lm) = l4 := ⟨_, rfl⟩
  have E4 := hid hl4
  obtain ⟨a6, k6, rfl⟩ := own_shape h6
  rw [hl4] at X4 L4 ⊢
  have c14 := X4.out.ob.cells.c14
  have c15 := X4.out.ob.cells.c15
  clear h6 b6 X3 hl4 c11 c12
  go_wp2_with fail
  refine (xwith_any B _ l4 o.gr o.gm w6 X4.out.row X4.out.le.2 (by have := L4.out; omega)).mono ?_
  rintro e w7 ⟨u7, rfl, h7, b7⟩
  have X5 := hid (X4.out.step h7 b7)
  have L5 := hid (noteL_le (x := (o.gr, o.gm)) L4.out)
  obtain ⟨l5, hl5⟩ : ∃ l5, noteL l4 (o.gr, o.gm) = l5 := ⟨_, rfl⟩
  have E5 : Hid ((fiveO o).foldl noteL [] = l5) := hid (by
    rw [← hl5, ← E4.out, ← E3.out, ← E2.out, ← E1.out]
    rfl)
  obtain ⟨a7, k7, rfl⟩ := own_shape h7
  rw [hl5] at X5 L5 ⊢
  clear h7 b7 X4 hl5 c14 c15 L1 L2 L3 L4 E1 E2 E3 E4
  go_wp2_with fail
  go_loopw [3, 4] (fun x i wr => ∃ (k : Nat) (u : Value), i = .int .i64 k ∧ k ≤ n ∧ x = u ∧ Nx w B o (.slice va n vc) wr u ((cutsN (o.cuts.take k)).foldl noteL l5)) (fun _ i _ => n - (intOf i).toNat)
  case atStart => exact ⟨0, _, rfl, Nat.zero_le _, rfl, by simpa [cutsN] using X5.out⟩
  case round =>
    obtain ⟨k, u, rfl, hk, rfl, hX⟩ := hrel
    have XK := hid hX
    obtain ⟨ua, uc, hu⟩ := own_shape hX.row
    obtain ⟨L, hL⟩ : ∃ L, ((cutsN (o.cuts.take k)).foldl noteL l5).length = L := ⟨_, rfl⟩
    rw [hL] at hu
    have c18 := hX.ob.cells.c18
    have hLl : L ≤ 200000 := by
      rw [← hL]
      have h1 := fold_len (cutsN (o.cuts.take k)) l5
      have h2 : (cutsN (o.cuts.take k)).length ≤ k := by unfold cutsN; rw [List.length_map]; exact List.length_take_le _ _
      have h3 := L5.out
      omega
    have HLE := hid hLl
    have HL := hid hL
    clear hX hL hLl X5
    by_cases hlt : k < n
    · have hlt' : (k : Int) < (n : Int) := by omega
      have hkl : k < o.cuts.length := by rw [HN.out]; exact hlt
      obtain ⟨b, off, c', e1, _, _, hbl, hc⟩ := HC.out.inv (by omega)
      rw [HN.out] at e1
      simp only [Value.slice.injEq] at e1
      obtain ⟨rfl, -, rfl⟩ := e1
      obtain ⟨d0, d1, _, _⟩ := hc k hkl
      obtain ⟨x, hx⟩ : ∃ x, o.cuts[k] = x := ⟨_, rfl⟩
      rw [hx] at d0 d1
      have HX := hid hx
      have z0 := (XK.out.bw.cell (p := ⟨b, off + k * 4, none⟩) hbl).trans d0
      have z1 := (XK.out.bw.cell (p := ⟨b, off + k * 4 + 1, none⟩) hbl).trans d1
      subst hu
      have HW := hid (xwith_any B _ ((cutsN (o.cuts.take k)).foldl noteL l5) x.r x.n wr XK.out.row XK.out.le.2 (by rw [HL.out]; have := HLE.out; omega))
      clear hx d0 d1 hc
      go_wp2_with fail
      refine HW.out.mono ?_
      rintro e w9 ⟨u9, rfl, h9, b9⟩
      have X9 := hid (XK.out.step h9 b9)
      obtain ⟨a9, k9, hu9⟩ := own_shape h9
      clear h9 b9 HW
      go_wp2_with fail
      go_roundw
      case rel =>
        refine ⟨k + 1, u9, by go_num, hlt, hu9.symm, ?_⟩
        have e1 : cutsN (o.cuts.take (k + 1)) = cutsN (o.cuts.take k) ++ [(x.r, x.n)] := by
          rw [List.take_succ_eq_append_getElem hkl, HX.out]
          simp [cutsN]
        rw [e1, List.foldl_append]
        exact X9.out
      case measure => simp [intOf]; omega
    · obtain rfl : k = n := by omega
      have hnl : ¬ (k : Int) < (k : Int) := by omega
      subst hu
      have e1 : (cutsN (o.cuts.take k)).foldl noteL l5 = needsO o := by
        rw [List.take_of_length_le (by rw [HN.out]; exact Nat.le_refl _), ← E5.out, ← List.foldl_append]
        rfl
      have HE := hid e1
      clear e1
      go_wp2_with fail
      go_ret
      refine ⟨_, rfl, ?_, XK.out.bw⟩
      have h4 := Sl.of_own XK.out.row
      rw [HE.out] at h4
      have h5 := HL.out
      rw [HE.out] at h5
      unfold Ns
      rw [h5] at h4 ⊢
      exact h4
theorem xneeds_any (o : Opn) (v : Value) (w : World) (hC : Cs w v o.cuts) (hl : o.cuts.length ≤ 100000) :
    Calls Tryd.prog 33 #[opv o v] w fun e w' => ∃ u, e = .returned u ∧ Ns w' u (needsO o) ∧ Below w.heap.size w w' := xneeds_box _ o v rfl w hC hl

end Go.Proofs.YtaojeanoojnknaaDoor
