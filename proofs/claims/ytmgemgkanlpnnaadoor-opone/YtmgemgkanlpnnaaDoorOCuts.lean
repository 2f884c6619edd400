/-
  What a reader's method cuts reads is proved here, for every cursor.
-/
import Derived.Test.YtmgemgkanlpnnaaDoorORead
import Derived.Test.YtmgemgkanlpnnaaDoorOTold
namespace Go.Proofs.YtmgemgkanlpnnaaDoor
open Go.RowKit
set_option linter.unusedVariables false
set_option maxRecDepth 100000

theorem info_cut : (Tryd.prog.info? 71).map (fun i => (i.zero, i.size, i.bytes)) = some (some (.agg #[.int .i64 0, .int .i64 0, .int .i64 0, .int .i64 0]), 4, 32) := by kernel_rfl

abbrev z64 : Value := .int .i64 0
/-- A row of cuts while it is filled. -/
def cutrow (l : List Ct) (m : Nat) : List Value := l.flatMap cutc ++ List.replicate (m * 4) z64
theorem cutrow_len (l : List Ct) (m : Nat) : (cutrow l m).length = (l.length + m) * 4 := by
  unfold cutrow
  rw [List.length_append, flat_length cutc 4 (fun _ => rfl), List.length_replicate, Nat.add_mul]
theorem cutrow_at (l : List Ct) (m : Nat) (j : Nat) (hj : j < 4) : (cutrow l (m + 1))[l.length * 4 + j]? = some z64 := by
  unfold cutrow
  rw [List.getElem?_append_right (by rw [flat_length cutc 4 (fun _ => rfl)]; omega), flat_length cutc 4 (fun _ => rfl), List.getElem?_replicate]
  rw [if_pos (by omega)]
theorem cutrow_set (l : List Ct) (m : Nat) (c : Ct) : ((((cutrow l (m + 1)).set (l.length * 4) (.int .i64 c.r)).set (l.length * 4 + 1) (.int .i64 c.n)).set (l.length * 4 + 2) (.int .i64 c.f)).set (l.length * 4 + 3) (.int .i64 c.t) = cutrow (l ++ [c]) m := by
  unfold cutrow
  have e : List.replicate ((m + 1) * 4) z64 = z64 :: z64 :: z64 :: z64 :: List.replicate (m * 4) z64 := by
    rw [show (m + 1) * 4 = m * 4 + 1 + 1 + 1 + 1 by omega]
    rfl
  have hl : (l.flatMap cutc).length = l.length * 4 := flat_length cutc 4 (fun _ => rfl) l
  rw [e, ← hl]
  simp [List.set_append_right, List.flatMap_append, cutc]
theorem made_cut (n : Nat) : (madeCells #[z64, z64, z64, z64] (n * 4)).toList = cutrow [] n := by
  refine List.ext_getElem (by simp [cutrow, madeCells]) fun j h1 h2 => ?_
  simp [madeCells, cutrow]
  rcases (by omega : j % 4 = 0 ∨ j % 4 = 1 ∨ j % 4 = 2 ∨ j % 4 = 3) with e | e | e | e <;> rw [e] <;> rfl
/-- A row that was just made. -/
theorem made_row {w : World} {B n g : Nat} (h : w.ownsRow B 71 4 (.slice (some ⟨g, 0, none⟩) n n) n (cutrow [] n)) : w.heap[g]? = some (.cells (cutrow [] n).toArray 71 (0, 0)) := by
  rcases h.2 with ⟨e, _⟩ | ⟨g', cap, cur, e, _, hg, _, _, hcs, ht⟩
  · cases e
  · simp only [Value.slice.injEq, Option.some.injEq, Addr.mk.injEq, and_true, true_and] at e
    obtain ⟨rfl, rfl⟩ := e
    rw [hg]
    have : cur.toList = cutrow [] n := by rw [← ht, List.take_of_length_le (by rw [Array.length_toList]; omega)]
    rw [← this]
theorem cs_of_row {w : World} {g : Nat} {l : List Ct} (hl : l.length ≤ maxLen) (h : w.heap[g]? = some (.cells (cutrow l 0).toArray 71 (0, 0))) : Cs w (.slice (some ⟨g, 0, none⟩) l.length l.length) l := by
  refine ⟨flat_length cutc 4 (fun _ => rfl) l, some ⟨g, 0, none⟩, l.length, rfl, Nat.le_refl _, hl, (fun e => by cases e), fun j u hu => ⟨g, 0, rfl, ?_⟩⟩
  rw [Nat.zero_add, cell_of_row w g j _ _ _ h]
  simpa [cutrow] using hu

theorem rcuts_len (B : Bnd) (j : Nat) (s : St) : (rcuts B j s).1.length = j := by
  induction j with
  | zero => rfl
  | succ j ih => unfold rcuts; simp [ih]

set_option maxHeartbeats 4000000 in
theorem cuts_r (c : Nat) (s : St) (w : World) (h : Cu w c s) (hv : K.Byt s.1) :
    Calls Tryd.prog 58 #[rdv c] w fun e w' => ∃ v, e = .returned v ∧
      Cs w' v (rcuts Bnd.own (rn 16 s).1.toNat (rn 16 s).2).1 ∧ Cu w' c (rcuts Bnd.own (rn 16 s).1.toNat (rn 16 s).2).2 ∧ Fr (fun k => k = c) w w' ∧ ∀ k, v.ownBlock = some k → w.heap.size ≤ k := by
  have hlt := h.lt
  have HA := hid (ba w (rdo c))
  have HC := hid (h.below HA.out)
  have R1 := hid (heap_alloc_new w (rdo c))
  have N1 := hid (fun W => num_s c s 16 W)
  obtain ⟨p1, hp1⟩ : ∃ p1, rn 16 s = p1 := ⟨_, rfl⟩
  have hb := rn_val (m := 16) hv
  rw [hp1] at N1 hb ⊢
  obtain ⟨n, hn⟩ : ∃ n : Nat, p1.1 = n := ⟨p1.1.toNat, by omega⟩
  have hn16 : n ≤ 16 := by have := hb.2.2 (by decide); omega
  rw [hn] at N1 ⊢
  rw [Int.toNat_natCast]
  obtain ⟨s1, hs1⟩ : ∃ s1, p1.2 = s1 := ⟨_, rfl⟩
  rw [hs1] at N1 ⊢
  obtain ⟨i0, hi, hz0, hz1, hz2⟩ := info_parts info_cut
  have hmk : i0.bytes * n ≤ 281474976710656 := by rw [hz2]; omega
  have hkm : n ≤ maxLen := by unfold maxLen; omega
  clear h hp1 hv hb hn hs1
  go_enter Tryd.func58, Tryd.ntmps58
  go_wp2_with fail
  refine (N1.out _ HC.out).mono ?_
  rintro e w1 ⟨rfl, hc1, hg1⟩
  have H1 := hid (grown_row hg1 R1.out (by omega))
  have HC1 := hid hc1
  have HF1 := hid ((Fr.of_below HA.out).trans (Fr.grown hg1) (fun _ _ h => h))
  have hs1 : w.heap.size < w1.heap.size := (Array.getElem?_eq_some_iff.1 H1.out).1
  clear hc1 hg1
  go_wp2_with (at_make; refine wpList_make_full _ rfl (.tmp 10) (.tmp 10) 28 rfl w1.heap.size 71 i0 _ 4 Tryd.underlying28 hi hz0 hz1 .i64 .i64 _ _ n rfl rfl rfl rfl hmk hkm (Nat.le_refl _) ?_; intro w2 hown hgrow)
  have hrow : w2.heap[w1.heap.size]? = some (.cells (cutrow [] n).toArray 71 (0, 0)) := made_row (by rw [← made_cut]; exact hown)
  have hb2 : Below w1.heap.size w1 w2 := (Below.refl _ w1).grown hgrow (Nat.le_refl _) (by intro k hk; cases hk)
  have HR2 := hid hrow
  have HC2 := hid (HC1.out.below hb2)
  have HF2 := hid (HF1.out.trans (Fr.of_below hb2 : Fr (fun k => k = c) _ _) (fun _ _ h => h))
  have H2 := hid (((Fr.of_below hb2 : Fr (fun k => k = c) _ _)).rows H1.out (by omega))
  clear hown hgrow hrow hb2
  go_wp2
  go_loopw [14] (fun i wr => ∃ k : Nat, k ≤ n ∧ i = .int .i64 k ∧ Cu wr c (rcuts Bnd.own k s1).2 ∧ wr.heap[w1.heap.size]? = some (.cells (cutrow (rcuts Bnd.own k s1).1 (n - k)).toArray 71 (0, 0)) ∧ wr.heap[w.heap.size]? = some (rdo c) ∧ Fr (fun k => k = c) w wr) (fun i _ => n - (intOf i).toNat)
  case atStart => exact ⟨0, Nat.zero_le _, rfl, HC2.out, HR2.out, H2.out, HF2.out⟩
  case round =>
    obtain ⟨k, hk, rfl, hck, hrk, hbk, hfk⟩ := hrel
    clear HR2 HC2 HF2 H2 HC1 HF1 HC N1
    have hlk : (rcuts Bnd.own k s1).1.length = k := rcuts_len _ _ _
    have hnext : rcuts Bnd.own (k + 1) s1 = ((rcuts Bnd.own k s1).1 ++ [(rcut Bnd.own (rcuts Bnd.own k s1).2).1], (rcut Bnd.own (rcuts Bnd.own k s1).2).2) := rfl
    obtain ⟨q, hq⟩ : ∃ q, rcuts Bnd.own k s1 = q := ⟨_, rfl⟩
    rw [hq] at hck hrk hlk hnext
    have HN := hid hnext
    have HQ := hid hq
    have HL := hid hlk
    have HCK := hid hck
    have HRK := hid hrk
    have HBK := hid hbk
    have HFK := hid hfk
    clear hnext hq hlk hck hrk hbk hfk
    by_cases hlt' : k < n
    · have b1' : (k : Int) < (n : Int) := by omega
      have N1 := hid (fun W => name_r c q.2 W)
      have hcut : rcut Bnd.own q.2 = (⟨(rn 15 q.2).1, (rn 1048576 (rn 15 q.2).2).1, (rn 64 (rn 1048576 (rn 15 q.2).2).2).1, (rn 64 (rn 64 (rn 1048576 (rn 15 q.2).2).2).2).1⟩, (rn 64 (rn 64 (rn 1048576 (rn 15 q.2).2).2).2).2) := rfl
      obtain ⟨x1, hx1⟩ : ∃ x, rn 15 q.2 = x := ⟨_, rfl⟩
      rw [hx1] at N1 hcut
      obtain ⟨x2, hx2⟩ : ∃ x, rn 1048576 x1.2 = x := ⟨_, rfl⟩
      rw [hx2] at N1 hcut
      have N2 := hid (fun W => num_s c x2.2 64 W)
      obtain ⟨x3, hx3⟩ : ∃ x, rn 64 x2.2 = x := ⟨_, rfl⟩
      rw [hx3] at N2 hcut
      have N3 := hid (fun W => num_s c x3.2 64 W)
      obtain ⟨x4, hx4⟩ : ∃ x, rn 64 x3.2 = x := ⟨_, rfl⟩
      rw [hx4] at N3 hcut
      have HCT := hid hcut
      have d1 := cell_of_row wr w.heap.size 0 _ _ _ HBK.out
      simp at d1
      have hsz : w1.heap.size < wr.heap.size := (Array.getElem?_eq_some_iff.1 HRK.out).1
      clear hx1 hx2 hx3 hx4 hcut
      go_wp2_with fail
      refine (N1.out _ HCK.out).mono ?_
      rintro e w3 ⟨rfl, hc3, hf3⟩
      have HA3 := hid (ba w3 (ido 25 x1.1 x2.1))
      have HC3 := hid (hc3.below HA3.out)
      have HF3 := hid (hf3.trans (Fr.of_below HA3.out : Fr (fun k => k = c) _ _) (fun _ _ h => h))
      have hs3 := hf3.size
      have H3 := hid (heap_alloc_new w3 (ido 25 x1.1 x2.1))
      have B3 := hid (HF3.out.rows HBK.out (by omega))
      have R3 := hid (HF3.out.rows HRK.out (by omega))
      have d2 := cell_of_row _ w.heap.size 0 _ _ _ B3.out
      simp at d2
      clear hc3 hf3 d1
      go_wp2_with fail
      refine (N2.out _ HC3.out).mono ?_
      rintro e w4 ⟨rfl, hc4, hg4⟩
      have HC4 := hid hc4
      have HF4 := hid (HF3.out.trans (Fr.grown hg4) (fun _ _ h => h))
      have H4 := hid (grown_row hg4 H3.out (by omega))
      have B4 := hid (grown_row hg4 B3.out (by omega))
      have R4 := hid (grown_row hg4 R3.out (by omega))
      have d3 := cell_of_row _ w.heap.size 0 _ _ _ B4.out
      simp at d3
      clear hc4 hg4 d2
      go_wp2_with fail
      refine (N3.out _ HC4.out).mono ?_
      rintro e w5 ⟨rfl, hc5, hg5⟩
      have HC5 := hid hc5
      have HF5 := hid (HF4.out.trans (Fr.grown hg5) (fun _ _ h => h))
      have H5 := hid (grown_row hg5 H4.out (by omega))
      have B5 := hid (grown_row hg5 B4.out (by omega))
      have R5 := hid (grown_row hg5 R4.out (by omega))
      have e0 := cell_of_row w5 w3.heap.size 0 _ _ _ H5.out
      have e1 := cell_of_row w5 w3.heap.size 1 _ _ _ H5.out
      simp at e0 e1
      have hat := fun j (hj : j < 4) => cutrow_at q.1 (n - (k + 1)) j hj
      rw [HL.out, show n - (k + 1) + 1 = n - k by omega] at hat
      have r0 : w5.cell? ⟨w1.heap.size, k * 4, none⟩ = some z64 := by rw [cell_of_row w5 w1.heap.size _ _ _ _ R5.out]; simpa using hat 0 (by decide)
      have r1 : w5.cell? ⟨w1.heap.size, k * 4 + 1, none⟩ = some z64 := by rw [cell_of_row w5 w1.heap.size _ _ _ _ R5.out]; simpa using hat 1 (by decide)
      have r2 : w5.cell? ⟨w1.heap.size, k * 4 + 2, none⟩ = some z64 := by rw [cell_of_row w5 w1.heap.size _ _ _ _ R5.out]; simpa using hat 2 (by decide)
      have r3 : w5.cell? ⟨w1.heap.size, k * 4 + 3, none⟩ = some z64 := by rw [cell_of_row w5 w1.heap.size _ _ _ _ R5.out]; simpa using hat 3 (by decide)
      have f0 := frozen_of_row w5 w1.heap.size (k * 4) _ _ R5.out
      have f1 := frozen_of_row w5 w1.heap.size (k * 4 + 1) _ _ R5.out
      have f2 := frozen_of_row w5 w1.heap.size (k * 4 + 2) _ _ R5.out
      have f3 := frozen_of_row w5 w1.heap.size (k * 4 + 3) _ _ R5.out
      have HAT := hid hat
      clear hc5 hg5 d3 hat
      go_wp2
      go_roundw
      case rel =>
        have K1 := set_row (i := k * 4) R5.out (.int .i64 x1.1)
        have K2 := set_row (i := k * 4 + 1) K1 (.int .i64 x2.1)
        have K3 := set_row (i := k * 4 + 2) K2 (.int .i64 x3.1)
        have K4 := set_row (i := k * 4 + 3) K3 (.int .i64 x4.1)
        have a0 := HAT.out 0 (by decide)
        have a1 := HAT.out 1 (by decide)
        have a2 := HAT.out 2 (by decide)
        have a3 := HAT.out 3 (by decide)
        have nb : ∀ x, z64 ≠ .int .u8 x := fun x => by simp
        have hrow : (((((cutrow q.1 (n - k)).toArray.setIfInBounds (k * 4) (.int .i64 x1.1)).setIfInBounds (k * 4 + 1) (.int .i64 x2.1)).setIfInBounds (k * 4 + 2) (.int .i64 x3.1)).setIfInBounds (k * 4 + 3) (.int .i64 x4.1)) = (cutrow (q.1 ++ [⟨x1.1, x2.1, x3.1, x4.1⟩]) (n - (k + 1))).toArray := by
          have := cutrow_set q.1 (n - (k + 1)) ⟨x1.1, x2.1, x3.1, x4.1⟩
          rw [HL.out, show n - (k + 1) + 1 = n - k by omega] at this
          rw [← this]
          simp
        refine ⟨k + 1, by omega, by go_num, ?_, ?_, ?_, ?_⟩
        · rw [HN.out, HCT.out]
          refine Cur.set_row (Cur.set_row (Cur.set_row (Cur.set_row HC5.out R5.out (by omega) ⟨z64, ?_, nb⟩ _) K1 (by omega) ⟨z64, ?_, nb⟩ _) K2 (by omega) ⟨z64, ?_, nb⟩ _) K3 (by omega) ⟨z64, ?_, nb⟩ _
          · simpa using a0
          · simp [a1]
          · simp [a2]
          · simp [a3]
        · rw [HN.out, HCT.out, ← hrow]
          exact K4
        · rw [heap_setCell_other _ _ _ _ (by simp; omega), heap_setCell_other _ _ _ _ (by simp; omega), heap_setCell_other _ _ _ _ (by simp; omega), heap_setCell_other _ _ _ _ (by simp; omega)]
          exact B5.out
        · exact (((((HFK.out.trans HF5.out (fun _ _ h => h)).set _ _ (.inl (by omega))).set _ _ (.inl (by omega))).set _ _ (.inl (by omega))).set _ _ (.inl (by omega)))
      case measure => simp [intOf]; omega
    · have e1 : k = n := by omega
      subst e1
      go_wp2
      go_ret
      refine ⟨_, rfl, ?_, by rw [HQ.out]; exact HCK.out, HFK.out, fun j hj => by simp [Value.ownBlock] at hj; omega⟩
      rw [HQ.out]
      have := HRK.out
      rw [Nat.sub_self] at this
      have h2 := cs_of_row (by rw [HL.out]; exact hkm) this
      rw [HL.out] at h2
      exact h2

end Go.Proofs.YtmgemgkanlpnnaaDoor
