/-
  Parts of the proof, one behind the other; what each proves stands at its head.
-/
import Derived.Test.YteckjkblngmenaaGreatDoorPart3
import Derived.Test.YteckjkblngmenaaGreatDoorPart1
import Derived.Deep.RegionLaw
import Derived.Test.YteckjkblngmenaaGreatDoorRows
import Derived.ProofKit
import Derived.OpenShut
import Derived.Lib.LaidTab
import Derived.Stop.LaidErr
import Derived.MakeChecks
import Derived.Deep.DeepHandedRow

/-
  What a reader's method cuts reads is proved here, for every cursor.
-/
namespace Go.Proofs.YteckjkblngmenaaGreatDoor
open Go.RowKit
set_option linter.unusedVariables false
set_option maxRecDepth 100000

theorem info_cut : (Tryz.prog.info? 113).map (fun i => (i.zero, i.size, i.bytes)) = some (some (.agg #[.int .i64 0, .int .i64 0, .int .i64 0, .int .i64 0]), 4, 32) := by kernel_rfl

abbrev z64 : Value := .int .i64 0
/-- A row of cuts while it is filled. -/
def cutrow (l : List Ct) (m : Nat) : List Value := l.flatMap cutc ++ List.replicate (m * 4) z64
theorem cutrow_at (l : List Ct) (m : Nat) (j : Nat) (hj : j < 4) : (cutrow l (m + 1))[l.length * 4 + j]? = some z64 := by
  unfold cutrow
  rw [List.getElem?_append_right (by rw [flat_length cutc 4 (fun _ => rfl)]; omega), flat_length cutc 4 (fun _ => rfl), List.getElem?_replicate]
  rw [if_pos (by omega)]
theorem cutrow_set (l : List Ct) (m : Nat) (c : Ct) : ((((cutrow l (m + 1)).set (l.length * 4) (.int .i64 c.r)).set (l.length * 4 + 1) (.int .i64 c.n)).set (l.length * 4 + 2) (.int .i64 c.f)).set (l.length * 4 + 3) (.int .i64 c.t) = cutrow (l ++ [c]) m := by
  unfold cutrow
  have e : List.replicate ((m + 1) * 4) z64 = z64 :: z64 :: z64 :: z64 :: List.replicate (m * 4) z64 := by
    rw [show (m + 1) * 4 = m * 4 + 1 + 1 + 1 + 1 by omega]
    rfl
  have hl : (l.flatMap cutc).length = l.length * 4 := flat_length cutc 4 (fun _ => rfl) l
  rw [e, ← hl]
  simp [List.set_append_right, List.flatMap_append, cutc]
theorem made_cut (n : Nat) : (madeCells #[z64, z64, z64, z64] (n * 4)).toList = cutrow [] n := by
  refine List.ext_getElem (by simp [cutrow, madeCells]) fun j h1 h2 => ?_
  simp [madeCells, cutrow]
  rcases (by omega : j % 4 = 0 ∨ j % 4 = 1 ∨ j % 4 = 2 ∨ j % 4 = 3) with e | e | e | e <;> rw [e] <;> rfl
/-- A row that was just made. -/
theorem made_row {w : World} {B n g : Nat} (h : w.ownsRow B 113 4 (.slice (some ⟨g, 0, none⟩) n n) n (cutrow [] n)) : w.heap[g]? = some (.cells (cutrow [] n).toArray 113 (0, 0)) := by
  rcases h.2 with ⟨e, _⟩ | ⟨g', cap, cur, e, _, hg, _, _, hcs, ht⟩
  · cases e
  · simp only [Value.slice.injEq, Option.some.injEq, Addr.mk.injEq, and_true, true_and] at e
    obtain ⟨rfl, rfl⟩ := e
    rw [hg]
    have : cur.toList = cutrow [] n := by rw [← ht, List.take_of_length_le (by rw [Array.length_toList]; omega)]
    rw [← this]
theorem cs_of_row {w : World} {g : Nat} {l : List Ct} (hl : l.length ≤ maxLen) (h : w.heap[g]? = some (.cells (cutrow l 0).toArray 113 (0, 0))) : Cs w (.slice (some ⟨g, 0, none⟩) l.length l.length) l := by
  refine ⟨flat_length cutc 4 (fun _ => rfl) l, some ⟨g, 0, none⟩, l.length, rfl, Nat.le_refl _, hl, (fun e => by cases e), fun j u hu => ⟨g, 0, rfl, ?_⟩⟩
  rw [Nat.zero_add, cell_of_row w g j _ _ _ h]
  simpa [cutrow] using hu

theorem rcuts_len (B : Bnd) (j : Nat) (s : St) : (rcuts B j s).1.length = j := by
  induction j with
  | zero => rfl
  | succ j ih => unfold rcuts; simp [ih]

set_option maxHeartbeats 4000000 in
theorem cuts_r (c : Nat) (s : St) (w : World) (h : Cu w c s) (hv : K.Byt s.1) :
    Calls Tryz.prog 131 #[rdv c] w fun e w' => ∃ v, e = .returned v ∧
      Cs w' v (rcuts Bnd.own (rn 16 s).1.toNat (rn 16 s).2).1 ∧ Cu w' c (rcuts Bnd.own (rn 16 s).1.toNat (rn 16 s).2).2 ∧ Fr (fun k => k = c) w w' ∧ ∀ k, v.ownBlock = some k → w.heap.size ≤ k := by
  have hlt := h.lt
  have HA := hid (ba w (rdo c))
  have HC := hid (h.below HA.out)
  have R1 := hid (heap_alloc_new w (rdo c))
  have N1 := hid (fun W => num_s c s 16 W)
  obtain ⟨p1, hp1⟩ : ∃ p1, rn 16 s = p1 := ⟨_, rfl⟩
  have hb := rn_val (m := 16) hv
  rw [hp1] at N1 hb ⊢
  obtain ⟨n, hn⟩ : ∃ n : Nat, p1.1 = n := ⟨p1.1.toNat, by omega⟩
  have hn16 : n ≤ 16 := by have := hb.2.2 (by decide); omega
  rw [hn] at N1 ⊢
  rw [Int.toNat_natCast]
  obtain ⟨s1, hs1⟩ : ∃ s1, p1.2 = s1 := ⟨_, rfl⟩
  rw [hs1] at N1 ⊢
  obtain ⟨i0, hi, hz0, hz1, hz2⟩ := info_parts info_cut
  have hmk : i0.bytes * n ≤ 281474976710656 := by rw [hz2]; omega
  have hkm : n ≤ maxLen := by unfold maxLen; omega
  clear h hp1 hv hb hn hs1
  go_enter Tryz.func131, Tryz.ntmps131
  go_wp2_with fail
  refine (N1.out _ HC.out).mono ?_
  rintro e w1 ⟨rfl, hc1, hg1⟩
  have H1 := hid (grown_row hg1 R1.out (by omega))
  have HC1 := hid hc1
  have HF1 := hid ((Fr.of_below HA.out).trans (Fr.grown hg1) (fun _ _ h => h))
  have hs1 : w.heap.size < w1.heap.size := (Array.getElem?_eq_some_iff.1 H1.out).1
  clear hc1 hg1
  go_wp2_with (at_make; refine wpList_make_full _ rfl (.tmp 10) (.tmp 10) 75 rfl w1.heap.size 113 i0 _ 4 Tryz.underlying75 hi hz0 hz1 .i64 .i64 _ _ n rfl rfl rfl rfl hmk hkm (Nat.le_refl _) ?_; intro w2 hown hgrow)
  have hrow : w2.heap[w1.heap.size]? = some (.cells (cutrow [] n).toArray 113 (0, 0)) := made_row (by rw [← made_cut]; exact hown)
  have hb2 : Below w1.heap.size w1 w2 := (Below.refl _ w1).grown hgrow (Nat.le_refl _) (by intro k hk; cases hk)
  have HR2 := hid hrow
  have HC2 := hid (HC1.out.below hb2)
  have HF2 := hid (HF1.out.trans (Fr.of_below hb2 : Fr (fun k => k = c) _ _) (fun _ _ h => h))
  have H2 := hid (((Fr.of_below hb2 : Fr (fun k => k = c) _ _)).rows H1.out (by omega))
  clear hown hgrow hrow hb2
  go_wp2
  go_loopw [14] (fun i wr => ∃ k : Nat, k ≤ n ∧ i = .int .i64 k ∧ Cu wr c (rcuts Bnd.own k s1).2 ∧ wr.heap[w1.heap.size]? = some (.cells (cutrow (rcuts Bnd.own k s1).1 (n - k)).toArray 113 (0, 0)) ∧ wr.heap[w.heap.size]? = some (rdo c) ∧ Fr (fun k => k = c) w wr) (fun i _ => n - (intOf i).toNat)
  case atStart => exact ⟨0, Nat.zero_le _, rfl, HC2.out, HR2.out, H2.out, HF2.out⟩
  case round =>
    obtain ⟨k, hk, rfl, hck, hrk, hbk, hfk⟩ := hrel
    clear HR2 HC2 HF2 H2 HC1 HF1 HC N1
    have hlk : (rcuts Bnd.own k s1).1.length = k := rcuts_len _ _ _
    have hnext : rcuts Bnd.own (k + 1) s1 = ((rcuts Bnd.own k s1).1 ++ [(rcut Bnd.own (rcuts Bnd.own k s1).2).1], (rcut Bnd.own (rcuts Bnd.own k s1).2).2) := rfl
    obtain ⟨q, hq⟩ : ∃ q, rcuts Bnd.own k s1 = q := ⟨_, rfl⟩
    rw [hq] at hck hrk hlk hnext
    have HN := hid hnext
    have HQ := hid hq
    have HL := hid hlk
    have HCK := hid hck
    have HRK := hid hrk
    have HBK := hid hbk
    have HFK := hid hfk
    clear hnext hq hlk hck hrk hbk hfk
    by_cases hlt' : k < n
    · have b1' : (k : Int) < (n : Int) := by omega
      have N1 := hid (fun W => name_r c q.2 W)
      have hcut : rcut Bnd.own q.2 = (⟨(rn 15 q.2).1, (rn 1048576 (rn 15 q.2).2).1, (rn 64 (rn 1048576 (rn 15 q.2).2).2).1, (rn 64 (rn 64 (rn 1048576 (rn 15 q.2).2).2).2).1⟩, (rn 64 (rn 64 (rn 1048576 (rn 15 q.2).2).2).2).2) := rfl
      obtain ⟨x1, hx1⟩ : ∃ x, rn 15 q.2 = x := ⟨_, rfl⟩
      rw [hx1] at N1 hcut
      obtain ⟨x2, hx2⟩ : ∃ x, rn 1048576 x1.2 = x := ⟨_, rfl⟩
      rw [hx2] at N1 hcut
      have N2 := hid (fun W => num_s c x2.2 64 W)
      obtain ⟨x3, hx3⟩ : ∃ x, rn 64 x2.2 = x := ⟨_, rfl⟩
      rw [hx3] at N2 hcut
      have N3 := hid (fun W => num_s c x3.2 64 W)
      obtain ⟨x4, hx4⟩ : ∃ x, rn 64 x3.2 = x := ⟨_, rfl⟩
      rw [hx4] at N3 hcut
      have HCT := hid hcut
      have d1 := cell_of_row wr w.heap.size 0 _ _ _ HBK.out
      simp at d1
      have hsz : w1.heap.size < wr.heap.size := (Array.getElem?_eq_some_iff.1 HRK.out).1
      clear hx1 hx2 hx3 hx4 hcut
      go_wp2_with fail
      refine (N1.out _ HCK.out).mono ?_
      rintro e w3 ⟨rfl, hc3, hf3⟩
      have HA3 := hid (ba w3 (ido 72 x1.1 x2.1))
      have HC3 := hid (hc3.below HA3.out)
      have HF3 := hid (hf3.trans (Fr.of_below HA3.out : Fr (fun k => k = c) _ _) (fun _ _ h => h))
      have hs3 := hf3.size
      have H3 := hid (heap_alloc_new w3 (ido 72 x1.1 x2.1))
      have B3 := hid (HF3.out.rows HBK.out (by omega))
      have R3 := hid (HF3.out.rows HRK.out (by omega))
      have d2 := cell_of_row _ w.heap.size 0 _ _ _ B3.out
      simp at d2
      clear hc3 hf3 d1
      go_wp2_with fail
      refine (N2.out _ HC3.out).mono ?_
      rintro e w4 ⟨rfl, hc4, hg4⟩
      have HC4 := hid hc4
      have HF4 := hid (HF3.out.trans (Fr.grown hg4) (fun _ _ h => h))
      have H4 := hid (grown_row hg4 H3.out (by omega))
      have B4 := hid (grown_row hg4 B3.out (by omega))
      have R4 := hid (grown_row hg4 R3.out (by omega))
      have d3 := cell_of_row _ w.heap.size 0 _ _ _ B4.out
      simp at d3
      clear hc4 hg4 d2
      go_wp2_with fail
      refine (N3.out _ HC4.out).mono ?_
      rintro e w5 ⟨rfl, hc5, hg5⟩
      have HC5 := hid hc5
      have HF5 := hid (HF4.out.trans (Fr.grown hg5) (fun _ _ h => h))
      have H5 := hid (grown_row hg5 H4.out (by omega))
      have B5 := hid (grown_row hg5 B4.out (by omega))
      have R5 := hid (grown_row hg5 R4.out (by omega))
      have e0 := cell_of_row w5 w3.heap.size 0 _ _ _ H5.out
      have e1 := cell_of_row w5 w3.heap.size 1 _ _ _ H5.out
      simp at e0 e1
      have hat := fun j (hj : j < 4) => cutrow_at q.1 (n - (k + 1)) j hj
      rw [HL.out, show n - (k + 1) + 1 = n - k by omega] at hat
      have r0 : w5.cell? ⟨w1.heap.size, k * 4, none⟩ = some z64 := by rw [cell_of_row w5 w1.heap.size _ _ _ _ R5.out]; simpa using hat 0 (by decide)
      have r1 : w5.cell? ⟨w1.heap.size, k * 4 + 1, none⟩ = some z64 := by rw [cell_of_row w5 w1.heap.size _ _ _ _ R5.out]; simpa using hat 1 (by decide)
      have r2 : w5.cell? ⟨w1.heap.size, k * 4 + 2, none⟩ = some z64 := by rw [cell_of_row w5 w1.heap.size _ _ _ _ R5.out]; simpa using hat 2 (by decide)
      have r3 : w5.cell? ⟨w1.heap.size, k * 4 + 3, none⟩ = some z64 := by rw [cell_of_row w5 w1.heap.size _ _ _ _ R5.out]; simpa using hat 3 (by decide)
      have f0 := frozen_of_row w5 w1.heap.size (k * 4) _ _ R5.out
      have f1 := frozen_of_row w5 w1.heap.size (k * 4 + 1) _ _ R5.out
      have f2 := frozen_of_row w5 w1.heap.size (k * 4 + 2) _ _ R5.out
      have f3 := frozen_of_row w5 w1.heap.size (k * 4 + 3) _ _ R5.out
      have HAT := hid hat
      clear hc5 hg5 d3 hat
      go_wp2
      go_roundw
      case rel =>
        have K1 := set_row (i := k * 4) R5.out (.int .i64 x1.1)
        have K2 := set_row (i := k * 4 + 1) K1 (.int .i64 x2.1)
        have K3 := set_row (i := k * 4 + 2) K2 (.int .i64 x3.1)
        have K4 := set_row (i := k * 4 + 3) K3 (.int .i64 x4.1)
        have a0 := HAT.out 0 (by decide)
        have a1 := HAT.out 1 (by decide)
        have a2 := HAT.out 2 (by decide)
        have a3 := HAT.out 3 (by decide)
        have nb : ∀ x, z64 ≠ .int .u8 x := fun x => by simp
        have hrow : (((((cutrow q.1 (n - k)).toArray.setIfInBounds (k * 4) (.int .i64 x1.1)).setIfInBounds (k * 4 + 1) (.int .i64 x2.1)).setIfInBounds (k * 4 + 2) (.int .i64 x3.1)).setIfInBounds (k * 4 + 3) (.int .i64 x4.1)) = (cutrow (q.1 ++ [⟨x1.1, x2.1, x3.1, x4.1⟩]) (n - (k + 1))).toArray := by
          have := cutrow_set q.1 (n - (k + 1)) ⟨x1.1, x2.1, x3.1, x4.1⟩
          rw [HL.out, show n - (k + 1) + 1 = n - k by omega] at this
          rw [← this]
          simp
        refine ⟨k + 1, by omega, by go_num, ?_, ?_, ?_, ?_⟩
        · rw [HN.out, HCT.out]
          refine Cur.set_row (Cur.set_row (Cur.set_row (Cur.set_row HC5.out R5.out (by omega) ⟨z64, ?_, nb⟩ _) K1 (by omega) ⟨z64, ?_, nb⟩ _) K2 (by omega) ⟨z64, ?_, nb⟩ _) K3 (by omega) ⟨z64, ?_, nb⟩ _
          · simpa using a0
          · simp [a1]
          · simp [a2]
          · simp [a3]
        · rw [HN.out, HCT.out, ← hrow]
          exact K4
        · rw [heap_setCell_other _ _ _ _ (by simp; omega), heap_setCell_other _ _ _ _ (by simp; omega), heap_setCell_other _ _ _ _ (by simp; omega), heap_setCell_other _ _ _ _ (by simp; omega)]
          exact B5.out
        · exact (((((HFK.out.trans HF5.out (fun _ _ h => h)).set _ _ (.inl (by omega))).set _ _ (.inl (by omega))).set _ _ (.inl (by omega))).set _ _ (.inl (by omega)))
      case measure => simp [intOf]; omega
    · have e1 : k = n := by omega
      subst e1
      go_wp2
      go_ret
      refine ⟨_, rfl, ?_, by rw [HQ.out]; exact HCK.out, HFK.out, fun j hj => by simp [Value.ownBlock] at hj; omega⟩
      rw [HQ.out]
      have := HRK.out
      rw [Nat.sub_self] at this
      have h2 := cs_of_row (by rw [HL.out]; exact hkm) this
      rw [HL.out] at h2
      exact h2

end Go.Proofs.YteckjkblngmenaaGreatDoor

/-
  What a reader's method field reads into an op is proved here, for every cursor, op and field.
-/
namespace Go.Proofs.YteckjkblngmenaaGreatDoor
open Go.RowKit
set_option linter.unusedVariables false
set_option maxRecDepth 100000

/-- An op in a block of its own, its cuts elsewhere. -/
def Oi (B c : Nat) (w : World) (b : Nat) (o : Opn) : Prop := ∃ v, Ob w b o v ∧ Cs w v o.cuts ∧ (0 < o.cuts.length → v.ownBlock ≠ some b ∧ v.ownBlock ≠ some c) ∧ ∀ k, v.ownBlock = some k → B < k
theorem Cs.kept {w w' : World} {v : Value} {l : List Ct} (h : Cs w v l) (hb : 0 < l.length → ∀ k, v.ownBlock = some k → k < w.heap.size → w'.heap[k]? = w.heap[k]?) : Cs w' v l := by
  by_cases hl : 0 < l.length
  · exact Sl.kept h (hb hl)
  · obtain rfl := List.eq_nil_of_length_eq_zero (by omega : l.length = 0)
    obtain ⟨h0, a, c, h1, h2, h3, h4, _⟩ := h
    exact ⟨h0, a, c, h1, h2, h3, h4, fun j u hu => by simp at hu⟩
theorem Cs.fr {S : Nat → Prop} {w w' : World} {v : Value} {l : List Ct} (h : Cs w v l) (hf : Fr S w w') (hb : 0 < l.length → ∀ k, v.ownBlock = some k → ¬ S k) : Cs w' v l :=
  h.kept fun hl k hk hkl => hf.block k hkl (hb hl k hk)
theorem fr_two {b c : Nat} {w w1 w2 : World} (h : Fr (fun k => k = c) w w1) (k : Fr (fun k => k = b) w1 w2) : Fr (fun k => k = b ∨ k = c) w w2 := (h.mono (fun _ e => .inr e)).trans k (fun _ _ e => .inl e)

set_option maxHeartbeats 4000000 in
theorem field_r (f : Nat) (hf : f ≤ 8) (B c b : Nat) (o : Opn) (s : St) (w : World) (hBw : B < w.heap.size) (hO : Oi B c w b o) (h : Cu w c s) (hbc : b ≠ c) (hv : K.Byt s.1) :
    Calls Tryz.prog 119 #[rdv c, .pointer (some ⟨b, 0, none⟩), .int .i64 f] w fun e w' => e = .returned (.tuple #[]) ∧
      Oi B c w' b (rdF Bnd.own f (o, s)).1 ∧ Cu w' c (rdF Bnd.own f (o, s)).2 ∧ Fr (fun k => k = b ∨ k = c) w w' := by
  obtain ⟨v, hob, hcs, hvb, hvB⟩ := hO
  have HVB := hid hvB
  clear hvB
  have hlt := h.lt
  have hbl := hob.lt
  have HA := hid (ba w (rdo c))
  have HC := hid (h.below HA.out)
  have HO := hid (hob.below HA.out)
  have HS := hid (hcs.below HA.out)
  have HV := hid hvb
  have HY := hid hv
  have q0 : (w.alloc (rdo c)).cell? ⟨w.heap.size, 0, none⟩ = some (.pointer (some ⟨c, 0, none⟩)) := cell_of_row _ _ 0 _ _ _ (heap_alloc_new w (rdo c))
  clear h hob hcs hvb hv
  have nb1 : ∀ (n x : Int), (Value.int .i64 n) ≠ .int .u8 x := fun n x => by simp
  have nb2 : ∀ (t : ByteArray) (x : Int), (Value.string t) ≠ .int .u8 x := fun t x => by simp
  have nb3 : ∀ (t : Bool) (x : Int), (Value.bool t) ≠ .int .u8 x := fun t x => by simp
  rcases nine hf with rfl | rfl | rfl | rfl | rfl | rfl | rfl | rfl | rfl
  · have N1 := hid (fun W => name_r c s W)
    have hrd : rdF Bnd.own 0 (o, s) = ({ o with br := (rn 15 s).1, bm := (rn 1048576 (rn 15 s).2).1 }, (rn 1048576 (rn 15 s).2).2) := rfl
    obtain ⟨p1, hp1⟩ : ∃ p, rn 15 s = p := ⟨_, rfl⟩
    rw [hp1] at N1 hrd
    obtain ⟨p2, hp2⟩ : ∃ p, rn 1048576 p1.2 = p := ⟨_, rfl⟩
    rw [hp2] at N1 hrd
    rw [hrd]
    clear hrd hp1 hp2
    go_enter Tryz.func119, Tryz.ntmps119
    go_wp2_with fail
    refine (N1.out _ HC.out).mono ?_
    rintro e w1 ⟨rfl, hc1, hf1⟩
    have HF1 := hid (hf1)
    have HC1 := hid hc1
    have HO1 := hid (HF1.out.rows HO.out (by omega))
    have c4 := Ob.cell (w := w1) HO1.out 4
    have f4 := Ob.frozen (w := w1) HO1.out 4
    have c5 := Ob.cell (w := w1) HO1.out 5
    have f5 := Ob.frozen (w := w1) HO1.out 5
    simp at c4 c5
    clear hc1 hf1 q0
    go_wp2
    go_end0
    have K0 := set_row (i := 4) HO1.out (.int .i64 p1.1)
    have K1 := set_row (i := 5) K0 (.int .i64 p2.1)
    have hFr : Fr (fun k => k = b ∨ k = c) w _ := fr_two ((Fr.of_below HA.out).trans HF1.out (fun _ _ h => h)) ((Fr.of_set w1 b 4 (.int .i64 p1.1)).set 5 (.int .i64 p2.1) (.inr rfl))
    refine ⟨rfl, ⟨v, K1, ?_, HV.out, HVB.out⟩, ?_, hFr⟩
    · refine Cs.fr HS.out (S := fun k => k = b ∨ k = c) ?_ (fun hl k hk hs => ?_)
      · exact fr_two HF1.out ((Fr.of_set w1 b 4 (.int .i64 p1.1)).set 5 (.int .i64 p2.1) (.inr rfl))
      · have := HV.out hl
        rcases hs with rfl | rfl
        · exact this.1 hk
        · exact this.2 hk
    · exact (Cur.set_row (Cur.set_row HC1.out HO1.out hbc ⟨_, rfl, nb1 _⟩ _) K0 hbc ⟨_, rfl, nb1 _⟩ _)
  · have N1 := hid (fun W => name_r c s W)
    have hrd : rdF Bnd.own 1 (o, s) = ({ o with pr := (rn 15 s).1, pm := (rn 1048576 (rn 15 s).2).1 }, (rn 1048576 (rn 15 s).2).2) := rfl
    obtain ⟨p1, hp1⟩ : ∃ p, rn 15 s = p := ⟨_, rfl⟩
    rw [hp1] at N1 hrd
    obtain ⟨p2, hp2⟩ : ∃ p, rn 1048576 p1.2 = p := ⟨_, rfl⟩
    rw [hp2] at N1 hrd
    rw [hrd]
    clear hrd hp1 hp2
    go_enter Tryz.func119, Tryz.ntmps119
    go_wp2_with fail
    refine (N1.out _ HC.out).mono ?_
    rintro e w1 ⟨rfl, hc1, hf1⟩
    have HF1 := hid (hf1)
    have HC1 := hid hc1
    have HO1 := hid (HF1.out.rows HO.out (by omega))
    have c6 := Ob.cell (w := w1) HO1.out 6
    have f6 := Ob.frozen (w := w1) HO1.out 6
    have c7 := Ob.cell (w := w1) HO1.out 7
    have f7 := Ob.frozen (w := w1) HO1.out 7
    simp at c6 c7
    clear hc1 hf1 q0
    go_wp2
    go_end0
    have K0 := set_row (i := 6) HO1.out (.int .i64 p1.1)
    have K1 := set_row (i := 7) K0 (.int .i64 p2.1)
    have hFr : Fr (fun k => k = b ∨ k = c) w _ := fr_two ((Fr.of_below HA.out).trans HF1.out (fun _ _ h => h)) ((Fr.of_set w1 b 6 (.int .i64 p1.1)).set 7 (.int .i64 p2.1) (.inr rfl))
    refine ⟨rfl, ⟨v, K1, ?_, HV.out, HVB.out⟩, ?_, hFr⟩
    · refine Cs.fr HS.out (S := fun k => k = b ∨ k = c) ?_ (fun hl k hk hs => ?_)
      · exact fr_two HF1.out ((Fr.of_set w1 b 6 (.int .i64 p1.1)).set 7 (.int .i64 p2.1) (.inr rfl))
      · have := HV.out hl
        rcases hs with rfl | rfl
        · exact this.1 hk
        · exact this.2 hk
    · exact (Cur.set_row (Cur.set_row HC1.out HO1.out hbc ⟨_, rfl, nb1 _⟩ _) K0 hbc ⟨_, rfl, nb1 _⟩ _)
  · have N1 := hid (fun W => text_s c s 32 W)
    have hrd : rdF Bnd.own 2 (o, s) = ({ o with key := (rt 32 s).1 }, (rt 32 s).2) := rfl
    obtain ⟨p1, hp1⟩ : ∃ p, rt 32 s = p := ⟨_, rfl⟩
    rw [hp1] at N1 hrd
    rw [hrd]
    clear hrd hp1
    go_enter Tryz.func119, Tryz.ntmps119
    go_wp2_with fail
    refine (N1.out _ HC.out).mono ?_
    rintro e w1 ⟨rfl, hc1, hf1⟩
    have HF1 := hid (Fr.grown hf1)
    have HC1 := hid hc1
    have HO1 := hid (HF1.out.rows HO.out (by omega))
    have c8 := Ob.cell (w := w1) HO1.out 8
    have f8 := Ob.frozen (w := w1) HO1.out 8
    simp at c8
    clear hc1 hf1 q0
    go_wp2
    go_end0
    have K0 := set_row (i := 8) HO1.out (.string p1.1)
    have hFr : Fr (fun k => k = b ∨ k = c) w _ := fr_two ((Fr.of_below HA.out).trans HF1.out (fun _ _ h => h)) (Fr.of_set w1 b 8 (.string p1.1))
    refine ⟨rfl, ⟨v, K0, ?_, HV.out, HVB.out⟩, ?_, hFr⟩
    · refine Cs.fr HS.out (S := fun k => k = b ∨ k = c) ?_ (fun hl k hk hs => ?_)
      · exact fr_two HF1.out (Fr.of_set w1 b 8 (.string p1.1))
      · have := HV.out hl
        rcases hs with rfl | rfl
        · exact this.1 hk
        · exact this.2 hk
    · exact (Cur.set_row HC1.out HO1.out hbc ⟨_, rfl, nb2 _⟩ _)
  · have N1 := hid (fun W => name_r c s W)
    have hrd : rdF Bnd.own 3 (o, s) = ({ o with sr := (rn 15 s).1, sm := (rn 1048576 (rn 15 s).2).1 }, (rn 1048576 (rn 15 s).2).2) := rfl
    obtain ⟨p1, hp1⟩ : ∃ p, rn 15 s = p := ⟨_, rfl⟩
    rw [hp1] at N1 hrd
    obtain ⟨p2, hp2⟩ : ∃ p, rn 1048576 p1.2 = p := ⟨_, rfl⟩
    rw [hp2] at N1 hrd
    rw [hrd]
    clear hrd hp1 hp2
    go_enter Tryz.func119, Tryz.ntmps119
    go_wp2_with fail
    refine (N1.out _ HC.out).mono ?_
    rintro e w1 ⟨rfl, hc1, hf1⟩
    have HF1 := hid (hf1)
    have HC1 := hid hc1
    have HO1 := hid (HF1.out.rows HO.out (by omega))
    have c9 := Ob.cell (w := w1) HO1.out 9
    have f9 := Ob.frozen (w := w1) HO1.out 9
    have c10 := Ob.cell (w := w1) HO1.out 10
    have f10 := Ob.frozen (w := w1) HO1.out 10
    simp at c9 c10
    clear hc1 hf1 q0
    go_wp2
    go_end0
    have K0 := set_row (i := 9) HO1.out (.int .i64 p1.1)
    have K1 := set_row (i := 10) K0 (.int .i64 p2.1)
    have hFr : Fr (fun k => k = b ∨ k = c) w _ := fr_two ((Fr.of_below HA.out).trans HF1.out (fun _ _ h => h)) ((Fr.of_set w1 b 9 (.int .i64 p1.1)).set 10 (.int .i64 p2.1) (.inr rfl))
    refine ⟨rfl, ⟨v, K1, ?_, HV.out, HVB.out⟩, ?_, hFr⟩
    · refine Cs.fr HS.out (S := fun k => k = b ∨ k = c) ?_ (fun hl k hk hs => ?_)
      · exact fr_two HF1.out ((Fr.of_set w1 b 9 (.int .i64 p1.1)).set 10 (.int .i64 p2.1) (.inr rfl))
      · have := HV.out hl
        rcases hs with rfl | rfl
        · exact this.1 hk
        · exact this.2 hk
    · exact (Cur.set_row (Cur.set_row HC1.out HO1.out hbc ⟨_, rfl, nb1 _⟩ _) K0 hbc ⟨_, rfl, nb1 _⟩ _)
  · have N1 := hid (fun W => char_r c s W)
    have hrd : rdF Bnd.own 4 (o, s) = ({ o with lr := (rn 15 s).1, lm := (rn 1048576 (rn 15 s).2).1, li := (rn 63 (rn 1048576 (rn 15 s).2).2).1 }, (rn 63 (rn 1048576 (rn 15 s).2).2).2) := rfl
    obtain ⟨p1, hp1⟩ : ∃ p, rn 15 s = p := ⟨_, rfl⟩
    rw [hp1] at N1 hrd
    obtain ⟨p2, hp2⟩ : ∃ p, rn 1048576 p1.2 = p := ⟨_, rfl⟩
    rw [hp2] at N1 hrd
    obtain ⟨p3, hp3⟩ : ∃ p, rn 63 p2.2 = p := ⟨_, rfl⟩
    rw [hp3] at N1 hrd
    rw [hrd]
    clear hrd hp1 hp2 hp3
    go_enter Tryz.func119, Tryz.ntmps119
    go_wp2_with fail
    refine (N1.out _ HC.out).mono ?_
    rintro e w1 ⟨rfl, hc1, hf1⟩
    have HF1 := hid (hf1)
    have HC1 := hid hc1
    have HO1 := hid (HF1.out.rows HO.out (by omega))
    have c11 := Ob.cell (w := w1) HO1.out 11
    have f11 := Ob.frozen (w := w1) HO1.out 11
    have c12 := Ob.cell (w := w1) HO1.out 12
    have f12 := Ob.frozen (w := w1) HO1.out 12
    have c13 := Ob.cell (w := w1) HO1.out 13
    have f13 := Ob.frozen (w := w1) HO1.out 13
    simp at c11 c12 c13
    clear hc1 hf1 q0
    go_wp2
    go_end0
    have K0 := set_row (i := 11) HO1.out (.int .i64 p1.1)
    have K1 := set_row (i := 12) K0 (.int .i64 p2.1)
    have K2 := set_row (i := 13) K1 (.int .i64 p3.1)
    have hFr : Fr (fun k => k = b ∨ k = c) w _ := fr_two ((Fr.of_below HA.out).trans HF1.out (fun _ _ h => h)) (((Fr.of_set w1 b 11 (.int .i64 p1.1)).set 12 (.int .i64 p2.1) (.inr rfl)).set 13 (.int .i64 p3.1) (.inr rfl))
    refine ⟨rfl, ⟨v, K2, ?_, HV.out, HVB.out⟩, ?_, hFr⟩
    · refine Cs.fr HS.out (S := fun k => k = b ∨ k = c) ?_ (fun hl k hk hs => ?_)
      · exact fr_two HF1.out (((Fr.of_set w1 b 11 (.int .i64 p1.1)).set 12 (.int .i64 p2.1) (.inr rfl)).set 13 (.int .i64 p3.1) (.inr rfl))
      · have := HV.out hl
        rcases hs with rfl | rfl
        · exact this.1 hk
        · exact this.2 hk
    · exact (Cur.set_row (Cur.set_row (Cur.set_row HC1.out HO1.out hbc ⟨_, rfl, nb1 _⟩ _) K0 hbc ⟨_, rfl, nb1 _⟩ _) K1 hbc ⟨_, rfl, nb1 _⟩ _)
  · have N1 := hid (fun W => char_r c s W)
    have hrd : rdF Bnd.own 5 (o, s) = ({ o with gr := (rn 15 s).1, gm := (rn 1048576 (rn 15 s).2).1, gi := (rn 63 (rn 1048576 (rn 15 s).2).2).1 }, (rn 63 (rn 1048576 (rn 15 s).2).2).2) := rfl
    obtain ⟨p1, hp1⟩ : ∃ p, rn 15 s = p := ⟨_, rfl⟩
    rw [hp1] at N1 hrd
    obtain ⟨p2, hp2⟩ : ∃ p, rn 1048576 p1.2 = p := ⟨_, rfl⟩
    rw [hp2] at N1 hrd
    obtain ⟨p3, hp3⟩ : ∃ p, rn 63 p2.2 = p := ⟨_, rfl⟩
    rw [hp3] at N1 hrd
    rw [hrd]
    clear hrd hp1 hp2 hp3
    go_enter Tryz.func119, Tryz.ntmps119
    go_wp2_with fail
    refine (N1.out _ HC.out).mono ?_
    rintro e w1 ⟨rfl, hc1, hf1⟩
    have HF1 := hid (hf1)
    have HC1 := hid hc1
    have HO1 := hid (HF1.out.rows HO.out (by omega))
    have c14 := Ob.cell (w := w1) HO1.out 14
    have f14 := Ob.frozen (w := w1) HO1.out 14
    have c15 := Ob.cell (w := w1) HO1.out 15
    have f15 := Ob.frozen (w := w1) HO1.out 15
    have c16 := Ob.cell (w := w1) HO1.out 16
    have f16 := Ob.frozen (w := w1) HO1.out 16
    simp at c14 c15 c16
    clear hc1 hf1 q0
    go_wp2
    go_end0
    have K0 := set_row (i := 14) HO1.out (.int .i64 p1.1)
    have K1 := set_row (i := 15) K0 (.int .i64 p2.1)
    have K2 := set_row (i := 16) K1 (.int .i64 p3.1)
    have hFr : Fr (fun k => k = b ∨ k = c) w _ := fr_two ((Fr.of_below HA.out).trans HF1.out (fun _ _ h => h)) (((Fr.of_set w1 b 14 (.int .i64 p1.1)).set 15 (.int .i64 p2.1) (.inr rfl)).set 16 (.int .i64 p3.1) (.inr rfl))
    refine ⟨rfl, ⟨v, K2, ?_, HV.out, HVB.out⟩, ?_, hFr⟩
    · refine Cs.fr HS.out (S := fun k => k = b ∨ k = c) ?_ (fun hl k hk hs => ?_)
      · exact fr_two HF1.out (((Fr.of_set w1 b 14 (.int .i64 p1.1)).set 15 (.int .i64 p2.1) (.inr rfl)).set 16 (.int .i64 p3.1) (.inr rfl))
      · have := HV.out hl
        rcases hs with rfl | rfl
        · exact this.1 hk
        · exact this.2 hk
    · exact (Cur.set_row (Cur.set_row (Cur.set_row HC1.out HO1.out hbc ⟨_, rfl, nb1 _⟩ _) K0 hbc ⟨_, rfl, nb1 _⟩ _) K1 hbc ⟨_, rfl, nb1 _⟩ _)
  · have N1 := hid (fun W => text_s c s 64 W)
    have hrd : rdF Bnd.own 6 (o, s) = ({ o with text := (rt 64 s).1 }, (rt 64 s).2) := rfl
    obtain ⟨p1, hp1⟩ : ∃ p, rt 64 s = p := ⟨_, rfl⟩
    rw [hp1] at N1 hrd
    rw [hrd]
    clear hrd hp1
    go_enter Tryz.func119, Tryz.ntmps119
    go_wp2_with fail
    refine (N1.out _ HC.out).mono ?_
    rintro e w1 ⟨rfl, hc1, hf1⟩
    have HF1 := hid (Fr.grown hf1)
    have HC1 := hid hc1
    have HO1 := hid (HF1.out.rows HO.out (by omega))
    have c17 := Ob.cell (w := w1) HO1.out 17
    have f17 := Ob.frozen (w := w1) HO1.out 17
    simp at c17
    clear hc1 hf1 q0
    go_wp2
    go_end0
    have K0 := set_row (i := 17) HO1.out (.string p1.1)
    have hFr : Fr (fun k => k = b ∨ k = c) w _ := fr_two ((Fr.of_below HA.out).trans HF1.out (fun _ _ h => h)) (Fr.of_set w1 b 17 (.string p1.1))
    refine ⟨rfl, ⟨v, K0, ?_, HV.out, HVB.out⟩, ?_, hFr⟩
    · refine Cs.fr HS.out (S := fun k => k = b ∨ k = c) ?_ (fun hl k hk hs => ?_)
      · exact fr_two HF1.out (Fr.of_set w1 b 17 (.string p1.1))
      · have := HV.out hl
        rcases hs with rfl | rfl
        · exact this.1 hk
        · exact this.2 hk
    · exact (Cur.set_row HC1.out HO1.out hbc ⟨_, rfl, nb2 _⟩ _)
  · have N1 := hid (fun W => cuts_r c s W)
    have hrd : rdF Bnd.own 7 (o, s) = ({ o with cuts := (rcuts Bnd.own (rn 16 s).1.toNat (rn 16 s).2).1 }, (rcuts Bnd.own (rn 16 s).1.toNat (rn 16 s).2).2) := rfl
    obtain ⟨p1, hp1⟩ : ∃ p, rcuts Bnd.own (rn 16 s).1.toNat (rn 16 s).2 = p := ⟨_, rfl⟩
    rw [hp1] at N1 hrd
    rw [hrd]
    clear hrd hp1
    go_enter Tryz.func119, Tryz.ntmps119
    go_wp2_with fail
    refine (N1.out _ HC.out HY.out).mono ?_
    rintro e w1 ⟨u, rfl, hcu, hc1, hf1, hfr⟩
    obtain ⟨ua, uc, rfl, _, _⟩ := hcu.form
    have HU := hid hcu
    have HFR := hid hfr
    have HF1 := hid hf1
    have HC1 := hid hc1
    have HO1 := hid (HF1.out.rows HO.out (by omega))
    have c18 := Ob.cell (w := w1) HO1.out 18
    have f18 := Ob.frozen (w := w1) HO1.out 18
    simp at c18
    clear hc1 hf1 q0 hcu hfr
    have hvs : ∃ va vc, v = .slice va o.cuts.length vc := by
      obtain ⟨va, vc, e, _⟩ := HS.out.form
      exact ⟨va, vc, e⟩
    obtain ⟨va, vc, rfl⟩ := hvs
    go_wp2
    go_end0
    have K0 := set_row (i := 18) HO1.out (.slice ua p1.1.length uc)
    have hsz : (w.alloc (rdo c)).heap.size = w.heap.size + 1 := by simp
    have hne : ∀ k, Value.ownBlock (.slice ua p1.1.length uc) = some k → k ≠ b ∧ k ≠ c := fun k hk => by
      have := HFR.out k hk
      omega
    refine ⟨rfl, ⟨.slice ua p1.1.length uc, K0, ?_, fun _ => ⟨fun e => (hne b e).1 rfl, fun e => (hne c e).2 rfl⟩, fun k hk => by have := HFR.out k hk; omega⟩, ?_, fr_two ((Fr.of_below HA.out).trans HF1.out (fun _ _ h => h)) (Fr.of_set w1 b 18 _)⟩
    · refine Cs.fr HU.out (Fr.of_set w1 b 18 _) (fun hl k hk hs => ?_)
      exact (hne k hk).1 hs
    · exact Cur.set_row HC1.out HO1.out hbc ⟨_, rfl, fun x => by simp⟩ _
  · have N1 := hid (fun W => num_s c s 1 W)
    have hrd : rdF Bnd.own 8 (o, s) = ({ o with flag := (rn 1 s).1 == 1 }, (rn 1 s).2) := rfl
    obtain ⟨p1, hp1⟩ : ∃ p, rn 1 s = p := ⟨_, rfl⟩
    rw [hp1] at N1 hrd
    rw [hrd]
    clear hrd hp1
    go_enter Tryz.func119, Tryz.ntmps119
    go_wp2_with fail
    refine (N1.out _ HC.out).mono ?_
    rintro e w1 ⟨rfl, hc1, hf1⟩
    have HF1 := hid (Fr.grown hf1)
    have HC1 := hid hc1
    have HO1 := hid (HF1.out.rows HO.out (by omega))
    have c19 := Ob.cell (w := w1) HO1.out 19
    have f19 := Ob.frozen (w := w1) HO1.out 19
    simp at c19
    clear hc1 hf1 q0
    go_wp2
    go_end0
    have K0 := set_row (i := 19) HO1.out (.bool (p1.1 == 1))
    have hFr : Fr (fun k => k = b ∨ k = c) w _ := fr_two ((Fr.of_below HA.out).trans HF1.out (fun _ _ h => h)) (Fr.of_set w1 b 19 (.bool (p1.1 == 1)))
    refine ⟨rfl, ⟨v, K0, ?_, HV.out, HVB.out⟩, ?_, hFr⟩
    · refine Cs.fr HS.out (S := fun k => k = b ∨ k = c) ?_ (fun hl k hk hs => ?_)
      · exact fr_two HF1.out (Fr.of_set w1 b 19 (.bool (p1.1 == 1)))
      · have := HV.out hl
        rcases hs with rfl | rfl
        · exact this.1 hk
        · exact this.2 hk
    · exact (Cur.set_row HC1.out HO1.out hbc ⟨_, rfl, nb3 _⟩ _)

end Go.Proofs.YteckjkblngmenaaGreatDoor

/-
  What an append of bytes to a row of the call's own comes to, as one step of a region whose order is drawn.
-/
namespace Go.Proofs.YteckjkblngmenaaGreatDoor
open Go.RowKit
set_option linter.unusedVariables false
set_option maxRecDepth 100000

/-- An append of bytes, as one step of a region whose order is drawn. -/
theorem step_append_bs {w : World} {ops : Array Oper} {o : Oper} {a : Act} {K : Act → World → Prop} {Q : Exit → Act → World → Prop} {E : Prop} (hgd : o.guard = none) (s x : Operand)
    (ho : o.op = .call { callee := .builtin .append, args := #[s, x], argTypes := #[36, 36] })
    (base : Nat) (v : Value) (n : Nat) (xs : List Int) (hs : a.eval s = v) (hown : w.ownsRow base 5 1 v n (cs xs)) (u : Value) (ys : List Int) (hx : a.eval x = u) (hu : Bs w u ys)
    (hb : n + ys.length ≤ 140737488355328) (hbase : base ≤ w.heap.size)
    (h : ∀ v' w', w'.ownsRow base 5 1 v' (n + ys.length) (cs (xs ++ ys)) → w.grownBy w' v.ownBlock → (v'.ownBlock = v.ownBlock ∨ v'.ownBlock = some w.heap.size) → K (a.put o.dst v') w') :
    if Region.wanted o (yielded ops a.tmps) = true then Oper.wp Tryz.prog o a w K Q else E := by
  have hw : Region.wanted o (yielded ops a.tmps) = true := by simp [Region.wanted, hgd]
  rw [if_pos hw]
  obtain ⟨i0, hi, hz0, hz1, hz2⟩ := info_parts info_u8
  have hf : ∃ A c, u = .slice A ys.length c := by
    obtain ⟨A, c, e, _⟩ := hu
    exact ⟨A, c, e⟩
  obtain ⟨A, c, rfl⟩ := hf
  cases A with
  | none =>
    obtain ⟨rfl, _, rfl⟩ := hu.none_nil
    have hrun := run_append_owned_none (P := Tryz.prog) (w := w) base 36 o.type 5 i0 1 Tryz.underlying36 hi v n (cs xs) hown
    unfold Oper.wp
    simp [execOp, ho, resolve, invoke, builtin, hs, hx, hrun, Result.andThen]
    exact h v w (by simpa using hown) (World.grownBy.rfl' _ _) (Or.inl rfl)
  | some A =>
    obtain ⟨v', w', hr, h2, h3, h4, h5⟩ := run_append_own_at (P := Tryz.prog) w base 36 o.type 5 i0 (.int .u8 0) 1 1 Tryz.underlying36 hi hz0 hz1 hz2 rfl (by decide) v n (cs xs) hown A ys.length c (cs ys) (by simp) (cells_at hu) (ints_oneCell .u8 ys) (by unfold maxLen; omega) (by omega) hbase
    unfold Oper.wp execOp
    simp only [ho, resolve, invoke, builtin, Sem.run_bind, Sem.run_pure, Result.andThen_ok, List.map_toArray, List.map_cons, List.map_nil, hs, hx, hr]
    exact h v' w' (by simpa using h2) h3 h5

end Go.Proofs.YteckjkblngmenaaGreatDoor

/-
  What a writer's methods text, name, char, flag and cuts write is proved here, for all right numbers and texts.
-/
namespace Go.Proofs.YteckjkblngmenaaGreatDoor
open Go.RowKit
set_option linter.unusedVariables false
set_option maxRecDepth 100000

set_option maxHeartbeats 2000000 in
theorem text_w (B b : Nat) (v : Value) (xs : List Int) (s : ByteArray) (w : World) (h : Wr B w b v xs) (hB : B ≤ w.heap.size) (hs : s.size ≤ 1099511627776) (hlen : xs.length ≤ 1099511627776) :
    Calls Tryz.prog 105 #[.pointer (some ⟨b, 0, none⟩), .string s] w fun e w' =>
      e = .returned (.tuple #[]) ∧ ∃ v', Wr B w' b v' (xs ++ M.encText s) ∧ Wx b v v' w w' := by
  have HW := hid h
  obtain ⟨hc, hfz, a, c, rfl, _⟩ := h.cell
  have hlx : xs.length + (M.encText s).length ≤ 140737488355328 := by
    rw [encText_length]
    have := (M.sz_pos s.size).2
    omega
  have HE := hid (encText_byte s (by omega))
  clear h
  go_enter Tryz.func105, Tryz.ntmps105
  go_wp2_with fail
  go_region_law (first
    | (go_simp; go_at_call 111; refine (puttext_bs s _ (by omega)).mono ?_; rintro e w2 ⟨u, rfl, hu, hb2⟩; have HW2 := hid (Wr.below (w := w.drew) (w' := w2) HW.out hb2); have HU := hid hu; have hc2 := HW2.out.cell.1; have HB2 := hid hb2)
    | (refine step_append_bs rfl _ _ rfl B _ _ xs rfl HW2.out.2.1 _ (M.encText s) rfl HU.out hlx (Nat.le_trans hB HB2.out.size) ?_; intro v3 w3 hown3 hg3 hv3; rw [← List.length_append] at hown3; have hp := HW2.out.put hown3 hg3 HE.out hv3; have HP := hid hp; obtain ⟨a3,c3,rfl,_⟩ := own_form hown3; simp only [List.length_append] at HP; have hc3 := hg3.cell HW2.out.cell.1 (Ne.symm (HW2.out.far HW2.out.1 (by decide))); have hfz3 : w3.frozen? ⟨b,0,none⟩ = false := (World.frozen?_of_block (w := w2) (hg3.block b HW2.out.lt (Ne.symm (HW2.out.far HW2.out.1 (by decide))))).trans HW2.out.cell.2.1))
  all_goals
    go_wp2
    go_end0
    refine ⟨rfl, _, HP.out.1, ?_⟩
    exact Wx.trans (Wx.of_below (((Below.refl _ w).drew).trans HB2.out)) HP.out.2


/-- A list of numbers that was just laid. -/
theorem ints_new (w : World) (ns : List Int) : (w.alloc (.cells (ns.map (Value.int .i64)).toArray 3)).heap[w.heap.size]? = some (.cells (ns.map (Value.int .i64)).toArray 3 (0, 0)) := heap_alloc_new w _
/-- Numbers written off a list that was just laid. -/
theorem numbers_new (B b : Nat) (v : Value) (xs ns : List Int) (w : World) (h : Wr B w b v xs) (hB : B ≤ w.heap.size) (hns : ∀ n ∈ ns, Num49 n) (hlen : xs.length ≤ 1099511627776) (hpos : 0 < ns.length) (h9 : ns.length ≤ 9) :
    Calls Tryz.prog 103 #[.pointer (some ⟨b, 0, none⟩), .slice (some ⟨w.heap.size, 0, none⟩) ns.length ns.length] (w.alloc (.cells (ns.map (Value.int .i64)).toArray 3)) fun e w' =>
      e = .returned (.tuple #[]) ∧ ∃ v', Wr B w' b v' (xs ++ ns.flatMap M.enc) ∧ Wx b v v' w w' :=
  (numbers_any B b v xs ns w.heap.size _ (h.below (ba _ _)) (Nat.le_trans hB (ba w _).size) hns (by omega) hpos (ints_new w ns)).mono fun _ _ ⟨he, v', h1, h2⟩ => ⟨he, v', h1, (Wx.of_below (ba _ _)).trans h2⟩

theorem name_w (B b : Nat) (v : Value) (xs : List Int) (r n : Int) (w : World) (h : Wr B w b v xs) (hB : B ≤ w.heap.size) (h1 : Num49 r) (h2 : Num49 n) (hlen : xs.length ≤ 1099511627776) :
    Calls Tryz.prog 137 #[.pointer (some ⟨b, 0, none⟩), idv r n] w fun e w' =>
      e = .returned (.tuple #[]) ∧ ∃ v', Wr B w' b v' (xs ++ en2 r n) ∧ Wx b v v' w w' := by
  have HX := hid (ba w (ido 72 r n))
  have HC := hid (numbers_new B b v xs [r, n] _ (h.below HX.out) (Nat.le_trans hB HX.out.size) (by intro x hx; simp at hx; rcases hx with rfl | rfl <;> assumption) hlen (by simp) (by simp))
  rw [show (w.alloc (ido 72 r n)).heap.size = w.heap.size + 1 by simp] at HC
  clear h
  go_enter Tryz.func137, Tryz.ntmps137
  go_wp2_with fail
  refine HC.out.mono ?_
  rintro e w1 ⟨rfl, v', hW, hx⟩
  have HW := hid hW
  have HY := hid hx
  clear hW hx
  go_wp2
  go_end0
  refine ⟨rfl, v', ?_, (Wx.of_below HX.out).trans HY.out⟩
  have := HW.out
  simpa [en2] using this

theorem char_w (B b : Nat) (v : Value) (xs : List Int) (r n i : Int) (w : World) (h : Wr B w b v xs) (hB : B ≤ w.heap.size) (h1 : Num49 r) (h2 : Num49 n) (h3 : Num49 i) (hlen : xs.length ≤ 1099511627776) :
    Calls Tryz.prog 138 #[.pointer (some ⟨b, 0, none⟩), .agg #[.int .i64 r, .int .i64 n, .int .i64 i]] w fun e w' =>
      e = .returned (.tuple #[]) ∧ ∃ v', Wr B w' b v' (xs ++ en3 r n i) ∧ Wx b v v' w w' := by
  have HX := hid (ba w (.cells #[.int .i64 r, .int .i64 n, .int .i64 i] 74))
  have HC := hid (numbers_new B b v xs [r, n, i] _ (h.below HX.out) (Nat.le_trans hB HX.out.size) (by intro x hx; simp at hx; rcases hx with rfl | rfl | rfl <;> assumption) hlen (by simp) (by simp))
  rw [show (w.alloc (.cells #[.int .i64 r, .int .i64 n, .int .i64 i] 74)).heap.size = w.heap.size + 1 by simp] at HC
  clear h
  go_enter Tryz.func138, Tryz.ntmps138
  go_wp2_with fail
  refine HC.out.mono ?_
  rintro e w1 ⟨rfl, v', hW, hx⟩
  have HW := hid hW
  have HY := hid hx
  clear hW hx
  go_wp2
  go_end0
  refine ⟨rfl, v', ?_, (Wx.of_below HX.out).trans HY.out⟩
  have := HW.out
  simpa [en3] using this

theorem flag_w (B b : Nat) (v : Value) (xs : List Int) (f : Bool) (w : World) (h : Wr B w b v xs) (hB : B ≤ w.heap.size) (hlen : xs.length ≤ 1099511627776) :
    Calls Tryz.prog 140 #[.pointer (some ⟨b, 0, none⟩), .bool f] w fun e w' =>
      e = .returned (.tuple #[]) ∧ ∃ v', Wr B w' b v' (xs ++ M.enc (if f then 1 else 0)) ∧ Wx b v v' w w' := by
  cases f
  · have HC := hid (numbers_new B b v xs [0] _ h hB (by intro x hx; simp at hx; subst hx; unfold Num49; decide) hlen (by decide) (by decide))
    clear h
    go_enter Tryz.func140, Tryz.ntmps140
    go_wp2_with fail
    refine HC.out.mono ?_
    rintro e w1 ⟨rfl, v', hW, hx⟩
    have HW := hid hW
    have HY := hid hx
    clear hW hx
    go_wp2
    go_end0
    refine ⟨rfl, v', ?_, HY.out⟩
    have := HW.out
    simpa using this
  · have HC := hid (numbers_new B b v xs [1] _ h hB (by intro x hx; simp at hx; subst hx; unfold Num49; decide) hlen (by decide) (by decide))
    clear h
    go_enter Tryz.func140, Tryz.ntmps140
    go_wp2_with fail
    refine HC.out.mono ?_
    rintro e w1 ⟨rfl, v', hW, hx⟩
    have HW := hid hW
    have HY := hid hx
    clear hW hx
    go_wp2
    go_end0
    refine ⟨rfl, v', ?_, HY.out⟩
    have := HW.out
    simpa using this

end Go.Proofs.YteckjkblngmenaaGreatDoor

/-
  What a writer's methods cuts and field write is proved here, for all right cuts and fields.
-/
namespace Go.Proofs.YteckjkblngmenaaGreatDoor
open Go.RowKit
set_option linter.unusedVariables false
set_option maxRecDepth 100000

/-- What lies below B is as it was, where the writer and its row lie from B on. -/
theorem Wx.old {B b : Nat} {v v' : Value} {w w' : World} {xs : List Int} (h : Wx b v v' w w') (hW : Wr B w b v xs) (hb : B ≤ b) (hB : B ≤ w.heap.size) : Below B w w' :=
  h.1.below (fun k hk hs => by
    rcases hs with hs | hs
    · omega
    · have := (hW.2.1.lt k hs).1; omega) hB
theorem Cs.block {w : World} {v : Value} {l : List Ct} (h : Cs w v l) (hl : 0 < l.length) : ∀ k, v.ownBlock = some k → k < w.heap.size := by
  obtain ⟨b, off, c, rfl, _, _, hb, _⟩ := h.inv hl
  intro k hk
  simp [Value.ownBlock] at hk
  omega
theorem enC_eq (c : Ct) : [c.r, c.n, c.f, c.t].flatMap M.enc = enC c := by simp [enC]
theorem rct_nums {c : Ct} (h : rct c = true) : ∀ x ∈ [c.r, c.n, c.f, c.t], Num49 x := by
  simp [rct, ro] at h
  intro x hx
  unfold Num49
  simp at hx
  rcases hx with rfl | rfl | rfl | rfl <;> omega
theorem enC_len (c : Ct) : (enC c).length ≤ 28 := by
  have := encs_len [c.r, c.n, c.f, c.t]
  rw [enC_eq] at this
  simpa using this
theorem cuts_len (l : List Ct) : (l.flatMap enC).length ≤ 28 * l.length := by
  induction l with
  | nil => simp
  | cons c l ih =>
    rw [List.flatMap_cons, List.length_append, List.length_cons]
    have := enC_len c
    omega
theorem cuts_step (l : List Ct) (k : Nat) (hk : k < l.length) : (l.take (k + 1)).flatMap enC = (l.take k).flatMap enC ++ enC l[k] := by
  rw [List.take_succ_eq_append_getElem hk, List.flatMap_append]
  simp

set_option maxHeartbeats 2000000 in
theorem cuts_w (B b : Nat) (v vc : Value) (xs : List Int) (l : List Ct) (w : World) (h : Wr B w b v xs) (hB : B ≤ w.heap.size) (hbB : B ≤ b) (hC : Cs w vc l) (hcB : ∀ k,vc.ownBlock = some k → k < B) (hl1 : 1 ≤ l.length) (hl16 : l.length ≤ 16) (hr : ∀ c ∈ l,rct c = true) (hlen : xs.length ≤ 549755813888) :
    Calls Tryz.prog 139 #[.pointer (some ⟨b, 0, none⟩), vc] w fun e w' =>
      e = .returned (.tuple #[]) ∧ ∃ v', Wr B w' b v' (xs ++ (M.enc l.length ++ l.flatMap enC)) ∧ Wx b v v' w w' := by
  have hC' := hC
  obtain ⟨gb, off, c, rfl, hlc, hcm, hbl, hc⟩ := hC.inv (by omega)
  obtain ⟨n, hn⟩ : ∃ n, l.length = n := ⟨_, rfl⟩
  have HN := hid hn
  rw [hn] at hl1 hl16 hlc ⊢
  have HI := hid (numbers_new B b v xs [(n : Int)] w h hB (by intro x hx; simp at hx; subst hx; unfold Num49; omega) (by omega) (by simp) (by simp))
  have HW := hid h
  have HC := hid hc
  have HR := hid hr
  have HGB := hid (hcB gb rfl)
  unfold maxLen at hcm
  clear hn h hC hc hr hC' hcB hbl
  go_enter Tryz.func139, Tryz.ntmps139
  go_wp2_with fail
  refine HI.out.mono ?_
  rintro e w1 ⟨rfl, v1, hW1, hx1⟩
  have HW1 := hid hW1
  have HX1 := hid hx1
  clear hW1 hx1 HI
  go_wp2
  go_loopw [13] (fun i wr => ∃ (k : Nat) (v' : Value), k ≤ n ∧ i = .int .i64 k ∧ Wr B wr b v' (xs ++ (M.enc n ++ (l.take k).flatMap enC)) ∧ Wx b v v' w wr) (fun i _ => n - (intOf i).toNat)
  case atStart => exact ⟨0, v1, Nat.zero_le _, rfl, by simpa using HW1.out, HX1.out⟩
  case round =>
    obtain ⟨k, v2, hk, rfl, hw2, hx2⟩ := hrel
    clear HW1 HX1
    obtain ⟨ys, hys⟩ : ∃ ys, xs ++ (M.enc n ++ (l.take k).flatMap enC) = ys := ⟨_, rfl⟩
    rw [hys] at hw2
    have HY := hid hys
    have HX2 := hid hx2
    have HW2 := hid hw2
    clear hx2 hw2 hys
    by_cases hlt : k < n
    · have hkl : k < l.length := by rw [HN.out]; exact hlt
      have hbel := HX2.out.old HW.out hbB hB
      obtain ⟨x, hx⟩ : ∃ x, l[k] = x := ⟨_, rfl⟩
      have g := HC.out k hkl
      rw [hx] at g
      have g0 := (hbel.cell (p := ⟨gb, off + k * 4, none⟩) HGB.out).trans g.1
      have g1 := (hbel.cell (p := ⟨gb, off + k * 4 + 1, none⟩) HGB.out).trans g.2.1
      have g2 := (hbel.cell (p := ⟨gb, off + k * 4 + 2, none⟩) HGB.out).trans g.2.2.1
      have g3 := (hbel.cell (p := ⟨gb, off + k * 4 + 3, none⟩) HGB.out).trans g.2.2.2
      have hxr : rct x = true := by rw [← hx]; exact HR.out _ (List.getElem_mem hkl)
      have hsz := HX2.out.size
      have hya : ys.length ≤ 1099511627776 := by
        rw [← HY.out]
        have := cuts_len (l.take k)
        have := (M.sz_pos n).2
        rw [List.length_append, List.length_append, M.enc_length]
        rw [List.length_take] at *
        omega
      have HA := hid (ba wr (.cells #[.int .i64 x.r, .int .i64 x.n, .int .i64 x.f, .int .i64 x.t] 113))
      have HI := hid (numbers_new B b v2 ys [x.r, x.n, x.f, x.t] _ (HW2.out.below HA.out) (Nat.le_trans hB (Nat.le_trans hsz HA.out.size)) (rct_nums hxr) hya (by simp) (by simp))
      rw [show (wr.alloc (.cells #[.int .i64 x.r, .int .i64 x.n, .int .i64 x.f, .int .i64 x.t] 113)).heap.size = wr.heap.size + 1 by simp] at HI
      have HX := hid hx
      have b1' : (k : Int) < (n : Int) := by omega
      clear hx g hbel hxr hya
      go_wp2_with fail
      refine HI.out.mono ?_
      rintro e w3 ⟨rfl, v3, hW3, hx3⟩
      have HW3 := hid hW3
      have HX3 := hid (HX2.out.trans ((Wx.of_below HA.out).trans hx3))
      clear hW3 hx3 HI g0 g1 g2 g3
      go_wp2
      go_roundw
      case rel =>
        refine ⟨k + 1, v3, by omega, by go_num, ?_, HX3.out⟩
        have := HW3.out
        rw [enC_eq, ← HY.out] at this
        rw [cuts_step l k hkl, HX.out]
        simpa using this
      case measure => simp [intOf]; omega
    · have e1 : k = n := by omega
      go_wp2
      go_end0
      refine ⟨rfl, v2, ?_, HX2.out⟩
      have := HW2.out
      rw [← HY.out, List.take_of_length_le (by have := HN.out; omega)] at this
      exact this


set_option maxHeartbeats 2000000 in
theorem field_w (f : Nat) (hf : f ≤ 8) (B b : Nat) (v vc : Value) (xs : List Int) (o : Opn) (w : World) (h : Wr B w b v xs) (hB : B ≤ w.heap.size) (hbB : B ≤ b) (hC : Cs w vc o.cuts) (hcB : 0 < o.cuts.length → ∀ k,vc.ownBlock = some k → k < B) (hr : rightF o f = true) (hlen : xs.length ≤ 549755813888) :
    Calls Tryz.prog 126 #[.pointer (some ⟨b, 0, none⟩), opv o vc, .int .i64 f] w fun e w' =>
      e = .returned (.tuple #[]) ∧ ∃ v', Wr B w' b v' (xs ++ encF o f) ∧ Wx b v v' w w' := by
  have HA := hid (ba w (opo o vc))
  have HW := hid (h.below HA.out)
  have HBA := hid (Nat.le_trans hB HA.out.size)
  have HC := hid (hC.below HA.out)
  have HCB := hid hcB
  have hlen' : xs.length ≤ 1099511627776 := by omega
  clear h hC hcB
  rcases nine hf with rfl | rfl | rfl | rfl | rfl | rfl | rfl | rfl | rfl
  · have hq := ro_bounds hr
    have q1 : Num49 o.br := by unfold Num49; omega
    have q2 : Num49 o.bm := by unfold Num49; omega
    clear hq hr
    go_enter Tryz.func126, Tryz.ntmps126
    go_wp2_with fail
    refine (name_w B b v xs _ _ _ HW.out HBA.out q1 q2 hlen').mono ?_
    rintro e w1 ⟨rfl, v1, hW1, hx1⟩
    have HW1 := hid hW1
    have HX1 := hid hx1
    clear hW1 hx1
    go_wp2
    go_end0
    exact ⟨rfl, v1, HW1.out, (Wx.of_below HA.out).trans HX1.out⟩
  · have hq := rb_bounds hr
    have q1 : Num49 o.pr := by unfold Num49; omega
    have q2 : Num49 o.pm := by unfold Num49; omega
    clear hq hr
    go_enter Tryz.func126, Tryz.ntmps126
    go_wp2_with fail
    refine (name_w B b v xs _ _ _ HW.out HBA.out q1 q2 hlen').mono ?_
    rintro e w1 ⟨rfl, v1, hW1, hx1⟩
    have HW1 := hid hW1
    have HX1 := hid hx1
    clear hW1 hx1
    go_wp2
    go_end0
    exact ⟨rfl, v1, HW1.out, (Wx.of_below HA.out).trans HX1.out⟩
  · have hs : o.key.size ≤ 1099511627776 := by
      simp [rightF, K.right, tx_length] at hr
      omega
    clear hr
    go_enter Tryz.func126, Tryz.ntmps126
    go_wp2_with fail
    refine (text_w B b v xs _ _ HW.out HBA.out hs hlen').mono ?_
    rintro e w1 ⟨rfl, v1, hW1, hx1⟩
    have HW1 := hid hW1
    have HX1 := hid hx1
    clear hW1 hx1
    go_wp2
    go_end0
    exact ⟨rfl, v1, HW1.out, (Wx.of_below HA.out).trans HX1.out⟩
  · have hq := ro_bounds hr
    have q1 : Num49 o.sr := by unfold Num49; omega
    have q2 : Num49 o.sm := by unfold Num49; omega
    clear hq hr
    go_enter Tryz.func126, Tryz.ntmps126
    go_wp2_with fail
    refine (name_w B b v xs _ _ _ HW.out HBA.out q1 q2 hlen').mono ?_
    rintro e w1 ⟨rfl, v1, hW1, hx1⟩
    have HW1 := hid hW1
    have HX1 := hid hx1
    clear hW1 hx1
    go_wp2
    go_end0
    exact ⟨rfl, v1, HW1.out, (Wx.of_below HA.out).trans HX1.out⟩
  · have hq := rc_bounds hr
    have q1 : Num49 o.lr := by unfold Num49; omega
    have q2 : Num49 o.lm := by unfold Num49; omega
    have q3 : Num49 o.li := by unfold Num49; omega
    clear hq hr
    go_enter Tryz.func126, Tryz.ntmps126
    go_wp2_with fail
    refine (char_w B b v xs _ _ _ _ HW.out HBA.out q1 q2 q3 hlen').mono ?_
    rintro e w1 ⟨rfl, v1, hW1, hx1⟩
    have HW1 := hid hW1
    have HX1 := hid hx1
    clear hW1 hx1
    go_wp2
    go_end0
    exact ⟨rfl, v1, HW1.out, (Wx.of_below HA.out).trans HX1.out⟩
  · have hq := rc_bounds hr
    have q1 : Num49 o.gr := by unfold Num49; omega
    have q2 : Num49 o.gm := by unfold Num49; omega
    have q3 : Num49 o.gi := by unfold Num49; omega
    clear hq hr
    go_enter Tryz.func126, Tryz.ntmps126
    go_wp2_with fail
    refine (char_w B b v xs _ _ _ _ HW.out HBA.out q1 q2 q3 hlen').mono ?_
    rintro e w1 ⟨rfl, v1, hW1, hx1⟩
    have HW1 := hid hW1
    have HX1 := hid hx1
    clear hW1 hx1
    go_wp2
    go_end0
    exact ⟨rfl, v1, HW1.out, (Wx.of_below HA.out).trans HX1.out⟩
  · have hs : o.text.size ≤ 1099511627776 := by
      simp [rightF] at hr
      omega
    clear hr
    go_enter Tryz.func126, Tryz.ntmps126
    go_wp2_with fail
    refine (text_w B b v xs _ _ HW.out HBA.out hs hlen').mono ?_
    rintro e w1 ⟨rfl, v1, hW1, hx1⟩
    have HW1 := hid hW1
    have HX1 := hid hx1
    clear hW1 hx1
    go_wp2
    go_end0
    exact ⟨rfl, v1, HW1.out, (Wx.of_below HA.out).trans HX1.out⟩
  · have hs : (1 ≤ o.cuts.length ∧ o.cuts.length ≤ 16) ∧ ∀ c ∈ o.cuts, rct c = true := by
      simpa [rightF] using hr
    have HS := hid hs
    clear hs hr
    go_enter Tryz.func126, Tryz.ntmps126
    go_wp2_with fail
    refine (cuts_w B b v _ xs o.cuts _ HW.out HBA.out hbB HC.out (HCB.out HS.out.1.1) HS.out.1.1 HS.out.1.2 HS.out.2 hlen).mono ?_
    rintro e w1 ⟨rfl, v1, hW1, hx1⟩
    have HW1 := hid hW1
    have HX1 := hid hx1
    clear hW1 hx1
    go_wp2
    go_end0
    exact ⟨rfl, v1, HW1.out, (Wx.of_below HA.out).trans HX1.out⟩
  · clear hr
    go_enter Tryz.func126, Tryz.ntmps126
    go_wp2_with fail
    refine (flag_w B b v xs _ _ HW.out HBA.out hlen').mono ?_
    rintro e w1 ⟨rfl, v1, hW1, hx1⟩
    have HW1 := hid hW1
    have HX1 := hid hx1
    clear hW1 hx1
    go_wp2
    go_end0
    exact ⟨rfl, v1, HW1.out, (Wx.of_below HA.out).trans HX1.out⟩

end Go.Proofs.YteckjkblngmenaaGreatDoor

/-
  What the package variables Root and Trash hold ('Lay'), out of what a row lists; that new memory keeps it.
-/
namespace Go.Proofs.YteckjkblngmenaaGreatDoor
open Go.RowKit Go.ChangeShapes Go.WideShapes Go.ChangeAt
set_option linter.unusedVariables false
set_option maxRecDepth 100000

structure Lay (w : World) : Prop where
  r0 : w.cell? ⟨0, 0, none⟩ = some (.int .i64 0)
  r1 : w.cell? ⟨0, 1, none⟩ = some (.int .i64 0)
  t0 : w.cell? ⟨1, 0, none⟩ = some (.int .i64 1)
  t1 : w.cell? ⟨1, 1, none⟩ = some (.int .i64 0)

theorem gRoot : Tryz.prog.globalNamed "offshoot/api.Root" = some 0 := by kernel_rfl
theorem gTrash : Tryz.prog.globalNamed "offshoot/api.Trash" = some 1 := by kernel_rfl

theorem Lay.below {w w' : World} (h : Lay w) (hb : Below w.heap.size w w') : Lay w' := by
  have k := Keeps.below hb
  exact ⟨k _ _ _ h.r0, k _ _ _ h.r1, k _ _ _ h.t0, k _ _ _ h.t1⟩
theorem list_two {α : Type} {l : List α} (h : l.length = 2) : ∃ a b, l = [a, b] := by
  cases l with
  | nil => cases h
  | cons a l =>
    cases l with
    | nil => cases h
    | cons b l =>
      cases l with
      | nil => exact ⟨a, b, rfl⟩
      | cons c l => simp at h

/-- Two numbers that stand first on the list. -/
theorem pair_of_head {W : World} {name : String} {x y : Int} {rest : List (String × DataW Unit)} {g : Nat} (hg : Tryz.prog.globalNamed name = some g) (hty : (Tryz.prog.globals[g]?).map (·.type) = some 72)
    (h : laidMet Tryz.prog ((name, .agg [.lit (.int .i64 x), .lit (.int .i64 y)]) :: rest) W) : W.cell? ⟨g, 0, none⟩ = some (.int .i64 x) ∧ W.cell? ⟨g, 1, none⟩ = some (.int .i64 y) := by
  obtain ⟨ps, ⟨g', t', cs, fuel, p, q, hg', ht', hvar, hd, _, _⟩, _⟩ := h
  obtain rfl := Option.some.inj (hg.symm.trans hg')
  obtain rfl := Option.some.inj (hty.symm.trans ht')
  obtain ⟨y0, y1, n, hx, hl, h0, h1⟩ := trod_struct2 Tryz.underlying72 hd
  have c1 : Tryz.prog.cellsOf 3 = 1 := by kernel_rfl
  have c2 : Tryz.prog.cellsOf 72 = 2 := by kernel_rfl
  rw [c2] at hl
  obtain ⟨l⟩ := cs
  have hc : ∃ v0 v1, l = [v0, v1] := list_two hl
  obtain ⟨v0, v1, rfl⟩ := hc
  · simp [c1] at h0 h1
    obtain ⟨a, e0, e1, _⟩ := DataW.trod_int Tryz.underlying3 h0
    obtain ⟨b, e2, e3, _⟩ := DataW.trod_int Tryz.underlying3 h1
    simp only [Prod.mk.injEq, DataW.agg.injEq, List.cons.injEq, e1, e3] at hx
    have ha : a = x := by have := hx.1.1; simp at this; exact this.symm
    have hb : b = y := by have := hx.1.2.1; simp at this; exact this.symm
    simp at e0 e2
    subst ha; subst hb; subst e0; subst e2
    exact ⟨by simpa using World.var?_cell hg hvar 0, by simpa using World.var?_cell hg hvar 1⟩

theorem lay_of {W : World} (h : laidMetH Tryz.prog Rows.oplogCallsRow.laid W) : Lay W := by
  rw [MakeChecks.laidMetH_plain _ _ _ (by kernel_rfl)] at h
  have hr := pair_of_head gRoot (by kernel_rfl) h
  have ht := pair_of_head gTrash (by kernel_rfl) h.tail
  exact ⟨hr.1, hr.2, ht.1, ht.2⟩

end Go.Proofs.YteckjkblngmenaaGreatDoor
