/-
  OpNeeds returns true for every op: its walk.
-/
import Derived.Test.YtmgemgkanlpnnaaDoorOLawH
import Derived.Test.YtmgemgkanlpnnaaDoorOSameI
import Derived.Test.YtmgemgkanlpnnaaDoorOClone
import Derived.Test.YtmgemgkanlpnnaaDoorONeeds
namespace Go.Proofs.YtmgemgkanlpnnaaDoor
open Go.RowKit
set_option linter.unusedVariables false
set_option maxRecDepth 100000

theorem note_mem (xs : List (Int × Int)) : ∀ (l : List (Int × Int)) x, x ∈ xs.foldl noteL l → x ∈ l ∨ (x ∈ xs ∧ x.2 ≠ 0) := by
  induction xs with
  | nil => intro l x h; exact .inl h
  | cons y xs ih =>
    intro l x h
    rcases ih _ x h with h | ⟨h, h0⟩
    · unfold noteL at h
      split at h
      · exact .inl h
      · rename_i hn
        rcases List.mem_append.1 h with h | h
        · exact .inl h
        · obtain rfl := List.mem_singleton.1 h
          exact .inr ⟨List.mem_cons_self, fun e => hn (.inr e)⟩
    · exact .inr ⟨List.mem_cons_of_mem _ h, h0⟩
theorem note_nodup (xs : List (Int × Int)) : ∀ l : List (Int × Int), l.Nodup → (xs.foldl noteL l).Nodup := by
  induction xs with
  | nil => intro l h; exact h
  | cons y xs ih =>
    intro l h
    refine ih _ ?_
    unfold noteL
    split
    · exact h
    · rename_i hn
      rw [List.nodup_append]
      refine ⟨h, by simp, fun a ha b hb e => ?_⟩
      rw [List.mem_singleton] at hb
      subst hb
      subst e
      exact hn (.inl ha)
theorem needs_right {o : Opn} (h : rightO o = true) : ∀ x ∈ needsO o, 0 ≤ x.1 ∧ x.1 < 16 ∧ 1 ≤ x.2 ∧ x.2 ≤ 1048576 := by
  intro x hx
  have hp := (right_parts h).2
  rcases note_mem _ _ x hx with hx | ⟨hx, h0⟩
  · cases hx
  · rcases List.mem_append.1 hx with hx | hx
    · simp only [fiveO, List.mem_cons, List.not_mem_nil, or_false] at hx
      rcases hx with rfl | rfl | rfl | rfl | rfl
      · have g := hp 0 (by decide)
        unfold goodF at g
        split at g
        · have := ro_bounds (r := o.br) (n := o.bm) g; dsimp only at h0 ⊢; omega
        · simp [noughtF] at g; exact absurd g.2 h0
      · have g := hp 1 (by decide)
        unfold goodF at g
        split at g
        · have := rb_bounds (r := o.pr) (n := o.pm) g; dsimp only at h0 ⊢; omega
        · simp [noughtF] at g; exact absurd g.2 h0
      · have g := hp 3 (by decide)
        unfold goodF at g
        split at g
        · have := ro_bounds (r := o.sr) (n := o.sm) g; dsimp only at h0 ⊢; omega
        · simp [noughtF] at g; exact absurd g.2 h0
      · have g := hp 4 (by decide)
        unfold goodF at g
        split at g
        · have := rc_bounds (r := o.lr) (n := o.lm) (i := o.li) g; dsimp only at h0 ⊢; omega
        · simp [noughtF] at g; exact absurd g.2.1 h0
      · have g := hp 5 (by decide)
        unfold goodF at g
        split at g
        · have := rc_bounds (r := o.gr) (n := o.gm) (i := o.gi) g; dsimp only at h0 ⊢; omega
        · simp [noughtF] at g; exact absurd g.2.1 h0
    · obtain ⟨c, hc, rfl⟩ := List.mem_map.1 hx
      have g := hp 7 (by decide)
      unfold goodF at g
      split at g
      · simp only [rightF, Bool.and_eq_true, List.all_eq_true] at g
        have := g.2 c hc
        simp [rct, ro] at this
        dsimp only
        omega
      · have e : o.cuts.length = 0 := of_decide_eq_true g
        rw [List.eq_nil_of_length_eq_zero e] at hc
        cases hc
theorem needs_len (o : Opn) : (needsO o).length ≤ 5 + o.cuts.length := by
  have := fold_len (fiveO o ++ cutsN o.cuts) []
  simp [needsO, fiveO, cutsN] at this ⊢
  omega

set_option maxHeartbeats 8000000 in
theorem needs_walk (A : Value) (o : Opn) (v : Value) (hA : A = opv o v) (w : World) (hC : Cs w v o.cuts) (hL : Lay w) :
    Calls Tryd.prog 7 #[A] w fun e w' => e = .returned (.bool true) ∧ Below w.heap.size w w' := by
  have HAA := hid hA
  have HC := hid hC
  have HL := hid hL
  clear hA hC hL
  go_enter Tryd.func7, Tryd.ntmps7
  go_wp2_with (refine wpList_box_op rfl _ rfl A rfl o v HAA.out ?_; intro w1 hob hb1 hlt1; have HO1 := hid hob; have B1 := hid hb1; clear hob hb1 hlt1)
  refine (alive_any w1 (HL.out.below B1.out)).mono ?_
  rintro e w2 ⟨rfl, b2⟩
  have HO2 := hid (HO1.out.below b2)
  have B2 := hid (bt B1.out b2)
  have HC2 := hid (HC.out.below B2.out)
  clear b2
  have HA3 := hid (ba w2 (opo o v))
  have HL3 := hid (long_any _ [(o, v)] 1 _ (Os.one w2 o v HC2.out) (by simp) (by decide))
  rw [show ([(o, v)].all fun p => small p.1) = small o from by simp] at HL3
  have HO3 := hid (HO2.out.below HA3.out)
  have B3 := hid (bt B2.out HA3.out)
  have HC3 := hid (HC2.out.below HA3.out)
  go_wp2_with (first | (refine wpList_load_op rfl _ rfl w.heap.size rfl o v HO2.out ?_) | (refine wpList_ops1 rfl _ rfl o v rfl ?_) | fail)
  refine HL3.out.mono ?_
  rintro e w3 ⟨rfl, rfl⟩
  clear HL3
  obtain ⟨W, hW⟩ : ∃ W, w2.alloc (opo o v) = W := ⟨_, rfl⟩
  rw [hW] at HO3 B3 HC3 ⊢
  clear hW HA3 HO2 B2 HC2 HO1 B1 HC
  cases hs : small o
  · go_wp2
    go_ret
    exact ⟨rfl, B3.out⟩
  · obtain ⟨hfin, hcl⟩ := small_fine hs
    have HF := hid hfin
    have HCL := hid hcl
    clear hs hfin hcl
    have HR := hid (right_any o v W (HL.out.below B3.out) HC3.out HF.out)
    go_wp2_with (first | (refine wpList_load_opg (by kernel_rfl) _ rfl w.heap.size rfl o v HO3.out ?_) | fail)
    refine HR.out.mono ?_
    rintro e w4 ⟨rfl, b4⟩
    have HO4 := hid (HO3.out.below b4)
    have HC4 := hid (HC3.out.below b4)
    have B4 := hid (bt B3.out b4)
    clear b4 HR HO3 HC3 B3
    cases hr : rightO o
    · go_wp2
      go_ret
      exact ⟨rfl, B4.out⟩
    · have HNR := hid (needs_right hr)
      have HND : Hid (needsO o).Nodup := hid (note_nodup _ [] (by simp))
      have HNL := hid (needs_len o)
      have HNE := hid (needs_any o v w4 HC4.out (by have := HCL.out; omega))
      obtain ⟨L, hL'⟩ : ∃ L, needsO o = L := ⟨_, rfl⟩
      have HLD := hid hL'
      rw [hL'] at HNR HND HNL HNE
      clear hr hL'
      go_wp2_with (first | (refine wpList_load_op rfl _ rfl w.heap.size rfl o v HO4.out ?_) | fail)
      refine HNE.out.mono ?_
      rintro e w5 ⟨vl, rfl, hns, b5⟩
      have HO5 := hid (HO4.out.below b5)
      have HC5 := hid (HC4.out.below b5)
      have B5 := hid (bt B4.out b5)
      have HNS := hid hns
      obtain ⟨la, lc, rfl, _, _⟩ := hns.form
      obtain ⟨n, hn⟩ : ∃ n, L.length = n := ⟨_, rfl⟩
      have HN := hid hn
      rw [hn] at HNS HNL ⊢
      have hcell : ∀ i (h : i < L.length), ∃ b off, la = some ⟨b, off, none⟩ ∧ w5.cell? ⟨b, off + i * 2, none⟩ = some (.int .i64 (L[i]).1) ∧ w5.cell? ⟨b, off + i * 2 + 1, none⟩ = some (.int .i64 (L[i]).2) := by
        intro i h
        obtain ⟨b, off, c, e, _, _, _, hc⟩ := hns.inv (by omega)
        simp only [Value.slice.injEq] at e
        exact ⟨b, off, e.1, hc i h⟩
      have HCE := hid hcell
      clear b5 HNE hns hcell HO4 HC4 B4 hn
      have hnb : n ≤ 45 := by have := HNL.out; have := HCL.out; omega
      go_wp2
      go_loopw [4] (fun i wr => ∃ k m : Nat, k ≤ n ∧ i = .int .i64 k ∧ wr = w5.drewN m) (fun i _ => n - (intOf i).toNat)
      case atStart => exact ⟨0, 0, Nat.zero_le _, rfl, rfl⟩
      case round =>
        obtain ⟨k, m, hk, rfl, rfl⟩ := hrel
        by_cases hlt : k < n
        · have hx : k < L.length := by have := HN.out; omega
          obtain ⟨b, off, rfl, g1, g2⟩ := HCE.out k hx
          obtain ⟨⟨p1, p2⟩, hp⟩ : ∃ p, L[k] = p := ⟨_, rfl⟩
          have hbd := HNR.out _ (List.getElem_mem hx)
          rw [hp] at g1 g2 hbd
          have HP := hid hp
          clear hp
          dsimp only at g1 g2 hbd
          have b1' : (k : Int) < (n : Int) := by omega
          have d1 : decide (p2 < 1) = false := by simp; omega
          have d2 : decide (1048576 < p2) = false := by simp; omega
          have d3 : decide (p1 < 0) = false := by simp; omega
          have d4 : decide (16 ≤ p1) = false := by simp; omega
          have d5 : ¬ p2 < 1 := by omega
          have d6 : ¬ 1048576 < p2 := by omega
          have d7 : ¬ p1 < 0 := by omega
          have d8 : ¬ 16 ≤ p1 := by omega
          go_wp2
          go_loopw [5] (fun i wr => ∃ j m' : Nat, j ≤ k ∧ i = .int .i64 j ∧ wr = w5.drewN m') (fun i _ => k - (intOf i).toNat)
          case atStart => exact ⟨0, _, Nat.zero_le _, rfl, rfl⟩
          case round =>
            obtain ⟨j, m', hj, rfl, rfl⟩ := hrel
            by_cases hjk : j < k
            · have hy : j < L.length := by omega
              obtain ⟨b', off', e', g3, g4⟩ := HCE.out j hy
              simp only [Option.some.injEq, Addr.mk.injEq, and_true] at e'
              obtain ⟨rfl, rfl⟩ := e'
              obtain ⟨⟨q1, q2⟩, hq⟩ : ∃ p, L[j] = p := ⟨_, rfl⟩
              rw [hq] at g3 g4
              dsimp only at g3 g4
              have hne : (q1, q2) ≠ (p1, p2) := fun e => by
                have h1 := HP.out
                rw [← hq, ← h1] at e
                exact (List.pairwise_iff_getElem.1 HND.out) j k hy hx hjk e
              have HQ := hid hq
              clear hq
              have b2' : (j : Int) < (k : Int) := by omega
              have b3' : (j : Int) < (n : Int) := by omega
              by_cases e1 : q1 = p1
              · subst e1
                have e2 : q2 ≠ p2 := fun e => hne (by rw [e])
                have e2' : (q2 == p2) = false := by simpa using e2
                go_wp2
                go_quiet (fail)
                go_wp2
                go_roundw
                case rel => exact ⟨j + 1, _, by omega, by go_num, rfl⟩
                case measure => simp [intOf]; omega
              · have e1' : (q1 == p1) = false := by simpa using e1
                go_wp2
                go_quiet (fail)
                go_wp2
                go_roundw
                case rel => exact ⟨j + 1, _, by omega, by go_num, rfl⟩
                case measure => simp [intOf]; omega
            · have b2' : ¬ (j : Int) < (k : Int) := by omega
              go_wp2
              go_roundw
              case rel => exact ⟨k + 1, _, by omega, by go_num, rfl⟩
              case measure => simp [intOf]; omega
        · have b1' : ¬ (k : Int) < (n : Int) := by omega
          have HO6 := hid (HO5.out.below (bd w5 m))
          have HC6 := hid (HC5.out.below (bd w5 m))
          have B6 := hid (bt B5.out (bd w5 m))
          have HNS6 := hid (Sl.below HNS.out (bd w5 m))
          go_wp2_with (first | (refine wpList_load_op rfl _ rfl w.heap.size rfl o v HO6.out ?_) | fail)
          refine (cloneop_any o v _ HC6.out HF.out (by have := HCL.out; omega)).mono ?_
          rintro e w7 ⟨u7, rfl, hc7, b7⟩
          have HO7 := hid (HO6.out.below b7)
          have HNS7 := hid (Sl.below HNS6.out b7)
          have HC7 := hid (HC6.out.below b7)
          have B7 := hid (bt B6.out b7)
          have HNE := hid (needs_any o u7 w7 hc7 (by have := HCL.out; omega))
          rw [HLD.out] at HNE
          clear b7 hc7
          go_wp2_with fail
          refine HNE.out.mono ?_
          rintro e w8 ⟨u8, rfl, hn8, b8⟩
          have HNS8 : Hid (Ns w8 (.slice la n lc) L) := hid (Sl.below HNS7.out b8)
          have HSI := hid (sameids_any u8 (.slice la n lc) L L w8 hn8 HNS8.out)
          rw [show decide (L = L) = true from by simp] at HSI
          have HO8 := hid (HO7.out.below b8)
          have HC8 := hid (HC7.out.below b8)
          have B8 := hid (bt B7.out b8)
          clear b8 hn8 HNE
          go_wp2_with fail
          refine HSI.out.mono ?_
          rintro e w9 ⟨rfl, q9, rfl⟩
          have HO9 := hid (HO8.out.below (bd w8 q9))
          have B9 := hid (bt B8.out (bd w8 q9))
          obtain ⟨va, vc, hv, _, _⟩ := HC8.out.form
          have c18 := HO9.out.cells.c18
          rw [hv] at c18
          have hle : ((n : Int) ≤ 5 + (o.cuts.length : Int)) := by have := HNL.out; omega
          have hwr : wrap64 (5 + (o.cuts.length : Int)) = 5 + (o.cuts.length : Int) := by have := HCL.out; unfold wrap64; omega
          rw [← hwr] at hle
          clear hv hwr
          go_wp2
          go_ret
          exact ⟨rfl, B9.out⟩

end Go.Proofs.YtmgemgkanlpnnaaDoor
