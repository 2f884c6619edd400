/-
  CauseFull returns true for every row of ops: its walk.
-/
import Derived.Test.YtaojeanoojnknaaDoorPart31
import Derived.Test.YtaojeanoojnknaaDoorPart21
namespace Go.Proofs.YtaojeanoojnknaaDoor
open Go.RowKit
set_option linter.unusedVariables false
set_option maxRecDepth 100000

theorem off_same {V : List Int} {l : List Opn} {o : Opn} (h : offC V l o ≠ 0) : offL V l o = l := by unfold offL; rw [if_neg h]
theorem off_again {V : List Int} {l : List Opn} {o : Opn} (h : offC V l o = 0) : offC V (offL V l o) o = 12 ∧ offL V (offL V l o) o = offL V l o := by
  obtain ⟨h1, h2, h3, _⟩ := off_zero h
  have e : offC V (offL V l o) o = 12 := by
    have hm : ido2 o ∈ (offL V l o).map ido2 := by
      unfold offL
      rw [if_pos h]
      exact List.mem_map_of_mem ((insO_mem h3 o).2 (.inl rfl))
    unfold offC
    rw [if_neg (by rw [h1]; simp), if_pos (.inr hm)]
  exact ⟨e, off_same (by rw [e]; decide)⟩
theorem off_full {V : List Int} {l : List Opn} {o : Opn} (h : offC V l o = 14) : 64 ≤ l.length := by
  unfold offC at h
  split at h
  · cases h
  · split at h
    · cases h
    · split at h
      · rename_i h3; exact h3.1
      · cases h

set_option maxHeartbeats 8000000 in
theorem full_walk (A : Value) (l : List (Opn × Value)) (w : World) (hO : Os w A l) (hL : Lay w) :
    Calls Tryd.prog 6 #[A] w fun e w' => e = .returned (.bool true) ∧ Below w.heap.size w w' := by
  obtain ⟨a, c, rfl, _, _⟩ := Sl.form hO.1
  have HL := hid hL
  have HAL := hid (calive_any w hL)
  obtain ⟨n, hn⟩ : ∃ n, l.length = n := ⟨_, rfl⟩
  have HN := hid hn
  have HO := hid hO
  rw [hn] at HO ⊢
  clear hO hL hn
  go_enter Tryd.func6, Tryd.ntmps6
  go_wp2_with fail
  refine HAL.out.mono ?_
  rintro e w1 ⟨rfl, b1⟩
  have B1 := hid b1
  have HLA := hid (HO.out.1.below b1)
  have HLG := hid (long_all (.slice a n c) l 150 w1 ⟨HO.out.1.below b1, fun p hp => (HO.out.2 p hp).below b1⟩ (by decide))
  cases hlo : longB l 150
  · rw [hlo] at HLG
    have HSM := hid (longB_no hlo)
    clear hlo b1
    go_wp2_with fail
    refine HLG.out.mono ?_
    rintro e w2 ⟨rfl, rfl⟩
    go_wp2_with fail
    refine (cnew_any w1 (lay_two (HL.out.below B1.out))).mono ?_
    rintro e w2 ⟨bb, mb, rfl, hu1, hlo, hb1⟩
    have HU1 := hid hu1
    have HLO := hid hlo
    have B2 := hid hb1
    clear hu1 hlo hb1
    go_wp2_with fail
    refine (new_any w2).mono ?_
    rintro e w3 ⟨rfl, hv3, hb3⟩
    obtain ⟨N, hN⟩ : ∃ N, w3.heap.size = N := ⟨_, rfl⟩
    obtain ⟨vb, hvb⟩ : ∃ vb, w2.heap.size = vb := ⟨_, rfl⟩
    have hs3 := sx_new (HL.out.below B1.out) HU1.out HLO.out B2.out hv3 hb3
    rw [hN, hvb] at hs3
    rw [hvb]
    have HS3 := hid hs3
    clear hs3 hv3 hb3 hN hvb HU1 HLO B2 HLG
    go_wp2
    go_loopw [5, 6, 7] (fun i _ _ wr => ∃ (k : Nat) (l' : List Opn), i = .int .i64 k ∧ k ≤ n ∧ l'.length ≤ k ∧ Sx w1 N bb mb vb wr v0 l') (fun i _ _ _ => n - (intOf i).toNat)
    case atStart => exact ⟨0, [], rfl, Nat.zero_le _, Nat.le_refl _, HS3.out⟩
    case round =>
      obtain ⟨k, l', rfl, hk, hlk, hs⟩ := hrel
      have HS := hid hs
      have HLK := hid hlk
      have hn150 : n ≤ 150 := by have := HSM.out.1; rw [HN.out] at this; exact this
      have BW := hid (bt B1.out hs.bw)
      clear hs hlk HS3
      by_cases hlt : k < n
      · have hlt' : (k : Int) < (n : Int) := by omega
        have hx : k < l.length := by rw [HN.out]; exact hlt
        obtain ⟨b, off, c', e1, _, _, hbl, hc⟩ := HO.out.inv (by rw [HN.out]; omega)
        rw [HN.out] at e1
        simp only [Value.slice.injEq] at e1
        obtain ⟨rfl, -, rfl⟩ := e1
        have hc := hc k hx
        obtain ⟨⟨o, u⟩, hp⟩ : ∃ p, l[k] = p := ⟨_, rfl⟩
        have hcs := HO.out.2 _ (List.getElem_mem hx)
        have hfin := HSM.out.2 _ (List.getElem_mem hx)
        rw [hp] at hc hcs hfin
        dsimp only at hc hcs hfin
        have HC : Hid (∀ W, Below w.heap.size w W → ∀ j, j < 20 → W.cell? ⟨b, off + k * 20 + j, none⟩ = (opl o u)[j]?) := hid (fun W hW j hj => (hW.cell (p := ⟨b, off + k * 20 + j, none⟩) hbl).trans (hc j hj))
        have HCS := hid hcs
        have HF := hid hfin
        clear hp hc hcs hfin
        obtain ⟨m, hm⟩ : ∃ m, l'.length = m := ⟨_, rfl⟩
        have HM := hid hm
        have hm150 : m ≤ 150 := by have := HLK.out; omega
        clear hm
        have HCN := hid (ccount_any HS.out.bu)
        rw [HM.out] at HCN
        have HOF := hid (offer_any o u wr HS.out.bu HS.out.vc HS.out.lay (HCS.out.below BW.out) HF.out.1 (by have := HF.out.2; omega) HS.out.le (by rw [HM.out]; omega))
        obtain ⟨z, hz⟩ : ∃ z, offC v0 l' o = z := ⟨_, rfl⟩
        have HZ := hid hz
        clear hz
        by_cases hz0 : z = 0
        · subst hz0
          have hag := off_again HZ.out
          have hll := off_len HS.out.bu.wl o (V := v0)
          rw [if_pos HZ.out, HM.out] at hll
          have HAG := hid hag
          have HLL := hid hll
          clear hag hll
          go_wp2_with fail
          refine HCN.out.mono ?_
          rintro e w4 ⟨rfl, rfl⟩
          go_wp2_with (first | (refine wpList_val _ rfl (run_load_opat rfl rfl (HC.out _ BW.out)) ?_) | fail)
          refine HOF.out.mono ?_
          rintro e w5 ⟨rfl, hu5, hf5⟩
          rw [HZ.out]
          have HS5 := hid (HS.out.mfr hu5 hf5)
          have BW5 := hid (bt B1.out HS5.out.bw)
          have HCN5 := hid (ccount_any HS5.out.bu)
          rw [HLL.out] at HCN5
          have HOF5 := hid (offer_any o u w5 HS5.out.bu HS5.out.vc HS5.out.lay (HCS.out.below BW5.out) HF.out.1 (by have := HF.out.2; omega) HS5.out.le (by rw [HLL.out]; omega))
          have hne : ((m : Int) + 1 != (m : Int) + 1) = false := by simp
          clear hu5 hf5 HOF HCN
          go_wp2_with fail
          refine HCN5.out.mono ?_
          rintro e w6 ⟨rfl, rfl⟩
          rw [show ((m + 1 : Nat) : Int) = (m : Int) + 1 from by omega]
          go_wp2_with (first | (refine wpList_val _ rfl (run_load_opat rfl rfl (HC.out _ BW5.out)) ?_) | fail)
          refine HOF5.out.mono ?_
          rintro e w7 ⟨rfl, hu7, hf7⟩
          rw [HAG.out.1]
          rw [HAG.out.2] at hu7
          have HS7 := hid (HS5.out.mfr hu7 hf7)
          have BW7 := hid (bt B1.out HS7.out.bw)
          have HCN7 := hid (ccount_any HS7.out.bu)
          rw [HLL.out] at HCN7
          have HRD := hid (cready_any vb v0 o u w7 HS7.out.lay HS7.out.vc (HCS.out.below BW7.out) HF.out.1 (by have := HF.out.2; omega))
          clear hu7 hf7 HOF5 HCN5 HS5
          go_wp2_with fail
          refine HCN7.out.mono ?_
          rintro e w8 ⟨rfl, rfl⟩
          rw [show ((m + 1 : Nat) : Int) = (m : Int) + 1 from by omega]
          by_cases h64 : 64 ≤ m
          · have hr : readyO v0 o = true := by
              rcases (off_zero HZ.out).2.2.2 with h | h
              · rw [HM.out] at h; omega
              · exact h
            rw [hr] at HRD
            have hg : decide ((64 : Int) < (m : Int) + 1) = true := by simp; omega
            clear hr
            go_wp2_with (first | (refine wpList_val _ rfl (run_load_opat rfl rfl (HC.out _ BW7.out)) ?_) | fail)
            refine HRD.out.mono ?_
            rintro e w9 ⟨rfl, b9⟩
            have HS9 := hid (HS7.out.below b9)
            clear b9 hg hne
            go_wp2_with fail
            go_roundw
            case rel => exact ⟨k + 1, _, by go_num, by omega, by rw [HLL.out]; have := HLK.out; rw [HM.out] at this; omega, HS9.out⟩
            case measure => simp [intOf]; omega
          · have hg : decide ((64 : Int) < (m : Int) + 1) = false := by simp; omega
            go_wp2_with fail
            go_roundw
            case rel => exact ⟨k + 1, _, by go_num, by omega, by rw [HLL.out]; have := HLK.out; rw [HM.out] at this; omega, HS7.out⟩
            case measure => simp [intOf]; omega
        · have hsm := off_same (V := v0) (l := l') (o := o) (by rw [HZ.out]; exact hz0)
          have HSM2 := hid hsm
          have hz1 : (z == 0) = false := by simpa using hz0
          have hz2 : (z != 0) = true := by simpa using hz0
          clear hsm
          go_wp2_with fail
          refine HCN.out.mono ?_
          rintro e w4 ⟨rfl, rfl⟩
          go_wp2_with (first | (refine wpList_val _ rfl (run_load_opat rfl rfl (HC.out _ BW.out)) ?_) | fail)
          refine HOF.out.mono ?_
          rintro e w5 ⟨rfl, hu5, hf5⟩
          rw [HZ.out]
          rw [HSM2.out] at hu5
          have HS5 := hid (HS.out.mfr hu5 hf5)
          have BW5 := hid (bt B1.out HS5.out.bw)
          have HCN5 := hid (ccount_any HS5.out.bu)
          rw [HM.out] at HCN5
          have HOF5 := hid (offer_any o u w5 HS5.out.bu HS5.out.vc HS5.out.lay (HCS.out.below BW5.out) HF.out.1 (by have := HF.out.2; omega) HS5.out.le (by rw [HM.out]; omega))
          have hne : ((m : Int) != (m : Int)) = false := by simp
          have h14 : (z == 14) = false ∨ ((z == 14) = true ∧ decide ((m : Int) < 64) = false) := by
            by_cases h : z = 14
            · right
              have := off_full (by rw [HZ.out]; exact h : offC v0 l' o = 14)
              rw [HM.out] at this
              exact ⟨by simpa using h, by simp; omega⟩
            · left; simpa using h
          clear hu5 hf5 HOF HCN
          have HREST : ∀ (Q : Prop), Q → Q := fun _ h => h
          rcases h14 with h14 | ⟨h14, hm64⟩
          all_goals
            go_wp2_with fail
            refine HCN5.out.mono ?_
            rintro e w6 ⟨rfl, rfl⟩
            go_wp2_with (first | (refine wpList_val _ rfl (run_load_opat rfl rfl (HC.out _ BW5.out)) ?_) | fail)
            refine HOF5.out.mono ?_
            rintro e w7 ⟨rfl, hu7, hf7⟩
            rw [HZ.out]
            rw [HSM2.out] at hu7
            have HS7 := hid (HS5.out.mfr hu7 hf7)
            have BW7 := hid (bt B1.out HS7.out.bw)
            have HCN7 := hid (ccount_any HS7.out.bu)
            rw [HM.out] at HCN7
            have HRD := hid (cready_any vb v0 o u w7 HS7.out.lay HS7.out.vc (HCS.out.below BW7.out) HF.out.1 (by have := HF.out.2; omega))
            clear hu7 hf7 HOF5 HCN5 HS5
            go_wp2_with fail
            refine HCN7.out.mono ?_
            rintro e w8 ⟨rfl, rfl⟩
            by_cases h64 : 64 < m
            · have hg : decide ((64 : Int) < (m : Int)) = true := by simp; omega
              obtain ⟨rb, hrb⟩ : ∃ rb, readyO v0 o = rb := ⟨_, rfl⟩
              rw [hrb] at HRD
              clear hrb
              go_wp2_with (first | (refine wpList_val _ rfl (run_load_opat rfl rfl (HC.out _ BW7.out)) ?_) | fail)
              refine HRD.out.mono ?_
              rintro e w9 ⟨rfl, b9⟩
              have HS9 := hid (HS7.out.below b9)
              clear b9 hg hne
              cases rb
              all_goals
                go_wp2_with fail
                go_roundw
                case rel => exact ⟨k + 1, _, by go_num, by omega, by have := HLK.out; omega, HS9.out⟩
                case measure => simp [intOf]; omega
            · have hg : decide ((64 : Int) < (m : Int)) = false := by simp; omega
              go_wp2_with fail
              go_roundw
              case rel => exact ⟨k + 1, _, by go_num, by omega, by have := HLK.out; omega, HS7.out⟩
              case measure => simp [intOf]; omega
      · obtain rfl : k = n := by omega
        have hnlt : ¬ (k : Int) < (k : Int) := by omega
        go_wp2_with fail
        go_ret
        exact ⟨rfl, BW.out⟩
  · rw [hlo] at HLG
    clear hlo b1
    go_wp2_with fail
    refine HLG.out.mono ?_
    rintro e w2 ⟨rfl, rfl⟩
    go_wp2
    go_ret
    exact ⟨rfl, B1.out⟩

end Go.Proofs.YtaojeanoojnknaaDoor
