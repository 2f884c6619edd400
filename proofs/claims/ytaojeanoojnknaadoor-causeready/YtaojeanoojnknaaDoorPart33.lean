/-
  Parts of the proof, one behind the other; what each proves stands at its head.
-/
import Derived.Test.YtaojeanoojnknaaDoorPart30
import Derived.Test.YtaojeanoojnknaaDoorPart32
import Derived.Test.YtaojeanoojnknaaDoorPart24
import Derived.Test.YtaojeanoojnknaaDoorPart21

/-
  In whatever order ops are offered the same ones are taken, as data: what is taken is the least that is closed. Nothing of the program is walked here.
-/
namespace Go.Proofs.YtaojeanoojnknaaDoor
open Go.RowKit
set_option linter.unusedVariables false
set_option maxRecDepth 100000

theorem ready_parts {V : List Int} {o : Opn} (hV : Vk V) (h : readyO V o = true) : rightO o = true ∧ ro o.ir o.im = true ∧ V.getD o.ir.toNat 0 + 1 = o.im ∧ ∀ x ∈ needsO o, hasV V x.1 x.2 = true := by
  unfold readyO at h
  simp only [Bool.and_eq_true, decide_eq_true_eq, List.all_eq_true] at h
  obtain ⟨⟨h1, h2⟩, h3⟩ := h
  have hr := (right_parts h1).1.1
  have hb := ro_iff.1 hr
  refine ⟨h1, hr, ?_, h3⟩
  unfold nextV at h2
  rw [if_neg (by omega)] at h2
  split at h2 <;> omega
theorem put_ready {V : List Int} {o : Opn} (hV : Vk V) (h : readyO V o = true) : addV V o.ir o.im = 0 ∧ putV V o.ir o.im = V.set o.ir.toNat o.im := by
  obtain ⟨_, h2, h3, _⟩ := ready_parts hV h
  have e : addV V o.ir o.im = 0 := by
    unfold addV
    rw [if_neg (by rw [h2]; simp), if_neg (by omega), if_pos (by omega)]
  exact ⟨e, by unfold putV; rw [if_pos e]⟩
theorem has_iff {V : List Int} {r n : Int} : hasV V r n = true ↔ ro r n = true ∧ n ≤ V.getD r.toNat 0 := by simp [hasV]
theorem has_not {V : List Int} {o : Opn} (hr : ro o.ir o.im = true) : hasV V o.ir o.im = false ↔ V.getD o.ir.toNat 0 < o.im := by
  rw [← Bool.not_eq_true, has_iff]
  constructor
  · intro h
    rcases Int.lt_or_le (V.getD o.ir.toNat 0) o.im with k | k
    · exact k
    · exact absurd ⟨hr, k⟩ h
  · rintro h ⟨_, k⟩
    omega
theorem put_at {V : List Int} {o : Opn} (hV : Vk V) (h : readyO V o = true) (i : Nat) : (putV V o.ir o.im).getD i 0 = if i = o.ir.toNat then o.im else V.getD i 0 := by
  have hb := ro_iff.1 (ready_parts hV h).2.1
  rw [(put_ready hV h).2, set_at hV.1 _ _ _ (by omega)]
  by_cases e : i = o.ir.toNat
  · rw [if_pos e.symm, if_pos e]
  · rw [if_neg (fun k => e k.symm), if_neg e]
theorem tak_perm {V : List Int} : ∀ {l : List Opn} {q : Opn}, takO V l = some q → l.Perm (q :: takL V l)
  | [], q, h => by cases h
  | x :: l, q, h => by
    unfold takO at h
    by_cases hx : readyO V x = true
    · rw [List.find?_cons_of_pos hx] at h
      obtain rfl := Option.some.inj h
      unfold takL
      rw [List.eraseP_cons_of_pos hx]
    · rw [List.find?_cons_of_neg hx] at h
      have ih := tak_perm (V := V) (l := l) (q := q) h
      unfold takL at ih ⊢
      rw [List.eraseP_cons_of_neg hx]
      exact (ih.cons x).trans (List.Perm.swap q x _)
/-- None that waits is there. -/
def NH (V : List Int) (l : List Opn) : Prop := ∀ o ∈ l, hasV V o.ir o.im = false
theorem tak_rest {V : List Int} {l : List Opn} {q : Opn} (hw : Wl l) (h : takO V l = some q) : ∀ o ∈ takL V l, o ∈ l ∧ ido2 o ≠ ido2 q := by
  intro o ho
  have hp := tak_perm h
  refine ⟨hp.mem_iff.2 (List.mem_cons_of_mem _ ho), fun e => ?_⟩
  have hn := srted_nodup hw.1
  have h2 := ((hp.map ido2).nodup_iff).1 hn
  rw [List.map_cons, List.nodup_cons] at h2
  exact h2.1 (by rw [← e]; exact List.mem_map_of_mem ho)
theorem NH.take {V : List Int} {l : List Opn} {q : Opn} (h : NH V l) (hV : Vk V) (hw : Wl l) (hq : takO V l = some q) : NH (putV V q.ir q.im) (takL V l) := by
  intro o ho
  obtain ⟨h1, h2⟩ := tak_rest hw hq o ho
  have hro := (right_parts (hw.2 o h1)).1.1
  have hrq := (tak_mem hq).2
  have h3 := (has_not hro).1 (h o h1)
  rw [has_not hro, put_at hV hrq]
  split
  · rename_i e
    have h4 := (ready_parts hV hrq).2.2.1
    have h5 := ro_iff.1 hro
    have h6 := ro_iff.1 (ready_parts hV hrq).2.1
    rw [e] at h3
    have h7 : o.im ≠ q.im := fun e2 => h2 (Prod.ext (by dsimp only; omega) e2)
    omega
  · exact h3
theorem NH.drop {V : List Int} {l : List Opn} (h : NH V l) : drpL V l = l := by
  unfold drpL
  rw [List.filter_eq_self]
  intro o ho
  simp [h o ho]

end Go.Proofs.YtaojeanoojnknaaDoor

/-
  CauseReady returns true for every row of ops: its walk.
-/
namespace Go.Proofs.YtaojeanoojnknaaDoor
open Go.RowKit
set_option linter.unusedVariables false
set_option maxRecDepth 100000

theorem nh0 {l : List Opn} (h : Wl l) : NH v0 l := by
  intro o ho
  have := ro_iff.1 (right_parts (h.2 o ho)).1.1
  rw [has_not (right_parts (h.2 o ho)).1.1, v0_at]
  omega
theorem tak_keep {V : List Int} {l : List Opn} (h : takO V l = none) : takL V l = l := by
  unfold takL
  refine List.eraseP_of_forall_not (fun x hx => ?_)
  unfold takO at h
  rw [List.find?_eq_none] at h
  simpa using h x hx

set_option maxHeartbeats 8000000 in
theorem ready_walk (A : Value) (l : List (Opn × Value)) (w : World) (hO : Os w A l) (hL : Lay w) :
    Calls Tryd.prog 5 #[A] w fun e w' => e = .returned (.bool true) ∧ Below w.heap.size w w' := by
  obtain ⟨a, c, rfl, _, _⟩ := Sl.form hO.1
  have HL := hid hL
  have HAL := hid (calive_any w hL)
  obtain ⟨n, hn⟩ : ∃ n, l.length = n := ⟨_, rfl⟩
  have HN := hid hn
  have HO := hid hO
  rw [hn] at HO ⊢
  clear hO hL hn
  go_enter Tryd.func5, Tryd.ntmps5
  go_wp2_with fail
  refine HAL.out.mono ?_
  rintro e w1 ⟨rfl, b1⟩
  have B1 := hid b1
  have HLG := hid (long_all (.slice a n c) l 60 w1 ⟨HO.out.1.below b1, fun p hp => (HO.out.2 p hp).below b1⟩ (by decide))
  cases hlo : longB l 60
  · rw [hlo] at HLG
    have HSM := hid (longB_no hlo)
    clear hlo b1
    go_wp2_with fail
    refine HLG.out.mono ?_
    rintro e w2 ⟨rfl, rfl⟩
    go_wp2_with fail
    refine (cnew_any w1 (lay_two (HL.out.below B1.out))).mono ?_
    rintro e w2 ⟨bb, mb, rfl, hu1, hlo, hb1⟩
    have HU1 := hid hu1
    have HLO := hid hlo
    have B2 := hid hb1
    clear hu1 hlo hb1
    go_wp2_with fail
    refine (new_any w2).mono ?_
    rintro e w3 ⟨rfl, hv3, hb3⟩
    obtain ⟨N, hN⟩ : ∃ N, w3.heap.size = N := ⟨_, rfl⟩
    obtain ⟨vb, hvb⟩ : ∃ vb, w2.heap.size = vb := ⟨_, rfl⟩
    have hs3 := sx_new (HL.out.below B1.out) HU1.out HLO.out B2.out hv3 hb3
    rw [hN, hvb] at hs3
    rw [hvb]
    have HS3 := hid hs3
    have hn60 : n ≤ 60 := by have := HSM.out.1; rw [HN.out] at this; exact this
    have HN60 := hid hn60
    clear hs3 hv3 hb3 hN hvb HU1 HLO B2 HLG hn60
    go_wp2
    go_loopw [5] (fun i wr => ∃ (k : Nat) (l' : List Opn), i = .int .i64 k ∧ k ≤ n ∧ l'.length ≤ k ∧ Sx w1 N bb mb vb wr v0 l') (fun i _ => n - (intOf i).toNat)
    case atStart => exact ⟨0, [], rfl, Nat.zero_le _, Nat.le_refl _, HS3.out⟩
    case round =>
      obtain ⟨k, l', rfl, hk, hlk, hs⟩ := hrel
      have HS := hid hs
      have HLK := hid hlk
      have BW := hid (bt B1.out hs.bw)
      clear hs hlk HS3
      have hn60 := HN60.out
      by_cases hlt : k < n
      · have hlt' : (k : Int) < (n : Int) := by omega
        have hx : k < l.length := by rw [HN.out]; exact hlt
        obtain ⟨b, off, c', e1, _, _, hbl, hc⟩ := HO.out.inv (by rw [HN.out]; omega)
        rw [HN.out] at e1
        simp only [Value.slice.injEq] at e1
        obtain ⟨rfl, -, rfl⟩ := e1
        have hc := hc k hx
        obtain ⟨⟨o, u⟩, hp⟩ : ∃ p, l[k] = p := ⟨_, rfl⟩
        have hcs := HO.out.2 _ (List.getElem_mem hx)
        have hfin := HSM.out.2 _ (List.getElem_mem hx)
        rw [hp] at hc hcs hfin
        dsimp only at hc hcs hfin
        have HC : Hid (∀ j, j < 20 → wr.cell? ⟨b, off + k * 20 + j, none⟩ = (opl o u)[j]?) := hid (fun j hj => (BW.out.cell (p := ⟨b, off + k * 20 + j, none⟩) hbl).trans (hc j hj))
        have HOF := hid (offer_any o u wr HS.out.bu HS.out.vc HS.out.lay (hcs.below BW.out) hfin.1 (by have := hfin.2; omega) HS.out.le (by have := HLK.out; have := HN60.out; omega))
        clear hp hc hcs hfin
        go_wp2_with (first | (refine wpList_val _ rfl (run_load_opat rfl rfl HC.out) ?_) | fail)
        refine HOF.out.mono ?_
        rintro e w5 ⟨rfl, hu5, hf5⟩
        have hle := off_len HS.out.bu.wl o (V := v0)
        have HS5 := hid (HS.out.mfr hu5 hf5)
        have HLE : Hid ((offL v0 l' o).length ≤ k + 1) := hid (by rw [hle]; have := HLK.out; split <;> omega)
        clear hu5 hf5 HOF hle
        go_wp2_with fail
        go_roundw
        case rel => exact ⟨k + 1, _, by go_num, hlt, HLE.out, HS5.out⟩
        case measure => simp [intOf]; omega
      · obtain rfl : k = n := by omega
        have hnlt : ¬ (k : Int) < (k : Int) := by omega
        have HNH := hid (nh0 HS.out.bu.wl)
        go_wp2
        go_loopw [6, 7, 8, 9, 10] (fun i _ _ _ _ wq => ∃ (j : Nat) (V : List Int) (l1 : List Opn), i = .int .i64 j ∧ l1.length + j ≤ k ∧ NH V l1 ∧ Sx w1 N bb mb vb wq V l1) (fun i _ _ _ _ _ => k + 1 - (intOf i).toNat)
        case atStart => exact ⟨0, v0, l', rfl, by have := HLK.out; omega, HNH.out, HS.out⟩
        case round =>
          obtain ⟨j, V, l1, rfl, hj, hnh, hs⟩ := hrel
          have HX := hid hs
          have HNH1 := hid hnh
          have HJ := hid hj
          have hjk : (j : Int) ≤ (k : Int) := by omega
          have hjn : j ≤ k := by omega
          have hk60 : k ≤ 60 := HN60.out
          clear hs hnh hj HS HNH
          go_wp2_with fail
          refine (ctake_any _ HX.out.bu HX.out.vc HX.out.lay HX.out.le (by have := HJ.out; have := HN60.out; omega)).mono ?_
          rintro e w6 ht
          obtain ⟨q, u, b, rfl, hc, htk, hz, hs6⟩ := HX.out.took ht
          obtain ⟨va, vc, hu, _⟩ := hc.form
          have HU : Hid (∃ va n vc, u = .slice va n vc) := hid ⟨_, _, _, hu⟩
          have HT := hid htk
          have HX6 := hid hs6
          have HCS := hid hc
          clear ht hc htk hz hs6 hu
          cases b
          · have h0 : takO V l1 = none := by simpa using HT.out
            have hX : Sx w1 N bb mb vb w6 V l1 := by have := HX6.out; rwa [tak_keep h0] at this
            have H0 := hid h0
            have HXX := hid hX
            clear h0 hX HX6 HT
            go_wp2_with (first | (refine wpList_al_op rfl rfl ?_; intro w7 ho7 hb7 hl7; have HO7 := hid ho7; have B7 := hid hb7; clear ho7 hb7 hl7) | (refine wpList_st_op rfl rfl rfl rfl HU.out HO7.out ?_; intro w8 ho8 hf8; have HF8 := hid hf8; clear ho8 hf8) | fail)
            have HX8 := hid (HXX.out.below (below_fr B7.out HF8.out (Nat.le_refl _)))
            have HJL : Hid (l1.length ≤ 60) := hid (by have := HJ.out; have := HN60.out; omega)
            refine (ids_any HX8.out.bu (by have := HJL.out; omega)).mono ?_
            rintro e w9 ⟨v9, rfl, hns9, b9⟩
            have HX9 := hid (HX8.out.below b9)
            obtain ⟨m, hm⟩ : ∃ m, l1.length = m := ⟨_, rfl⟩
            have hml : (l1.map ido2).length = m := by rw [List.length_map]; exact hm
            obtain ⟨ia, ic, hiv, _⟩ := hns9.form
            rw [hml] at hiv
            subst hiv
            have HNS := hid hns9
            have HM := hid hm
            have HML := hid hml
            have hm60 : m ≤ 60 := by have := HJL.out; omega
            clear b9 hns9 HXX HX8 hm hml
            go_wp2
            go_loopw [12] (fun i wz => ∃ k2 : Nat, i = .int .i64 k2 ∧ k2 ≤ m ∧ Below w9.heap.size w9 wz) (fun i _ => m - (intOf i).toNat)
            case atStart => exact ⟨0, rfl, Nat.zero_le _, Below.refl _ _⟩
            case round =>
              obtain ⟨k2, rfl, hk2, hb2⟩ := hrel
              have BZ := hid hb2
              have HXZ := hid (HX9.out.below hb2)
              clear hb2
              by_cases hlt2 : k2 < m
              · have hlt2' : (k2 : Int) < (m : Int) := by omega
                obtain ⟨g, off, c', e1, _, _, hbl, _⟩ := HNS.out.inv (by rw [HML.out]; omega)
                rw [HML.out] at e1
                simp only [Value.slice.injEq] at e1
                obtain ⟨rfl, -, rfl⟩ := e1
                have HVN := hid (⟨HXZ.out.vc, HNS.out.below BZ.out⟩ : Vn _ vb V g off m ic (l1.map ido2))
                have hxl : k2 < l1.length := by rw [HM.out]; exact hlt2
                have hmem : l1[k2] ∈ l1 := List.getElem_mem hxl
                have hnot := HNH1.out _ hmem
                have hy : (l1.map ido2)[k2]? = some (ido2 l1[k2]) := by simp [hxl]
                have HNOT := hid hnot
                have HY := hid hy
                clear hmem hnot hy hbl
                cases k2 with
                | zero =>
                  go_wp2_with (first | (refine rdy_0 (n := m) (x := ido2 l1[0]) HVN.out (by omega) HY.out HNOT.out (fun _ _ _ _ _ h => h) ?_; intro W hW; have BZ2 := hid (BZ.out.trans (hW.mono BZ.out.size)); clear hW) | fail)
                  go_roundw
                  case rel => exact ⟨1, by go_num, by omega, BZ2.out⟩
                  case measure => simp [intOf]; omega
                | succ k3 =>
                  have hxl3 : k3 < l1.length := by omega
                  have hx3 : (l1.map ido2)[k3]? = some (ido2 l1[k3]) := by simp [hxl3]
                  have hkl : kl (ido2 l1[k3]) (ido2 l1[k3 + 1]) := List.pairwise_iff_getElem.1 HXZ.out.bu.wl.1 k3 (k3 + 1) hxl3 hxl (by omega)
                  have hod := (od_lt _ _).2 hkl
                  have HX3 := hid hx3
                  have HOD := hid hod
                  clear hx3 hkl hod
                  go_wp2_with (first | (refine rdy_k (n := m) (k := k3) (x := ido2 l1[k3]) (y := ido2 l1[k3 + 1]) HVN.out hlt2 (by omega) HX3.out HY.out HNOT.out HOD.out (fun _ _ _ _ _ h => h) ?_; intro W hW; have BZ2 := hid (BZ.out.trans (hW.mono BZ.out.size)); clear hW) | fail)
                  go_roundw
                  case rel => exact ⟨k3 + 1 + 1, by go_num, by omega, BZ2.out⟩
                  case measure => simp [intOf]; omega
              · obtain rfl : k2 = m := by omega
                have hmm : ¬ (k2 : Int) < (k2 : Int) := by omega
                go_wp2_with fail
                refine (ctake_any _ HXZ.out.bu HXZ.out.vc HXZ.out.lay HXZ.out.le (by have := HJL.out; omega)).mono ?_
                rintro e w11 ht
                obtain ⟨q1, u1, b1, rfl, _, htk, hz, hs11⟩ := HXZ.out.took ht
                rw [H0.out] at htk
                obtain rfl : b1 = false := by cases b1 <;> simp at htk ⊢
                obtain ⟨rfl, rfl⟩ := hz rfl
                rw [tak_keep H0.out] at hs11
                have HX11 := hid hs11
                clear ht htk hz hs11 HXZ
                go_wp2_with (first | (refine wpList_al_op rfl rfl ?_; intro w12 ho12 hb12 hl12; have HO12 := hid ho12; have B12 := hid hb12; clear ho12 hb12 hl12) | (refine wpList_st_op rfl rfl rfl rfl ⟨_, _, _, rfl⟩ HO12.out ?_; intro w13 ho13 hf13; have HF13 := hid hf13; clear ho13 hf13) | fail)
                have HX13 := hid (HX11.out.below (below_fr B12.out HF13.out (Nat.le_refl _)))
                refine (cdrop_any w13 HX13.out.bu HX13.out.vc HX13.out.ne.1 HX13.out.le (by have := HJL.out; omega)).mono ?_
                rintro e w14 ⟨rfl, hu14, hf14⟩
                rw [HNH1.out.drop] at hu14 ⊢
                rw [show (l1.length : Int) - (l1.length : Int) = 0 from by omega]
                have HX14 := hid (HX13.out.mfr hu14 hf14)
                have HC14 := hid (ccount_any HX14.out.bu)
                rw [HM.out] at HC14
                clear hu14 hf14
                go_wp2_with fail
                refine HC14.out.mono ?_
                rintro e w15 ⟨rfl, rfl⟩
                go_wp2_with fail
                go_ret
                exact ⟨rfl, bt B1.out HX14.out.bw⟩
          · have hq : takO V l1 = some q := by simpa using HT.out
            have hrd := (tak_mem hq).2
            obtain ⟨hr1, hr2, hr3, hr4⟩ := ready_parts HX.out.vc.1 hrd
            have hnx : nextV V q.ir = q.im := by
              have hb := ro_iff.1 hr2
              unfold nextV
              rw [if_neg (by omega), if_neg (by omega)]
              exact hr3
            have HQ := hid hq
            have HRD := hid hrd
            have HNX := hid hnx
            have HR4 := hid hr4
            have HRS := hid (right_small hr1)
            clear hq hrd hr1 hr2 hr3 hr4 hnx HT
            go_upto_region 16 with (first | (refine wpList_al_op rfl rfl ?_; intro w7 ho7 hb7 hl7; have HO7 := hid ho7; have B7 := hid hb7; clear ho7 hb7 hl7) | (refine wpList_st_op rfl rfl rfl rfl HU.out HO7.out ?_; intro w8 ho8 hf8; have HO8 := hid ho8; have HF8 := hid hf8; clear ho8 hf8) | fail)
            have B8 := hid (below_fr B7.out HF8.out (Nat.le_refl _))
            have HX8 := hid (HX6.out.below B8.out)
            refine rdy_n (vb := vb) (p := w6.heap.size) (X := V) (q := q) (v := u) ⟨HX8.out.vc, HO8.out⟩ HNX.out (fun _ _ _ _ _ h => h) ?_
            intro W hW
            have HXW := hid (HX8.out.below hW)
            have HOW := hid (HO8.out.below hW)
            have HCW := hid ((HCS.out.below B8.out).below hW)
            clear hW HX8 HO8 B8 HF8 B7 HO7
            go_wp2_with (first | (refine wpList_load_op rfl _ rfl w6.heap.size rfl q u HOW.out ?_) | fail)
            refine (xneeds_any q u W HCW.out (by have := HRS.out.2; omega)).mono ?_
            rintro e w9 ⟨nv, rfl, hns9, b9⟩
            obtain ⟨m, hm⟩ : ∃ m, (needsO q).length = m := ⟨_, rfl⟩
            obtain ⟨ia, ic, hiv, _⟩ := hns9.form
            rw [hm] at hiv
            subst hiv
            have HNS := hid hns9
            have HM := hid hm
            have hm9 := hns9.len
            unfold maxLen at hm9
            rw [hm] at hm9
            have HX9 := hid (HXW.out.below b9)
            have HO9 := hid (HOW.out.below b9)
            clear hns9 b9 hm HXW HOW HCW
            go_wp2
            go_loopw [10] (fun i wz => ∃ k2 : Nat, i = .int .i64 k2 ∧ k2 ≤ m ∧ Below w9.heap.size w9 wz) (fun i _ => m - (intOf i).toNat)
            case atStart => exact ⟨0, rfl, Nat.zero_le _, Below.refl _ _⟩
            case round =>
              obtain ⟨k2, rfl, hk2, hb2⟩ := hrel
              have BZ := hid hb2
              have HXZ := hid (HX9.out.below hb2)
              have HOZ := hid (HO9.out.below hb2)
              clear hb2
              by_cases hlt2 : k2 < m
              · have hlt2' : (k2 : Int) < (m : Int) := by omega
                have hx2 : k2 < (needsO q).length := by rw [HM.out]; exact hlt2
                obtain ⟨g, off, c', e1, _, _, hbl, hc⟩ := HNS.out.inv (by omega)
                rw [HM.out] at e1
                simp only [Value.slice.injEq] at e1
                obtain ⟨rfl, -, rfl⟩ := e1
                obtain ⟨d0, d1⟩ := hc k2 hx2
                obtain ⟨⟨x1, x2⟩, hx⟩ : ∃ x, (needsO q)[k2] = x := ⟨_, rfl⟩
                have hhas := HR4.out _ (List.getElem_mem hx2)
                rw [hx] at d0 d1 hhas
                dsimp only at d0 d1 hhas
                have z0 := (BZ.out.cell (p := ⟨g, off + k2 * 2, none⟩) hbl).trans d0
                have z1 := (BZ.out.cell (p := ⟨g, off + k2 * 2 + 1, none⟩) hbl).trans d1
                have HHS := hid (has_any vb V x1 x2 _ HXZ.out.vc)
                rw [hhas] at HHS
                clear hx d0 d1 hhas hc
                go_wp2_with fail
                refine HHS.out.mono ?_
                rintro e w10 ⟨rfl, b10⟩
                have BZ2 := hid (BZ.out.trans (b10.mono BZ.out.size))
                clear b10
                go_wp2_with fail
                go_roundw
                case rel => exact ⟨k2 + 1, by go_num, hlt2, BZ2.out⟩
                case measure => simp [intOf]; omega
              · obtain rfl : k2 = m := by omega
                have hmm : ¬ (k2 : Int) < (k2 : Int) := by omega
                have c1 := HOZ.out.cells.c1
                have c2 := HOZ.out.cells.c2
                go_wp2_with fail
                refine (add_any vb V q.ir q.im _ HXZ.out.vc).mono ?_
                rintro e w11 ⟨rfl, hv11, hf11⟩
                rw [(put_ready HX.out.vc.1 HRD.out).1]
                have HX11 := hid (HXZ.out.vfr hv11 hf11)
                have hnh' := HNH1.out.take HX.out.vc.1 HX.out.bu.wl HQ.out
                have hlen := tak_len HQ.out
                have HNH' := hid hnh'
                have HLEN := hid hlen
                clear hv11 hf11 hnh' hlen c1 c2
                go_wp2_with fail
                go_roundw
                case rel => exact ⟨j + 1, _, _, by go_num, by have := HLEN.out; have := HJ.out; omega, HNH'.out, HX11.out⟩
                case measure => simp [intOf]; omega
  · rw [hlo] at HLG
    clear hlo b1
    go_wp2_with fail
    refine HLG.out.mono ?_
    rintro e w2 ⟨rfl, rfl⟩
    go_wp2
    go_ret
    exact ⟨rfl, B1.out⟩

end Go.Proofs.YtaojeanoojnknaaDoor
