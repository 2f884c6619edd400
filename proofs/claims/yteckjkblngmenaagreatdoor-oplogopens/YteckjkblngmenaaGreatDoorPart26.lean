/-
  Parts of the proof, one behind the other; what each proves stands at its head.
-/
import Derived.Test.YteckjkblngmenaaGreatDoorPart18
import Derived.Test.YteckjkblngmenaaGreatDoorPart25
import Derived.Test.YteckjkblngmenaaGreatDoorPart10
import Derived.Deep.SlicePairs
import Derived.Deep.Strs
import Derived.Test.YteckjkblngmenaaGreatDoorPart1
import Derived.Test.YteckjkblngmenaaGreatDoorPart7
import Derived.Test.YteckjkblngmenaaGreatDoorPart4
import Derived.Deep.QuietTactic
import Derived.BigQuiet
import Derived.RegionTactic
import Derived.Test.YteckjkblngmenaaGreatDoorPart15

/-
  What the reference's Read answers is proved here: what bytes tell as a log, the lists and the ends in new memory.
-/
namespace Go.Proofs.YteckjkblngmenaaGreatDoor
open Go.RowKit
set_option linter.unusedVariables false
set_option maxRecDepth 100000

def RD (xs : List Int) (w : World) (e : Ending) (w' : World) : Prop :=
  (Tl xs none ∧ e = .returned (.tuple #[tdv 0 (.slice none 0 0) (.slice none 0 0), .bool false]) ∧ Below w.heap.size w w') ∨
  ∃ r Fs vf ve lls, Tl xs (some (r, Fs)) ∧ Good Fs ∧ 0 ≤ r ∧ r ≤ 15 ∧ 10 + szF Fs ≤ xs.length ∧ e = .returned (.tuple #[tdv r vf ve, .bool true]) ∧ To w.heap.size w' vf ve Fs lls ∧ Below w.heap.size w w'
theorem RD.no {xs : List Int} {w w' : World} (h : Tl xs none) (hb : Below w.heap.size w w') : RD xs w (.returned (.tuple #[tdv 0 (.slice none 0 0) (.slice none 0 0), .bool false])) w' := .inl ⟨h, rfl, hb⟩

/-- A list that was just made, beside what is gathered. -/
theorem Td.newer {B : Nat} {w w' : World} {b : Nat} {r : Int} {vf ve u : Value} {us : List Value} {lls : List (List (Opn × Value))} {zs : List Nat} {l : List (Opn × Value)} (h : Td B w b r vf ve us lls zs) (ho : Os w' u l) (hn : Nn w.heap.size u l) : Oq (Tb b vf ve) w' u l :=
  ⟨ho, .inr (fun k hk e => by have h1 := hn.1 k hk; have h2 := (h.inside e).2; omega), fun p hp => ⟨ho.2 p hp, .inr (fun k hk e => by have h1 := hn.2 p hp k hk; have h2 := (h.inside e).2; omega)⟩⟩

set_option maxHeartbeats 4000000 in
theorem xread_any (vb : Value) (xs : List Int) (w : World) (h : Bs w vb xs) (hn : xs.length ≤ 1099511627776) :
    Calls Tryz.prog 27 #[vb] w fun e w' => RD xs w e w' := by
  have HB := hid h
  have HLN := hid hn
  have HBY := hid h.range
  clear h hn
  go_enter Tryz.func27, Tryz.ntmps27
  go_upto_region 1 with (first
    | (refine wpList_al_td rfl rfl ?_; intro w1 hr1 hb1 hlt1; have HR := hid hr1; have BB := hid hb1; have HLT := hid hlt1; clear hr1 hb1 hlt1))
  obtain ⟨rb, hrb⟩ : ∃ r, w.heap.size = r := ⟨_, rfl⟩
  have hrB : w.heap.size ≤ rb := Nat.le_of_eq hrb
  rw [hrb] at HR HLT ⊢
  clear hrb
  have HB1 := hid (HB.out.below BB.out)
  go_wp2_with fail
  refine (refsplit_any vb xs w1 HB1.out HLN.out).mono ?_
  rintro e w2 ⟨v2, fs, p, t, rfl, hsp, hls, b2⟩
  replace HR := hid (HR.out.below b2)
  replace BB := hid (bt BB.out b2)
  have HSP := hid hsp
  have HLS := hid hls
  have hrs : rb < w2.heap.size := Nat.lt_of_lt_of_le HLT.out b2.size
  have HRS := hid hrs
  clear b2 hsp hls HB1 HLT hrs
  by_cases ht : t = 2
  · subst ht
    have HT := hid (show Tl xs none by
      cases fs with
      | nil => exact tl_nil HSP.out
      | cons f fs => exact tl_wrong HSP.out (.inl rfl))
    obtain ⟨a2, c2, rfl⟩ := HLS.out.form
    rw [show ((2 : Nat) : Int) = 2 from rfl]
    clear HLS HSP
    go_wp2_with (first
      | (refine wpList_st_td rfl rfl rfl rfl ⟨⟨_, _, _, rfl⟩, ⟨_, _, _, rfl⟩⟩ HR.out ?_; intro w9 hr9 hf9; have HR9 := hid hr9; have B9 := hid (below_fr BB.out hf9 hrB); clear hr9 hf9)
      | fail)
    refine bodyPost_ret (results_td2 rfl _ _ rfl HR9.out) rfl ?_
    exact RD.no HT.out B9.out
  · have ht' : ((t : Int) == 2) = false := by simp; omega
    cases fs with
    | nil =>
      have HT := hid (tl_nil HSP.out)
      obtain ⟨a2, c2, rfl, _, _⟩ := HLS.out.inv_nil
      clear HLS HSP
      go_wp2_with (first
        | (refine wpList_st_td rfl rfl rfl rfl ⟨⟨_, _, _, rfl⟩, ⟨_, _, _, rfl⟩⟩ HR.out ?_; intro w9 hr9 hf9; have HR9 := hid hr9; have B9 := hid (below_fr BB.out hf9 hrB); clear hr9 hf9)
        | fail)
      refine bodyPost_ret (results_td2 rfl _ _ rfl HR9.out) rfl ?_
      exact RD.no HT.out B9.out
    | cons f fs =>
      obtain ⟨b, off, c, rfl, hnc, hcm, hat⟩ := HLS.out.inv (by simp)
      have HAT := hid hat
      have HTN := hid ht
      obtain ⟨n, hnn⟩ : ∃ n, (f :: fs).length = n := ⟨_, rfl⟩
      have HN := hid hnn
      have hn0 : 0 < n := by rw [← hnn]; simp
      have hz : ((n : Int) == 0) = false := by simp; omega
      have hsl := sp_len HSP.out
      rw [hnn] at hnc hsl ⊢
      have hnb : n ≤ 1099511627776 := by have := HLN.out; omega
      have HPX : Hid (8 * n ≤ p ∧ p ≤ xs.length) := hid hsl
      obtain ⟨u0, hu0, hb0⟩ := hat 0 (by rw [hnn]; exact hn0)
      have hb0' : Bs w2 u0 f := hb0
      have hfl := (sp_mem HSP.out HBY.out f (by simp))
      obtain ⟨F, hF⟩ : ∃ F, f.length = F := ⟨_, rfl⟩
      have HF := hid hF
      have hF65 : F ≤ 65536 := by rw [← hF]; exact hfl.2
      have hu0' : w2.cell? ⟨b, off, none⟩ = some u0 := hu0
      have HC0 := hid hu0'
      have HB0 := hid hb0'
      obtain ⟨ua, uc, rfl⟩ := hb0'.form
      rw [hF] at HB0 HC0
      clear hat hsl hu0 hb0 hu0' hb0' hF hnn hfl
      go_upto_region 5 with (first
        | (refine wpList_al_td rfl rfl ?_; intro w3 hr3 hb3 hlt3; have HK := hid hr3; have HB3 := hid hb3; have HS3 := hid hlt3; clear hr3 hb3 hlt3)
        | (refine wpList_st_td rfl rfl rfl rfl ⟨⟨_, _, _, rfl⟩, ⟨_, _, _, rfl⟩⟩ HK.out ?_; intro w4 hr4 hf4; replace HK := hid hr4; have HB4 := hid (below_fr HB3.out hf4 (Nat.le_refl _)); have HS4 := hid (Nat.lt_of_lt_of_le HS3.out hf4.size); clear hr4 hf4)
        | fail)
      obtain ⟨tb, htb⟩ : ∃ r, w2.heap.size = r := ⟨_, rfl⟩
      have HTB := hid htb
      have HLW : Hid (∀ a, a < tb → True) := hid (fun _ _ => trivial)
      rw [htb] at HK HS4 HRS ⊢
      have hk0 : w4.cell? ⟨b, off, none⟩ = some (.slice ua F uc) := (HB4.out.cell (p := ⟨b, off, none⟩) (World.block_lt_of_cell? _ _ HC0.out)).trans HC0.out
      have HU4 := hid (HB0.out.below HB4.out)
      clear HB3 HS3 htb
      go_wp2_with fail
      refine (copy_own _ f w4 HU4.out (by rw [HF.out]; omega)).mono ?_
      rintro e w5 ⟨g, cap, rfl, hown, b5⟩
      have hbs := Bs.of_own hown HB0.out.range
      have HA6 := ba w5 (.cells #[.slice (some ⟨g, 0, none⟩) f.length cap, .bool false] 111)
      have HX : Hid (Cx (w5.alloc (.cells #[.slice (some ⟨g, 0, none⟩) f.length cap, .bool false] 111)) w5.heap.size (f, false)) := hid ⟨⟨_, heap_alloc_new w5 _, hbs.below HA6⟩, ⟨HB0.out.range, fun e => by cases e⟩, by show f.length ≤ _; rw [HF.out]; omega⟩
      have B6 := hid (bt HB4.out (bt b5 HA6))
      have K6 := hid (HK.out.below (bt b5 HA6))
      have htc : ¬ tb = w5.heap.size := by have := HS4.out; have := b5.size; omega
      have hcb : w2.heap.size ≤ w5.heap.size := (bt HB4.out b5).size
      obtain ⟨s1, hs1⟩ : ∃ s1, rn 0 (f, false) = (0, s1) := ⟨_, Prod.ext (by
        have v0 := rn_val (m := 0) (s := (f, false)) HB0.out.range
        have h1 := v0.1
        have h2 := v0.2.2 (by decide)
        show (rn 0 (f, false)).1 = 0
        omega) rfl⟩
      obtain ⟨V, ⟨qs, qb⟩, hs2⟩ : ∃ V q, rn 15 s1 = (V, q) := ⟨_, _, rfl⟩
      have hrf : rfS f = (V, (qs, qb)) := by unfold rfS; rw [hs1]; exact hs2
      have HRF := hid hrf
      have HS1 := hid hs1
      have HS2 := hid hs2
      clear hown b5 HA6 hbs hs1 hs2 hrf hk0
      go_wp2_with fail
      refine (xnum_s w5.heap.size (f, false) 0 _ HX.out).mono ?_
      rintro e w7 ⟨rfl, hx, hg⟩
      obtain ⟨cb, hcc⟩ : ∃ c, w5.heap.size = c := ⟨_, rfl⟩
      rw [hcc] at hx hg htc hcb ⊢
      rw [HS1.out] at hx ⊢
      have B7 := hid (below_fr B6.out (Fr.grown hg) hcb)
      have K7 : Hid (Tk w7 tb 0 (.slice none 0 0) (.slice none 0 0)) := hid (((Fr.grown hg).block tb K6.out.lt htc).trans K6.out)
      have X7 := hid hx
      clear hx hg hcc HX B6 K6
      go_upto_region 8 with (first
        | (go_at_call 66; refine (xnum_s cb s1 15 _ X7.out).mono ?_; rintro e w8 ⟨rfl,hx,hg⟩; rw [HS2.out] at hx ⊢; have B8 := hid (below_fr B7.out (Fr.grown hg) hcb); have K8 : Hid (Tk w8 tb 0 (.slice none 0 0) (.slice none 0 0)) := hid (((Fr.grown hg).block tb K7.out.lt htc).trans K7.out); have X8 := hid hx; clear hx hg)
        | (refine wpList_tk_r rfl rfl rfl rfl K8.out ?_; intro w9 hr9 hf9; have K9 := hid hr9; have B9 := hid (below_fr B8.out hf9 (Nat.le_of_eq HTB.out)); have X9 := hid (X8.out.fr hf9 (fun e => htc e.symm) K8.out.no_byte); clear hr9 hf9)
        | fail)
      have X := X9.out
      obtain ⟨⟨cv, hcv, hcb2⟩, hvl, hql⟩ := X
      have hql' : qs.length ≤ 1099511627776 := hql
      have HVL := hid hvl
      obtain ⟨ca, cc, rfl⟩ := hcb2.form
      have k0 := cell_of_row w9 cb 0 _ _ _ hcv
      have k1 := cell_of_row w9 cb 1 _ _ _ hcv
      simp only [List.getElem?_toArray, List.getElem?_cons_zero, List.getElem?_cons_succ] at k0 k1
      have HR9 := hid (HR.out.low B9.out (by have := HRS.out; have := HTB.out; omega))
      have BW9 := hid (BB.out.trans (B9.out.mono BB.out.size))
      clear hcv hcb2 hvl hql X9 X8 X7 K8 K7 B8 B7
      cases qb with
      | true =>
        have HT := hid (tl_wrong HSP.out (.inr (show rfO f = false by unfold rfO; rw [HRF.out]; rfl)))
        clear HSP HLS HAT HC0 HB0 HU4
        go_wp2_with (first
          | (refine wpList_st_td rfl rfl rfl rfl ⟨⟨_, _, _, rfl⟩, ⟨_, _, _, rfl⟩⟩ HR9.out ?_; intro w10 hr10 hf10; have HR10 := hid hr10; have B10 := hid (below_fr BW9.out hf10 hrB); clear hr10 hf10)
          | fail)
        refine bodyPost_ret (results_td2 rfl _ _ rfl HR10.out) rfl ?_
        exact RD.no HT.out B10.out
      | false =>
        by_cases hq : 0 < qs.length
        · have HT := hid (tl_wrong HSP.out (.inr (show rfO f = false by
            unfold rfO; rw [HRF.out]
            cases qs with
            | nil => simp at hq
            | cons x r => rfl)))
          have hq' : (0 : Int) < (qs.length : Int) := by omega
          obtain ⟨Z, hZ⟩ : ∃ Z, qs.length = Z := ⟨_, rfl⟩
          rw [hZ] at hq hq' k0
          clear hZ HSP HLS HAT HC0 HB0 HU4
          go_wp2_with (first
            | (refine wpList_st_td rfl rfl rfl rfl ⟨⟨_, _, _, rfl⟩, ⟨_, _, _, rfl⟩⟩ HR9.out ?_; intro w10 hr10 hf10; have HR10 := hid hr10; have B10 := hid (below_fr BW9.out hf10 hrB); clear hr10 hf10)
            | fail)
          refine bodyPost_ret (results_td2 rfl _ _ rfl HR10.out) rfl ?_
          exact RD.no HT.out B10.out
        · obtain rfl : qs = [] := List.eq_nil_of_length_eq_zero (by omega)
          obtain ⟨r0, r1, hf2, hyes, hno⟩ := tl_first HSP.out HBY.out HTN.out (show rfO f = true by unfold rfO; rw [HRF.out]; rfl)
          have hV : rfV f = V := by unfold rfV; rw [HRF.out]
          rw [hV] at r0 r1 hyes
          have HR0 := hid r0
          have HR1 := hid r1
          have HYES := hid hyes
          have HNO := hid hno
          obtain rfl : F = 2 := by rw [← HF.out]; exact hf2
          have kk0 : w9.cell? ⟨b, off, none⟩ = some (.slice ua 2 uc) := by rw [(B9.out.cell (p := ⟨b, off, none⟩) (World.block_lt_of_cell? _ _ HC0.out))]; exact HC0.out
          have T9 := hid (Td.of_blk (B := w2.heap.size) K9.out (Nat.le_of_eq HTB.out))
          simp only [List.length_nil] at k0
          clear hq hV r0 r1 hyes hno hf2 HU4
          go_wp2_with fail
          go_loopw [10,11] (fun at' i wr => ∃ (j A : Nat) (gs : List (List Int)) (Gs : List (List Opn)) (vf ve : Value) (us : List Value) (lls : List (List (Opn × Value))),i = .int .i64 j ∧ 1 ≤ j ∧ j ≤ n ∧ at' = .int .i64 A ∧ A = 10 + szF Gs ∧ (f :: fs).take j = f :: gs ∧ dAll gs = some Gs ∧ lls.map fsts = Gs ∧ Td w2.heap.size wr tb V vf ve us lls ((endsF Gs).map Prod.fst) ∧ Below w2.heap.size w2 wr) (fun _ i _ => n - (intOf i).toNat)
          case atStart => exact ⟨1, 10, [], [], _, _, _, _, rfl, Nat.le_refl _, hn0, rfl, rfl, rfl, rfl, rfl, T9.out, B9.out⟩
          case round =>
            obtain ⟨j, A, gs, Gs, vf, ve, us, lls, rfl, hj1, hjn, rfl, hA, htk, hda, hlm, htd, hbw⟩ := hrel
            have HA := hid hA
            have HTK := hid htk
            have HDA := hid hda
            have HLM := hid hlm
            have TD := hid htd
            have BW := hid hbw
            have HRW := hid (HR.out.low BW.out (by have := HRS.out; have := HTB.out; omega))
            have BA := hid (BB.out.trans (BW.out.mono BB.out.size))
            clear hA htk hda hlm htd hbw k0 k1 kk0 T9 K9 B9 HR9 BW9
            by_cases hlt : j < n
            · have hlt' : (j : Int) < (n : Int) := by omega
              obtain ⟨u, hu, hbu⟩ := HAT.out j (by rw [HN.out]; exact hlt)
              have hjl : j < (f :: fs).length := by rw [HN.out]; exact hlt
              have hgd : (f :: fs).getD j [] = (f :: fs)[j] := by simp only [List.getD, List.getElem?_eq_getElem hjl, Option.getD_some]
              obtain ⟨x, hx⟩ : ∃ x, (f :: fs)[j] = x := ⟨_, rfl⟩
              rw [hgd, hx] at hbu
              have htk' : (f :: fs).take (j + 1) = f :: (gs ++ [x]) := by rw [List.take_succ_eq_append_getElem hjl, HTK.out, hx]; rfl
              have hfs : fs = (gs ++ [x]) ++ (f :: fs).drop (j + 1) := by
                have h1 := (List.take_append_drop (j + 1) (f :: fs)).symm
                rw [htk', List.cons_append] at h1
                exact (List.cons.inj h1).2
              have hxm : x ∈ fs := by rw [hfs]; simp
              have hxb := sp_mem HSP.out HBY.out x (by simp [hxm])
              obtain ⟨X, hX⟩ : ∃ X, x.length = X := ⟨_, rfl⟩
              have hX65 : X ≤ 65536 := by rw [← hX]; exact hxb.2
              have HXL := hid hX
              have HXB := hid hxb
              have HFS := hid hfs
              have HXM := hid hxm
              have HTK' := hid htk'
              have hcu : wr.cell? ⟨b, off + j, none⟩ = some u := (BW.out.cell (p := ⟨b, off + j, none⟩) (World.block_lt_of_cell? _ _ hu)).trans hu
              have HCU := hid hcu
              have HBU := hid (hbu.below BW.out)
              obtain ⟨ux, uxc, rfl⟩ := hbu.form
              rw [hX] at HBU hcu HCU
              have hDA := decA_same hxb.1 (by omega)
              obtain ⟨⟨D1, D2⟩, hD⟩ : ∃ z, decA mOwn x = z := ⟨_, rfl⟩
              rw [hD] at hDA
              have HD := hid hD
              have HDR := hid hDA.symm
              clear hu hbu hgd hx htk' hfs hxm hxb hX hD hDA hjl
              go_wp2_with fail
              refine (xdecall_new _ x wr HBU.out (by have := HXB.out.2; omega)).mono ?_
              rintro e w5 ⟨v5, l5, rfl, ho5, hf5, b5, hn5⟩
              rw [HDR.out] at hf5 ⊢
              dsimp only at hf5 ⊢
              have HO5 := hid ho5
              have HF5 := hid hf5
              have HN5 := hid hn5
              have TD5 := hid (TD.out.below b5)
              have BW5 := hid (BW.out.trans (b5.mono BW.out.size))
              have HR5 := hid (HRW.out.below b5)
              have BA5 := hid (bt BA.out b5)
              have OQ5 := hid (TD.out.newer ho5 hn5)
              have hcu5 : w5.cell? ⟨b, off + j, none⟩ = some (.slice ux X uxc) := (b5.cell (p := ⟨b, off + j, none⟩) (World.block_lt_of_cell? _ _ HCU.out)).trans HCU.out
              have WS5 : Hid (w2.heap.size ≤ wr.heap.size) := hid BW.out.size
              obtain ⟨q, hq⟩ : ∃ q, l5.length = q := ⟨_, rfl⟩
              have HQ := hid hq
              obtain ⟨va, vc, rfl, _, _⟩ := ho5.1.form
              rw [hq] at OQ5 HN5 ⊢
              clear ho5 hf5 b5 hn5 hcu HBU HCU HRW BA TD HDR hq
              cases D2 with
              | false =>
                have HT := hid (HNO.out (dAll_bad (.inl (by rw [HD.out])) HXM.out))
                clear hcu5 HYES HNO
                go_wp2_with (first
                  | (refine wpList_st_td rfl rfl rfl rfl ⟨⟨_, _, _, rfl⟩, ⟨_, _, _, rfl⟩⟩ HR5.out ?_; intro w10 hr10 hf10; have HR10 := hid hr10; have B10 := hid (below_fr BA5.out hf10 hrB); clear hr10 hf10)
                  | fail)
                refine bodyPost_ret (results_td2 rfl _ _ rfl HR10.out) rfl ?_
                exact RD.no HT.out B10.out
              | true =>
                by_cases hq0 : q = 0
                · have HT := hid (HNO.out (dAll_bad (.inr (by
                    rw [HD.out]
                    have h1 := HF5.out
                    have h2 := HQ.out
                    rw [hq0] at h2
                    rw [List.eq_nil_of_length_eq_zero h2] at h1
                    exact h1.symm)) HXM.out))
                  have hqz : ((q : Int) == 0) = true := by simp [hq0]
                  clear hcu5 HYES HNO hq0
                  go_wp2_with (first
                    | (refine wpList_st_td rfl rfl rfl rfl ⟨⟨_, _, _, rfl⟩, ⟨_, _, _, rfl⟩⟩ HR5.out ?_; intro w10 hr10 hf10; have HR10 := hid hr10; have B10 := hid (below_fr BA5.out hf10 hrB); clear hr10 hf10)
                    | fail)
                  refine bodyPost_ret (results_td2 rfl _ _ rfl HR10.out) rfl ?_
                  exact RD.no HT.out B10.out
                · have hqz : ((q : Int) == 0) = false := by simp; omega
                  have hDne : D1 ≠ [] := fun e => by
                    have h1 := HF5.out
                    rw [e] at h1
                    have h2 := congrArg List.length h1
                    have h3 := HQ.out
                    simp only [fsts, List.length_map, List.length_nil] at h2
                    omega
                  have hda' : dAll (gs ++ [x]) = some (Gs ++ [D1]) := by
                    have := dAll_snoc (f := x) (by rw [HD.out]) (by rw [HD.out]; exact hDne) HDA.out
                    rw [HD.out] at this
                    exact this
                  have hszp : szF (Gs ++ [D1]) ≤ p := by
                    obtain ⟨_, _, m, hm, hs⟩ := HSP.out
                    have h1 := sp_front (gs := (f :: fs).drop (j + 1)) (by rw [← HFS.out]; exact hs) (fun y hy => HBY.out y (List.mem_of_mem_drop hy)) hda'
                    omega
                  have hen := (enc_of_dec HXB.out.1 HXB.out.2 (by rw [HD.out])).1
                  rw [HD.out] at hen
                  have hszs : szF (Gs ++ [D1]) = szF Gs + (8 + X) := by rw [szF_append, szF_one]; dsimp only at hen; rw [hen, HXL.out]
                  have hszl := szF_pos Gs
                  have husl : us.length = Gs.length := by rw [TD5.out.uq.1, ← HLM.out]; simp
                  have hzsl : ((endsF Gs).map Prod.fst).length = Gs.length := by rw [List.length_map, endsF_len]
                  have hpx := HPX.out
                  have hln := HLN.out
                  have hAe := HA.out
                  have hAb : A ≤ 1099511627776 + 10 := by omega
                  obtain ⟨A2, hA2⟩ : ∃ A2, A + (8 + X) = A2 := ⟨_, rfl⟩
                  have HA2 : Hid (A2 = 10 + szF (Gs ++ [D1])) := hid (by omega)
                  have hA2c : ((A : Int) + (8 + (X : Int))) = (A2 : Int) := by omega
                  have hul : us.length ≤ 1099511627776 := by omega
                  obtain ⟨N, hNN⟩ : ∃ N, us.length = N := ⟨_, rfl⟩
                  have HNN := hid hNN
                  have HZL : Hid (((endsF Gs).map Prod.fst).length = N) := hid (by omega)
                  have HDA' := hid hda'
                  rw [hNN] at hul
                  clear hq0 hDne hda' hszp hen hszs hszl husl hzsl hpx hln hAe hA2 hNN HYES HNO
                  go_upto_region 18 with fail
                  obtain ⟨af, cf, rfl, _⟩ := own_cap2 TD5.out.rf
                  have T1 := hid TD5.out.cells.2.1
                  have HA6 := hid (ba w5 (.cells #[.slice va q vc] 38))
                  have TD6 := hid (TD5.out.below HA6.out)
                  have OQ6 := hid (OQ5.out.below HA6.out)
                  have SL6 := hid (Sl.lit (sz := 1) w5 38 #[.slice va q vc] 1 (by decide) rfl)
                  have ONE6 : Hid (∀ x ∈ [Value.slice va q vc], x.oneCell' = true) := hid (fun x hx => by rw [List.mem_singleton.1 hx]; rfl)
                  have S6 : Hid (w2.heap.size ≤ (w5.alloc (.cells #[.slice va q vc] 38)).heap.size) := hid (Nat.le_trans BW5.out.size HA6.out.size)
                  have HN5' := hid (HN5.out.mono WS5.out)
                  have hb6 : (us.length + 1) * 24 ≤ 140737488355328 := by rw [HNN.out]; omega
                  have hm6 : us.length + 1 ≤ maxLen := by rw [HNN.out]; unfold maxLen; omega
                  go_upto_region 19 with (first
                    | (refine wpList_ld_f (.inl rfl) rfl rfl rfl T1.out ?_)
                    | (at_builtin; refine wpList_append_sl 52 38 1 24 _ Tryz.underlying52 info_ops rfl (Nat.succ_pos 0) rfl _ _ rfl w2.heap.size (.slice af us.length cf) _ _ rfl TD6.out.rf _ 1 _ rfl SL6.out ONE6.out hb6 hm6 S6.out ?_; intro v9 w9 hown9 hg9 hv9; obtain ⟨a9,c9,rfl⟩ := own_shape hown9; have HO9 := hid hown9; have HG9 := hid hg9; have HV9 := hid hv9; clear hown9 hg9 hv9)
                    | (refine wpList_td_f1 rfl rfl rfl rfl ⟨_, _, _, rfl⟩ TD6.out HO9.out HG9.out HV9.out OQ6.out HN5'.out ?_; intro w10 htd10 hx10; have TD10 := hid htd10; have X10 := hid hx10; clear htd10 hx10)
                    | fail)
                  have ze : ((endsF Gs).map Prod.fst).length = N := HZL.out
                  obtain ⟨zs, hzs⟩ : ∃ zs, (endsF Gs).map Prod.fst = zs := ⟨_, rfl⟩
                  have HZS := hid hzs
                  rw [hzs] at ze
                  replace TD10 : Hid (Td w2.heap.size w10 tb V (.slice a9 (us.length + 1) c9) ve (us ++ [.slice va q vc]) (lls ++ [l5]) zs) := hid (by rw [← hzs]; exact TD10.out)
                  clear hzs
                  obtain ⟨ae, ce, rfl, _⟩ := own_cap2 TD10.out.re
                  have T2 := hid TD10.out.cells.2.2.1
                  have X10' : Hid (Below w2.heap.size (w5.alloc (.cells #[.slice va q vc] 38)) w10) := hid (X10.out.below (fun k hk => (TD6.out.inside hk).1) S6.out)
                  have HA11 := hid (ba w10 (.cells #[.int .i64 (A2 : Int)] 3))
                  have TD11 := hid (TD10.out.below HA11.out)
                  have SL11 := hid (Sl.lit (sz := 1) w10 3 #[.int .i64 (A2 : Int)] 1 (by decide) rfl)
                  have ONE11 : Hid (∀ x ∈ [Value.int .i64 (A2 : Int)], x.oneCell' = true) := hid (fun x hx => by rw [List.mem_singleton.1 hx]; rfl)
                  have S11 : Hid (w2.heap.size ≤ (w10.alloc (.cells #[.int .i64 (A2 : Int)] 3)).heap.size) := hid (Nat.le_trans S6.out (Nat.le_trans X10'.out.size HA11.out.size))
                  have hb11 : (zs.length + 1) * 8 ≤ 140737488355328 := by rw [ze]; omega
                  have hm11 : zs.length + 1 ≤ maxLen := by rw [ze]; unfold maxLen; omega
                  clear ze
                  go_wp2_with (first
                    | (refine wpList_ld_f (.inr rfl) rfl rfl rfl T2.out ?_)
                    | (at_builtin; refine wpList_append_sl 53 3 1 8 _ Tryz.underlying53 info_in rfl (Nat.succ_pos 0) rfl _ _ rfl w2.heap.size (.slice ae zs.length ce) _ _ rfl TD11.out.re _ 1 _ rfl SL11.out ONE11.out hb11 hm11 S11.out ?_; intro v12 w12 hown12 hg12 hv12; obtain ⟨a12,c12,rfl⟩ := own_shape hown12; have HO12 := hid hown12; have HG12 := hid hg12; have HV12 := hid hv12; clear hown12 hg12 hv12)
                    | (refine wpList_td_e1 rfl rfl rfl rfl ⟨_, _, _, rfl⟩ TD11.out HO12.out HG12.out HV12.out ?_; intro w13 htd13 hx13; have TD13 := hid htd13; have X13 := hid hx13; clear htd13 hx13)
                    | fail)
                  have BW13 : Below w2.heap.size w2 w13 := (BW5.out.trans (HA6.out.mono BW5.out.size)).trans (X10'.out.trans ((HA11.out.mono (Nat.le_trans S6.out X10'.out.size)).trans (X13.out.below (fun k hk => (TD11.out.inside hk).1) S11.out)))
                  have hT : Td w2.heap.size w13 tb V (.slice a9 (us.length + 1) c9) (.slice a12 (zs.length + 1) c12) (us ++ [.slice va q vc]) (lls ++ [l5]) ((endsF (Gs ++ [D1])).map Prod.fst) := by
                    rw [endsF_snoc, List.map_append, HZS.out]
                    have h1 := TD13.out
                    rw [HA2.out] at h1
                    exact h1
                  go_roundw
                  case rel => exact ⟨j + 1, A2, gs ++ [x], Gs ++ [D1], _, _, _, lls ++ [l5], by go_num, by omega, by omega, rfl, HA2.out, HTK'.out, HDA'.out, by rw [List.map_append, HLM.out]; simp only [List.map_cons, List.map_nil]; rw [HF5.out], hT, BW13⟩
                  case measure => simp [intOf]; omega
            · obtain rfl : j = n := by omega
              have b1' : decide ((j : Int) < (j : Int)) = false := by simp
              have hgs : gs = fs := by
                have h1 := HTK.out
                rw [List.take_of_length_le (by rw [HN.out]; exact Nat.le_refl _)] at h1
                exact (List.cons.inj h1).2.symm
              have hda := HDA.out
              rw [hgs] at hda
              obtain ⟨h1, h2, h3⟩ := HYES.out Gs hda
              have HTL := hid h1
              have HGD := hid h3
              have hap : ((A : Int) == (p : Int)) = true := by have := HA.out; simp; omega
              have HPA := hid h2
              have TO := hid (To.of TD.out HLM.out)
              obtain ⟨af, cf, rfl, _⟩ := own_cap2 TD.out.rf
              obtain ⟨ae, ce, rfl, _⟩ := own_cap2 TD.out.re
              have HTKB : Hid (Tk wr tb V (.slice af us.length cf) (.slice ae ((endsF Gs).map Prod.fst).length ce)) := hid TD.out.blk
              obtain ⟨ve, hve⟩ : ∃ ve, Value.slice ae ((endsF Gs).map Prod.fst).length ce = ve := ⟨_, rfl⟩
              obtain ⟨vf, hvf⟩ : ∃ vf, Value.slice af us.length cf = vf := ⟨_, rfl⟩
              have HSF : Hid ((∃ va n vc, vf = .slice va n vc) ∧ ∃ va n vc, ve = .slice va n vc) := hid ⟨⟨_, _, _, hvf.symm⟩, ⟨_, _, _, hve.symm⟩⟩
              rw [hve, hvf] at HTKB TO
              clear hgs hda h1 h2 h3 hve hvf TD HYES HNO
              go_wp2_with (first
                | (refine wpList_ld_td rfl rfl rfl HTKB.out ?_)
                | (refine wpList_st_td rfl rfl rfl rfl HSF.out HRW.out ?_; intro w10 hr10 hf10; have HR10 := hid hr10; have B10 := hid (below_fr BA.out hf10 hrB); have HF10 := hid hf10; clear hr10 hf10)
                | fail)
              refine bodyPost_ret (results_td2 rfl _ _ rfl HR10.out) rfl ?_
              refine .inr ⟨V, Gs, vf, ve, lls, HTL.out, HGD.out, HR0.out, HR1.out, by have h1 := HPA.out; have h2 := HPX.out; omega, rfl, (TO.out.kept HF10.out (fun k e => by have h1 := HRS.out; have h2 := HTB.out; omega)).base BB.out.size, B10.out⟩
end Go.Proofs.YteckjkblngmenaaGreatDoor

/-
  A list of calls in memory (two numbers and bytes): 'Dl w v qs': the slice v reads as qs; what great and do return, for all calls and files.
-/
namespace Go.Proofs.YteckjkblngmenaaGreatDoor
open Go.RowKit Go.ChangeShapes Go.WideShapes
set_option linter.unusedVariables false
set_option maxRecDepth 100000

section
variable {H : Type} {enc : TypeId × Value → H} {W : World} {held : Bool}
end

end Go.Proofs.YteckjkblngmenaaGreatDoor

/-
  What do does to a file is proved here, for all files and calls.
-/
namespace Go.Proofs.YteckjkblngmenaaGreatDoor
open Go.RowKit
set_option linter.unusedVariables false
set_option maxRecDepth 100000

section
variable {B : Nat} {w : World} {b : Nat} {v : Value} {xs : List Int} {n R : Nat}
end
end Go.Proofs.YteckjkblngmenaaGreatDoor

/-
  The reference's file in memory ('Re'), what may change while it is used ('Rx'), and what calls on it answer, in plain mathematics.
-/
namespace Go.Proofs.YteckjkblngmenaaGreatDoor
open Go.RowKit
set_option linter.unusedVariables false
set_option maxRecDepth 100000

/-- The reference's file: a block with two rows of the call's own. -/
structure Re (B : Nat) (w : World) (b : Nat) (s l : Value) (xs ys : List Int) (R : Nat) : Prop where
  blk : w.heap[b]? = some (.cells #[s, l, .int .i64 R] 65 (0, 0))
  base : B ≤ b
  os : Ow B w s xs
  ol : Ow B w l ys
  bs : Byt xs
  bl : Byt ys
  ne : ∀ k, s.ownBlock = some k → l.ownBlock ≠ some k
  len : xs.length ≤ R ∧ ys.length ≤ R
  lim : R ≤ 1048576
/-- What its use changes: its block, its rows'. -/
structure Rx (b : Nat) (s l s' l' : Value) (w w' : World) : Prop where
  fr : Fr (fun k => k = b ∨ s.ownBlock = some k ∨ l.ownBlock = some k) w w'
  new : ∀ k, s'.ownBlock = some k ∨ l'.ownBlock = some k → s.ownBlock = some k ∨ l.ownBlock = some k ∨ w.heap.size ≤ k

section
variable {B : Nat} {w w' w1 w2 : World} {b : Nat} {s l s' l' s2 l2 : Value} {xs ys : List Int} {R : Nat}
theorem Rx.refl (b : Nat) (s l : Value) (w : World) : Rx b s l s l w w := ⟨Fr.refl _ _, fun k h => h.elim .inl (fun h => .inr (.inl h))⟩
theorem Rx.of_below (h : Below w.heap.size w w') : Rx b s l s l w w' := ⟨Fr.of_below h, fun k h => h.elim .inl (fun h => .inr (.inl h))⟩
theorem Rx.drewN (h : Rx b s l s' l' w w') (m : Nat) : Rx b s l s' l' w (w'.drewN m) := ⟨h.fr.drewN m, h.new⟩
theorem Rx.trans (h : Rx b s l s' l' w w1) (k : Rx b s' l' s2 l2 w1 w2) : Rx b s l s2 l2 w w2 := by
  refine ⟨h.fr.trans k.fr ?_, ?_⟩
  · intro i hi hs
    rcases hs with hs | hs
    · exact .inl hs
    · rcases h.new i hs with e | e | e
      · exact .inr (.inl e)
      · exact .inr (.inr e)
      · omega
  · intro i hi
    have := h.fr.size
    rcases k.new i hi with e | e | e
    · exact h.new i (.inl e)
    · exact h.new i (.inr e)
    · exact .inr (.inr (by omega))
theorem Re.lt (h : Re B w b s l xs ys R) : b < w.heap.size := (Array.getElem?_eq_some_iff.1 h.blk).1
theorem Re.nes (h : Re B w b s l xs ys R) : s.ownBlock ≠ some b := h.os.far h.blk (by decide)
theorem Re.nel (h : Re B w b s l xs ys R) : l.ownBlock ≠ some b := h.ol.far h.blk (by decide)
theorem Re.of_block (h : Re B w b s l xs ys R) (hb : ∀ k, k = b ∨ s.ownBlock = some k ∨ l.ownBlock = some k → w'.heap[k]? = w.heap[k]?) : Re B w' b s l xs ys R :=
  ⟨by rw [hb b (.inl rfl)]; exact h.blk, h.base, h.os.of_block (fun k hk => hb k (.inr (.inl hk))), h.ol.of_block (fun k hk => hb k (.inr (.inr hk))), h.bs, h.bl, h.ne, h.len, h.lim⟩
theorem Re.inside (h : Re B w b s l xs ys R) {k : Nat} (hk : k = b ∨ s.ownBlock = some k ∨ l.ownBlock = some k) : B ≤ k ∧ k < w.heap.size := by
  rcases hk with rfl | hk | hk
  · exact ⟨h.base, h.lt⟩
  · exact h.os.lt k hk
  · exact h.ol.lt k hk
theorem Re.below (h : Re B w b s l xs ys R) (hb : Below w.heap.size w w') : Re B w' b s l xs ys R := h.of_block (fun k hk => hb.block k (h.inside hk).2)
theorem Re.drewN (h : Re B w b s l xs ys R) (m : Nat) : Re B (w.drewN m) b s l xs ys R := ⟨h.blk, h.base, h.os, h.ol, h.bs, h.bl, h.ne, h.len, h.lim⟩
/-- What the walk reads. -/
theorem Re.cells (h : Re B w b s l xs ys R) :
    ∃ a c a2 c2,s = .slice a xs.length c ∧ l = .slice a2 ys.length c2 ∧ xs.length ≤ c ∧ ys.length ≤ c2 ∧ w.cell? ⟨b,0,none⟩ = some (.slice a xs.length c) ∧ w.cell? ⟨b,1,none⟩ = some (.slice a2 ys.length c2) ∧ w.cell? ⟨b,2,none⟩ = some (.int .i64 R) ∧ w.frozen? ⟨b,0,none⟩ = false ∧ w.frozen? ⟨b,1,none⟩ = false := by
  obtain ⟨a, c, e, hc⟩ := h.os.form
  obtain ⟨a2, c2, e2, hc2⟩ := h.ol.form
  refine ⟨a, c, a2, c2, e, e2, hc, hc2, ?_, ?_, ?_, frozen_of_row w b 0 _ _ h.blk, frozen_of_row w b 1 _ _ h.blk⟩
  · rw [cell_of_row w b 0 _ _ _ h.blk, ← e]; rfl
  · rw [cell_of_row w b 1 _ _ _ h.blk, ← e2]; rfl
  · rw [cell_of_row w b 2 _ _ _ h.blk]; rfl
/-- A store of the first row, in a world in which that row was changed alone. -/
theorem Re.put0 {zs : List Int} (h : Re B w b s l xs ys R) (hown : Ow B w' s' zs) (hfr : Fr (fun k => s.ownBlock = some k) w w') (hz : Byt zs) (hl : zs.length ≤ R)
    (hv : ∀ k, s'.ownBlock = some k → s.ownBlock = some k ∨ w.heap.size ≤ k) : Re B (w'.setCell ⟨b, 0, none⟩ s') b s' l zs ys R ∧ Rx b s l s' l w (w'.setCell ⟨b, 0, none⟩ s') := by
  have hb' : w'.heap[b]? = some (.cells #[s, l, .int .i64 R] 65 (0, 0)) := by rw [hfr.block b h.lt h.nes]; exact h.blk
  have hne' : s'.ownBlock ≠ some b := by
    intro e
    rcases hv b e with e | e
    · exact h.nes e
    · have := h.lt; omega
  have hol : Ow B w' l ys := h.ol.of_block (fun k hk => hfr.block k (h.ol.lt k hk).2 (fun e => h.ne k e hk))
  refine ⟨⟨by rw [heap_setCell_same w' b 0 _ _ s' hb']; simp, h.base, ownsRow_setCell_other hown hne' _, ownsRow_setCell_other hol h.nel _, hz, h.bl, ?_, ⟨hl, h.len.2⟩, h.lim⟩, ?_, ?_⟩
  · intro k hk e
    rcases hv k hk with h1 | h1
    · exact h.ne k h1 e
    · have := (h.ol.lt k e).2; omega
  · exact (hfr.mono (fun k e => .inr (.inl e))).trans ((Fr.of_set w' b 0 s').mono (fun k e => .inl e)) (fun _ _ h => h)
  · intro k hk
    rcases hk with hk | hk
    · exact (hv k hk).elim .inl (fun h => .inr (.inr h))
    · exact .inr (.inl hk)
/-- A store of the second row. -/
theorem Re.put1 {zs : List Int} (h : Re B w b s l xs ys R) (hown : Ow B w' l' zs) (hfr : Fr (fun k => l.ownBlock = some k) w w') (hz : Byt zs) (hl : zs.length ≤ R)
    (hv : ∀ k, l'.ownBlock = some k → l.ownBlock = some k ∨ w.heap.size ≤ k) : Re B (w'.setCell ⟨b, 1, none⟩ l') b s l' xs zs R ∧ Rx b s l s l' w (w'.setCell ⟨b, 1, none⟩ l') := by
  have hb' : w'.heap[b]? = some (.cells #[s, l, .int .i64 R] 65 (0, 0)) := by rw [hfr.block b h.lt h.nel]; exact h.blk
  have hne' : l'.ownBlock ≠ some b := by
    intro e
    rcases hv b e with e | e
    · exact h.nel e
    · have := h.lt; omega
  have hos : Ow B w' s xs := h.os.of_block (fun k hk => hfr.block k (h.os.lt k hk).2 (h.ne k hk))
  refine ⟨⟨by rw [heap_setCell_same w' b 1 _ _ l' hb']; simp, h.base, ownsRow_setCell_other hos h.nes _, ownsRow_setCell_other hown hne' _, h.bs, hz, ?_, ⟨h.len.1, hl⟩, h.lim⟩, ?_, ?_⟩
  · intro k hk e
    rcases hv k e with h1 | h1
    · exact h.ne k hk h1
    · have := (h.os.lt k hk).2; omega
  · exact (hfr.mono (fun k e => .inr (.inr e))).trans ((Fr.of_set w' b 1 l').mono (fun k e => .inl e)) (fun _ _ h => h)
  · intro k hk
    rcases hk with hk | hk
    · exact .inl hk
    · exact (hv k hk).elim (fun h => .inr (.inl h)) (fun h => .inr (.inr h))
theorem Re.nil1 (h : Re B w b s l xs ys R) : Re B (w.setCell ⟨b, 1, none⟩ (.slice none 0 0)) b s (.slice none 0 0) xs [] R ∧ Rx b s l s (.slice none 0 0) w (w.setCell ⟨b, 1, none⟩ (.slice none 0 0)) :=
  h.put1 (Ow.nil _ _) (Fr.refl _ _) Byt.nil (Nat.zero_le _) (fun k hk => by cases hk)
end

/-- A call on the reference's file did this. -/
def Ro (B b R : Nat) (s l : Value) (w : World) (xs ys : List Int) (w' : World) : Prop := ∃ s' l', Re B w' b s' l' xs ys R ∧ Rx b s l s' l' w w'
def rtrim (k : Int) (xs ys : List Int) : Int × List Int × List Int :=
  if 0 ≤ k ∧ k ≤ xs.length + ys.length then (if k ≤ xs.length then (0, xs.take k.toNat, []) else (0, xs, ys.take (k.toNat - xs.length))) else (11, xs, ys)
end Go.Proofs.YteckjkblngmenaaGreatDoor

/-
  What the reference's Room, Bytes, New, Load, Append, Sync, Replace, Trim and Crash do is proved here, for all its files, numbers and bytes.
-/
namespace Go.Proofs.YteckjkblngmenaaGreatDoor
open Go.RowKit
set_option linter.unusedVariables false
set_option maxRecDepth 100000

section
variable {B : Nat} {w : World} {b : Nat} {s l : Value} {xs ys : List Int} {R : Nat}

end
end Go.Proofs.YteckjkblngmenaaGreatDoor

/-
  What the reference's Trim, Bytes, New and Load do is proved here, for all its files, numbers and bytes.
-/
namespace Go.Proofs.YteckjkblngmenaaGreatDoor
open Go.RowKit
set_option linter.unusedVariables false
set_option maxRecDepth 100000

section
variable {B : Nat} {w : World} {b : Nat} {s l : Value} {xs ys : List Int} {R : Nat}

set_option maxHeartbeats 2000000 in
theorem rtrim_any (h : Re B w b s l xs ys R) (k : Int) :
    Calls Tryz.prog 65 #[.pointer (some ⟨b, 0, none⟩), .int .i64 k] w fun e w' =>
      e = .returned (.int .i64 (rtrim k xs ys).1) ∧ Ro B b R s l w (rtrim k xs ys).2.1 (rtrim k xs ys).2.2 w' := by
  have HF := hid h
  have hR := h.lim
  obtain ⟨hl, hl2⟩ := h.len
  obtain ⟨a, c, a2, c2, rfl, rfl, hc, hc2, g0, g1, g2, f0, f1⟩ := h.cells
  clear h
  obtain ⟨N, hN⟩ : ∃ N, xs.length = N := ⟨_, rfl⟩
  obtain ⟨N2, hN2⟩ : ∃ N, ys.length = N := ⟨_, rfl⟩
  have HN := hid hN
  have HN2 := hid hN2
  by_cases h1 : k < 0
  · rw [show rtrim k xs ys = (11, xs, ys) from if_neg (by omega)]
    rw [hN] at hl hc g0 HF ⊢
    rw [hN2] at hl2 hc2 g1 HF ⊢
    clear hN hN2
    have h1' : decide (k < 0) = true := by simpa using h1
    go_enter Tryz.func65, Tryz.ntmps65
    go_wp2
    go_quiet (fail)
    go_wp2
    go_ret
    exact ⟨rfl, _, _, HF.out.drewN _, (Rx.refl _ _ _ _).drewN _⟩
  · have h1' : decide (k < 0) = false := by simpa using h1
    by_cases h2 : (N : Int) + N2 < k
    · rw [show rtrim k xs ys = (11, xs, ys) from if_neg (by omega)]
      rw [hN] at hl hc g0 HF ⊢
      rw [hN2] at hl2 hc2 g1 HF ⊢
      clear hN hN2
      go_enter Tryz.func65, Tryz.ntmps65
      go_wp2
      go_quiet (fail)
      go_wp2
      go_ret
      exact ⟨rfl, _, _, HF.out.drewN _, (Rx.refl _ _ _ _).drewN _⟩
    · obtain ⟨m, rfl⟩ : ∃ m : Nat, k = m := ⟨k.toNat, by omega⟩
      have h2' : ¬ (N : Int) + N2 < m := h2
      by_cases h3 : (m : Int) ≤ N
      · rw [show rtrim (m : Int) xs ys = (0, xs.take m, []) by unfold rtrim; rw [if_pos (by omega), if_pos (by omega)]; rfl]
        have hm : m ≤ N := by omega
        have hmc : m ≤ c := by omega
        rw [hN] at hl hc g0 HF ⊢
        rw [hN2] at hl2 hc2 g1 HF ⊢
        clear hN hN2
        have hP := HF.out.put0 (w' := w) (s' := .slice a m c) (zs := xs.take m) (HF.out.os.take m (by rw [HN.out]; exact hm)) (Fr.refl _ _) (HF.out.bs.take m) (by rw [List.length_take, HN.out]; omega) (fun k hk => .inl (by cases a <;> exact hk))
        have hQ := hP.1.nil1
        have HQ := hid hQ.1
        have HX := hid (hP.2.trans hQ.2)
        clear hP hQ
        go_enter Tryz.func65, Tryz.ntmps65
        go_wp2
        go_quiet (fail)
        go_wp2
        go_ret
        exact ⟨rfl, _, _, HQ.out.drewN _, HX.out.drewN _⟩
      · rw [show rtrim (m : Int) xs ys = (0, xs, ys.take (m - xs.length)) by unfold rtrim; rw [if_pos (by omega), if_neg (by omega)]; rfl]
        obtain ⟨j, hj⟩ : ∃ j, m - N = j := ⟨_, rfl⟩
        have hjm : (m : Int) - N = j := by omega
        rw [hN] at hl hc g0 HF ⊢
        rw [hN2] at hl2 hc2 g1 HF ⊢
        clear hN hN2
        rw [hj]
        have hjc : j ≤ c2 := by omega
        have hj2 : j ≤ N2 := by omega
        clear hj
        have hP := HF.out.put1 (w' := w) (l' := .slice a2 j c2) (zs := ys.take j) (HF.out.ol.take j (by rw [HN2.out]; exact hj2)) (Fr.refl _ _) (HF.out.bl.take j) (by rw [List.length_take, HN2.out]; omega) (fun k hk => .inl (by cases a2 <;> exact hk))
        have HQ := hid hP.1
        have HX := hid hP.2
        clear hP
        go_enter Tryz.func65, Tryz.ntmps65
        go_wp2
        go_quiet (fail)
        go_wp2
        go_region
        all_goals
          go_wp2
          go_ret
          exact ⟨rfl, _, _, HQ.out.drewN _, HX.out.drewN _⟩

set_option maxHeartbeats 2000000 in
theorem rbytes_any (h : Re B w b s l xs ys R) :
    Calls Tryz.prog 28 #[.pointer (some ⟨b, 0, none⟩)] w fun e w' => ∃ v', e = .returned v' ∧ Ow w.heap.size w' v' (xs ++ ys) ∧ Below w.heap.size w w' := by
  have HF := hid h
  have hR := h.lim
  obtain ⟨hl, hl2⟩ := h.len
  obtain ⟨a, c, a2, c2, rfl, rfl, hc, hc2, g0, g1, g2, f0, f1⟩ := h.cells
  clear h
  have hlx : xs.length + ys.length ≤ 140737488355328 := by omega
  go_enter Tryz.func28, Tryz.ntmps28
  go_wp2_with fail
  go_region_law (first
    | (go_simp; go_at_call 44; refine (copy_own _ xs w.drew (HF.out.os.bs HF.out.bs) (by omega)).mono ?_; rintro e w2 ⟨g,cap,rfl,ho,hb2⟩; have HO := hid ho; have HB2 : Hid (Below w.heap.size w w2) := ((Below.refl _ w).drew).trans hb2; have HF2 := hid (HF.out.below HB2.out); have g1' : w2.cell? ⟨b,1,none⟩ = some (.slice a2 ys.length c2) := (World.cell?_of_block (a := ⟨b,1,none⟩) (hb2.block b HF.out.lt)).trans g1)
    | (refine step_append_bs rfl _ _ rfl w.heap.size _ _ xs rfl HO.out _ ys rfl (HF2.out.ol.bs HF2.out.bl) hlx HB2.out.size ?_; intro v3 w3 hown3 hg3 hv3; rw [← List.length_append] at hown3; have HO3 := hid hown3; have HB3 := hid (Below.grown HB2.out hg3 HB2.out.size (fun k hk => (HO.out.lt k hk).1))))
  all_goals
    go_wp2
    go_ret
    exact ⟨_, rfl, HO3.out, HB3.out⟩

set_option maxHeartbeats 2000000 in
theorem rnew_bad (k : Int) (h : k < 0 ∨ 1048576 < k) : Calls Tryz.prog 8 #[.int .i64 k] w fun e w' => e = .returned (.tuple #[.pointer none, .int .i64 11]) ∧ w = w' := by
  by_cases h1 : k < 0
  · go_enter Tryz.func8, Tryz.ntmps8
    go_wp2
    go_ret2
    exact ⟨rfl, rfl⟩
  · have h1' : decide (k < 0) = false := by simp; omega
    have h2 : (1048576 : Int) < k := by omega
    go_enter Tryz.func8, Tryz.ntmps8
    go_wp2
    go_ret2
    exact ⟨rfl, rfl⟩

set_option maxHeartbeats 2000000 in
theorem rnew_ok (R : Nat) (hR : R ≤ 1048576) : Calls Tryz.prog 8 #[.int .i64 R] w fun e w' =>
    e = .returned (.tuple #[.pointer (some ⟨w.heap.size, 0, none⟩), .int .i64 0]) ∧ Below w.heap.size w w' ∧ Re w.heap.size w' w.heap.size (.slice none 0 0) (.slice none 0 0) [] [] R := by
  have h1 : decide ((R : Int) < 0) = false := by simp
  have h2 : decide ((1048576 : Int) < (R : Int)) = false := by simp; omega
  have HR : Hid (Re w.heap.size (w.alloc (.cells #[.slice none 0 0, .slice none 0 0, .int .i64 R] 65 (0, 0))) w.heap.size (.slice none 0 0) (.slice none 0 0) [] [] R) :=
    ⟨heap_alloc_new w _, Nat.le_refl _, Ow.nil _ _, Ow.nil _ _, Byt.nil, Byt.nil, (fun k hk => by cases hk), ⟨Nat.zero_le _, Nat.zero_le _⟩, hR⟩
  go_enter Tryz.func8, Tryz.ntmps8
  go_wp2
  go_ret2
  exact ⟨rfl, ba _ _, HR.out⟩

set_option maxHeartbeats 2000000 in
theorem rload_bad (u : Value) (k : Int) (h : k < 0 ∨ 1048576 < k) : Calls Tryz.prog 38 #[u, .int .i64 k] w fun e w' => e = .returned (.tuple #[.pointer none, .int .i64 11]) ∧ w = w' := by
  have H := hid h
  clear h
  go_enter Tryz.func38, Tryz.ntmps38
  go_wp2_with fail
  refine (rnew_bad k H.out).mono ?_
  rintro e w1 ⟨rfl, rfl⟩
  go_wp2
  go_ret2
  exact ⟨rfl, rfl⟩

set_option maxHeartbeats 2000000 in
theorem rload_full (u : Value) (us : List Int) (R : Nat) (hR : R ≤ 1048576) (hu : Bs w u us) (h : R < us.length) : Calls Tryz.prog 38 #[u, .int .i64 R] w fun e w' => e = .returned (.tuple #[.pointer none, .int .i64 14]) ∧ Below w.heap.size w w' := by
  obtain ⟨ua, uc, rfl⟩ := hu.form
  obtain ⟨M, hM⟩ : ∃ M, us.length = M := ⟨_, rfl⟩
  rw [hM] at h ⊢
  have h' : (R : Int) < M := by omega
  clear hu hM
  go_enter Tryz.func38, Tryz.ntmps38
  go_wp2_with fail
  refine (rnew_ok R hR).mono ?_
  rintro e w1 ⟨rfl, hb, hf⟩
  have HB := hid hb
  clear hb hf
  go_wp2
  go_ret2
  exact ⟨rfl, HB.out⟩

end
end Go.Proofs.YteckjkblngmenaaGreatDoor

/-
  What the reference's Load makes, once more: the file itself.
-/
namespace Go.Proofs.YteckjkblngmenaaGreatDoor
open Go.RowKit
set_option linter.unusedVariables false
set_option maxRecDepth 100000

set_option maxHeartbeats 2000000 in
theorem rload_re (u : Value) (us : List Int) (R : Nat) (w : World) (hR : R ≤ 1048576) (hu : Bs w u us) (h : us.length ≤ R) : Calls Tryz.prog 38 #[u, .int .i64 R] w fun e w' =>
    e = .returned (.tuple #[.pointer (some ⟨w.heap.size, 0, none⟩), .int .i64 0]) ∧ Below w.heap.size w w' ∧ ∃ s, Re w.heap.size w' w.heap.size s (.slice none 0 0) us [] R := by
  have HU := hid hu
  have HR := hid hu.range
  obtain ⟨ua, uc, rfl⟩ := hu.form
  obtain ⟨M, hM⟩ : ∃ M, us.length = M := ⟨_, rfl⟩
  have HM := hid hM
  rw [hM] at h HU ⊢
  have h' : ¬ (R : Int) < M := by omega
  clear hu hM
  go_enter Tryz.func38, Tryz.ntmps38
  go_wp2_with fail
  refine (rnew_ok R hR).mono ?_
  rintro e w1 ⟨rfl, hb, hf⟩
  have HB := hid hb
  have HF := hid hf
  have hlt := hf.lt
  clear hb hf
  go_wp2_with fail
  refine (copy_own _ us w1 (HU.out.below HB.out) (by rw [HM.out]; omega)).mono ?_
  rintro e w2 ⟨g, cap, rfl, hO, hb⟩
  have hput := HF.out.put0 (w' := w2) (own_base hO HB.out.size) (Fr.of_below hb) HR.out (by rw [HM.out]; exact h) (fun k hk => .inr (by simp [Value.ownBlock] at hk; have := (hO.lt g rfl).1; omega))
  have HPUT := hid hput
  have hfb := hb.block _ HF.out.lt
  obtain ⟨xa, xc, xa2, xc2, e1, e2, -, -, g0, -, -, f0, -⟩ := HF.out.cells
  clear e1 e2
  have q1 := (World.frozen?_of_block (a := ⟨w.heap.size, 0, none⟩) hfb).trans f0
  have q2 := (World.cell?_of_block (a := ⟨w.heap.size, 0, none⟩) hfb).trans g0
  have HB2 := hid ((HB.out.trans (hb.mono HB.out.size)).setCell (p := ⟨w.heap.size, 0, none⟩) (Nat.le_refl _) (.slice (some ⟨g, 0, none⟩) us.length cap))
  clear hO hb hfb g0 f0 hput
  go_wp2
  go_ret2
  exact ⟨rfl, HB2.out, _, HPUT.out.1⟩
end Go.Proofs.YteckjkblngmenaaGreatDoor

/-
  What the reference's Open does is proved here: it answers what its file's bytes tell, the file trimmed, or left.
-/
namespace Go.Proofs.YteckjkblngmenaaGreatDoor
open Go.RowKit
set_option linter.unusedVariables false
set_option maxRecDepth 100000

def XO (B b R : Nat) (s l : Value) (xs ys : List Int) (w : World) (e : Ending) (w' : World) : Prop :=
  (Tl (xs ++ ys) none ∧ e = .returned (.tuple #[tdv 0 (.slice none 0 0) (.slice none 0 0), .int .i64 20]) ∧ Below w.heap.size w w') ∨
  ∃ r Fs vf ve lls, Tl (xs ++ ys) (some (r, Fs)) ∧ Good Fs ∧ 0 ≤ r ∧ r ≤ 15 ∧ 10 + szF Fs ≤ (xs ++ ys).length ∧ e = .returned (.tuple #[tdv r vf ve, .int .i64 0]) ∧ To w.heap.size w' vf ve Fs lls ∧
    Ro B b R s l w (rtrim ((10 + szF Fs : Nat) : Int) xs ys).2.1 (rtrim ((10 + szF Fs : Nat) : Int) xs ys).2.2 w'
theorem Tk.fr {S : Nat → Prop} {w w' : World} {b : Nat} {r : Int} {vf ve : Value} (h : Tk w b r vf ve) (hf : Fr S w w') (hs : ¬ S b) : Tk w' b r vf ve := (hf.block b h.lt hs).trans h

set_option maxHeartbeats 4000000 in
theorem xopen_any {B b R : Nat} {s l : Value} {xs ys : List Int} {w : World} (h : Re B w b s l xs ys R) :
    Calls Tryz.prog 25 #[.pointer (some ⟨b, 0, none⟩)] w fun e w' => XO B b R s l xs ys w e w' := by
  have HF := hid h
  have HLN : Hid ((xs ++ ys).length ≤ 1099511627776) := hid (by have h1 := h.len; have h2 := h.lim; rw [List.length_append]; omega)
  clear h
  go_enter Tryz.func25, Tryz.ntmps25
  go_upto_region 1 with (first
    | (refine wpList_al_td rfl rfl ?_; intro w1 hr1 hb1 hlt1; have HR := hid hr1; have BB := hid hb1; have HLT := hid hlt1; clear hr1 hb1 hlt1))
  obtain ⟨rb, hrb⟩ : ∃ r, w.heap.size = r := ⟨_, rfl⟩
  have hrB : w.heap.size ≤ rb := Nat.le_of_eq hrb
  rw [hrb] at HR HLT ⊢
  clear hrb
  have F1 := hid (HF.out.below BB.out)
  go_wp2_with fail
  refine (rbytes_any F1.out).mono ?_
  rintro e w2 ⟨v2, rfl, ho2, b2⟩
  have V2 := hid (ho2.bs (F1.out.bs.append F1.out.bl))
  have HBY := hid V2.out.range
  have F2 := hid (F1.out.below b2)
  have B2 := hid (bt BB.out b2)
  have R2 := hid (HR.out.below b2)
  obtain ⟨a2, c2, rfl⟩ := V2.out.form
  obtain ⟨N, hN⟩ : ∃ N, (xs ++ ys).length = N := ⟨_, rfl⟩
  have HN := hid hN
  rw [hN] at V2 HLN ⊢
  clear ho2 b2 F1 HR hN
  go_wp2_with fail
  refine (xread_any _ (xs ++ ys) w2 V2.out (by rw [HN.out]; exact HLN.out)).mono ?_
  rintro e w3 (⟨htl, rfl, b3⟩ | ⟨r, Fs, vf, ve, lls, htl, hgd, hr0, hr1, hsz, rfl, hto, b3⟩)
  · have HT := hid htl
    have B3 := hid (bt B2.out b3)
    have R3 := hid (R2.out.below b3)
    clear htl b3
    go_wp2_with (first
      | (refine wpList_al_td rfl rfl ?_; intro w4 hr4 hb4 hlt4; have HK := hid hr4; have B4 := hid (bt B3.out hb4); have R4 := hid (R3.out.below hb4); have HS4 : Hid (rb < w3.heap.size) := hid (R3.out.lt); clear hr4 hb4 hlt4)
      | (refine wpList_st_td rfl rfl rfl rfl ⟨⟨_, _, _, rfl⟩, ⟨_, _, _, rfl⟩⟩ HK.out ?_; intro w5 hr5 hf5; have R5 := hid (R4.out.fr hf5 (fun e => by have := HS4.out; omega)); have B5 := hid (below_fr B4.out hf5 (by have := HS4.out; omega)); clear hr5 hf5 HK)
      | (refine wpList_st_td rfl rfl rfl rfl ⟨⟨_, _, _, rfl⟩, ⟨_, _, _, rfl⟩⟩ R5.out ?_; intro w6 hr6 hf6; have R6 := hid hr6; have B6 := hid (below_fr B5.out hf6 hrB); clear hr6 hf6)
      | fail)
    refine bodyPost_ret (results_td2 rfl _ _ rfl R6.out) rfl ?_
    exact .inl ⟨HT.out, rfl, B6.out⟩
  · have HT := hid htl
    have HGD := hid hgd
    have HR0 := hid hr0
    have HR1 := hid hr1
    have HSZ := hid hsz
    have B3 := hid (bt B2.out b3)
    have R3 := hid (R2.out.below b3)
    have F3 := hid (F2.out.below b3)
    have V3 := hid (V2.out.below b3)
    have TO3 := hid hto
    have HW2 : Hid (w.heap.size ≤ w2.heap.size) := hid B2.out.size
    have HSF : Hid ((∃ va n vc, vf = .slice va n vc) ∧ ∃ va n vc, ve = .slice va n vc) := hid (by
      obtain ⟨us, _, h2, _⟩ := hto.us
      obtain ⟨va, vc, e, _⟩ := h2.form
      obtain ⟨va2, vc2, e2, _⟩ := hto.ends.form
      exact ⟨⟨_, _, _, e⟩, ⟨_, _, _, e2⟩⟩)
    have hs3 := hid b3.size
    clear htl hgd hr0 hr1 hsz b3 hto
    go_upto_region 5 with (first
      | (refine wpList_al_td rfl rfl ?_; intro w4 hr4 hb4 hlt4; have HK := hid hr4; have HB4 := hid hb4; clear hr4 hb4 hlt4)
      | (refine wpList_st_td rfl rfl rfl rfl HSF.out HK.out ?_; intro w5 hr5 hf5; have K5 := hid hr5; have HB5 := hid (below_fr HB4.out hf5 (Nat.le_refl _)); clear hr5 hf5 HK HB4)
      | fail)
    obtain ⟨tb, htb⟩ : ∃ r, w3.heap.size = r := ⟨_, rfl⟩
    have F5 := hid (F3.out.below HB5.out)
    have V5 := hid (V3.out.below HB5.out)
    have R5 := hid (R3.out.below HB5.out)
    have TO5 := hid (TO3.out.below HB5.out)
    have B5 := hid (bt B3.out HB5.out)
    have HTB : Hid (rb < tb ∧ w2.heap.size ≤ tb) := hid ⟨by rw [← htb]; exact R3.out.lt, by rw [← htb]; exact hs3.out⟩
    rw [htb] at K5 ⊢
    clear htb F3 V3 R3 B3 TO3 HB5 hs3
    go_wp2_with fail
    refine (refsplit_any _ (xs ++ ys) w5 V5.out (by rw [HN.out]; exact HLN.out)).mono ?_
    rintro e w6 ⟨v6, fs, p, t, rfl, hsp, hls, b6⟩
    have hp := tl_pos hsp HBY.out HT.out
    have F6 := hid (F5.out.below b6)
    have R6 := hid (R5.out.below b6)
    have K6 := hid (K5.out.below b6)
    have TO6 := hid (TO5.out.below b6)
    have B6 := hid (bt B5.out b6)
    obtain ⟨a6, c6, rfl⟩ := hls.form
    subst hp
    clear hsp hls b6 F5 V5 R5 K5 TO5 B5
    go_wp2_with fail
    refine (rtrim_any F6.out ((10 + szF Fs : Nat) : Int)).mono ?_
    rintro e w7 ⟨rfl, s', l', he7, hx7⟩
    have HE7 := hid he7
    have HX7 := hid hx7
    have HRL := hid (F6.out.lt)
    have HIN : Hid (∀ k, (k = b ∨ s.ownBlock = some k ∨ l.ownBlock = some k) → k < w.heap.size) := hid (fun k hk => (HF.out.inside hk).2)
    have R7 := hid (R6.out.fr hx7.fr (fun e => by have := HIN.out _ e; omega))
    have K7 := hid (K6.out.fr hx7.fr (fun e => by have := HIN.out _ e; have := HTB.out; omega))
    have TO7 := hid (TO6.out.kept hx7.fr (fun k e => by have := HIN.out _ e; have := HW2.out; omega))
    have X7 := hid ((Rx.of_below B6.out).trans hx7)
    have R6L := hid R6.out.lt
    have HNW : Hid (∀ k, s'.ownBlock = some k ∨ l'.ownBlock = some k → k < w.heap.size ∨ w6.heap.size ≤ k) := hid (fun k hk => (hx7.new k hk).elim (fun e => .inl (HIN.out _ (.inr (.inl e)))) (fun e => e.elim (fun e => .inl (HIN.out _ (.inr (.inr e)))) .inr))
    obtain ⟨E7, hE7⟩ : ∃ E7, (rtrim ((10 + szF Fs : Nat) : Int) xs ys).1 = E7 := ⟨_, rfl⟩
    rw [hE7]
    clear he7 hx7 hE7 R6 K6 TO6 B6 F6
    go_wp2_with (first
      | (refine wpList_ld_td rfl rfl rfl K7.out ?_)
      | (refine wpList_st_td rfl rfl rfl rfl HSF.out R7.out ?_; intro w8 hr8 hf8; have R8 := hid hr8; have HF8 := hid hf8; clear hr8 hf8)
      | fail)
    refine bodyPost_ret (results_td2 rfl _ _ rfl R8.out) rfl ?_
    refine .inr ⟨r, Fs, vf, ve, lls, HT.out, HGD.out, HR0.out, HR1.out, HSZ.out, rfl, (TO7.out.kept HF8.out (fun k e => by have := HTB.out; have := R2.out.lt; omega)).base HW2.out, s', l', ?_, ?_⟩
    · exact HE7.out.of_block (fun k hk => HF8.out.block k (HE7.out.inside hk).2 (fun e => by
        subst e
        rcases hk with hk | hk
        · have h1 := HIN.out _ (.inl hk); omega
        · rcases HNW.out _ hk with e | e
          · omega
          · have := R6L.out; omega))
    · exact ⟨X7.out.fr.trans HF8.out (fun i hi e => by omega), X7.out.new⟩
end Go.Proofs.YteckjkblngmenaaGreatDoor
