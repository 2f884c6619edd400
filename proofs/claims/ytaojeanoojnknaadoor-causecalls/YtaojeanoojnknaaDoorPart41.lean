/-
  CauseCalls returns true for every list of calls: its walk.
-/
import Derived.Test.YtaojeanoojnknaaDoorPart40
import Derived.Test.YtaojeanoojnknaaDoorPart36
namespace Go.Proofs.YtaojeanoojnknaaDoor
open Go.RowKit
set_option linter.unusedVariables false
set_option maxRecDepth 100000

theorem wpList_box_xv {w : World} {ops : Array Oper} {rest : List Oper} {o : Oper} {a : Act} {Q : Exit → Act → World → Prop} (hgd : o.guard = none) (x : Operand) (ho : o.op = .box 36 x) (l : List Int) (hl : Vk l)
    (hx : a.eval x = .agg (is l).toArray) (h : ∀ w', Vc w' w.heap.size l → Below w.heap.size w w' → wpList Tryd.prog ops Q rest (a.put o.dst (.pointer (some ⟨w.heap.size, 0, none⟩))) w') : wpList Tryd.prog ops Q (o :: rest) a w := by
  refine wpList_plain hgd fun K hK => ?_
  have hh := hK _ _ (h _ (Vc.new w l hl 36) (ba w _))
  unfold Oper.wp execOp
  simp only [ho, hx]
  simp [Instr.box, go_sem]
  exact hh
/-- All four, made new. -/
theorem ks_new {w0 w3 x4 w5 w6 : World} {bb mb rb vb xm : Nat} (hL : Lay w0) (h1 : Bu w3.heap.size w3 bb mb []) (hlo : w0.heap.size ≤ bb ∧ w0.heap.size ≤ mb) (hb1 : Below w0.heap.size w0 w3)
    (h4 : w3.alloc (.cells #[.slice none 0 0] 30) = x4) (hv : Vc w5 vb v0) (hb2 : Below x4.heap.size x4 w5) (hx : Vc w6 xm v0) (hb3 : Below w5.heap.size w5 w6) (e1 : w3.heap.size = rb) (e2 : x4.heap.size = vb) (e3 : w5.heap.size = xm) :
    Ks w0 w6.heap.size bb mb vb rb xm w6 v0 [] v0 [] := by
  subst e1; subst e2; subst e3
  have k1 := h1.lt
  have k3 := hv.lt
  have k4 := hx.lt
  have s0 := lay_two hL
  have s1 := hb1.size
  have s4 : x4.heap.size = w3.heap.size + 1 := by rw [← h4]; simp
  have b4 : Below w3.heap.size w3 x4 := by rw [← h4]; exact ba _ _
  have o4 : x4.heap[w3.heap.size]? = some (.cells #[.slice none 0 0] 30 (0, 0)) := by rw [← h4]; exact heap_alloc_new w3 _
  have s2 := hb2.size
  have s3 := hb3.size
  have B := bt (bt (bt hb1 b4) hb2) hb3
  refine ⟨⟨hL.below B,(h1.below (bt (bt b4 hb2) hb3)).up (by omega),hv.below hb3,by omega,Nat.le_refl _,B,by omega⟩,⟨.slice none 0 0,[],rfl,?_,⟨Sl.nil 20 _,fun p hp => by cases hp⟩,by omega,Nat.le_refl _,(fun A n c e => by simp at e),(fun k hk => by cases hk),(fun p hp => by cases hp)⟩,hx,by omega,by omega⟩
  rw [hb3.block _ (by omega), hb2.block _ (by omega)]
  exact o4

set_option maxHeartbeats 16000000 in
theorem calls9_walk (A : Value) (qs : List Koe) (w : World) (hQ : Kq w A qs) (hL : Lay w) :
    Calls Tryd.prog 3 #[A] w fun e w' => e = .returned (.bool true) ∧ Below w.heap.size w w' := by
  obtain ⟨a, c, rfl, hc0, hc1⟩ := Sl.form hQ.1
  have HL := hid hL
  have HAL := hid (calive_any w hL)
  obtain ⟨n, hn⟩ : ∃ n, qs.length = n := ⟨_, rfl⟩
  have HN := hid hn
  have HQ := hid hQ
  rw [hn] at hc0 HQ ⊢
  clear hQ hL hn
  go_enter Tryd.func3, Tryd.ntmps3
  go_wp2_with fail
  refine HAL.out.mono ?_
  rintro e w1 ⟨rfl, b1⟩
  have B1 := hid b1
  clear b1 HAL
  go_wp2_with fail
  refine (kgreat_any _ qs w1 (HQ.out.below B1.out)).mono ?_
  rintro e w2 ⟨⟨g, rfl, hgr⟩, b2⟩
  have B2 := hid (bt B1.out b2)
  have HG := hid hgr
  clear b2 hgr
  cases g
  case true =>
    go_wp2
    go_ret
    exact ⟨rfl, B2.out⟩
  case false =>
  have HG2 : Hid (qs.length ≤ 150 ∧ ∀ q ∈ qs, q.2.1.fine ∧ q.2.1.cuts.length ≤ 40) := hid (HG.out rfl)
  have hn150 : n ≤ 150 := by have := HG2.out.1; rw [HN.out] at this; exact this
  clear HG
  go_wp2_with fail
  refine (cnew_any w2 (lay_two (HL.out.below B2.out))).mono ?_
  rintro e w3 ⟨bb, mb, rfl, hu1, hlo, hb1⟩
  have hb3 := bt B2.out hb1
  have hlo3 : w.heap.size ≤ bb ∧ w.heap.size ≤ mb := by have := B2.out.size; omega
  have HU3 := hid hu1
  have HLO := hid hlo3
  have B3 := hid hb3
  clear hu1 hlo hb1 hb3 hlo3
  obtain ⟨rb, hrb⟩ : ∃ rb, w3.heap.size = rb := ⟨_, rfl⟩
  have HRB := hid hrb
  clear hrb
  go_wp2_with fail
  obtain ⟨x4, hx4⟩ : ∃ x4, w3.alloc (.cells #[.slice none 0 0] 30) = x4 := ⟨_, rfl⟩
  rw [hx4, HRB.out]
  have HX4 := hid hx4
  refine (new_any x4).mono ?_
  rintro e w5 ⟨rfl, hv5, hb5⟩
  obtain ⟨vb, hvb⟩ : ∃ vb, x4.heap.size = vb := ⟨_, rfl⟩
  have HVB := hid hvb
  rw [hvb] at hv5 ⊢
  have HV5 := hid hv5
  have B5 := hid hb5
  clear hx4 hvb hv5 hb5
  go_wp2_with (first | (refine wpList_box_xv rfl (.tmp 21) rfl Go.Proofs.YtaojeanoojnknaaDoor.v0 v0_ok rfl ?_; intro w6 hv6 hb6; have HV6 := hid hv6; have B6 := hid hb6; clear hv6 hb6) | fail)
  obtain ⟨xm, hxm⟩ : ∃ xm, w5.heap.size = xm := ⟨_, rfl⟩
  have hks := ks_new HL.out HU3.out HLO.out B3.out HX4.out HV5.out B5.out (hxm ▸ HV6.out) B6.out HRB.out HVB.out hxm
  obtain ⟨N, hN⟩ : ∃ N, w6.heap.size = N := ⟨_, rfl⟩
  rw [hN] at hks
  rw [hxm]
  have HKS := hid hks
  clear hks hN hxm HV6 B6 HV5 B5 HX4 HVB HRB HU3 HLO B3
  go_loopw [7, 8, 9, 10, 11, 12] (fun i _ _ _ _ _ wr => ∃ (k : Nat) (V : List Int) (l : List Opn), i = .int .i64 k ∧ k ≤ n ∧ l.length ≤ k ∧ Ks w N bb mb vb rb xm wr V l V l) (fun i _ _ _ _ _ _ => n - (intOf i).toNat)
  case atStart => exact ⟨0, v0, [], rfl, Nat.zero_le _, Nat.le_refl _, HKS.out⟩
  case round =>
    obtain ⟨k, V, l, rfl, hk, hll, hks⟩ := hrel
    have HK0 := hid hks
    have HLL := hid hll
    clear hll hks HKS
    by_cases hlt : k < n
    case neg =>
      obtain rfl : k = n := by omega
      have hnl : ¬ (k : Int) < (k : Int) := by omega
      go_wp2
      go_ret
      exact ⟨rfl, HK0.out.sx.bw⟩
    case pos =>
      have hlt' : (k : Int) < (n : Int) := by omega
      have hx : k < qs.length := by rw [HN.out]; exact hlt
      obtain ⟨g, off, c', e1, hbb, hcc⟩ := HQ.out.inv (by omega)
      rw [HN.out] at e1
      simp only [Value.slice.injEq] at e1
      obtain ⟨rfl, -, rfl⟩ := e1
      obtain ⟨hc0', hc⟩ := hcc k hx
      obtain ⟨⟨what, o, u⟩, hp⟩ : ∃ p, qs[k] = p := ⟨_, rfl⟩
      have hcs := HQ.out.2 _ (List.getElem_mem hx)
      have hfin := HG2.out.2 _ (List.getElem_mem hx)
      rw [hp] at hc0' hc hcs hfin
      dsimp only at hc0' hc hcs hfin
      have HCL : Hid (∀ W, Below w.heap.size w W → ∀ j, j < 20 → W.cell? ⟨g, off + k * 21 + 1 + j, none⟩ = (opl o u)[j]?) := hid (fun W hW j hj => (hW.cell (p := ⟨g, off + k * 21 + 1 + j, none⟩) hbb).trans (hc j hj))
      have HCW : Hid (∀ W, Below w.heap.size w W → W.cell? ⟨g, off + k * 21, none⟩ = some (.int .i64 what)) := hid (fun W hW => (hW.cell (p := ⟨g, off + k * 21, none⟩) hbb).trans hc0')
      have HCU := hid hcs
      have HF := hid hfin
      clear hcc hc0' hc hp hcs hfin
      go_wp2_with (first | (refine wpList_val _ rfl (run_load_opat rfl rfl (HCL.out _ HK0.out.sx.bw)) ?_) | fail)
      refine (copyop_any _ o u rfl wr (HCU.out.below HK0.out.sx.bw) (by have := HF.out.2; omega)).mono ?_
      rintro e w7 ⟨u1, rfl, hc7, b7, hu7⟩
      obtain ⟨va, vc, hu, _⟩ := hc7.form
      have HU : Hid (∃ va n vc, u1 = .slice va n vc) := hid ⟨_, _, _, hu⟩
      have HC7 := hid hc7
      have HU7 := hid hu7
      have B7 := hid b7
      clear hc7 hu7 b7 hu
      go_upto_region 13 with (first | (refine wpList_al_op rfl rfl ?_; intro w8 ho8 hb8 hl8; have HO8 := hid ho8; have B8 := hid hb8; clear ho8 hb8 hl8) | (refine wpList_st_op rfl rfl rfl rfl HU.out HO8.out ?_; intro w9 ho9 hf9; have HO9 := hid ho9; have HF9 := hid hf9; clear ho9 hf9) | fail)
      have B9 := hid (below_fr B8.out HF9.out (Nat.le_refl _))
      have hks9 := (HK0.out.below B7.out).below B9.out
      have hkw9 : Kw w N w7.heap.size o u1 w9 := ⟨hks9.sx.bw, HO9.out, HC7.out.below B9.out, Nat.le_trans HK0.out.sx.le B7.out.size, fun j hj => Nat.le_trans HK0.out.sx.le (HU7.out j hj)⟩
      obtain ⟨p, hp⟩ : ∃ p, w7.heap.size = p := ⟨_, rfl⟩
      rw [hp] at hkw9 ⊢
      have HKS9 := hid hks9
      have HKW9 := hid hkw9
      clear hks9 hkw9 hp B7 B8 B9 HF9 HO8 HO9 HC7 HU7 HU
      refine cal_ready HKW9.out HKS9.out hlt HCL.out HCU.out HF.out.1 HF.out.2 (fun _ _ _ _ _ h => h) ?_
      intro W hkW hwW
      have HKS := hid hkW
      have HKW := hid hwW
      have zw := HCW.out _ hkW.sx.bw
      have HWL := hid hkW.sx.bu.wl
      clear hkW hwW HKS9 HKW9
      have hsw : what = 0 ∨ what = 1 ∨ what = 2 ∨ what = 3 ∨ (¬ what = 0 ∧ ¬ what = 1 ∧ ¬ what = 2 ∧ ¬ what = 3) := by omega
      rcases hsw with h0 | h1 | h2 | h3 | ⟨h4, h5, h6, h7⟩
      case' inl =>
        subst h0
        go_upto_region 17 with fail
        refine cal_offer HKW.out HKS.out hlt HCL.out HCU.out HF.out.1 HF.out.2 HWL.out (by have := HLL.out; omega) (fun _ _ _ _ _ h => h) ?_
        intro W9 hk9 _
        have hl9 := off_len HWL.out o (V := V)
        have HL9 : Hid ((offL V l o).length ≤ k + 1) := hid (by rw [hl9]; have := HLL.out; split <;> omega)
        have HK9 := hid hk9
        clear hk9 hl9
        go_upto_region 33 with fail
      case' inr.inl =>
        subst h1
        go_wp2_with fail
        refine (ctake_any W HKS.out.sx.bu HKS.out.sx.vc HKS.out.sx.lay HKS.out.sx.le (by have := HLL.out; omega)).mono ?_
        rintro e w10 ⟨q, u2, b, rfl, hc2, hf2, htk, hz, hu, hfr⟩
        obtain ⟨va, vc, hv2, _⟩ := hc2.form
        have HU2 : Hid (∃ va n vc, u2 = .slice va n vc) := hid ⟨_, _, _, hv2⟩
        have HC2 := hid hc2
        have HF2 := hid hf2
        have HT := hid htk
        have HZ := hid hz
        have HK10 := hid (HKS.out.onm hu hfr)
        clear hc2 hf2 htk hz hu hfr hv2
        go_wp2_with (first | (refine wpList_al_op rfl rfl ?_; intro w11 ho11 hb11 hl11; have HO11 := hid ho11; have B11 := hid hb11; clear ho11 hb11 hl11) | (refine wpList_st_op rfl rfl rfl rfl HU2.out HO11.out ?_; intro w12 ho12 hf12; have HO12 := hid ho12; have HF12 := hid hf12; clear ho12 hf12) | fail)
        have B12 := hid (below_fr B11.out HF12.out (Nat.le_refl _))
        have hk12 := HK10.out.below B12.out
        have hw12 : Kw w N w10.heap.size q u2 w12 := ⟨hk12.sx.bw, HO12.out, HC2.out.below B12.out, HK10.out.sx.le, HF2.out⟩
        obtain ⟨p9, hp9⟩ : ∃ p9, w10.heap.size = p9 := ⟨_, rfl⟩
        rw [hp9] at hw12 ⊢
        have HK12 := hid hk12
        have HW12 := hid hw12
        clear hk12 hw12 hp9 B12 HF12 HO12 HO11 B11 HC2
        obtain ⟨v8, m8, hm8, hx8⟩ := HK12.out.xr
        have hml := congrArg List.length hm8
        unfold fsts at hml
        rw [List.length_map] at hml
        refine (xtake_any w12 hx8 HK12.out.xv (fun e => HK12.out.ne.2.2.2.2.2.2 e.symm) (by have := HLL.out; omega) (by rw [hm8]; exact HWL.out.2)).mono ?_
        rintro e w13 ⟨q2, u3, b2, rfl, hc3, hf3, htk3, hz3, hx13, hfr3⟩
        rw [hm8] at htk3 hx13
        have hbq : b2 = b ∧ q2 = q := by
          have h := HT.out.symm.trans htk3
          cases b <;> cases b2
          · exact ⟨rfl, by rw [(hz3 rfl).1, (HZ.out rfl).1]⟩
          · simp at h
          · simp at h
          · simp at h
            exact ⟨rfl, h.symm⟩
        obtain ⟨rfl, rfl⟩ := hbq
        obtain ⟨va3, vc3, hv3, _⟩ := hc3.form
        have HU3 : Hid (∃ va n vc, u3 = .slice va n vc) := hid ⟨_, _, _, hv3⟩
        have HC3 := hid hc3
        have HF3 := hid hf3
        have HK13 := hid (HK12.out.onr hx13 hfr3)
        have HW13 := hid (HW12.out.fr hfr3 ⟨HK12.out.lt.1, HK12.out.lt.2.2.1⟩)
        clear hm8 hx8 hml hc3 hf3 htk3 hz3 hx13 hfr3 hv3 HK12 HW12 HZ
        go_upto_region 22 with (first | (refine wpList_al_op rfl rfl ?_; intro w14 ho14 hb14 hl14; have HO14 := hid ho14; have B14 := hid hb14; clear ho14 hb14 hl14) | (refine wpList_st_op rfl rfl rfl rfl HU3.out HO14.out ?_; intro w15 ho15 hf15; have HO15 := hid ho15; have HF15 := hid hf15; clear ho15 hf15) | fail)
        have B15 := hid (below_fr B14.out HF15.out (Nat.le_refl _))
        have hk15 := HK13.out.below B15.out
        have hw15 : Kw w N w13.heap.size q2 u3 w15 := ⟨hk15.sx.bw, HO15.out, HC3.out.below B15.out, HK13.out.sx.le, HF3.out⟩
        have hv15 := HW13.out.below B15.out
        obtain ⟨p11, hp11⟩ : ∃ p11, w13.heap.size = p11 := ⟨_, rfl⟩
        rw [hp11] at hw15 ⊢
        have HK15 := hid hk15
        have HW15 := hid hw15
        have HV15 := hid hv15
        clear hk15 hw15 hv15 hp11 B15 HF15 HO15 HO14 B14 HC3 HW13 HK13
        have HSO := hid (sameop_any q2 q2 u2 u3 w15 HV15.out.cs HW15.out.cs)
        cases b2
        case' false =>
          go_wp2_with (first | (refine wpList_load_opg rfl _ rfl p9 rfl q2 u2 HV15.out.ob ?_) | (refine wpList_load_opg rfl _ rfl p11 rfl q2 u3 HW15.out.ob ?_) | fail)
          refine HSO.out.mono ?_
          rintro e w17 ⟨x, rfl, hx17, b17⟩
          obtain rfl : x = true := by simpa using hx17
          have HK9 := hid (HK15.out.below b17)
          have HL9 : Hid ((takL V l).length ≤ k + 1) := hid (Nat.le_trans (List.Sublist.length_le (List.eraseP_sublist)) (Nat.le_succ_of_le HLL.out))
          clear hx17 b17 HSO
          go_upto_region 33 with fail
        case' true =>
          go_wp2_with (first | (refine wpList_load_opg rfl _ rfl p9 rfl q2 u2 HV15.out.ob ?_) | (refine wpList_load_opg rfl _ rfl p11 rfl q2 u3 HW15.out.ob ?_) | fail)
          refine HSO.out.mono ?_
          rintro e w17 ⟨x, rfl, hx17, b17⟩
          obtain rfl : x = true := by simpa using hx17
          have HK17 := hid (HK15.out.below b17)
          have HV17 := hid (HV15.out.below b17)
          have HW17 := hid (HW15.out.below b17)
          have HL9 : Hid ((takL V l).length ≤ k + 1) := hid (Nat.le_trans (List.Sublist.length_le (List.eraseP_sublist)) (Nat.le_succ_of_le HLL.out))
          clear hx17 b17 HSO
          go_wp2_with (first | (refine wpList_ld_id rfl rfl rfl HV17.out.ob ?_) | fail)
          refine (add_any vb V q2.ir q2.im w17 HK17.out.sx.vc).mono ?_
          rintro e w18 ⟨rfl, hv18, hf18⟩
          have HK18 := hid (HK17.out.onv hv18 hf18)
          have HW18 := hid (HW17.out.fr hf18 ⟨HK17.out.sx.ne.2.2.1, HK17.out.sx.lo.2.2⟩)
          clear hv18 hf18
          go_wp2_with (first | (refine wpList_ld_id rfl rfl rfl HW18.out.ob ?_) | fail)
          refine (xadd_any xm V q2.ir q2.im w18 HK18.out.xv).mono ?_
          rintro e w19 ⟨rfl, hv19, hf19⟩
          have HK9 := hid (HK18.out.onx hv19 hf19)
          clear hv19 hf19
          go_upto_region 33 with fail
      case' inr.inr.inl =>
        subst h2
        have HDP := hid (cdrop_any W HKS.out.sx.bu HKS.out.sx.vc HKS.out.sx.ne.1 HKS.out.sx.le (by have := HLL.out; omega))
        go_wp2_with fail
        refine HDP.out.mono ?_
        rintro e W8 ⟨rfl, hu8, hf8⟩
        have HK8 := hid (HKS.out.onm hu8 hf8)
        clear HDP hu8 hf8
        obtain ⟨v8, m8, hm8, hx8⟩ := HK8.out.xr
        have he8 := congrArg List.length hm8
        unfold fsts at he8
        rw [List.length_map] at he8
        have HDD := hid (xdrop_any W8 hx8 HK8.out.xv (fun e => HK8.out.ne.2.2.2.2.2.2 e.symm) (by have := HLL.out; omega))
        rw [hm8, he8] at HDD
        obtain ⟨z, hz⟩ : ∃ z, (l.length : Int) - ((drpL V l).length : Int) = z := ⟨_, rfl⟩
        rw [hz] at HDD ⊢
        clear hm8 hx8 he8 hz
        go_wp2_with fail
        refine HDD.out.mono ?_
        rintro e W9 ⟨rfl, v9, m9, hm9, hx9, hf9⟩
        have HK9 := hid (HK8.out.onr ⟨v9, m9, hm9, hx9⟩ hf9)
        have HL9 : Hid ((drpL V l).length ≤ k + 1) := hid (Nat.le_trans (List.length_filter_le _ _) (Nat.le_succ_of_le HLL.out))
        clear hm9 hx9 hf9 HDD
        go_upto_region 33 with fail
      case' inr.inr.inr.inl =>
        subst h3
        go_upto_region 31 with fail
        refine cal_add HKW.out HKS.out (fun _ _ _ _ _ h => h) ?_
        intro W9 hk9 _
        have HL9 : Hid (l.length ≤ k + 1) := hid (Nat.le_succ_of_le HLL.out)
        have HK9 := hid hk9
        clear hk9
        go_upto_region 33 with fail
      case' inr.inr.inr.inr =>
        have HL9 : Hid (l.length ≤ k + 1) := hid (Nat.le_succ_of_le HLL.out)
        have HK9 := HKS
        go_upto_region 33 with fail
      all_goals
        obtain ⟨v9, m9, hm9, hx9⟩ := HK9.out.xr
        obtain ⟨A9, c9, hv9, _, _⟩ := Sl.form hx9.os.1
        have he9 := congrArg List.length hm9
        unfold fsts at he9
        rw [List.length_map] at he9
        obtain ⟨n9, hn9⟩ : ∃ n9, m9.length = n9 := ⟨_, rfl⟩
        rw [hn9] at hv9
        subst hv9
        refine cal_ids (A := A9) (c := c9) (m := m9) ⟨HK9.out.sx.bu, hx9⟩ (by rw [← he9]; exact hn9) hn9 (by have := HL9.out; omega) hm9 (fun _ _ _ _ _ h => h) ?_
        intro y1 y2 W10 hW10
        have HK10 := hid (HK9.out.below hW10)
        clear hm9 hx9 he9 hn9 hW10
        go_wp2_with fail
        go_roundw
        case rel => exact ⟨k + 1, _, _, by go_num, hlt, HL9.out, HK10.out⟩
        case measure => simp [intOf]; omega

end Go.Proofs.YtaojeanoojnknaaDoor
