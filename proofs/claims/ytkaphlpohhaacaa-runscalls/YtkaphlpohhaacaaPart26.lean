/-
  RunsCalls returns true for every row of calls, every place and every character: its walk. Printed by genuclw.py.
-/
import Derived.Test.YtkaphlpohhaacaaPart25
namespace Go.Proofs.Ytkaphlpohhaacaa
open Go.RowKit
set_option linter.unusedVariables false
set_option linter.unusedSimpArgs false
set_option maxRecDepth 100000

section
variable {o : Oper} {a : Act} {W : World} {x y : Operand} {ops : Array Oper} {rest : List Oper} {Q : Exit → Act → World → Prop}
theorem builtX : Try.prog.built 34 [] = some #[.slice none 0 0] := by kernel_rfl
theorem wl_zeroX (hgd : o.guard = none) (ho : o.op = .build 34 #[]) (hk : wpList Try.prog ops Q rest (a.put o.dst (.agg #[.slice none 0 0])) W) : wpList Try.prog ops Q (o :: rest) a W := by
  refine wpList_build hgd 34 #[] ho ?_ ?_
  · simp [builtX]
  · simp only [List.map_toArray, List.map_nil, builtX]; exact hk
theorem runU_chr {b : Nat} {r n i : Int} (ho : o.op = .load 26 x) (hx : a.eval x = .pointer (some ⟨b, 0, none⟩)) (h : Hb W b r n i) : (execOp a.eval o).run Try.prog W = .ok (.value (chu r n i)) W := by
  have h0 : W.cell? ⟨b, 0, none⟩ = some (.int .i64 r) := cell_of_row W b 0 _ _ _ h
  have h1 : W.cell? ⟨b, 1, none⟩ = some (.int .i64 n) := cell_of_row W b 1 _ _ _ h
  have h2 : W.cell? ⟨b, 2, none⟩ = some (.int .i64 i) := cell_of_row W b 2 _ _ _ h
  unfold execOp
  simp only [ho, hx]
  simp [go_sem, h0, h1, h2]
theorem runU_eqs {s : ByteArray} (ho : o.op = .binOp .eql 9 x y 9) (hx : a.eval x = .string s) (hy : a.eval y = .string s) : (execOp a.eval o).run Try.prog W = .ok (.value (.bool true)) W := by
  unfold execOp
  simp only [ho, hx, hy]
  simp [go_sem]
end
theorem lr_look {N r : Nat} {T : List Un} {w w1 : World} (h : Lr N r T w w1) (hl : T.length ≤ 20000) (cr cn ci : Int) :
    Calls Try.prog 15 #[.pointer (some ⟨r, 0, none⟩), chu cr cn ci] w1 fun e w' => e = .returned (.tuple #[.int .i64 (posX (idxU (isC cr cn ci) T)), .bool (decide (0 ≤ idxU (isC cr cn ci) T))]) ∧ Below w1.heap.size w1 w' := by
  rcases Int.lt_or_le (idxU (isC cr cn ci) T) 0 with hz | hz
  · rw [show posX (idxU (isC cr cn ci) T) = 0 by unfold posX; rw [if_pos hz], decide_eq_false (by omega)]
    exact lr_look_no h hl cr cn ci hz
  · rw [show posX (idxU (isC cr cn ci) T) = idxU (isC cr cn ci) T by unfold posX; rw [if_neg (by omega)], decide_eq_true hz]
    exact lr_look_yes h hl cr cn ci _ rfl hz

set_option maxHeartbeats 16000000 in
theorem ucalls_walk (A : Value) (qs : List Zq) (at' cr cn ci : Int) (w : World) (h : Zc w A qs) :
    Calls Try.prog 3 #[A, .int .i64 at', chu cr cn ci] w fun e w' => e = .returned (.bool true) ∧ Below w.heap.size w w' := by
  obtain ⟨a, c, rfl, hc0, hc1⟩ := Sl.form h
  obtain ⟨n, hn⟩ : ∃ n, qs.length = n := ⟨_, rfl⟩
  have HQ := hid h
  have HN := hid hn
  rw [hn] at hc0 HQ
  unfold maxLen at hc1
  clear h
  rw [hn]
  clear hn
  go_enter Try.func3, Try.ntmps3
  go_wp2_with (first | (refine wl_boxH (r := cr) (n := cn) (i := ci) rfl rfl rfl ?_; intro W0 kb e0 hkb hb0; have HKB := hid hkb; have HB0 := hid hb0; have HAL := hid (ualive_any W0); clear e0 hkb hb0) | fail)
  refine HAL.out.mono ?_
  rintro e w1 ⟨rfl, b1⟩
  have B1 := hid (bt HB0.out b1)
  have HK1 := hid (HKB.out.below b1)
  have HGR := hid (ugreat_any _ qs w1 (HQ.out.below B1.out))
  rw [HN.out] at HGR
  clear b1 HAL
  go_wp2_with fail
  refine HGR.out.mono ?_
  rintro e w2 ⟨⟨g, rfl, hg⟩, rfl⟩
  clear HGR
  cases g
  · have HQL : Hid (qs.length ≤ 100) := hid (by rw [HN.out]; exact hg rfl)
    have hn100 : n ≤ 100 := hg rfl
    have HNW := hid (new_any w1)
    obtain ⟨N, hN⟩ : ∃ N, w1.heap.size = N := ⟨_, rfl⟩
    have HNN := hid hN
    rw [hN] at HNW
    clear hg hN
    go_wp2_with fail
    refine HNW.out.mono ?_
    rintro e W3 ⟨rfl, h3, hb3⟩
    have HR3 := hid h3
    have HB3 := hid hb3
    have HBW : Hid (Below w.heap.size w w1) := B1
    have HBS : Hid (N = w1.heap.size) := hid HNN.out.symm
    clear h3 hb3 HNW
    go_wp2_with (first
      | (refine wl_zeroX rfl rfl ?_)
      | (refine wl_boxX rfl rfl rfl ?_; intro W4 rr e4 hx4 hb4; have HX4 := hid hx4; have HB4 := hid hb4; have HE4 := hid e4; clear e4 hx4 hb4)
      | fail)
    have HBO4 : Hid (Bo N N rr [] [] w1 W4) := hid ⟨_, [], _, HR3.out.below HB4.out, Good.nil, rfl, ⟨HX4.out, Ur.nil _ _ _, (fun e => by cases e), Nat.le_trans HR3.out.le HB4.out.size, by rw [HE4.out]; exact HR3.out.le⟩, (fun k h1 h2 => by
      have := HR3.out.b.lt
      have := HE4.out
      rcases h1 with h1 | h1
      · rcases h2 with h2 | h2
        · omega
        · cases h2
      · cases h1), HB3.out.trans (HB4.out.mono HR3.out.le)⟩
    clear HR3 HB3 HX4 HB4 HE4
    go_loopw [9] (fun i wr => ∃ k : Nat, k ≤ n ∧ i = .int .i64 k ∧ Bo N N rr (callsC (qs.take k)) (callsC (qs.take k)) w1 wr) (fun i _ => n - (intOf i).toNat)
    case atStart => exact ⟨0, Nat.zero_le _, rfl, HBO4.out⟩
    case round =>
      obtain ⟨k, hk, rfl, hl⟩ := hrel
      have HL := hid hl
      clear hl HBO4
      by_cases hlt : k < n
      · skip
        have hlt' : (k : Int) < (n : Int) := by omega
        have hx : k < qs.length := by rw [HN.out]; exact hlt
        obtain ⟨b, off, c', e1, hbb, hcc⟩ := HQ.out.inv (by rw [HN.out]; omega)
        rw [HN.out] at e1
        simp only [Value.slice.injEq] at e1
        obtain ⟨rfl, -, rfl⟩ := e1
        obtain ⟨q, hq⟩ : ∃ q, qs[k] = q := ⟨_, rfl⟩
        have hzk := hcc k hx
        rw [hq] at hzk
        obtain ⟨T, hT⟩ : ∃ T, callsC (qs.take k) = T := ⟨_, rfl⟩
        rw [hT] at HL
        have hlen := callsC_len HQL.out k (by omega)
        rw [hT] at hlen
        have hnx := callsC_take hx
        have hlen2 := callsC_len HQL.out (k + 1) (by omega)
        rw [hT, hq] at hnx
        rw [hnx] at hlen2
        have hbN : b < N := by have := HBW.out.size; have := HBS.out; omega
        have HZ : Hid (Zk wr b (off + k * 19) q) := hid ((hzk.below HBW.out).kept (HL.out.old.block b hbN))
        have HNX := hid hnx
        have HLN : Hid (T.length ≤ 20000) := hid (by have := HQL.out; omega)
        have HLN2 : Hid ((callC T q).length ≤ 20000) := hid (by have := HQL.out; omega)
        clear hcc hq hzk hT hlen hnx hbb hx hbN hlen2
        go_upto_region 11 with (first
          | (refine wl_ldC rfl rfl rfl HZ.out ?_)
          | (refine wl_alC rfl rfl ?_; intro W5 cb e5 hz5 hb5; have HZ5 := hid hz5; have HB5 := hid hb5; have HE5 := hid (by omega : wr.heap.size ≤ cb); clear e5 hz5 hb5)
          | (refine wl_stC rfl rfl rfl rfl HZ5.out ?_; intro W6 hz6 hf6; have HBC : Hid (Bc N N rr cb q T T w1 W6) := hid (HL.out.bc (below_fr HB5.out hf6 HE5.out) HE5.out hz6); clear hz6 hf6))
        have z0 : W6.cell? ⟨cb, 0, none⟩ = some (.int .i64 q.w) := HBC.out.zb.zk.c0
        clear HZ HL HZ5 HB5 HE5
        by_cases hw0 : q.w = 0
        · rw [hw0] at z0
          have HCQ : Hid (callC T q = putC T q.p q.x) := hid (by unfold callC; rw [if_pos hw0])
          rw [HCQ.out] at HLN2
          clear hw0
          go_upto_region 12 with fail
          refine both_put HBC.out HLN.out HLN2.out (fun _ _ _ _ _ h => h) ?_
          rw [← HCQ.out]
          intro W7 hbc7
          have HB7 := hid hbc7.bo
          obtain ⟨TT, hTT⟩ : ∃ TT, callC T q = TT := ⟨_, rfl⟩
          rw [← HCQ.out] at HLN2
          rw [hTT] at HB7 HLN2 HNX
          clear hbc7 HBC z0 HCQ hTT
          obtain ⟨u, hxl⟩ := HB7.out.xl
          obtain ⟨M, hM⟩ : ∃ M, TT.length = M := ⟨_, rfl⟩
          obtain ⟨su, cu, rfl, _, _⟩ := hxl.u.us.form
          have hxb := hxl.b
          rw [hM] at hxb
          have HXB := hid hxb
          have HM := hid hM
          clear hxl hxb hM
          go_upto_region 16 with fail
          refine both_len HB7.out.lr HXB.out HM.out HLN2.out (fun _ _ _ _ _ h => h) ?_
          intro W8 hb8
          have HB8 : Hid (Bo N N rr (callsC (qs.take (k + 1))) (callsC (qs.take (k + 1))) w1 W8) := hid (by rw [HNX.out]; exact HB7.out.below hb8)
          clear hb8 HB7
          go_wp2_with fail
          go_roundw
          case rel => exact ⟨k + 1, hlt, by go_num, HB8.out⟩
          case measure => simp [intOf]; omega
        · have hw1 : (q.w == 0) = false := by simpa using hw0
          have HCQ : Hid (callC T q = T.map (cutC q.r q.n q.f q.t)) := hid (by unfold callC; rw [if_neg hw0])
          rw [HCQ.out] at HLN2
          clear hw0
          go_upto_region 14 with fail
          refine both_cut HBC.out HLN.out HLN2.out (fun _ _ _ _ _ h => h) ?_
          rw [← HCQ.out]
          intro W7 hbc7
          have HB7 := hid hbc7.bo
          obtain ⟨TT, hTT⟩ : ∃ TT, callC T q = TT := ⟨_, rfl⟩
          rw [← HCQ.out] at HLN2
          rw [hTT] at HB7 HLN2 HNX
          clear hbc7 HBC z0 HCQ hTT
          obtain ⟨u, hxl⟩ := HB7.out.xl
          obtain ⟨M, hM⟩ : ∃ M, TT.length = M := ⟨_, rfl⟩
          obtain ⟨su, cu, rfl, _, _⟩ := hxl.u.us.form
          have hxb := hxl.b
          rw [hM] at hxb
          have HXB := hid hxb
          have HM := hid hM
          clear hxl hxb hM
          go_upto_region 16 with fail
          refine both_len HB7.out.lr HXB.out HM.out HLN2.out (fun _ _ _ _ _ h => h) ?_
          intro W8 hb8
          have HB8 : Hid (Bo N N rr (callsC (qs.take (k + 1))) (callsC (qs.take (k + 1))) w1 W8) := hid (by rw [HNX.out]; exact HB7.out.below hb8)
          clear hb8 HB7
          go_wp2_with fail
          go_roundw
          case rel => exact ⟨k + 1, hlt, by go_num, HB8.out⟩
          case measure => simp [intOf]; omega
      · obtain rfl : k = n := by omega
        have hnl : ¬ (k : Int) < (k : Int) := by omega
        have e : qs.take k = qs := List.take_of_length_le (by rw [HN.out]; exact Nat.le_refl _)
        rw [e] at HL
        have hlen := callsC_len HQL.out k (by rw [HN.out]; exact Nat.le_refl _)
        rw [e] at hlen
        obtain ⟨T, hT⟩ : ∃ T, callsC qs = T := ⟨_, rfl⟩
        rw [hT] at HL hlen
        have HLN : Hid (T.length ≤ 20000) := hid (by omega)
        clear e hlen hT
        obtain ⟨WB, rfl⟩ : ∃ W, W = wr := ⟨_, rfl⟩
        obtain ⟨M, hM⟩ : ∃ M, T.length = M := ⟨_, rfl⟩
        have HM := hid hM
        have hM2 : M ≤ 20000 := by have := HLN.out; omega
        have hG := lr_good HL.out.lr
        have hGF : Fis T ∧ ∀ y ∈ T, y.l = 1 := by
          obtain ⟨h1, h2⟩ := hG
          rw [← h2]
          exact ⟨Fis.flat h1.fis, flat_one_l⟩
        have HFI := hid hGF.1
        have HL1 := hid hGF.2
        have hJL := good_len hG.1
        rw [hG.2] at hJL
        have HJL : Hid ((J T).length ≤ 100000) := hid (by omega)
        obtain ⟨S, hS⟩ : ∃ S, textU (J T) = S := ⟨_, rfl⟩
        have HS := hid hS
        have HST : Hid (textU T = S) := hid (by
          have := textU_flat hG.1.fis
          rw [hG.2] at this
          rw [this]
          exact hS)
        have HSL : Hid (liveU (J T) = (S.size : Int)) := hid (by
          rw [← hS, textU_len]
          exact (textL_size hG.1.fis).symm)
        have HKW : ∀ W : World, Below WB.heap.size WB W → Hb W kb cr cn ci := fun W hb => (by
          have h5 := (HL.out.below hb).old
          rw [HBS.out] at h5
          exact HK1.out.below h5)
        have HPW : ∀ W : World, Below WB.heap.size WB W → Lr N N T w1 W := fun W hb => (HL.out.below hb).lr
        have HFP := hid (lr_look HL.out.lr HLN.out cr cn ci)
        have HFX : ∀ W : World, Below WB.heap.size WB W → ∃ u, Xl N W rr u T := fun W hb => (HL.out.below hb).xl
        have HFY : ∀ W : World, Below WB.heap.size WB W → Calls Try.prog 16 #[.pointer (some ⟨rr, 0, none⟩), chu cr cn ci] W fun e w' => e = .returned (.tuple #[.int .i64 (posX (idxU (isC cr cn ci) T)), .bool (decide (0 ≤ idxU (isC cr cn ci) T))]) ∧ Below W.heap.size W w' := fun W hb => by
          obtain ⟨u, hu⟩ := HFX W hb
          exact xfind_any N rr u T cr cn ci _ hu (by have := HLN.out; omega)
        obtain ⟨zp, hzp⟩ : ∃ z, posX (idxU (isC cr cn ci) T) = z := ⟨_, rfl⟩
        obtain ⟨zd, hzd⟩ : ∃ z, decide (0 ≤ idxU (isC cr cn ci) T) = z := ⟨_, rfl⟩
        rw [hzp, hzd] at HFP
        have HZP := hid hzp
        have HZD := hid hzd
        have HKB0 := hid (HKW _ (Below.refl _ _))
        have HKWH := hid HKW
        have HPWH := hid HPW
        have HFXH := hid HFX
        have HFYH := hid HFY
        clear hM hG hGF hJL hS hzp hzd HKW HPW HFX HFY
        go_wp2_with (first | (refine wl_val3 (runU_chr rfl rfl HKB0.out) rfl ?_) | fail)
        refine HFP.out.mono ?_
        rintro e W5 ⟨rfl, b5⟩
        have HW5 := hid b5
        have HKB5 := hid (HKWH.out _ HW5.out)
        have HFY5 := hid (HFYH.out _ HW5.out)
        rw [HZP.out, HZD.out] at HFY5
        clear b5 HFP HKB0
        go_wp2_with (first | (refine wl_val3 (runU_chr rfl rfl HKB5.out) rfl ?_) | fail)
        refine HFY5.out.mono ?_
        rintro e W6 ⟨rfl, b6⟩
        have HW6 := hid (bt HW5.out b6)
        clear b6 HFY5 HKB5
        by_cases hin : 0 ≤ at' ∧ at' < (M : Int)
        · obtain ⟨i, rfl⟩ : ∃ i : Nat, at' = (i : Int) := ⟨at'.toNat, by omega⟩
          have hi0 : (0 : Int) ≤ (i : Int) := by omega
          have hi1 : (i : Int) < (M : Int) := hin.2
          have hiM : i < M := by omega
          have hiT : i < T.length := by rw [HM.out]; exact hiM
          have HAT := hid (lr_at_yes (HPWH.out _ HW6.out) HLN.out i hiT)
          obtain ⟨u, hxl⟩ := HFXH.out _ HW6.out
          obtain ⟨bb, off, cu, e1, _, _, _, hcc⟩ := hxl.u.us.inv (by omega)
          subst e1
          have hC := hcc i hiT
          obtain ⟨x, hx⟩ : ∃ x, T[i] = x := ⟨_, rfl⟩
          rw [hx] at HAT hC
          have HC := hid hC
          have hxb := hxl.b
          rw [HM.out] at hxb
          have HXB := hid hxb
          clear hin hxl hcc hx hC hxb
          go_wp2_with fail
          refine HAT.out.mono ?_
          rintro e W7 ⟨rfl, b7⟩
          have HW7 := hid (bt HW6.out b7)
          have HD7 := hid b7
          clear b7 HAT
          go_upto_region 22 with (first
            | (have _g := HV9.out; refine wl_stI rfl rfl rfl rfl HA10.out ?_; intro W10 hu10 hf10; have HV10 := hid hu10; have HW10 := hid (below_fr HWA10.out hf10 HG10.out); have HD10 := hid (below_fr HDA10.out hf10 HGD10.out); have HV9 := hid (HVA9.out.fr hf10 HNE.out); clear hu10 hf10)
            | (have _g := HV9.out; refine wl_alI rfl rfl ?_; intro WA10 b17 e17 ha10 hb10; have HA10 := hid ha10; have HWA10 := hid (bt HW9.out hb10); have HDA10 := hid (bt HD9.out hb10); have HG10 := hid (by have := HW9.out.size; omega : WB.heap.size ≤ b17); have HGD10 := hid (by have := HD9.out.size; omega : W6.heap.size ≤ b17); have HVA9 := hid (HV9.out.below hb10); have HNE := hid (by have := HV9.out.lt; omega : ¬ b15 = b17); clear e17 ha10 hb10)
            | (refine wl_zeroI rfl rfl ?_)
            | (refine wl_stI rfl rfl rfl rfl HA8.out ?_; intro W9 hu9 hf9; have HV9 := hid hu9; have HW9 := hid (below_fr HWA8.out hf9 HG8.out); have HD9 := hid (below_fr HDA8.out hf9 HGD8.out); clear hu9 hf9)
            | (refine wl_alI rfl rfl ?_; intro WA8 b15 e15 ha8 hb8; have HA8 := hid ha8; have HWA8 := hid (bt HW7.out hb8); have HDA8 := hid (bt HD7.out hb8); have HG8 := hid (by have := HW7.out.size; omega : WB.heap.size ≤ b15); have HGD8 := hid (by have := HD7.out.size; omega : W6.heap.size ≤ b15); clear e15 ha8 hb8))
          have HC10 := hid (HC.out.below HD10.out)
          have HXB10 := hid (HXB.out.below HD10.out)
          have c0 : W10.cell? ⟨rr, 0, none⟩ = some (.slice (some ⟨bb, off, none⟩) M cu) := HXB10.out.cell
          go_upto_region 25 with (first
            | (refine wl_ldI rfl rfl rfl HC10.out ?_)
            | (refine wl_stI rfl rfl rfl rfl HV10.out ?_; intro W11 hu11 hf11; have HV11 := hid hu11; have HV8 := hid (HV9.out.fr hf11 HNE.out); have HW11 := hid (below_fr HW10.out hf11 HG10.out); clear hu11 hf11))
          have HRU := hid (lr_runs (HPWH.out _ HW11.out) HLN.out)
          clear c0
          go_wp2_with (first
            | (refine wl_ldI rfl rfl rfl HV8.out.cells ?_)
            | (refine wl_ldI rfl rfl rfl HV11.out.cells ?_)
            | (refine wl_val3 (runU_eqI rfl rfl rfl) rfl ?_)
            | fail)
          refine HRU.out.mono ?_
          rintro e W12 ⟨u1, rfl, hu1, b12⟩
          have HU12 := hid hu1
          have HW12 := hid (bt HW11.out b12)
          obtain ⟨u, hxl⟩ := HFXH.out _ HW12.out
          have HXR := hid (xruns_any N rr u T W12 hxl HFI.out HL1.out (by have := HLN.out; omega))
          clear hu1 b12 hxl HRU HV8 HV11
          go_wp2_with fail
          refine HXR.out.mono ?_
          rintro e W13 ⟨u2, rfl, hu2, b13⟩
          have HW13 := hid (bt HW12.out b13)
          have HSM := hid (same_items u1 u2 (J T) W13 (HU12.out.us.below b13) hu2.us HJL.out)
          clear hu2 b13 HXR HU12
          go_wp2_with fail
          refine HSM.out.mono ?_
          rintro e W14 ⟨rfl, b14⟩
          have HW14 := hid (bt HW13.out b14)
          have HTX := hid (lr_text (HPWH.out _ HW14.out) HLN.out)
          rw [HS.out] at HTX
          clear b14 HSM
          go_wp2_with fail
          refine HTX.out.mono ?_
          rintro e W15 ⟨rfl, b15'⟩
          have HW15 := hid (bt HW14.out b15')
          obtain ⟨u, hxl⟩ := HFXH.out _ HW15.out
          have HXT := hid (xtext_any N rr u T W15 hxl HFI.out HL1.out (by have := HLN.out; omega))
          rw [HST.out] at HXT
          clear b15' hxl HTX
          go_wp2_with fail
          refine HXT.out.mono ?_
          rintro e W16 ⟨rfl, b16⟩
          have HW16 := hid (bt HW15.out b16)
          have HLV := hid (lr_live (HPWH.out _ HW16.out) HLN.out)
          rw [HSL.out] at HLV
          clear b16 HXT
          go_wp2_with (first | (refine wl_val3 (runU_eqs rfl rfl rfl) rfl ?_) | fail)
          refine HLV.out.mono ?_
          rintro e W17 ⟨rfl, b17'⟩
          have HW17 := hid (bt HW16.out b17')
          obtain ⟨u, hxl⟩ := HFXH.out _ HW17.out
          have HXT := hid (xtext_any N rr u T W17 hxl HFI.out HL1.out (by have := HLN.out; omega))
          rw [HST.out] at HXT
          clear b17' hxl HLV
          go_wp2_with fail
          refine HXT.out.mono ?_
          rintro e W18 ⟨rfl, b18⟩
          have HW18 := hid (bt HW17.out b18)
          have HFIN : Hid (Below w.heap.size w W18) := hid (by
            have h5 := (HL.out.below HW18.out).old
            rw [HBS.out] at h5
            exact bt HBW.out h5)
          clear b18 HXT
          go_wp2_with fail
          go_ret
          exact ⟨rfl, HFIN.out⟩
        · have hat : at' < 0 ∨ (T.length : Int) ≤ at' := by rw [HM.out]; omega
          have HAT := hid (lr_at_no (HPWH.out _ HW6.out) HLN.out at' hat)
          clear hat
          go_wp2_with fail
          refine HAT.out.mono ?_
          rintro e W7 ⟨rfl, b7⟩
          have HW7 := hid (bt HW6.out b7)
          have HD7 := hid b7
          clear b7 HAT
          go_upto_region 22 with (first
            | (have _g := HV9.out; refine wl_stI rfl rfl rfl rfl HA10.out ?_; intro W10 hu10 hf10; have HV10 := hid hu10; have HW10 := hid (below_fr HWA10.out hf10 HG10.out); have HD10 := hid (below_fr HDA10.out hf10 HGD10.out); have HV9 := hid (HVA9.out.fr hf10 HNE.out); clear hu10 hf10)
            | (have _g := HV9.out; refine wl_alI rfl rfl ?_; intro WA10 b17 e17 ha10 hb10; have HA10 := hid ha10; have HWA10 := hid (bt HW9.out hb10); have HDA10 := hid (bt HD9.out hb10); have HG10 := hid (by have := HW9.out.size; omega : WB.heap.size ≤ b17); have HGD10 := hid (by have := HD9.out.size; omega : W6.heap.size ≤ b17); have HVA9 := hid (HV9.out.below hb10); have HNE := hid (by have := HV9.out.lt; omega : ¬ b15 = b17); clear e17 ha10 hb10)
            | (refine wl_zeroI rfl rfl ?_)
            | (refine wl_stI rfl rfl rfl rfl HA8.out ?_; intro W9 hu9 hf9; have HV9 := hid hu9; have HW9 := hid (below_fr HWA8.out hf9 HG8.out); have HD9 := hid (below_fr HDA8.out hf9 HGD8.out); clear hu9 hf9)
            | (refine wl_alI rfl rfl ?_; intro WA8 b15 e15 ha8 hb8; have HA8 := hid ha8; have HWA8 := hid (bt HW7.out hb8); have HDA8 := hid (bt HD7.out hb8); have HG8 := hid (by have := HW7.out.size; omega : WB.heap.size ≤ b15); have HGD8 := hid (by have := HD7.out.size; omega : W6.heap.size ≤ b15); clear e15 ha8 hb8))
          have HV8 := HV9
          have HV11 := HV10
          have HW11 := HW10
          obtain ⟨u, hxl⟩ := HFXH.out _ HW10.out
          obtain ⟨su, cu, rfl, _, _⟩ := hxl.u.us.form
          rw [HM.out] at hxl
          have c0 : W10.cell? ⟨rr, 0, none⟩ = some (.slice su M cu) := hxl.b.cell
          clear hxl
          by_cases hge : 0 ≤ at'
          · have hnl2 : ¬ at' < (M : Int) := by omega
            clear hin
            go_upto_region 25 with fail
            have HRU := hid (lr_runs (HPWH.out _ HW11.out) HLN.out)
            clear c0
            go_wp2_with (first
              | (refine wl_ldI rfl rfl rfl HV8.out.cells ?_)
              | (refine wl_ldI rfl rfl rfl HV11.out.cells ?_)
              | (refine wl_val3 (runU_eqI rfl rfl rfl) rfl ?_)
              | fail)
            refine HRU.out.mono ?_
            rintro e W12 ⟨u1, rfl, hu1, b12⟩
            have HU12 := hid hu1
            have HW12 := hid (bt HW11.out b12)
            obtain ⟨u, hxl⟩ := HFXH.out _ HW12.out
            have HXR := hid (xruns_any N rr u T W12 hxl HFI.out HL1.out (by have := HLN.out; omega))
            clear hu1 b12 hxl HRU HV8 HV11
            go_wp2_with fail
            refine HXR.out.mono ?_
            rintro e W13 ⟨u2, rfl, hu2, b13⟩
            have HW13 := hid (bt HW12.out b13)
            have HSM := hid (same_items u1 u2 (J T) W13 (HU12.out.us.below b13) hu2.us HJL.out)
            clear hu2 b13 HXR HU12
            go_wp2_with fail
            refine HSM.out.mono ?_
            rintro e W14 ⟨rfl, b14⟩
            have HW14 := hid (bt HW13.out b14)
            have HTX := hid (lr_text (HPWH.out _ HW14.out) HLN.out)
            rw [HS.out] at HTX
            clear b14 HSM
            go_wp2_with fail
            refine HTX.out.mono ?_
            rintro e W15 ⟨rfl, b15'⟩
            have HW15 := hid (bt HW14.out b15')
            obtain ⟨u, hxl⟩ := HFXH.out _ HW15.out
            have HXT := hid (xtext_any N rr u T W15 hxl HFI.out HL1.out (by have := HLN.out; omega))
            rw [HST.out] at HXT
            clear b15' hxl HTX
            go_wp2_with fail
            refine HXT.out.mono ?_
            rintro e W16 ⟨rfl, b16⟩
            have HW16 := hid (bt HW15.out b16)
            have HLV := hid (lr_live (HPWH.out _ HW16.out) HLN.out)
            rw [HSL.out] at HLV
            clear b16 HXT
            go_wp2_with (first | (refine wl_val3 (runU_eqs rfl rfl rfl) rfl ?_) | fail)
            refine HLV.out.mono ?_
            rintro e W17 ⟨rfl, b17'⟩
            have HW17 := hid (bt HW16.out b17')
            obtain ⟨u, hxl⟩ := HFXH.out _ HW17.out
            have HXT := hid (xtext_any N rr u T W17 hxl HFI.out HL1.out (by have := HLN.out; omega))
            rw [HST.out] at HXT
            clear b17' hxl HLV
            go_wp2_with fail
            refine HXT.out.mono ?_
            rintro e W18 ⟨rfl, b18⟩
            have HW18 := hid (bt HW17.out b18)
            have HFIN : Hid (Below w.heap.size w W18) := hid (by
              have h5 := (HL.out.below HW18.out).old
              rw [HBS.out] at h5
              exact bt HBW.out h5)
            clear b18 HXT
            go_wp2_with fail
            go_ret
            exact ⟨rfl, HFIN.out⟩
          · clear hin
            go_upto_region 25 with fail
            have HRU := hid (lr_runs (HPWH.out _ HW11.out) HLN.out)
            clear c0
            go_wp2_with (first
              | (refine wl_ldI rfl rfl rfl HV8.out.cells ?_)
              | (refine wl_ldI rfl rfl rfl HV11.out.cells ?_)
              | (refine wl_val3 (runU_eqI rfl rfl rfl) rfl ?_)
              | fail)
            refine HRU.out.mono ?_
            rintro e W12 ⟨u1, rfl, hu1, b12⟩
            have HU12 := hid hu1
            have HW12 := hid (bt HW11.out b12)
            obtain ⟨u, hxl⟩ := HFXH.out _ HW12.out
            have HXR := hid (xruns_any N rr u T W12 hxl HFI.out HL1.out (by have := HLN.out; omega))
            clear hu1 b12 hxl HRU HV8 HV11
            go_wp2_with fail
            refine HXR.out.mono ?_
            rintro e W13 ⟨u2, rfl, hu2, b13⟩
            have HW13 := hid (bt HW12.out b13)
            have HSM := hid (same_items u1 u2 (J T) W13 (HU12.out.us.below b13) hu2.us HJL.out)
            clear hu2 b13 HXR HU12
            go_wp2_with fail
            refine HSM.out.mono ?_
            rintro e W14 ⟨rfl, b14⟩
            have HW14 := hid (bt HW13.out b14)
            have HTX := hid (lr_text (HPWH.out _ HW14.out) HLN.out)
            rw [HS.out] at HTX
            clear b14 HSM
            go_wp2_with fail
            refine HTX.out.mono ?_
            rintro e W15 ⟨rfl, b15'⟩
            have HW15 := hid (bt HW14.out b15')
            obtain ⟨u, hxl⟩ := HFXH.out _ HW15.out
            have HXT := hid (xtext_any N rr u T W15 hxl HFI.out HL1.out (by have := HLN.out; omega))
            rw [HST.out] at HXT
            clear b15' hxl HTX
            go_wp2_with fail
            refine HXT.out.mono ?_
            rintro e W16 ⟨rfl, b16⟩
            have HW16 := hid (bt HW15.out b16)
            have HLV := hid (lr_live (HPWH.out _ HW16.out) HLN.out)
            rw [HSL.out] at HLV
            clear b16 HXT
            go_wp2_with (first | (refine wl_val3 (runU_eqs rfl rfl rfl) rfl ?_) | fail)
            refine HLV.out.mono ?_
            rintro e W17 ⟨rfl, b17'⟩
            have HW17 := hid (bt HW16.out b17')
            obtain ⟨u, hxl⟩ := HFXH.out _ HW17.out
            have HXT := hid (xtext_any N rr u T W17 hxl HFI.out HL1.out (by have := HLN.out; omega))
            rw [HST.out] at HXT
            clear b17' hxl HLV
            go_wp2_with fail
            refine HXT.out.mono ?_
            rintro e W18 ⟨rfl, b18⟩
            have HW18 := hid (bt HW17.out b18)
            have HFIN : Hid (Below w.heap.size w W18) := hid (by
              have h5 := (HL.out.below HW18.out).old
              rw [HBS.out] at h5
              exact bt HBW.out h5)
            clear b18 HXT
            go_wp2_with fail
            go_ret
            exact ⟨rfl, HFIN.out⟩
  · go_wp2_with fail
    go_ret
    exact ⟨rfl, B1.out⟩

end Go.Proofs.Ytkaphlpohhaacaa
