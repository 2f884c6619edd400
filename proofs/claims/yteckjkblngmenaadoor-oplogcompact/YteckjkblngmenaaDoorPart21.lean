/-
  Parts of the proof, one behind the other; what each proves stands at its head.
-/
import Derived.Test.YteckjkblngmenaaDoorPart19
import Derived.Test.YteckjkblngmenaaDoorPart20
import Derived.Test.YteckjkblngmenaaDoorCards
import Derived.Test.YteckjkblngmenaaDoorTie
import Derived.Test.YteckjkblngmenaaDoorPart8
import Derived.Test.YteckjkblngmenaaDoorPart5
import Derived.Deep.SlicePairs
import Derived.LaidMore
import Derived.Deep.DeepWitnessRowRef
import Derived.SevenTiedAt
import Derived.Test.YteckjkblngmenaaDoorPart18

/-
  The law OplogCompact returns true for all lists of lists of ops, all ops more, and every number: a log that is written anew has the same ops, synced, takes no more room, and goes on.
-/
namespace Go.Proofs.YteckjkblngmenaaDoor
open Go.RowKit
set_option linter.unusedVariables false
set_option maxRecDepth 100000

theorem Oq.mono {S S' : Nat → Prop} {w : World} {u : Value} {q : List (Opn × Value)} (h : Oq S w u q) (hs : ∀ k, S' k → S k) : Oq S' w u q := ⟨h.os, h.far.imp id (fun f k hk e => f k hk (hs k e)), h.cu.mono hs⟩
set_option maxHeartbeats 16000000 in
theorem compact_walk (va : Value) (la : List (List (Opn × Value))) (vm : Value) (lm : List (Opn × Value)) (keep : Int) (w : World) (hA : Oss w va la) (hM : Os w vm lm) (hL : Lay w) :
    Calls Tryd.prog 4 #[va, vm, .int .i64 keep] w fun e w' => e = .returned (.bool true) ∧ Below w.heap.size w w' := by
  have HA := hid hA
  have HMO := hid hM
  have HLM := hid (fun W (hb : Below w.heap.size w W) => long_all vm lm 50 W (hM.later hb) (by decide))
  obtain ⟨ma, mc, rfl, _, _⟩ := Sl.form hM.1
  obtain ⟨MM, hMM⟩ : ∃ MM, lm.length = MM := ⟨_, rfl⟩
  have HMM := hid hMM
  rw [hMM] at HMO HLM ⊢
  obtain ⟨lmv, hlmv⟩ : ∃ b, longB lm 50 = b := ⟨_, rfl⟩
  have HLMV := hid hlmv
  rw [hlmv] at HLM
  have HL := hid hL
  have H2 := hid hL.two
  have HAL := hid (galive_any w hL)
  obtain ⟨aa, ca, rfl, _, _⟩ := hA.form
  obtain ⟨m, hm⟩ : ∃ m, la.length = m := ⟨_, rfl⟩
  have HM := hid hm
  rw [hm] at HA ⊢
  clear hA hL hm hM hMM hlmv
  by_cases hg1 : (30 : Int) < (m : Int)
  · go_enter Tryd.func4, Tryd.ntmps4
    go_wp2_with fail
    refine HAL.out.mono ?_
    rintro e w1 ⟨rfl, b1⟩
    have B1 := hid b1
    clear b1
    go_wp2
    go_ret
    exact ⟨rfl, B1.out⟩
  have hm20 : m ≤ 30 := by omega
  rcases (by cases lmv <;> simp : lmv = true ∨ lmv = false) with rfl | rfl
  · go_enter Tryd.func4, Tryd.ntmps4
    go_wp2_with fail
    refine HAL.out.mono ?_
    rintro e w1 ⟨rfl, b1⟩
    have B1 := hid b1
    clear b1
    go_wp2_with fail
    refine (HLM.out w1 B1.out).mono ?_
    rintro e w2 ⟨rfl, rfl⟩
    go_wp2
    go_ret
    exact ⟨rfl, B1.out⟩
  obtain ⟨hM50, hMfine⟩ := longB_no HLMV.out
  have HMF := hid hMfine
  have hMM50 : MM ≤ 50 := by rw [← HMM.out]; exact hM50
  clear hM50 hMfine
  go_enter Tryd.func4, Tryd.ntmps4
  go_wp2_with fail
  refine HAL.out.mono ?_
  rintro e w1 ⟨rfl, b1⟩
  have B1 := hid b1
  clear b1
  go_wp2_with fail
  refine (HLM.out w1 B1.out).mono ?_
  rintro e w1b ⟨rfl, rfl⟩
  go_wp2_with fail
  refine (new_ok 1048576 (by decide)).mono ?_
  rintro e w2 ⟨rfl, b2, v2, hf2⟩
  obtain ⟨B, hB⟩ : ∃ B, w1.heap.size = B := ⟨_, rfl⟩
  have HBB : Hid (w.heap.size ≤ B) := hid (by rw [← hB]; exact B1.out.size)
  rw [hB] at b2 hf2 ⊢
  have B2 := hid b2
  have F2 := hid hf2
  have S2 : Hid (B ≤ w2.heap.size) := hid (by have := hf2.lt; omega)
  clear b2 hf2 hB
  go_wp2_with fail
  refine (format_any F2.out (HL.out.low (B1.out.trans (B2.out.mono HBB.out)) H2.out) S2.out 7 (by decide) (by decide)).mono ?_
  rintro e w3 h3
  rcases h3 with ⟨hbad, _⟩ | ⟨_, lb, fv3, rfl, hlo3, hx3⟩
  · exact absurd hbad (by decide)
  have KP : Hid (Bp w B lb B 7 w3 fv3 (.slice none 0 0) (.slice none 0 0) [] 10 []) := hid ⟨hlo3, B1.out.trans ((B2.out.trans (hx3.below (fun k hk => by
    rcases hk with rfl | hk
    · exact F2.out.2.1
    · exact (F2.out.own.lt k hk).1) S2.out)).mono HBB.out), Nat.le_trans S2.out hx3.size, fun f hf => by cases hf⟩
  clear hlo3 hx3 F2 B2 S2 B1
  go_wp2
  go_loopw [10] (fun i wr => ∃ (k : Nat) (fv vo ve : Value) (Fs : List (List Opn)) (l : List (Opn × Value)), i = .int .i64 k ∧ k ≤ m ∧ Bp w B lb B 7 wr fv vo ve Fs 10 l) (fun i _ => m - (intOf i).toNat)
  case atStart => exact ⟨0, _, _, _, _, _, rfl, Nat.zero_le _, KP.out⟩
  case round =>
    obtain ⟨k, fv, vo, ve, Fs, l, rfl, hk, hkp⟩ := hrel
    have K0 := hid hkp
    clear hkp KP
    by_cases hlt : k < m
    · have hlt' : (k : Int) < (m : Int) := by omega
      obtain ⟨b, off, c, u, e1, hb, hc, ho⟩ := HA.out.at (i := k) (by rw [HM.out]; exact hlt)
      simp only [Value.slice.injEq] at e1
      obtain ⟨rfl, -, rfl⟩ := e1
      have hc6 : wr.cell? ⟨b, off + k, none⟩ = some u := (K0.out.bw.cell hb).trans hc
      have HO := hid ho
      obtain ⟨ua, uc, rfl, _, _⟩ := Sl.form ho.1
      obtain ⟨qq, hqq⟩ : ∃ qq, la[k]'(by rw [HM.out]; exact hlt) = qq := ⟨_, rfl⟩
      rw [hqq] at HO hc6
      clear hc ho
      obtain ⟨N, hN⟩ : ∃ N, qq.length = N := ⟨_, rfl⟩
      rw [hN] at HO hc6
      have HN := hid hN
      clear hN hqq
      have HLG := hid (long_all (.slice ua N uc) qq 50 wr (HO.out.later K0.out.bw) (by decide))
      obtain ⟨lbv, hlb⟩ : ∃ b, longB qq 50 = b := ⟨_, rfl⟩
      rw [hlb] at HLG
      have HLB := hid hlb
      clear hlb
      go_wp2_with fail
      refine HLG.out.mono ?_
      rintro e w7 ⟨rfl, rfl⟩
      cases lbv with
      | true =>
        go_wp2
        go_ret
        exact ⟨rfl, K0.out.bw⟩
      | false =>
        obtain ⟨hN50, hfine⟩ := longB_no HLB.out
        have HAP := hid (lappend_any K0.out.lo (HL.out.low K0.out.bw H2.out) K0.out.hB (Oq.old K0.out.lo.lg HBB.out HO.out K0.out.bw) (fun p hp => ⟨(hfine p hp).1, by have := (hfine p hp).2; omega⟩) (by omega))
        have HQ50 : Hid ((fsts qq).length ≤ 50) := hid (by unfold fsts; rw [List.length_map]; exact hN50)
        have hk' : k + 1 ≤ m := hlt
        clear hN50 hfine HLG
        go_wp2_with fail
        refine HAP.out.mono ?_
        rintro e w8 ⟨rfl, fv8, vo8, ve8, l8, hlo8, hx8, hn8⟩
        have K8 := hid (K0.out.app HBB.out hlo8 hx8 HQ50.out)
        clear hlo8 hx8 hn8 HAP
        go_wp2_with fail
        go_roundw
        case rel => exact ⟨k + 1, fv8, vo8, ve8, _, l8, by go_num, hk', K8.out⟩
        case measure => simp [intOf]; omega
    · have hlt' : ¬ (k : Int) < (m : Int) := by omega
      have hRoom := K0.out.lo.room
      have hfn : Fs.flatten.length ≤ 1048576 := by rw [← K0.out.lo.len]; exact K0.out.lo.bounds.1
      have hsmall := parts_small K0.out.lo.good K0.out.len hfn
      obtain ⟨Ps, hPs⟩ : ∃ Ps, partsP Fs.flatten = Ps := ⟨_, rfl⟩
      have hPf : Ps.flatten = Fs.flatten := by rw [← hPs]; exact partsP_all _
      rw [hPs] at hsmall
      have HPS := hid hPs
      have HPF := hid hPf
      have hxl := lby_len (r := 7) (by decide) (by decide) Fs
      have HXL := hid hxl
      obtain ⟨Z0, hZ0⟩ : ∃ Z0, szF Fs = Z0 := ⟨_, rfl⟩
      obtain ⟨Z1, hZ1⟩ : ∃ Z1, szF Ps = Z1 := ⟨_, rfl⟩
      have HZ0 := hid hZ0
      have HZ1 := hid hZ1
      rw [hZ0, hZ1] at hsmall
      rw [hZ0] at hRoom HXL
      have HFN := hid hfn
      clear hPs hPf hxl hZ0 hZ1 hfn
      go_wp2_with fail
      refine (lo_ops K0.out.lo).mono ?_
      rintro e w6 ⟨v6, rfl, q6, ho6, hf6, hn6, b6⟩
      have K6 := hid (K0.out.below b6)
      have Q6 : Hid (Oq (Ft lb B fv vo ve) w6 v6 q6) := hid ⟨ho6, .inr (fun j hj e => by
        have h1 := hn6.1 j hj
        have h2 := (K0.out.lo.lg.inside e).2
        omega), fun p hp => ⟨ho6.2 p hp, .inr (fun j hj e => by
        have h1 := hn6.2 p hp j hj
        have h2 := (K0.out.lo.lg.inside e).2
        omega)⟩⟩
      have HF6 := hid hf6
      have hq6 : q6.length = Fs.flatten.length := by rw [← hf6]; simp [fsts]
      obtain ⟨a6, c6, rfl, _, _⟩ := Sl.form ho6.1
      obtain ⟨N6, hN6⟩ : ∃ N6, q6.length = N6 := ⟨_, rfl⟩
      rw [hN6] at Q6
      rw [hN6]
      have HN6 := hid hN6
      have HQ6 := hid hq6
      clear ho6 hf6 hn6 b6 K0 hq6 hN6
      go_wp2_with fail
      refine (fsize_any K6.out.lo.lg.fi).mono ?_
      rintro e w7 ⟨rfl, rfl⟩
      rw [HXL.out]
      go_wp2_with fail
      refine (compact_any K6.out.lo (HL.out.low K6.out.bw H2.out) K6.out.hB).mono ?_
      rintro e w7 h7
      rcases h7 with ⟨_, rfl, fv7, ve7, hlo7, hx7⟩ | ⟨hbad, _⟩
      case inr =>
        exfalso
        rw [HPS.out, HZ1.out] at hbad
        omega
      rw [HPS.out, HZ1.out] at hlo7
      have L7 := hid hlo7
      have Q7 := hid (Q6.out.step hx7)
      have BW7 := hid (K6.out.bw.trans ((K6.out.lo.lg.fr hx7 K6.out.hB).mono HBB.out))
      have S7 := hid (Nat.le_trans K6.out.hB hx7.size)
      clear hlo7 hx7 Q6 K6
      go_wp2_with fail
      refine (lo_ops L7.out).mono ?_
      rintro e w8 ⟨v8, rfl, q8, ho8, hf8, hn8, b8⟩
      have L8 := hid (L7.out.below b8)
      have Q8 := hid (Q7.out.below b8)
      have BW8 := hid (bt BW7.out b8)
      have S8 := hid (Nat.le_trans S7.out b8.size)
      have O8 := hid ho8
      have HEQ : Hid (fsts q8 = fsts q6) := hid (by rw [hf8, HPF.out, HF6.out])
      clear ho8 hf8 hn8 b8 L7 Q7 BW7 S7
      go_wp2_with fail
      refine (sameops_any _ _ q8 q6 w8 O8.out Q8.out.os).mono ?_
      rintro e w9 ⟨rb, rfl, hrb, b9⟩
      obtain rfl := hrb.2 HEQ.out
      have L9 := hid (L8.out.below b9)
      have Q9 := hid (Q8.out.below b9)
      have BW9 := hid (bt BW8.out b9)
      have S9 := hid (Nat.le_trans S8.out b9.size)
      clear hrb b9 L8 Q8 BW8 S8 O8 HEQ
      go_wp2_with fail
      refine (lo_synced L9.out).mono ?_
      rintro e w10 ⟨rfl, b10⟩
      have hsy : syF Ps (10 + Z1) = N6 := by
        have h1 := syF_at Ps.length (Nat.le_refl _) L9.out.good
        rw [List.take_length, HZ1.out, HPF.out] at h1
        rw [h1, ← HQ6.out, HN6.out]
      rw [hsy]
      have L10 := hid (L9.out.below b10)
      have Q10 := hid (Q9.out.below b10)
      have BW10 := hid (bt BW9.out b10)
      have S10 := hid (Nat.le_trans S9.out b10.size)
      have hxl2 := lby_len (r := 7) (by decide) (by decide) Ps
      rw [HZ1.out] at hxl2
      have HXL2 := hid hxl2
      clear b10 L9 Q9 BW9 S9 hsy hxl2
      go_wp2_with fail
      refine (synced_any L10.out.lg.fi).mono ?_
      rintro e w11 ⟨rfl, rfl⟩
      go_wp2_with fail
      refine (fsize_any L10.out.lg.fi).mono ?_
      rintro e w11 ⟨rfl, rfl⟩
      rw [HXL2.out]
      go_wp2_with fail
      refine (fsize_any L10.out.lg.fi).mono ?_
      rintro e w11 ⟨rfl, rfl⟩
      rw [HXL2.out]
      have hgt : ¬ ((10 + Z0 : Nat) : Int) < ((10 + Z1 : Nat) : Int) := by omega
      go_wp2_with fail
      have HAP := hid (lappend_any L10.out (HL.out.low BW10.out H2.out) S10.out (Oq.old L10.out.lg HBB.out HMO.out BW10.out) (fun p hp => ⟨(HMF.out p hp).1, by have := (HMF.out p hp).2; omega⟩) (by rw [HMM.out]; omega))
      obtain ⟨E, hE⟩ : ∃ E, apE 1048576 Ps (fsts lm) = E := ⟨_, rfl⟩
      rw [hE] at HAP
      have HE := hid hE
      clear hE
      have hcl : Fs.flatten.length ≤ 1048576 := HFN.out
      by_cases h0 : E = 0
      · have hF : apF 1048576 Ps (fsts lm) = Ps ++ [fsts lm] := by unfold apF; rw [if_pos (by rw [HE.out]; exact h0)]
        rw [hF] at HAP
        subst h0
        obtain ⟨G, hG⟩ : ∃ G, Ps ++ [fsts lm] = G := ⟨_, rfl⟩
        have HG : Hid (G.flatten = Fs.flatten ++ fsts lm) := hid (by rw [← hG, List.flatten_append, HPF.out]; simp)
        rw [hG] at HAP
        clear hF hG
        refine HAP.out.mono ?_
        rintro e w11 ⟨rfl, fv11, vo11, ve11, l11, hlo11, hx11, _⟩
        have L11 := hid hlo11
        have Q11 := hid (Q10.out.step hx11)
        have BW11 := hid (BW10.out.trans ((L10.out.lg.fr hx11 S10.out).mono HBB.out))
        have S11 := hid (Nat.le_trans S10.out hx11.size)
        clear hlo11 hx11 HAP
        go_wp2_with fail
        refine (lo_sync L11.out).mono ?_
        rintro e w12 ⟨rfl, fv12, vo12, ve12, l12, hlo12, hx12, _⟩
        have L12 := hid hlo12
        have Q12 := hid ((Q11.out.step hx12).mono (fun j hj => (hj : Fb B fv12 j).elim (fun e => .inr (.inl e)) (fun e => .inr (.inr (.inl e)))) : Oq (Fb B fv12) w12 _ q6)
        have BW12 := hid (BW11.out.trans ((L11.out.lg.fr hx12 S11.out).mono HBB.out))
        have S12 := hid (Nat.le_trans S11.out hx12.size)
        clear hlo12 hx12 Q11
        go_wp2_with fail
        refine (lo_crash L12.out keep).mono ?_
        rintro e w13 ⟨rfl, fv13, hf13, hx13⟩
        have hlf : left keep (lby 7 G) (lby 7 G).length = (lby 7 G).length := by unfold left; omega
        rw [hlf, List.take_length] at hf13
        have F13 := hid hf13
        have Q13 := hid (Q12.out.step hx13)
        have S13 := hid (Nat.le_trans S12.out hx13.size)
        have BW13 : Hid (Below w.heap.size w w13) := hid (BW12.out.trans ((hx13.below (B := B) (fun j hj => (L12.out.lg.inside (hj.elim (fun e => .inr (.inl e)) (fun e => .inr (.inr (.inl e))))).1) S12.out).mono HBB.out))
        have TL : Hid (Tl (lby 7 G) (some (7, G))) := hid (by
          have := Tl.of L12.out.good (r := 7) (by decide) (by decide) (Og.cut wh_nil')
          simpa using this)
        clear hf13 hx13 hlf Q12
        go_wp2_with fail
        refine (open_any F13.out (HL.out.low BW13.out H2.out) S13.out (by have := H2.out; have := HBB.out; omega)).mono ?_
        rintro e w14 h14
        rcases h14 with ⟨hbad, _⟩ | ⟨r14, G14, lb14, vo14, ve14, fv14, l14, v14, q14, htl14, rfl, hlo14, hq14, hfs14, hn14, hx14⟩
        · have := Tl.det hbad TL.out; cases this
        have hsome := Tl.det htl14 TL.out
        simp only [Option.some.injEq, Prod.mk.injEq] at hsome
        obtain ⟨rfl, rfl⟩ := hsome
        have Q14 := hid (Q13.out.step hx14).os
        have BW14 : Hid (Below w.heap.size w w14) := hid (BW13.out.trans ((hx14.below (B := B) (fun j hj => by
          rcases hj with rfl | hj
          · exact F13.out.2.1
          · exact (F13.out.own.lt j hj).1) S13.out).mono HBB.out))
        have O14 := hid hq14.os
        have HF14 := hid hfs14
        obtain ⟨a14, c14, rfl, _, _⟩ := Sl.form hq14.os.1
        obtain ⟨N14, hN14⟩ : ∃ N14, q14.length = N14 := ⟨_, rfl⟩
        rw [hN14] at O14
        rw [hN14]
        clear htl14 hlo14 hq14 hfs14 hn14 hx14 Q13 hN14 F13
        go_wp2_with fail
        refine (copyops_any _ q6 w14 Q14.out (fun p hp => by
          have h1 : rightO p.1 = true := by
            have h2 : p.1 ∈ Fs.flatten := by rw [← HF6.out]; exact List.mem_map.2 ⟨p, hp, rfl⟩
            rw [← HPF.out] at h2
            obtain ⟨f, hf, hm⟩ := List.mem_flatten.1 h2
            exact (L10.out.good f hf).2.1 _ hm
          exact (fine_right h1).2) (by rw [HQ6.out]; exact hcl)).mono ?_
        rintro e w15 ⟨v15, rfl, l15, hR15, hf15, hn15, b15⟩
        have R15 := hid hR15
        obtain ⟨a15, c15, rfl⟩ := hR15.form
        have HF15 := hid hf15
        have B15 := hid b15
        have BW15 := hid (bt BW14.out b15)
        have M15 := hid (HMO.out.later BW15.out)
        have hl15 : l15.length = N6 := by have := congrArg List.length hf15; simp only [fstsL] at this; rw [this, HN6.out]
        have SM : Hid (Sl 20 w15 (.slice ma MM mc) MM (lm.flatMap opc)) := hid (by have := M15.out.1; rw [HMM.out] at this; exact this)
        have hN6b : N6 ≤ 1048576 := by rw [← HN6.out, HQ6.out]; exact hcl
        rw [hl15] at R15
        rw [hl15]
        have RO15 : Hid (w15.ownsRow w14.heap.size 57 20 (.slice a15 N6 c15) N6 (l15.flatMap opc)) := hid (by have := R15.out.1; rw [hl15] at this; exact this)
        have hb15 : (N6 + MM) * 192 ≤ 140737488355328 := by omega
        have hm15 : N6 + MM ≤ maxLen := by unfold maxLen; omega
        have S15 := hid b15.size
        clear hR15 hf15 hn15 b15
        go_wp2_with (first | (at_builtin; refine wpList_append_sl 31 57 20 192 _ Tryd.underlying31 info_op rfl (Nat.succ_pos 19) rfl _ _ rfl w14.heap.size (.slice a15 N6 c15) _ _ rfl RO15.out _ MM (lm.flatMap opc) rfl SM.out (one_ops M15.out) hb15 hm15 S15.out ?_; intro v16 w16 hown16 hg16 hv16; obtain ⟨a16, c16, rfl⟩ := own_shape hown16; have HO16 := hid hown16; have HG16 := hid hg16; clear hown16 hg16 hv16) | fail)
        have hF16 : Fr (fun j => Value.ownBlock (.slice a15 N6 c15) = some j) w15 w16 := Fr.of_grown HG16.out (fun j e => e)
        have B16 : Hid (Below w14.heap.size w14 w16) := hid (B15.out.trans (hF16.below (fun j hj e => by have := (RO15.out.lt j e).1; omega) S15.out))
        have O16 : Hid (Os w16 (.slice a16 (N6 + MM) c16) (l15 ++ lm)) := hid ⟨by
          have := Sl.of_own HO16.out
          rw [List.length_append, hl15, HMM.out, List.flatMap_append]
          exact this, fun p hp => by
          rcases List.mem_append.1 hp with hp | hp
          · exact (R15.out.2.2 p hp).2.kept (R15.out.2.2 p hp).1 hF16
          · exact (HMO.out.2 p hp).below (bt BW14.out B16.out)⟩
        refine (sameops_any _ _ q14 (l15 ++ lm) w16 (O14.out.later B16.out) O16.out).mono ?_
        rintro e w17 ⟨rb, rfl, hrb, b17⟩
        obtain rfl := hrb.2 (by
          rw [HF14.out, HG.out, ← HF6.out, ← HF15.out]
          unfold fsts
          rw [List.map_append])
        have BW17 := hid (bt (bt BW14.out B16.out) b17)
        clear hrb b17 hF16
        go_wp2
        go_ret
        exact ⟨rfl, BW17.out⟩
      · have hF : apF 1048576 Ps (fsts lm) = Ps := by unfold apF; rw [if_neg (by rw [HE.out]; exact h0)]
        rw [hF] at HAP
        have h0b : (E == 0) = false := by simpa using h0
        obtain ⟨G, hG⟩ : ∃ G, Ps = G := ⟨_, rfl⟩
        have HG : Hid (G.flatten = Fs.flatten) := hid (by rw [← hG, HPF.out])
        rw [hG] at HAP
        clear hF hG
        refine HAP.out.mono ?_
        rintro e w11 ⟨rfl, fv11, vo11, ve11, l11, hlo11, hx11, _⟩
        have L11 := hid hlo11
        have Q11 := hid (Q10.out.step hx11)
        have BW11 := hid (BW10.out.trans ((L10.out.lg.fr hx11 S10.out).mono HBB.out))
        have S11 := hid (Nat.le_trans S10.out hx11.size)
        clear hlo11 hx11 HAP
        go_wp2_with fail
        refine (lo_sync L11.out).mono ?_
        rintro e w12 ⟨rfl, fv12, vo12, ve12, l12, hlo12, hx12, _⟩
        have L12 := hid hlo12
        have Q12 := hid ((Q11.out.step hx12).mono (fun j hj => (hj : Fb B fv12 j).elim (fun e => .inr (.inl e)) (fun e => .inr (.inr (.inl e)))) : Oq (Fb B fv12) w12 _ q6)
        have BW12 := hid (BW11.out.trans ((L11.out.lg.fr hx12 S11.out).mono HBB.out))
        have S12 := hid (Nat.le_trans S11.out hx12.size)
        clear hlo12 hx12 Q11
        go_wp2_with fail
        refine (lo_crash L12.out keep).mono ?_
        rintro e w13 ⟨rfl, fv13, hf13, hx13⟩
        have hlf : left keep (lby 7 G) (lby 7 G).length = (lby 7 G).length := by unfold left; omega
        rw [hlf, List.take_length] at hf13
        have F13 := hid hf13
        have Q13 := hid (Q12.out.step hx13)
        have S13 := hid (Nat.le_trans S12.out hx13.size)
        have BW13 : Hid (Below w.heap.size w w13) := hid (BW12.out.trans ((hx13.below (B := B) (fun j hj => (L12.out.lg.inside (hj.elim (fun e => .inr (.inl e)) (fun e => .inr (.inr (.inl e))))).1) S12.out).mono HBB.out))
        have TL : Hid (Tl (lby 7 G) (some (7, G))) := hid (by
          have := Tl.of L12.out.good (r := 7) (by decide) (by decide) (Og.cut wh_nil')
          simpa using this)
        clear hf13 hx13 hlf Q12
        go_wp2_with fail
        refine (open_any F13.out (HL.out.low BW13.out H2.out) S13.out (by have := H2.out; have := HBB.out; omega)).mono ?_
        rintro e w14 h14
        rcases h14 with ⟨hbad, _⟩ | ⟨r14, G14, lb14, vo14, ve14, fv14, l14, v14, q14, htl14, rfl, hlo14, hq14, hfs14, hn14, hx14⟩
        · have := Tl.det hbad TL.out; cases this
        have hsome := Tl.det htl14 TL.out
        simp only [Option.some.injEq, Prod.mk.injEq] at hsome
        obtain ⟨rfl, rfl⟩ := hsome
        have Q14 := hid (Q13.out.step hx14).os
        have BW14 : Hid (Below w.heap.size w w14) := hid (BW13.out.trans ((hx14.below (B := B) (fun j hj => by
          rcases hj with rfl | hj
          · exact F13.out.2.1
          · exact (F13.out.own.lt j hj).1) S13.out).mono HBB.out))
        have O14 := hid hq14.os
        have HF14 := hid hfs14
        obtain ⟨a14, c14, rfl, _, _⟩ := Sl.form hq14.os.1
        obtain ⟨N14, hN14⟩ : ∃ N14, q14.length = N14 := ⟨_, rfl⟩
        rw [hN14] at O14
        rw [hN14]
        clear htl14 hlo14 hq14 hfs14 hn14 hx14 Q13 hN14 F13
        go_wp2_with fail
        refine (sameops_any _ _ q14 q6 w14 O14.out Q14.out).mono ?_
        rintro e w17 ⟨rb, rfl, hrb, b17⟩
        obtain rfl := hrb.2 (by rw [HF14.out, HG.out, HF6.out])
        have BW17 := hid (bt BW14.out b17)
        clear hrb b17
        go_wp2
        go_ret
        exact ⟨rfl, BW17.out⟩
end Go.Proofs.YteckjkblngmenaaDoor

/-
  From a walk to the given statement: what the arguments' readings give (ops, rows of ops, bytes), and a world for the witness.
-/
namespace Go.Proofs.YteckjkblngmenaaDoor
open Go.RowKit Go.ChangeShapes Go.WideShapes Go.ChangeAt
set_option linter.unusedVariables false
set_option maxRecDepth 100000

theorem own : ownKnob Tryd.prog.godebug = none := by kernel_rfl
theorem laidOut : laidOutB Tryd.prog = true := by kernel_rfl

theorem Sl.of_rows {sz : Nat} {W : World} {x : Addr} {len cap : Nat} (hs : 0 < sz) (hl : len ≤ cap) (hm : cap ≤ maxLen) (R : Nat → List Value)
    (h : ∀ i, i < len → (R i).length = sz ∧ ∀ j u, (R i)[j]? = some u → W.cell? (x.add (i * sz + j)) = some u) : Sl sz W (.slice (some x) len cap) len ((List.range len).flatMap R) := by
  have hlen : ∀ n, n ≤ len → ((List.range n).flatMap R).length = n * sz := by
    intro n
    induction n with
    | zero => intro _; simp
    | succ n ih => intro hn; rw [List.range_succ, List.flatMap_append, List.length_append, ih (by omega)]; simp [(h n (by omega)).1, Nat.add_mul]
  have hat : ∀ n, n ≤ len → ∀ j u, ((List.range n).flatMap R)[j]? = some u → W.cell? (x.add j) = some u := by
    intro n
    induction n with
    | zero => intro _ j u hj; simp at hj
    | succ n ih =>
      intro hn j u hj
      rw [List.range_succ, List.flatMap_append] at hj
      by_cases hjl : j < n * sz
      · rw [List.getElem?_append_left (by rw [hlen n (by omega)]; exact hjl)] at hj
        exact ih (by omega) j u hj
      · rw [List.getElem?_append_right (by rw [hlen n (by omega)]; omega), hlen n (by omega)] at hj
        simp at hj
        have := (h n (by omega)).2 _ u hj
        rw [show n * sz + (j - n * sz) = j from by omega] at this
        exact this
  refine ⟨hlen len (Nat.le_refl _), some x, cap, rfl, hl, hm, fun h => (by cases h), fun j u hu => ?_⟩
  have h1 := hat len (Nat.le_refl _) j u hu
  have hpos : 0 < len := by
    rcases Nat.eq_zero_or_pos len with e | e
    · subst e; simp at hu
    · exact e
  obtain ⟨b, off, spot⟩ := x
  have hs0 : spot = none := by
    obtain ⟨h0, h0'⟩ := h 0 hpos
    obtain ⟨u0, hu0⟩ : ∃ u0, (R 0)[0]? = some u0 := ⟨_, List.getElem?_eq_getElem (by omega)⟩
    have := World.cell?_spot (h0' 0 u0 hu0)
    simpa [Addr.add] using this
  subst hs0
  rw [Addr.add_lit] at h1
  exact ⟨b, off, rfl, h1⟩

theorem cells_cut : Tryd.prog.cellsOf 84 = 4 := by kernel_rfl
theorem cells_id : Tryd.prog.cellsOf 52 = 2 := by kernel_rfl
theorem cells_char : Tryd.prog.cellsOf 54 = 3 := by kernel_rfl
theorem cells_int : Tryd.prog.cellsOf 3 = 1 := by kernel_rfl
theorem cells_str : Tryd.prog.cellsOf 9 = 1 := by kernel_rfl
theorem cells_bool : Tryd.prog.cellsOf 4 = 1 := by kernel_rfl
theorem cells_cuts : Tryd.prog.cellsOf 55 = 1 := by kernel_rfl
theorem cells_op : Tryd.prog.cellsOf 57 = 20 := by kernel_rfl

theorem list_3 {α : Type} {l : List α} (h : l.length = 3) : ∃ a b c, l = [a, b, c] := by
  match l, h with
  | [a, b, c], _ => exact ⟨a, b, c, rfl⟩
theorem list_4 {α : Type} {l : List α} (h : l.length = 4) : ∃ a b c d, l = [a, b, c, d] := by
  match l, h with
  | [a, b, c, d], _ => exact ⟨a, b, c, d, rfl⟩
theorem list_20 {α : Type} {l : List α} (h : l.length = 20) : ∃ a b c d e f g h i j k m n o p q r s t u, l = [a, b, c, d, e, f, g, h, i, j, k, m, n, o, p, q, r, s, t, u] := by
  match l, h with
  | [a, b, c, d, e, f, g, h, i, j, k, m, n, o, p, q, r, s, t, u], _ => exact ⟨a, b, c, d, e, f, g, h, i, j, k, m, n, o, p, q, r, s, t, u, rfl⟩

section
variable {H : Type} {enc : TypeId × Value → H} {W : World} {held : Bool}
theorem trod_id {n : Nat} {a b : Value} {x : DataW H × List MemPlace} (h : DataW.trod enc Tryd.prog W 0 (fun _ => true) held n 52 [a, b] = some x) : ∃ r m, a = .int .i64 r ∧ b = .int .i64 m := by
  obtain ⟨y0, y1, n, _, hl, h0, h1⟩ := trod_struct2 Tryd.underlying52 h
  simp [cells_int] at h0 h1
  obtain ⟨r, e0, _⟩ := DataW.trod_int Tryd.underlying3 h0
  obtain ⟨m, e1, _⟩ := DataW.trod_int Tryd.underlying3 h1
  simp at e0 e1
  exact ⟨r, m, e0, e1⟩
theorem trod_char {n : Nat} {a b c : Value} {x : DataW H × List MemPlace} (h : DataW.trod enc Tryd.prog W 0 (fun _ => true) held n 54 [a, b, c] = some x) : ∃ r m i, a = .int .i64 r ∧ b = .int .i64 m ∧ c = .int .i64 i := by
  obtain ⟨y0, y1, n, _, hl, h0, h1⟩ := trod_struct2 Tryd.underlying54 h
  simp [cells_int, cells_id] at h0 h1
  obtain ⟨r, m, e0, e1⟩ := trod_id h0
  obtain ⟨i, e2, _⟩ := DataW.trod_int Tryd.underlying3 h1
  simp at e2
  exact ⟨r, m, i, e0, e1, e2⟩
theorem trod_cut {n : Nat} {cs : List Value} {x : DataW H × List MemPlace} (h : DataW.trod enc Tryd.prog W 0 (fun _ => true) held n 84 cs = some x) : ∃ c : Ct, cs = cutc c := by
  obtain ⟨xs, k, hk, hxy, hlen, hxl, hfl⟩ := DataW.trod_struct Tryd.underlying84 h
  rw [cells_cut] at hlen
  obtain ⟨y0, y1, y2, rfl⟩ := list_3 hxl
  obtain ⟨v0, v1, v2, v3, rfl⟩ := list_4 hlen
  have g0 := hfl 0 _ rfl
  have g1 := hfl 1 _ rfl
  have g2 := hfl 2 _ rfl
  simp [cells_int, cells_id] at g0 g1 g2
  obtain ⟨r, m, rfl, rfl⟩ := trod_id g0
  obtain ⟨f, e1, _⟩ := DataW.trod_int Tryd.underlying3 g1
  obtain ⟨t, e2, _⟩ := DataW.trod_int Tryd.underlying3 g2
  simp at e1 e2
  subst e1; subst e2
  exact ⟨⟨r, m, f, t⟩, rfl⟩
theorem trod_cuts {n : Nat} {v : Value} {x : DataW H × List MemPlace} (h : DataW.trod enc Tryd.prog W 0 (fun _ => true) held n 55 [v] = some x) : ∃ l, Cs W v l := by
  rcases Go.Deep.open_slice Tryd.underlying55 h with ⟨hcs, _⟩ | ⟨x, len, c, m, n, D, Pl, hcs, _, hl, hm, hmm, _, hx⟩
  · simp at hcs
    subst hcs
    exact ⟨[], Cs.nil W⟩
  · simp at hcs
    subst hcs
    simp at hmm
    subst hmm
    rw [cells_cut] at hx
    have each : ∀ i, i < len → ∃ q : Ct, W.cells? 0 (x.add (i * 4)) 4 = some (cutc q) := fun i hi => by
      obtain ⟨cs', h1, h2⟩ := hx i (by omega)
      obtain ⟨q, rfl⟩ := trod_cut h2
      exact ⟨q, h1⟩
    have hinh : Inhabited Ct := ⟨Ct.zero⟩
    obtain ⟨q, hq⟩ := Go.Deep.choose_lt each
    refine ⟨(List.range len).map q, ?_⟩
    have := Sl.of_rows (sz := 4) (W := W) (x := x) (by decide) hl hm (fun i => cutc (q i)) (fun i hi => ⟨rfl, fun j u hu => by
      obtain ⟨_, _, hcell⟩ := World.cells?_some (hq i hi)
      have hj : j < 4 := (List.getElem?_eq_some_iff.1 hu).1
      have := hcell j hj
      rw [Go.Deep.add_add] at this
      rw [this, hu]⟩)
    unfold Cs
    rw [List.length_map, List.length_range, List.flatMap_map]
    exact this
theorem trod_op {n : Nat} {cs : List Value} {x : DataW H × List MemPlace} (h : DataW.trod enc Tryd.prog W 0 (fun _ => true) held n 57 cs = some x) : ∃ o v, cs = opc (o, v) ∧ Cs W v o.cuts := by
  obtain ⟨xs, k, hk, hxy, hlen, hxl, hfl⟩ := DataW.trod_struct Tryd.underlying57 h
  rw [cells_op] at hlen
  obtain ⟨v0, v1, v2, v3, v4, v5, v6, v7, v8, v9, v10, v11, v12, v13, v14, v15, v16, v17, v18, v19, rfl⟩ := list_20 hlen
  have hsz : xs.length = 12 := hxl
  have hat : ∀ i, i < 12 → ∃ y, xs[i]? = some y := fun i hi => ⟨_, List.getElem?_eq_getElem (by omega)⟩
  obtain ⟨z0, k0⟩ := hat 0 (by decide)
  obtain ⟨z1, k1⟩ := hat 1 (by decide)
  obtain ⟨z2, k2⟩ := hat 2 (by decide)
  obtain ⟨z3, k3⟩ := hat 3 (by decide)
  obtain ⟨z4, k4⟩ := hat 4 (by decide)
  obtain ⟨z5, k5⟩ := hat 5 (by decide)
  obtain ⟨z6, k6⟩ := hat 6 (by decide)
  obtain ⟨z7, k7⟩ := hat 7 (by decide)
  obtain ⟨z8, k8⟩ := hat 8 (by decide)
  obtain ⟨z9, k9⟩ := hat 9 (by decide)
  obtain ⟨z10, k10⟩ := hat 10 (by decide)
  obtain ⟨z11, k11⟩ := hat 11 (by decide)
  have g0 := (hfl 0 _ rfl).trans k0
  have g1 := (hfl 1 _ rfl).trans k1
  have g2 := (hfl 2 _ rfl).trans k2
  have g3 := (hfl 3 _ rfl).trans k3
  have g4 := (hfl 4 _ rfl).trans k4
  have g5 := (hfl 5 _ rfl).trans k5
  have g6 := (hfl 6 _ rfl).trans k6
  have g7 := (hfl 7 _ rfl).trans k7
  have g8 := (hfl 8 _ rfl).trans k8
  have g9 := (hfl 9 _ rfl).trans k9
  have g10 := (hfl 10 _ rfl).trans k10
  have g11 := (hfl 11 _ rfl).trans k11
  simp [cells_int] at g0
  simp [cells_id] at g1
  simp [cells_int] at g2
  simp [cells_id] at g3
  simp [cells_id] at g4
  simp [cells_str] at g5
  simp [cells_id] at g6
  simp [cells_char] at g7
  simp [cells_char] at g8
  simp [cells_str] at g9
  simp [cells_cuts] at g10
  simp [cells_bool] at g11
  obtain ⟨a0, e0, _⟩ := DataW.trod_int Tryd.underlying3 g0
  obtain ⟨a1, a2, rfl, rfl⟩ := trod_id g1
  obtain ⟨a3, e3, _⟩ := DataW.trod_int Tryd.underlying3 g2
  obtain ⟨a4, a5, rfl, rfl⟩ := trod_id g3
  obtain ⟨a6, a7, rfl, rfl⟩ := trod_id g4
  obtain ⟨a8, e8, _⟩ := DataW.trod_string Tryd.underlying9 g5
  obtain ⟨a9, a10, rfl, rfl⟩ := trod_id g6
  obtain ⟨a11, a12, a13, rfl, rfl, rfl⟩ := trod_char g7
  obtain ⟨a14, a15, a16, rfl, rfl, rfl⟩ := trod_char g8
  obtain ⟨a17, e17, _⟩ := DataW.trod_string Tryd.underlying9 g9
  obtain ⟨l, hl⟩ := trod_cuts g10
  obtain ⟨a19, e19, _⟩ := DataW.trod_bool Tryd.underlying4 g11
  obtain rfl : v0 = _ := by simpa using e0
  obtain rfl : v3 = _ := by simpa using e3
  obtain rfl : v8 = _ := by simpa using e8
  obtain rfl : v17 = _ := by simpa using e17
  obtain rfl : v19 = _ := by simpa using e19
  exact ⟨⟨a0, a1, a2, a3, a4, a5, a6, a7, a8, a9, a10, a11, a12, a13, a14, a15, a16, a17, l, a19⟩, v18, rfl, hl⟩
theorem open_op {b0 : Nat} {v : Value} {d : DataW H} {p : List MemPlace} (hv : Value.okWide Tryd.prog W .any b0 57 v) (h : DataW.Trod enc Tryd.prog W 0 (fun _ => true) held 57 v d p) : ∃ o u, v = opv o u ∧ Cs W u o.cuts := by
  obtain ⟨cs, rfl, hsz⟩ := okWide_struct Tryd.underlying57 hv
  obtain ⟨fuel, hf⟩ := h
  obtain ⟨o, u, e, hc⟩ := trod_op hf
  refine ⟨o, u, ?_, hc⟩
  obtain ⟨l⟩ := cs
  have e' : l = opc (o, u) := by simpa [Value.cells] using e
  rw [e']
theorem open_ops {b0 : Nat} {v : Value} {d : DataW H} {p : List MemPlace} (hv : Value.okWide Tryd.prog W .any b0 31 v) (h : DataW.Trod enc Tryd.prog W 0 (fun _ => true) held 31 v d p) : ∃ l, Os W v l := by
  obtain ⟨a, len, cap, rfl⟩ := okWide_slice Tryd.underlying31 hv
  obtain ⟨fuel, hf⟩ := h
  rcases Go.Deep.open_slice Tryd.underlying31 hf with ⟨hcs, _⟩ | ⟨x, l, c, m, n, D, Pl, hcs, _, hl, hm, hmm, _, hx⟩
  · simp [Value.cells] at hcs
    obtain ⟨rfl, rfl, rfl⟩ := hcs
    exact ⟨[], Sl.nil 20 W, fun p hp => by cases hp⟩
  · simp [Value.cells] at hcs
    obtain ⟨rfl, rfl, rfl⟩ := hcs
    simp at hmm
    subst hmm
    rw [cells_op] at hx
    have each : ∀ i, i < len → ∃ q : Opn × Value, W.cells? 0 (x.add (i * 20)) 20 = some (opc q) ∧ Cs W q.2 q.1.cuts := fun i hi => by
      obtain ⟨cs', h1, h2⟩ := hx i (by omega)
      obtain ⟨o, u, rfl, hc⟩ := trod_op h2
      exact ⟨(o, u), h1, hc⟩
    have hinh : Inhabited (Opn × Value) := ⟨(Opn.zero, .slice none 0 0)⟩
    obtain ⟨q, hq⟩ := Go.Deep.choose_lt each
    refine ⟨(List.range len).map q, ?_, fun p hp => ?_⟩
    · have := Sl.of_rows (sz := 20) (W := W) (x := x) (by decide) hl hm (fun i => opc (q i)) (fun i hi => ⟨rfl, fun j u hu => by
        obtain ⟨_, _, hcell⟩ := World.cells?_some (hq i hi).1
        have hj : j < 20 := (List.getElem?_eq_some_iff.1 hu).1
        have := hcell j hj
        rw [Go.Deep.add_add] at this
        rw [this, hu]⟩)
      rw [List.length_map, List.length_range, List.flatMap_map]
      exact this
    · obtain ⟨i, hi, rfl⟩ := List.mem_map.1 hp
      exact (hq i (List.mem_range.1 hi)).2
theorem open_u8s {b0 : Nat} {v : Value} {d : DataW H} {p : List MemPlace} (hv : Value.okWide Tryd.prog W .any b0 45 v) (h : DataW.Trod enc Tryd.prog W 0 (fun _ => true) held 45 v d p) : ∃ xs, Bs W v xs := by
  obtain ⟨a, len, cap, rfl⟩ := okWide_slice Tryd.underlying45 hv
  obtain ⟨fuel, hf⟩ := h
  rcases open_ints Tryd.underlying45 Tryd.underlying5 (by kernel_rfl) hf with ⟨hcs, _⟩ | ⟨x, l, c, zs, hcs, _, hl, hm, hz, _, hcell, hwz⟩
  · simp [Value.cells] at hcs
    obtain ⟨rfl, rfl, rfl⟩ := hcs
    exact ⟨[], Bs.nil W⟩
  · simp [Value.cells] at hcs
    obtain ⟨rfl, rfl, rfl⟩ := hcs
    exact ⟨zs.take len, Bs.of_row hl hm (by simpa using hz) hcell hwz⟩
theorem open_byte {b0 : Nat} {v : Value} {d : DataW H} {p : List MemPlace} (hv : Value.okWide Tryd.prog W .any b0 5 v) (h : DataW.Trod enc Tryd.prog W 0 (fun _ => true) held 5 v d p) : ∃ x, v = .int .u8 x ∧ 0 ≤ x ∧ x < 256 := by
  obtain ⟨a, rfl, _, _, hw⟩ := open_int Tryd.underlying5 hv h
  refine ⟨a, rfl, ?_⟩
  simp [Lit.wf, IntKind.min, IntKind.max, IntKind.signed, IntKind.bits] at hw
  omega
end

/-- The heap that the program's own text lays meets the list. -/
theorem door_met (os : Go.Os) (args : Array Value) : laidMetH Tryd.prog Rows.oplogKeepsRow.laid ((World.doorLaid Tryd.prog 72 os).forCall (fun _ _ => 0) ⟨#[], args, []⟩).memory := by
  rw [MakeChecks.laidMetH_plain _ _ _ (by kernel_rfl)]
  exact laidMet_of_run' 8 (by kernel_rfl) (by kernel_rfl)

end Go.Proofs.YteckjkblngmenaaDoor

/-
  From a walk to the given statement: what the readings of lists of lists of ops give.
-/
namespace Go.Proofs.YteckjkblngmenaaDoor
open Go.RowKit Go.ChangeShapes Go.WideShapes Go.ChangeAt
set_option linter.unusedVariables false
set_option maxRecDepth 100000

theorem cells_ops : Tryd.prog.cellsOf 31 = 1 := by kernel_rfl
section
variable {H : Type} {enc : TypeId × Value → H} {W : World} {held : Bool}
theorem trod_ops {n : Nat} {v : Value} {x : DataW H × List MemPlace} (h : DataW.trod enc Tryd.prog W 0 (fun _ => true) held n 31 [v] = some x) : ∃ l, Os W v l := by
  rcases Go.Deep.open_slice Tryd.underlying31 h with ⟨hcs, _⟩ | ⟨x, len, c, m, n, D, Pl, hcs, _, hl, hm, hmm, _, hx⟩
  · simp at hcs
    subst hcs
    exact ⟨[], Sl.nil 20 W, fun p hp => by cases hp⟩
  · simp at hcs
    subst hcs
    simp at hmm
    subst hmm
    rw [cells_op] at hx
    have each : ∀ i, i < len → ∃ q : Opn × Value, W.cells? 0 (x.add (i * 20)) 20 = some (opc q) ∧ Cs W q.2 q.1.cuts := fun i hi => by
      obtain ⟨cs', h1, h2⟩ := hx i (by omega)
      obtain ⟨o, u, rfl, hc⟩ := trod_op h2
      exact ⟨(o, u), h1, hc⟩
    have hinh : Inhabited (Opn × Value) := ⟨(Opn.zero, .slice none 0 0)⟩
    obtain ⟨q, hq⟩ := Go.Deep.choose_lt each
    refine ⟨(List.range len).map q, ?_, fun p hp => ?_⟩
    · have := Sl.of_rows (sz := 20) (W := W) (x := x) (by decide) hl hm (fun i => opc (q i)) (fun i hi => ⟨rfl, fun j u hu => by
        obtain ⟨_, _, hcell⟩ := World.cells?_some (hq i hi).1
        have hj : j < 20 := (List.getElem?_eq_some_iff.1 hu).1
        have := hcell j hj
        rw [Go.Deep.add_add] at this
        rw [this, hu]⟩)
      rw [List.length_map, List.length_range, List.flatMap_map]
      exact this
    · obtain ⟨i, hi, rfl⟩ := List.mem_map.1 hp
      exact (hq i (List.mem_range.1 hi)).2
theorem open_opss {b0 : Nat} {v : Value} {d : DataW H} {p : List MemPlace} (hv : Value.okWide Tryd.prog W .any b0 22 v) (h : DataW.Trod enc Tryd.prog W 0 (fun _ => true) held 22 v d p) : ∃ ls, Oss W v ls := by
  obtain ⟨a, len, cap, rfl⟩ := okWide_slice Tryd.underlying22 hv
  obtain ⟨fuel, hf⟩ := h
  rcases Go.Deep.open_slice Tryd.underlying22 hf with ⟨hcs, _⟩ | ⟨x, l, c, m, n, D, Pl, hcs, _, hl, hm, hmm, _, hx⟩
  · simp [Value.cells] at hcs
    obtain ⟨rfl, rfl, rfl⟩ := hcs
    exact ⟨[], [], rfl, Sl.nil 1 W, fun i hi => absurd hi (Nat.not_lt_zero _)⟩
  · simp [Value.cells] at hcs
    obtain ⟨rfl, rfl, rfl⟩ := hcs
    simp at hmm
    subst hmm
    rw [cells_ops] at hx
    have each : ∀ i, i < len → ∃ q : Value × List (Opn × Value), W.cells? 0 (x.add (i * 1)) 1 = some [q.1] ∧ Os W q.1 q.2 := fun i hi => by
      obtain ⟨cs', h1, h2⟩ := hx i (by omega)
      obtain ⟨_, hlen, _⟩ := World.cells?_some h1
      obtain ⟨u, rfl⟩ : ∃ u, cs' = [u] := by
        rcases cs' with _ | ⟨u, _ | ⟨y, r⟩⟩
        · simp at hlen
        · exact ⟨u, rfl⟩
        · simp at hlen
      obtain ⟨l, ho⟩ := trod_ops h2
      exact ⟨(u, l), h1, ho⟩
    have hinh : Inhabited (Value × List (Opn × Value)) := ⟨(.slice none 0 0, [])⟩
    obtain ⟨q, hq⟩ := Go.Deep.choose_lt each
    refine ⟨(List.range len).map (fun i => (q i).2), (List.range len).map (fun i => (q i).1), by simp, ?_, fun i hi hk => ?_⟩
    · have := Sl.of_rows (sz := 1) (W := W) (x := x) (by decide) hl hm (fun i => [(q i).1]) (fun i hi => ⟨rfl, fun j u hu => by
        obtain ⟨_, _, hcell⟩ := World.cells?_some (hq i hi).1
        have hj : j < 1 := (List.getElem?_eq_some_iff.1 hu).1
        have := hcell j hj
        rw [Go.Deep.add_add] at this
        rw [this, hu]⟩)
      rw [List.length_map, List.length_range]
      have e : ∀ n : Nat, (List.range n).map (fun i => (q i).1) = (List.range n).flatMap fun i => [(q i).1] := fun n => by
        rw [List.flatMap_def]
        induction (List.range n) with
        | nil => rfl
        | cons a t ih => simp only [List.map_cons, List.flatten_cons, List.cons_append, List.nil_append, ih]
      rw [e]
      exact this
    · simp only [List.getElem_map, List.getElem_range]
      simp at hi
      exact (hq i hi).2
end
end Go.Proofs.YteckjkblngmenaaDoor
