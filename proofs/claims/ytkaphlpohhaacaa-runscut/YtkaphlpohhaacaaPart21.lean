/-
  Parts of the proof, one behind the other; what each proves stands at its head.
-/
import Derived.Test.YtkaphlpohhaacaaPart19
import Derived.Test.YtkaphlpohhaacaaPart20

/-
  What Cut counts, character by character; what is cut twice is cut once.
-/
namespace Go.Proofs.Ytkaphlpohhaacaa
open Go.RowKit
set_option linter.unusedVariables false
set_option linter.unusedSimpArgs false
set_option maxRecDepth 100000

section
variable {cr cn cf ct : Int}
theorem cntC_cons (x : Un) (l : List Un) : cntC cr cn cf ct (x :: l) = (if (hitC cr cn cf ct x && !x.g) = true then 1 else 0) + cntC cr cn cf ct l := by
  unfold cntC
  rw [List.countP_cons]
  split <;> omega
theorem cntC_le (l : List Un) : 0 ≤ cntC cr cn cf ct l ∧ cntC cr cn cf ct l ≤ l.length := by
  unfold cntC
  have := List.countP_le_length (p := fun x => hitC cr cn cf ct x && !x.g) (l := l)
  omega
theorem cut_same {x y : Un} (h : y = cutC cr cn cf ct x) : (!sameI y.r y.n x.r x.n) = false ∧ decide (¬ y.f = x.f) = false ∧ decide (¬ y.t = x.t) = false ∧ y.g = (x.g || hitC cr cn cf ct x) := by
  subst h
  obtain ⟨h1, h2, h3, _, _, h6⟩ := cutC_name cr cn cf ct x
  rw [h1, h2, h3, h6]
  refine ⟨by unfold sameI; simp, by simp, by simp, ?_⟩
  unfold cutC
  split
  · rename_i h; rw [h, Bool.or_true]
  · rename_i h; rw [Bool.not_eq_true] at h; rw [h, Bool.or_false]
theorem hit_ways (x : Un) {X : Prop} (h0 : sameI x.r x.n cr cn = false → hitC cr cn cf ct x = false → X) (h1 : sameI x.r x.n cr cn = true → decide (cf ≤ x.f) = false → hitC cr cn cf ct x = false → X)
    (h2 : sameI x.r x.n cr cn = true → decide (cf ≤ x.f) = true → decide (x.f < ct) = false → hitC cr cn cf ct x = false → X)
    (h3 : sameI x.r x.n cr cn = true → decide (cf ≤ x.f) = true → decide (x.f < ct) = true → hitC cr cn cf ct x = true → X) : X := by
  unfold hitC at h0 h1 h2 h3
  cases e1 : sameI x.r x.n cr cn
  · exact h0 e1 (by rw [e1]; rfl)
  · cases e2 : decide (cf ≤ x.f)
    · exact h1 e1 e2 (by rw [e1, e2]; rfl)
    · cases e3 : decide (x.f < ct)
      · exact h2 e1 e2 e3 (by rw [e1, e2, e3]; rfl)
      · exact h3 e1 e2 e3 (by rw [e1, e2, e3]; rfl)
theorem cut_twice (l : List Un) : cntC cr cn cf ct (l.map (cutC cr cn cf ct)) = 0 := by
  refine (cutC_done (fun x hx hh => ?_)).2
  obtain ⟨z, _, rfl⟩ := List.mem_map.1 hx
  have e : hitC cr cn cf ct (cutC cr cn cf ct z) = hitC cr cn cf ct z := by
    unfold hitC
    obtain ⟨h1, h2, h3, _⟩ := cutC_name cr cn cf ct z
    rw [h1, h2, h3]
  rw [e] at hh
  have := (cut_same (x := z) rfl (cr := cr) (cn := cn) (cf := cf) (ct := ct)).2.2.2
  rw [this, hh, Bool.or_true]
end

end Go.Proofs.Ytkaphlpohhaacaa

/-
  RunsCut returns true for every row of calls and every cut: its walk. Printed by genucww.py.
-/
namespace Go.Proofs.Ytkaphlpohhaacaa
open Go.RowKit
set_option linter.unusedVariables false
set_option linter.unusedSimpArgs false
set_option maxRecDepth 100000

/-- As wl_val', the operation first: it fails at once where it isn't this one. -/
theorem wl_val2 {o : Oper} {a : Act} {W : World} {ops : Array Oper} {rest : List Oper} {Q : Exit → Act → World → Prop} {v : Value} {W' : World} (h : (execOp a.eval o).run Try.prog W = .ok (.value v) W') (hgd : Region.wanted o (yielded ops a.tmps) = true) (hk : wpList Try.prog ops Q rest (a.put o.dst v) W') : wpList Try.prog ops Q (o :: rest) a W :=
  wl_val' v W' hgd h hk

set_option maxHeartbeats 16000000 in
theorem ucut_walk (A : Value) (qs : List Zq) (cr cn cf ct : Int) (w : World) (h : Zc w A qs) :
    Calls Try.prog 6 #[A, cuv cr cn cf ct] w fun e w' => e = .returned (.bool true) ∧ Below w.heap.size w w' := by
  obtain ⟨a, c, rfl, hc0, hc1⟩ := Sl.form h
  obtain ⟨n, hn⟩ : ∃ n, qs.length = n := ⟨_, rfl⟩
  have HQ := hid h
  have HN := hid hn
  rw [hn] at hc0 HQ
  unfold maxLen at hc1
  clear h
  rw [hn]
  clear hn
  go_enter Try.func6, Try.ntmps6
  go_wp2_with (first | (refine wl_boxK (r := cr) (n := cn) (f := cf) (t := ct) rfl rfl rfl ?_; intro W0 kb e0 hkb hb0; have HKB := hid hkb; have HB0 := hid hb0; have HAL := hid (ualive_any W0); clear e0 hkb hb0) | fail)
  refine HAL.out.mono ?_
  rintro e w1 ⟨rfl, b1⟩
  have B1 := hid (bt HB0.out b1)
  have HK1 := hid (HKB.out.below b1)
  have HGR := hid (ugreat_any _ qs w1 (HQ.out.below B1.out))
  rw [HN.out] at HGR
  clear b1 HAL
  go_wp2_with fail
  refine HGR.out.mono ?_
  rintro e w2 ⟨⟨g, rfl, hg⟩, rfl⟩
  clear HGR
  cases g
  · have HQL : Hid (qs.length ≤ 100) := hid (by rw [HN.out]; exact hg rfl)
    have hn100 : n ≤ 100 := hg rfl
    have HNW := hid (new_any w1)
    obtain ⟨N, hN⟩ : ∃ N, w1.heap.size = N := ⟨_, rfl⟩
    have HNN := hid hN
    rw [hN] at HNW
    clear hg hN
    go_wp2_with fail
    refine HNW.out.mono ?_
    rintro e W3 ⟨rfl, h3, hb3⟩
    have HL3 : Hid (Lr N N [] w1 W3) := hid ⟨_, [], h3, Good.nil, rfl, hb3⟩
    have HBW : Hid (Below w.heap.size w w1) := B1
    have HBS : Hid (N = w1.heap.size) := hid HNN.out.symm
    clear h3 hb3 HNW
    go_wp2_with fail
    go_loopw [6] (fun i wr => ∃ k : Nat, k ≤ n ∧ i = .int .i64 k ∧ Lr N N (callsC (qs.take k)) w1 wr) (fun i _ => n - (intOf i).toNat)
    case atStart => exact ⟨0, Nat.zero_le _, rfl, HL3.out⟩
    case round =>
      obtain ⟨k, hk, rfl, hl⟩ := hrel
      have HL := hid hl
      clear hl HL3
      by_cases hlt : k < n
      · skip
        have hlt' : (k : Int) < (n : Int) := by omega
        have hx : k < qs.length := by rw [HN.out]; exact hlt
        obtain ⟨b, off, c', e1, hbb, hcc⟩ := HQ.out.inv (by rw [HN.out]; omega)
        rw [HN.out] at e1
        simp only [Value.slice.injEq] at e1
        obtain ⟨rfl, -, rfl⟩ := e1
        obtain ⟨q, hq⟩ : ∃ q, qs[k] = q := ⟨_, rfl⟩
        have hzk := hcc k hx
        rw [hq] at hzk
        obtain ⟨T, hT⟩ : ∃ T, callsC (qs.take k) = T := ⟨_, rfl⟩
        rw [hT] at HL
        have hlen := callsC_len HQL.out k (by omega)
        rw [hT] at hlen
        have hnx := callsC_take hx
        rw [hT, hq] at hnx
        have hbN : b < N := by have := HBW.out.size; have := HBS.out; omega
        have HZ : Hid (Zk wr b (off + k * 19) q) := hid (by
          obtain ⟨_, _, _, _, _, hb5⟩ := HL.out
          exact (hzk.below HBW.out).kept (hb5.block b hbN))
        have HNX := hid hnx
        have HLN : Hid (T.length ≤ 20000) := hid (by have := HQL.out; omega)
        have HBN := hid hbN
        have c0 := HZ.out.c0
        have HCU := hid (lr_cutk HL.out q.r q.n q.f q.t HLN.out hbN)
        clear hcc hq hzk hT hlen hnx hbb hx hbN
        by_cases hw0 : q.w = 0
        · rw [hw0] at c0
          have HW0 := hid hw0
          clear hw0
          go_upto_region 10 with fail
          refine rcut_put (N := N) (r := N) (b := b) (off := off) (n := n) (c := c) (k := k) (q := q) (T := T) (w0 := w1) HZ.out HL.out HBN.out hlt HLN.out (fun _ _ _ _ _ h => h) ?_
          intro W5 hl5
          have HL5 : Hid (Lr N N (callsC (qs.take (k + 1))) w1 W5) := hid (by rw [HNX.out]; unfold callC; rw [if_pos HW0.out]; exact hl5)
          clear hl5 c0
          go_wp2_with fail
          go_roundw
          case rel => exact ⟨k + 1, hlt, by go_num, HL5.out⟩
          case measure => simp [intOf]; omega
        · have hw1 : (q.w == 0) = false := by simpa using hw0
          have HW0 := hid hw0
          clear hw0
          go_wp2_with (first | (refine wl_val' _ _ rfl (runU_cut rfl rfl HZ.out.k) ?_) | fail)
          refine HCU.out.mono ?_
          rintro e W5 ⟨rfl, hl5, _⟩
          have HL5 : Hid (Lr N N (callsC (qs.take (k + 1))) w1 W5) := hid (by rw [HNX.out]; unfold callC; rw [if_neg HW0.out]; exact hl5)
          clear hl5 c0
          go_wp2_with fail
          go_roundw
          case rel => exact ⟨k + 1, hlt, by go_num, HL5.out⟩
          case measure => simp [intOf]; omega
      · obtain rfl : k = n := by omega
        have hnl : ¬ (k : Int) < (k : Int) := by omega
        have e : qs.take k = qs := List.take_of_length_le (by rw [HN.out]; exact Nat.le_refl _)
        rw [e] at HL
        have hlen := callsC_len HQL.out k (by rw [HN.out]; exact Nat.le_refl _)
        rw [e] at hlen
        obtain ⟨T, hT⟩ : ∃ T, callsC qs = T := ⟨_, rfl⟩
        rw [hT] at HL hlen
        have HLN : Hid (T.length ≤ 20000) := hid (by omega)
        clear e hlen hT
        obtain ⟨WB, rfl⟩ : ∃ W, W = wr := ⟨_, rfl⟩
        obtain ⟨M, hM⟩ : ∃ M, T.length = M := ⟨_, rfl⟩
        have HM := hid hM
        have hM2 : M ≤ 20000 := by have := HLN.out; omega
        clear hM
        go_wp2_with (first | (refine wl_nilI rfl rfl ?_; intro W4 v4 hu4 hb4; have HU4 := hid hu4; have HB4 := hid hb4; clear hu4 hb4) | fail)
        go_loopw [7, 8] (fun s i wr => ∃ (k : Nat) (sa : Option Addr) (sc : Nat), k ≤ M ∧ i = .int .i64 k ∧ s = .slice sa k sc ∧ Ur 36 WB.heap.size wr (.slice sa k sc) (T.take k) ∧ Below WB.heap.size WB wr) (fun _ i _ => M - (intOf i).toNat)
        case atStart => obtain ⟨a0, c0, e0, _⟩ := HU4.out.us.form; exact ⟨0, a0, c0, Nat.zero_le _, rfl, e0, by rw [← show v4 = .slice a0 0 c0 from e0]; exact HU4.out, HB4.out⟩
        case round =>
          obtain ⟨k, sa, sc, hk, rfl, rfl, hu, hb⟩ := hrel
          have HU := hid hu
          have HB := hid hb
          have HLR := hid (HL.out.below HB.out)
          have HLE := hid (lr_len HLR.out HLN.out)
          rw [HM.out] at HLE
          clear hu hb HU4 HB4
          go_wp2_with fail
          refine HLE.out.mono ?_
          rintro e W5 ⟨rfl, b5⟩
          have HB5 := hid (bt HB.out b5)
          have HU5 := hid (HU.out.below b5)
          have HLR5 := hid (HLR.out.below b5)
          clear b5 HLE HLR
          by_cases hlt : k < M
          · have hlt' : (k : Int) < (M : Int) := by omega
            have hkT : k < T.length := by rw [HM.out]; exact hlt
            have HAT := hid (lr_at_yes HLR5.out HLN.out k hkT)
            obtain ⟨x, hx⟩ : ∃ x, T[k] = x := ⟨_, rfl⟩
            have hxs : T.take (k + 1) = T.take k ++ [x] := by rw [List.take_succ_eq_append_getElem hkT, hx]
            rw [hx] at HAT
            have hlen : (T.take k).length + [x].length ≤ 1048576 := by rw [List.length_take]; simp; omega
            have HXS := hid hxs
            have HLEN := hid hlen
            clear hx hxs hlen hkT
            go_wp2_with fail
            refine HAT.out.mono ?_
            rintro e W6 ⟨rfl, b6⟩
            have HB6 := hid (bt HB5.out b6)
            have HU6 := hid (HU5.out.below b6)
            clear b6 HAT
            go_wp2_with (first
              | (refine wl_alI rfl rfl ?_; intro W7 b7 e7 hub7 hb7; have HV7 := hid hub7; have HB7 := hid (bt HB6.out hb7); have HU7 := hid (HU6.out.below hb7); have HG7 := hid (by have := HB6.out.size; omega : WB.heap.size ≤ b7); have HO7 := hid (fun j e => by have := (HU6.out.lt j e).2; omega : ∀ j,(Value.slice sa k sc).ownBlock = some j → ¬ j = b7); clear e7 hub7 hb7)
              | (refine wl_stI rfl rfl rfl rfl HV7.out ?_; intro W8 hu8 hf8; have HV8 := hid hu8; have HB8 := hid (below_fr HB7.out hf8 HG7.out); have HU8 := hid (HU7.out.fr hf8 HO7.out); clear hu8 hf8)
              | (refine wl_ldI rfl rfl rfl HV8.out.cells ?_)
              | (refine wl_oneI (u := x) rfl rfl rfl ?_; intro W9 v9 hu9 ho9 hb9; have HB9 := hid (bt HB8.out hb9); have HU9 := hid (HU8.out.below hb9); have HO9 := hid hu9; obtain ⟨va9, vc9, hv9, _⟩ := hu9.form; have HV9 := hid hv9; clear hu9 ho9 hb9 hv9)
              | (refine wl_appI rfl _ _ rfl WB.heap.size _ _ _ rfl HU9.out _ rfl HO9.out HLEN.out HB9.out.size ?_; intro v10 W10 hu10 hf10 ho10; obtain ⟨va10,vc10,hv10,_⟩ := hu10.us.form; obtain ⟨m10,hm10⟩ : ∃ m,(T.take k ++ [x]).length = m := ⟨_,rfl⟩; rw [hm10] at hv10; obtain rfl : m10 = k + 1 := (by rw [← hm10,← HXS.out,List.length_take,HM.out]; omega); clear hm10; subst hv10; have HU10 := hid hu10; have HB10 := hid ((Fr.of_below HB9.out : Fr (fun j => (Value.slice sa k sc).ownBlock = some j) _ _).trans' hf10); clear hu10 hf10 ho10)
              | fail)
            go_roundw
            case rel => exact ⟨k + 1, _, _, hlt, by go_num, rfl, by rw [HXS.out]; exact HU10.out, HB10.out.below (fun j hj e => Nat.lt_irrefl _ (Nat.lt_of_lt_of_le hj (HU.out.lt j e).1)) (Nat.le_refl _)⟩
            case measure => simp [intOf]; omega
          · obtain rfl : k = M := by omega
            have hnl : ¬ (k : Int) < (k : Int) := by omega
            have e : T.take k = T := List.take_of_length_le (by rw [HM.out]; exact Nat.le_refl _)
            rw [e] at HU5
            clear e HU
            have HK5 : Hid (Kb W5 kb cr cn cf ct) := hid (by
              obtain ⟨_, _, _, _, _, hb5⟩ := HLR5.out
              rw [HBS.out] at hb5
              exact HK1.out.below hb5)
            have HCUT := hid (lr_cut_old HL.out HB5.out cr cn cf ct HLN.out)
            go_wp2_with (first | (refine wl_val2 (runU_cut rfl rfl HK5.out.cells) rfl ?_) | fail)
            refine HCUT.out.mono ?_
            rintro e W11 ⟨rfl, hl11, hf11⟩
            have HU11 := hid (HU5.out.fr hf11 (fun j e => by have := (HU5.out.lt j e).1; omega))
            obtain ⟨T', hT'⟩ : ∃ T', T.map (cutC cr cn cf ct) = T' := ⟨_, rfl⟩
            have HT' := hid hT'
            rw [hT'] at hl11
            have HL11 := hid hl11
            have hM' : T'.length = k := by rw [← hT', List.length_map]; exact HM.out
            have HM' := hid hM'
            have HLN' : Hid (T'.length ≤ 20000) := hid (by omega)
            have HK11 : Hid (Kb W11 kb cr cn cf ct) := hid (by
              obtain ⟨_, _, _, _, _, hb5⟩ := HL11.out
              rw [HBS.out] at hb5
              exact HK1.out.below hb5)
            obtain ⟨g0, hg0⟩ : ∃ g, cntC cr cn cf ct T = g := ⟨_, rfl⟩
            have HG0 := hid hg0
            rw [hg0]
            clear hT' hM' hl11 hf11 HCUT hg0
            go_wp2_with fail
            go_loopw [11, 12] (fun s i wr => ∃ (j : Nat) (g : Int), j ≤ k ∧ g = cntC cr cn cf ct (T.drop j) ∧ s = .int .i64 g ∧ i = .int .i64 (j : Int) ∧ Below W11.heap.size W11 wr) (fun _ i _ => k - (intOf i).toNat)
            case atStart => exact ⟨0, _, Nat.zero_le _, HG0.out.symm, rfl, rfl, Below.refl _ _⟩
            case round =>
              obtain ⟨j, g, hj, hg, rfl, rfl, hb⟩ := hrel
              have hgl := cntC_le (cr := cr) (cn := cn) (cf := cf) (ct := ct) (T.drop j)
              rw [← hg, List.length_drop, HM.out] at hgl
              have hg0 := hgl.1
              have hg1 : g ≤ 20000 := by omega
              have HG := hid hg
              have HBJ := hid hb
              clear hg hb hgl
              by_cases hlt3 : j < k
              · have hlt3' : (j : Int) < (k : Int) := by omega
                obtain ⟨bb, off, c7, hv7, _, _, hbl, hcell⟩ := HU11.out.us.inv (by rw [HM.out]; omega)
                rw [HM.out] at hv7
                simp only [Value.slice.injEq] at hv7
                obtain ⟨rfl, -, rfl⟩ := hv7
                have hjT : j < T.length := by rw [HM.out]; exact hlt3
                have hjT' : j < T'.length := by rw [HM'.out]; exact hlt3
                obtain ⟨x, hx⟩ : ∃ x, T[j] = x := ⟨_, rfl⟩
                have hC := (hcell j hjT).below HBJ.out
                rw [hx] at hC
                have HC := hid hC
                obtain ⟨y, hy⟩ : ∃ y, T'[j] = y := ⟨_, rfl⟩
                have hyc : y = cutC cr cn cf ct x := by
                  have h := HT'.out
                  subst h
                  rw [← hy, List.getElem_map, hx]
                have HYC := hid hyc
                have HLJ := hid (HL11.out.below HBJ.out)
                have HAT := hid (lr_at_yes HLJ.out HLN'.out j hjT')
                rw [hy] at HAT
                have hcnt := HG.out
                rw [List.drop_eq_getElem_cons hjT, hx, cntC_cons] at hcnt
                have HCNT := hid hcnt
                have hj2 : j ≤ 20000 := by omega
                clear hcell hbl hx hy hC hyc hcnt hjT hjT'
                go_wp2_with fail
                refine HAT.out.mono ?_
                rintro e W12 ⟨rfl, b12⟩
                have HB12 := hid b12
                clear b12 HAT
                go_upto_region 23 with (first
                  | (refine wl_alI rfl rfl ?_; intro W13 b13 e13 hub13 hb13; have HV13 := hid hub13; have HB13 := hid (bt HB12.out hb13); have HG13 := hid (by have := HB12.out.size; omega : wr.heap.size ≤ b13); clear e13 hub13 hb13)
                  | (refine wl_stI rfl rfl rfl rfl HV13.out ?_; intro W14 hu14 hf14; have HU14 := hid hu14; have HB14 := hid (below_fr HB13.out hf14 HG13.out); clear hu14 hf14))
                have HRC : Hid (Rcw W14 kb bb (off + j * 13) cr cn cf ct x) := hid ⟨(HK11.out.below (bt HBJ.out HB14.out)).cells, HC.out.below HB14.out⟩
                refine hit_ways (cr := cr) (cn := cn) (cf := cf) (ct := ct) x (fun h1 hh => rcw_hit0 HRC.out hlt3 h1 (fun _ _ _ _ _ h => h) ?_) (fun h1 h2 hh => rcw_hit1 HRC.out hlt3 h1 h2 (fun _ _ _ _ _ h => h) ?_) (fun h1 h2 h3 hh => rcw_hit2 HRC.out hlt3 h1 h2 h3 (fun _ _ _ _ _ h => h) ?_) (fun h1 h2 h3 hh => rcw_hit2 HRC.out hlt3 h1 h2 h3 (fun _ _ _ _ _ h => h) ?_)
                all_goals
                  try clear h3
                  try clear h2
                  clear h1
                  have HH := hid hh
                  clear hh
                  intro W15 hb15
                  have HB15 := hid (bt HB14.out hb15)
                  have HRZ : Hid (Rz W15 b13 bb (off + j * 13) y x) := hid ⟨HU14.out.below hb15, HC.out.below HB15.out⟩
                  clear hb15
                  go_upto_region 24 with fail
                  have HXGK : ∀ {X : Prop}, (x.g = false → X) → (x.g = true → X) → X := fun h1 h2 => by
                    cases hxg : x.g
                    · exact h1 hxg
                    · exact h2 hxg
                  refine HXGK (fun hxg => rcw_same0 HRZ.out hlt3 (cut_same HYC.out).1 (cut_same HYC.out).2.1 (cut_same HYC.out).2.2.1 hxg (by rw [(cut_same HYC.out).2.2.2,hxg,HH.out]; rfl) (fun _ _ _ _ _ h => h) ?_) (fun hxg => rcw_same1 HRZ.out hlt3 (cut_same HYC.out).1 (cut_same HYC.out).2.1 (cut_same HYC.out).2.2.1 hxg (by rw [(cut_same HYC.out).2.2.2,hxg,HH.out]; rfl) (fun _ _ _ _ _ h => h) ?_)
                  all_goals
                    clear HXGK
                    intro W16 hb16
                    have HXG := hid hxg
                    have HB16 := hid (bt HBJ.out (bt HB15.out hb16))
                    have a10 : W16.cell? ⟨bb, off + j * 13 + 10, none⟩ = some (.bool x.g) := (HC.out.below (bt HB15.out hb16)).c10
                    rw [hxg] at a10
                    clear hb16 hxg
                    go_wp2_with fail
                    go_roundw
                    case rel => exact ⟨j + 1, _, hlt3, (by have := HCNT.out; rw [HH.out, HXG.out] at this; simp at this; omega), rfl, by go_num, HB16.out⟩
                    case measure => simp [intOf]; omega
              · obtain rfl : j = k := by omega
                have hnl3 : ¬ (j : Int) < (j : Int) := by omega
                obtain rfl : g = 0 := by
                  rw [HG.out, List.drop_of_length_le (by rw [HM.out]; exact Nat.le_refl _)]
                  rfl
                have HLJ := hid (HL11.out.below HBJ.out)
                have HLE := hid (lr_len HLJ.out HLN'.out)
                rw [HM'.out] at HLE
                go_upto_region 28 with fail
                go_wp2_with fail
                refine HLE.out.mono ?_
                rintro e W17 ⟨rfl, b17⟩
                have HL17 := hid (HLJ.out.below b17)
                have HK17 := hid ((HK11.out.below HBJ.out).below b17)
                have HCX := hid (lr_cut HL17.out cr cn cf ct HLN'.out)
                have hz : cntC cr cn cf ct T' = 0 := by rw [← HT'.out]; exact cut_twice T
                rw [hz] at HCX
                clear b17 HLE hz
                go_wp2_with (first | (refine wl_val2 (runU_cut rfl rfl HK17.out.cells) rfl ?_) | fail)
                refine HCX.out.mono ?_
                rintro e W18 ⟨rfl, hl18⟩
                have HFI : Hid (Below w.heap.size w W18) := hid (by
                  obtain ⟨_, _, _, _, _, hb5⟩ := hl18
                  rw [HBS.out] at hb5
                  exact bt HBW.out hb5)
                clear hl18 HCX
                go_wp2_with fail
                go_ret
                exact ⟨rfl, HFI.out⟩
  · go_wp2_with fail
    go_ret
    exact ⟨rfl, B1.out⟩

end Go.Proofs.Ytkaphlpohhaacaa
