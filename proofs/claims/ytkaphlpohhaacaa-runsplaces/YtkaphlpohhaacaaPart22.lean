/-
  Parts of the proof, one behind the other; what each proves stands at its head.
-/
import Derived.Test.YtkaphlpohhaacaaPart19
import Derived.Test.YtkaphlpohhaacaaPart20
import Derived.Test.YtkaphlpohhaacaaPart21

/-
  Where a run's characters stand in a row of characters; the bytes of the first runs.
-/
namespace Go.Proofs.Ytkaphlpohhaacaa
open Go.RowKit
set_option linter.unusedVariables false
set_option linter.unusedSimpArgs false
set_option maxRecDepth 100000

theorem flat_take {xs : List Un} {k : Nat} (hk : k < xs.length) : flat (xs.take (k + 1)) = flat (xs.take k) ++ chs (xs[k]) := by
  rw [List.take_succ_eq_append_getElem hk, flat_app]
  congr 1
  simp [flat]
theorem flat_takelen {xs : List Un} {k l : Nat} (hk : k < xs.length) (hl : (xs[k]).l = (l : Int)) : (flat (xs.take (k + 1))).length = (flat (xs.take k)).length + l := by
  rw [flat_take hk, List.length_append, chs_len, hl, Int.toNat_natCast]
theorem textU_take1 {xs : List Un} {k : Nat} (hk : k < xs.length) (h : liveB (xs[k]) = true) : textU (xs.take (k + 1)) = textU (xs.take k) ++ (xs[k]).t := by
  apply ba_ext
  rw [ba_app]
  show ((textL (xs.take (k + 1))).toArray).toList = ((textL (xs.take k)).toArray).toList ++ _
  rw [List.toList_toArray, List.toList_toArray]
  unfold textL
  rw [livesU_take hk, h, List.flatMap_append]
  simp
theorem textU_take0 {xs : List Un} {k : Nat} (hk : k < xs.length) (h : liveB (xs[k]) = false) : textU (xs.take (k + 1)) = textU (xs.take k) := by
  unfold textU textL
  rw [livesU_take hk, h]
  simp
theorem textU_len (xs : List Un) : (textU xs).size = (textL xs).length := rfl
theorem textU_le {xs : List Un} (h : Fis xs) : (textU xs).size ≤ (flat xs).length := by
  rw [textU_len]
  induction xs with
  | nil => exact Nat.zero_le _
  | cons x xs ih =>
    have h1 := (h x (List.mem_cons_self ..)).t
    have h2 := ih (fun z hz => h z (List.mem_cons_of_mem _ hz))
    rw [flat_cons, List.length_append, chs_len]
    unfold textL livesU at h2 ⊢
    rw [List.filter_cons]
    split
    · rw [List.flatMap_cons, List.length_append, ← ba_size]; omega
    · omega
theorem ch_same {x y : Un} {q : Nat} (h : y = chU x q) : (!sameI y.r y.n x.r x.n) = false ∧ decide (¬ y.f = x.f + q) = false ∧ decide (¬ y.l = 1) = false ∧ (y.g != x.g) = false ∧ (y.m != x.m) = false ∧ decide (¬ y.t = x.t.extract q (q + 1)) = false := by
  subst h
  unfold chU sameI
  simp
theorem plc_at {T L : List Un} (hT : flat L = T) (hU : Uq T) {j q p l : Nat} {x : Un} (hj : j < L.length) (hx : L[j] = x) (hl : x.l = (l : Int)) (hq : q < l) (hp : p = (flat (L.take j)).length + q) :
    ∃ h : p < T.length, T[p] = chU x q ∧ idxU (isC x.r x.n (x.f + q)) T = (p : Int) := by
  subst hT hp
  have hg := flat_get (xs := L) (k := j) (q := q) hj (by rw [hx, hl]; omega)
  rw [hx] at hg
  obtain ⟨h, he⟩ := List.getElem?_eq_some_iff.1 hg
  refine ⟨h, he, ?_⟩
  have := hU.idx h
  rw [he] at this
  exact this

end Go.Proofs.Ytkaphlpohhaacaa

/-
  RunsPlaces returns true for every row of calls: its walk. Printed by genuplw.py.
-/
namespace Go.Proofs.Ytkaphlpohhaacaa
open Go.RowKit
set_option linter.unusedVariables false
set_option linter.unusedSimpArgs false
set_option maxRecDepth 100000

/-- As wl_val', the operation first: it fails at once where it isn't this one. -/
theorem wl_val2 {o : Oper} {a : Act} {W : World} {ops : Array Oper} {rest : List Oper} {Q : Exit → Act → World → Prop} {v : Value} {W' : World} (h : (execOp a.eval o).run Try.prog W = .ok (.value v) W') (hgd : Region.wanted o (yielded ops a.tmps) = true) (hk : wpList Try.prog ops Q rest (a.put o.dst v) W') : wpList Try.prog ops Q (o :: rest) a W :=
  wl_val' v W' hgd h hk

set_option maxHeartbeats 16000000 in
theorem uplc_walk (A : Value) (qs : List Zq) (w : World) (h : Zc w A qs) :
    Calls Try.prog 4 #[A] w fun e w' => e = .returned (.bool true) ∧ Below w.heap.size w w' := by
  obtain ⟨a, c, rfl, hc0, hc1⟩ := Sl.form h
  obtain ⟨n, hn⟩ : ∃ n, qs.length = n := ⟨_, rfl⟩
  have HQ := hid h
  have HN := hid hn
  have HAL := hid (ualive_any w)
  rw [hn] at hc0 HQ
  unfold maxLen at hc1
  clear h
  rw [hn]
  clear hn
  go_enter Try.func4, Try.ntmps4
  go_wp2_with fail
  refine HAL.out.mono ?_
  rintro e w1 ⟨rfl, b1⟩
  have B1 := hid b1
  have HGR := hid (ugreat_any _ qs w1 (HQ.out.below b1))
  rw [HN.out] at HGR
  clear b1 HAL
  go_wp2_with fail
  refine HGR.out.mono ?_
  rintro e w2 ⟨⟨g, rfl, hg⟩, rfl⟩
  clear HGR
  cases g
  · have HQL : Hid (qs.length ≤ 100) := hid (by rw [HN.out]; exact hg rfl)
    have hn100 : n ≤ 100 := hg rfl
    have HNW := hid (new_any w1)
    obtain ⟨N, hN⟩ : ∃ N, w1.heap.size = N := ⟨_, rfl⟩
    have HNN := hid hN
    rw [hN] at HNW
    clear hg hN
    go_wp2_with fail
    refine HNW.out.mono ?_
    rintro e W3 ⟨rfl, h3, hb3⟩
    have HL3 : Hid (Lr N N [] w1 W3) := hid ⟨_, [], h3, Good.nil, rfl, hb3⟩
    have HBW : Hid (Below w.heap.size w w1) := B1
    have HBS : Hid (N = w1.heap.size) := hid HNN.out.symm
    clear h3 hb3 HNW
    go_wp2_with fail
    go_loopw [4] (fun i wr => ∃ k : Nat, k ≤ n ∧ i = .int .i64 k ∧ Lr N N (callsC (qs.take k)) w1 wr) (fun i _ => n - (intOf i).toNat)
    case atStart => exact ⟨0, Nat.zero_le _, rfl, HL3.out⟩
    case round =>
      obtain ⟨k, hk, rfl, hl⟩ := hrel
      have HL := hid hl
      clear hl HL3
      by_cases hlt : k < n
      · skip
        have hlt' : (k : Int) < (n : Int) := by omega
        have hx : k < qs.length := by rw [HN.out]; exact hlt
        obtain ⟨b, off, c', e1, hbb, hcc⟩ := HQ.out.inv (by rw [HN.out]; omega)
        rw [HN.out] at e1
        simp only [Value.slice.injEq] at e1
        obtain ⟨rfl, -, rfl⟩ := e1
        obtain ⟨q, hq⟩ : ∃ q, qs[k] = q := ⟨_, rfl⟩
        have hzk := hcc k hx
        rw [hq] at hzk
        obtain ⟨T, hT⟩ : ∃ T, callsC (qs.take k) = T := ⟨_, rfl⟩
        rw [hT] at HL
        have hlen := callsC_len HQL.out k (by omega)
        rw [hT] at hlen
        have hnx := callsC_take hx
        rw [hT, hq] at hnx
        have hbN : b < N := by have := HBW.out.size; have := HBS.out; omega
        have HZ : Hid (Zk wr b (off + k * 19) q) := hid (by
          obtain ⟨_, _, _, _, _, hb5⟩ := HL.out
          exact (hzk.below HBW.out).kept (hb5.block b hbN))
        have HNX := hid hnx
        have HLN : Hid (T.length ≤ 20000) := hid (by have := HQL.out; omega)
        have HBN := hid hbN
        have c0 := HZ.out.c0
        have HCU := hid (lr_cutk HL.out q.r q.n q.f q.t HLN.out hbN)
        clear hcc hq hzk hT hlen hnx hbb hx hbN
        by_cases hw0 : q.w = 0
        · rw [hw0] at c0
          have HW0 := hid hw0
          clear hw0
          go_upto_region 10 with fail
          refine places_put (N := N) (r := N) (b := b) (off := off) (n := n) (c := c) (k := k) (q := q) (T := T) (w0 := w1) HZ.out HL.out HBN.out hlt HLN.out (fun _ _ _ _ _ h => h) ?_
          intro W5 hl5
          have HL5 : Hid (Lr N N (callsC (qs.take (k + 1))) w1 W5) := hid (by rw [HNX.out]; unfold callC; rw [if_pos HW0.out]; exact hl5)
          clear hl5 c0
          go_wp2_with fail
          go_roundw
          case rel => exact ⟨k + 1, hlt, by go_num, HL5.out⟩
          case measure => simp [intOf]; omega
        · have hw1 : (q.w == 0) = false := by simpa using hw0
          have HW0 := hid hw0
          clear hw0
          go_wp2_with (first | (refine wl_val' _ _ rfl (runU_cut rfl rfl HZ.out.k) ?_) | fail)
          refine HCU.out.mono ?_
          rintro e W5 ⟨rfl, hl5, _⟩
          have HL5 : Hid (Lr N N (callsC (qs.take (k + 1))) w1 W5) := hid (by rw [HNX.out]; unfold callC; rw [if_neg HW0.out]; exact hl5)
          clear hl5 c0
          go_wp2_with fail
          go_roundw
          case rel => exact ⟨k + 1, hlt, by go_num, HL5.out⟩
          case measure => simp [intOf]; omega
      · obtain rfl : k = n := by omega
        have hnl : ¬ (k : Int) < (k : Int) := by omega
        have e : qs.take k = qs := List.take_of_length_le (by rw [HN.out]; exact Nat.le_refl _)
        rw [e] at HL
        have hlen := callsC_len HQL.out k (by rw [HN.out]; exact Nat.le_refl _)
        rw [e] at hlen
        obtain ⟨T, hT⟩ : ∃ T, callsC qs = T := ⟨_, rfl⟩
        have HUQ0 : Hid (Uq T) := hid (hT ▸ Uq.calls qs)
        rw [hT] at HL hlen
        have HLN : Hid (T.length ≤ 20000) := hid (by omega)
        clear e hlen hT
        have HUQ : Hid (Uq T) := HUQ0
        have HR := hid (lr_runs HL.out HLN.out)
        have HGJ := hid (lr_good HL.out).1
        have HFT := hid (lr_good HL.out).2
        obtain ⟨L, hL⟩ : ∃ L, J T = L := ⟨_, rfl⟩
        have HJT := hid hL
        rw [hL] at HR HGJ HFT
        clear hL
        have HJL : Hid (L.length ≤ T.length) := hid (by have hgl := good_len HGJ.out; rwa [HFT.out] at hgl)
        go_wp2_with fail
        refine HR.out.mono ?_
        rintro e W7 ⟨u, rfl, hu7, b7⟩
        have HL7 := hid (HL.out.below b7)
        have HU7 := hid hu7.us
        obtain ⟨ua, uc, rfl, _, _⟩ := hu7.us.form
        obtain ⟨m, hm⟩ : ∃ m, L.length = m := ⟨_, rfl⟩
        have HM := hid hm
        rw [hm] at HU7 ⊢
        have HML : Hid (m ≤ 20000) := hid (by have := HLN.out; have := HJL.out; have := HM.out; omega)
        clear b7 hu7 hm HR
        go_wp2_with fail
        go_loopw [6, 7, 8] (fun at' live i wr => ∃ j P : Nat, ∃ S : ByteArray, j ≤ m ∧ P = (flat (L.take j)).length ∧ S = textU (L.take j) ∧ at' = .int .i64 (P : Int) ∧ live = .string S ∧ i = .int .i64 (j : Int) ∧ Below W7.heap.size W7 wr) (fun _ _ i _ => m - (intOf i).toNat)
        case atStart => exact ⟨0, 0, _, Nat.zero_le _, rfl, rfl, rfl, rfl, rfl, Below.refl _ _⟩
        case round =>
          obtain ⟨j, P, S, hj, hP, hS, rfl, rfl, rfl, hb⟩ := hrel
          have HP := hid hP
          have HS := hid hS
          have HBR := hid hb
          have hml := HML.out
          clear hb hP hS
          by_cases hlt2 : j < m
          · have hj0 : (j : Int) < (m : Int) := by omega
            obtain ⟨bb, off, c7, hv7, _, _, hbl, hcell⟩ := HU7.out.inv (by rw [HM.out]; omega)
            rw [HM.out] at hv7
            simp only [Value.slice.injEq] at hv7
            obtain ⟨rfl, -, rfl⟩ := hv7
            have hx1 : j < L.length := by rw [HM.out]; omega
            obtain ⟨x, hxx⟩ : ∃ x, L[j] = x := ⟨_, rfl⟩
            have hgx := HGJ.out.gd _ (List.getElem_mem hx1)
            have hC1 := (hcell j hx1).below HBR.out
            rw [hxx] at hC1 hgx
            have HC1 := hid hC1
            obtain ⟨l, hl⟩ : ∃ l : Nat, x.l = (l : Int) := ⟨x.l.toNat, by have := hgx.g.fi.l; omega⟩
            have HXL := hid hl
            have HX1 := hid hx1
            have HXX : Hid (L[j]'HX1.out = x) := hid hxx
            have HGX := hid hgx
            have hf0 := hgx.g.fi.f
            have hs0 := hgx.g.fi.s
            have hl1 := hgx.pos
            rw [hl] at hl1 hs0
            have hP2 : P ≤ 20000 := by
              have h1 := HLN.out
              rw [HP.out]
              rw [← HFT.out] at h1
              have h2 : (flat L).length = (flat (L.take j)).length + (flat (L.drop j)).length := by rw [← List.length_append, ← flat_app, List.take_append_drop]
              omega
            have hj2 : j ≤ 20000 := by omega
            clear hcell hC1 hgx hxx hx1 hbl hl
            have hreg : (decide (¬ (x.t.size : Int) = x.l) = false) ∧ (decide (x.l < 1) = false) ∧ (x.m = true → decide (1 < x.l) = false) := by
              have h1 := HGX.out.g.fi.t
              have h2 := HGX.out.pos
              have h3 := HGX.out.g.m
              refine ⟨by simp [h1], by simp; omega, fun hm => by have := h3 hm; simp; omega⟩
            have HREG := hid hreg
            clear hreg
            go_upto_region 18 with fail
            have HREGK : ∀ {X : Prop}, (x.m = false → X) → (x.m = true → X) → X := fun h1 h2 => by
              cases hxm : x.m
              · exact h1 hxm
              · exact h2 hxm
            refine HREGK (fun hxm => plc_one0 HC1.out hlt2 HREG.out.1 HREG.out.2.1 hxm (fun _ _ _ _ _ h => h) ?_) (fun hxm => plc_one1 HC1.out hlt2 HREG.out.1 HREG.out.2.1 hxm (HREG.out.2.2 hxm) (fun _ _ _ _ _ h => h) ?_)
            all_goals
              clear HREGK
              intro W8 hb8
              have HB8 := hid (bt HBR.out hb8)
              have HC8 := hid (HC1.out.below hb8)
              have HXM := hid hxm
              clear hb8 hxm HREG
              go_wp2_with fail
              go_loopw [6, 9] (fun at' i wr => ∃ q p : Nat, q ≤ l ∧ p = P + q ∧ at' = .int .i64 (p : Int) ∧ i = .int .i64 (q : Int) ∧ Below W8.heap.size W8 wr) (fun _ i _ => l - (intOf i).toNat)
              case atStart => exact ⟨0, P, Nat.zero_le _, rfl, rfl, rfl, Below.refl _ _⟩
              case round =>
                obtain ⟨q, p, hq, hp, rfl, rfl, hb⟩ := hrel
                have HPQ := hid hp
                have HBQ := hid hb
                clear hb hp
                have a3 : wr.cell? ⟨bb, off + j * 13 + 3, none⟩ = some (.int .i64 (l : Int)) := by
                  have h := (HC8.out.below HBQ.out).c3
                  rwa [HXL.out] at h
                by_cases hlq : q < l
                · have hlq2 : (q : Int) < (l : Int) := by omega
                  have hpl : p ≤ 20100 := by have := HPQ.out; omega
                  have hat : ∃ h : p < T.length, ∃ y, T[p] = y ∧ y = chU x q ∧ idxU (isC x.r x.n (x.f + q)) T = (p : Int) := by
                    obtain ⟨h, h1, h2⟩ := plc_at (p := p) HFT.out HUQ.out HX1.out HXX.out HXL.out hlq (by rw [HPQ.out, HP.out])
                    exact ⟨h, _, rfl, h1, h2⟩
                  obtain ⟨hpT, y, hy, hyc, hix⟩ := hat
                  have HLR := hid (HL7.out.below (HB8.out.trans (HBQ.out.mono HB8.out.size)))
                  have HAT := hid (lr_at_yes HLR.out HLN.out p hpT)
                  rw [hy] at HAT
                  have HYC := hid hyc
                  have HIX := hid hix
                  have HCQ := hid (HC8.out.below HBQ.out)
                  clear hy hyc hix hpT
                  go_wp2_with fail
                  refine HAT.out.mono ?_
                  rintro e W9 ⟨rfl, b9⟩
                  have HB9 := hid b9
                  clear b9 HAT a3
                  go_upto_region 24 with (first
                    | (refine wl_alI rfl rfl ?_; intro W10 b10 e10 hub10 hb10; have HV10 := hid hub10; have HB10 := hid (bt HB9.out hb10); have HG10 := hid (by have := HB9.out.size; omega : wr.heap.size ≤ b10); clear e10 hub10 hb10)
                    | (refine wl_stI rfl rfl rfl rfl HV10.out ?_; intro W11 hu11 hf11; have HU11 := hid hu11; have HB11 := hid (below_fr HB10.out hf11 HG10.out); clear hu11 hf11))
                  refine plc_find (HCQ.out.below HB11.out) (HLR.out.below HB11.out) HLN.out HIX.out (Int.natCast_nonneg _) hlt2 hf0 (by omega) (fun _ _ _ _ _ h => h) ?_
                  intro W12 hb12
                  have HB12 := hid (bt HB11.out hb12)
                  have HRV : Hid (Rv W12 b10 bb (off + j * 13) y x) := hid ⟨HU11.out.below hb12, HCQ.out.below HB12.out⟩
                  clear hb12
                  go_upto_region 25 with fail
                  refine plc_same HRV.out hlt2 hf0 (by omega) (by have := HGX.out.g.fi.t; have := HXL.out; omega) (by omega) (ch_same HYC.out).1 (ch_same HYC.out).2.1 (ch_same HYC.out).2.2.1 (ch_same HYC.out).2.2.2.1 (ch_same HYC.out).2.2.2.2.1 (ch_same HYC.out).2.2.2.2.2 (fun _ _ _ _ _ h => h) ?_
                  intro W13 hb13
                  have HB13 := hid (bt HBQ.out (bt HB12.out hb13))
                  clear hb13 HRV
                  go_wp2_with fail
                  go_roundw
                  case rel => exact ⟨q + 1, p + 1, hlq, by have := HPQ.out; omega, by go_num, by go_num, HB13.out⟩
                  case measure => simp [intOf]; omega
                · obtain rfl : q = l := by omega
                  have hnlq : ¬ (q : Int) < (q : Int) := by omega
                  have HPE : Hid (p = (flat (L.take (j + 1))).length) := hid (by rw [HPQ.out, HP.out, flat_takelen HX1.out (by rw [HXX.out]; exact HXL.out)])
                  have HCE := hid (HC8.out.below HBQ.out)
                  have HBE := hid (bt HB8.out HBQ.out)
                  have a10 : wr.cell? ⟨bb, off + j * 13 + 10, none⟩ = some (.bool x.g) := HCE.out.c10
                  have a11 : wr.cell? ⟨bb, off + j * 13 + 11, none⟩ = some (.bool x.m) := HCE.out.c11
                  have a12 : wr.cell? ⟨bb, off + j * 13 + 12, none⟩ = some (.string x.t) := HCE.out.c12
                  have HSZ : Hid (S.size + x.t.size ≤ 1000000) := hid (by
                    have h1 := textU_le (HGJ.out.fis.take j)
                    have h2 := HGX.out.g.fi.t
                    have h3 := HXL.out
                    rw [← HS.out, ← HP.out] at h1
                    omega)
                  rw [HXM.out] at a11
                  obtain ⟨xg, hxg⟩ : ∃ g, x.g = g := ⟨_, rfl⟩
                  have HXG := hid hxg
                  rw [hxg] at a10
                  clear hxg
                  cases xg
                  all_goals
                    first
                      | (have HST : Hid (S ++ x.t = textU (L.take (j + 1))) := hid (by rw [textU_take1 HX1.out (by rw [HXX.out]; unfold liveB; rw [HXG.out, HXM.out]; rfl), HXX.out, HS.out])
                         go_wp2_with (first | (refine wl_val2 (runU_cat rfl rfl rfl HSZ.out) rfl ?_) | fail)
                         go_roundw
                         case rel => exact ⟨j + 1, p, _, hlt2, HPE.out, HST.out, rfl, rfl, by go_num, HBE.out⟩
                         case measure => simp [intOf]; omega)
                      | (have HST : Hid (S = textU (L.take (j + 1))) := hid (by rw [textU_take0 HX1.out (by rw [HXX.out]; unfold liveB; rw [HXG.out, HXM.out]; rfl), HS.out])
                         go_wp2_with fail
                         go_roundw
                         case rel => exact ⟨j + 1, p, _, hlt2, HPE.out, HST.out, rfl, rfl, by go_num, HBE.out⟩
                         case measure => simp [intOf]; omega)
          · obtain rfl : j = m := by omega
            have hnl3 : ¬ (j : Int) < (j : Int) := by omega
            have e : L.take j = L := List.take_of_length_le (by rw [HM.out]; exact Nat.le_refl _)
            have hP3 := HP.out
            have hS3 := HS.out
            rw [e, HFT.out] at hP3
            rw [e] at hS3
            clear e
            subst hP3 hS3
            have HLF := hid (HL7.out.below HBR.out)
            have HLE := hid (lr_len HLF.out HLN.out)
            have HSE : Hid (((textU L).size : Int) = liveU L) := hid (by rw [textU_len]; exact textL_size HGJ.out.fis)
            go_upto_region 30 with fail
            go_wp2_with fail
            refine HLE.out.mono ?_
            rintro e W14 ⟨rfl, b14⟩
            have HL14 := hid (HLF.out.below b14)
            have HB14 := hid (bt HBR.out b14)
            have HTX := hid (lr_text HL14.out HLN.out)
            rw [HJT.out] at HTX
            clear b14 HLE
            go_wp2_with fail
            refine HTX.out.mono ?_
            rintro e W15 ⟨rfl, b15⟩
            have HL15 := hid (HL14.out.below b15)
            have HB15 := hid (bt HB14.out b15)
            have HLV := hid (lr_live HL15.out HLN.out)
            rw [HJT.out, ← HSE.out] at HLV
            clear b15 HTX
            go_wp2_with fail
            refine HLV.out.mono ?_
            rintro e W16 ⟨rfl, b16⟩
            have HFI : Hid (Below w.heap.size w W16) := hid (by
              obtain ⟨_, _, _, _, _, hb5⟩ := HL15.out
              have h6 := hb5.trans (b16.mono (by have := hb5.size; have := HBS.out; omega))
              rw [HBS.out] at h6
              exact bt HBW.out h6)
            clear b16 HLV
            go_wp2_with fail
            go_ret
            exact ⟨rfl, HFI.out⟩
  · go_wp2_with fail
    go_ret
    exact ⟨rfl, B1.out⟩

end Go.Proofs.Ytkaphlpohhaacaa
