/-
  RunsFew returns true for every row of calls: its walk. Printed by genufew.py.
-/
import Derived.Test.YtkaphlpohhaacaaPart20
namespace Go.Proofs.Ytkaphlpohhaacaa
open Go.RowKit
set_option linter.unusedVariables false
set_option linter.unusedSimpArgs false
set_option maxRecDepth 100000

/-- As wl_val', the operation first: it fails at once where it isn't this one. -/
theorem wl_val2 {o : Oper} {a : Act} {W : World} {ops : Array Oper} {rest : List Oper} {Q : Exit → Act → World → Prop} {v : Value} {W' : World} (h : (execOp a.eval o).run Try.prog W = .ok (.value v) W') (hgd : Region.wanted o (yielded ops a.tmps) = true) (hk : wpList Try.prog ops Q rest (a.put o.dst v) W') : wpList Try.prog ops Q (o :: rest) a W :=
  wl_val' v W' hgd h hk

set_option maxHeartbeats 16000000 in
theorem ufew_walk (A : Value) (qs : List Zq) (w : World) (h : Zc w A qs) :
    Calls Try.prog 5 #[A] w fun e w' => e = .returned (.bool true) ∧ Below w.heap.size w w' := by
  obtain ⟨a, c, rfl, hc0, hc1⟩ := Sl.form h
  obtain ⟨n, hn⟩ : ∃ n, qs.length = n := ⟨_, rfl⟩
  have HQ := hid h
  have HN := hid hn
  have HAL := hid (ualive_any w)
  rw [hn] at hc0 HQ
  unfold maxLen at hc1
  clear h
  rw [hn]
  clear hn
  go_enter Try.func5, Try.ntmps5
  go_wp2_with fail
  refine HAL.out.mono ?_
  rintro e w1 ⟨rfl, b1⟩
  have B1 := hid b1
  have HGR := hid (ugreat_any _ qs w1 (HQ.out.below b1))
  rw [HN.out] at HGR
  clear b1 HAL
  go_wp2_with fail
  refine HGR.out.mono ?_
  rintro e w2 ⟨⟨g, rfl, hg⟩, rfl⟩
  clear HGR
  cases g
  · have HQL : Hid (qs.length ≤ 100) := hid (by rw [HN.out]; exact hg rfl)
    have hn100 : n ≤ 100 := hg rfl
    have HNW := hid (new_any w1)
    obtain ⟨N, hN⟩ : ∃ N, w1.heap.size = N := ⟨_, rfl⟩
    have HNN := hid hN
    rw [hN] at HNW
    clear hg hN
    go_wp2_with fail
    refine HNW.out.mono ?_
    rintro e W3 ⟨rfl, h3, hb3⟩
    have HL3 : Hid (Lr N N [] w1 W3) := hid ⟨_, [], h3, Good.nil, rfl, hb3⟩
    have HBW : Hid (Below w.heap.size w w1) := B1
    have HBS : Hid (N = w1.heap.size) := hid HNN.out.symm
    clear h3 hb3 HNW
    go_wp2_with fail
    go_loopw [4] (fun i wr => ∃ k : Nat, k ≤ n ∧ i = .int .i64 k ∧ Lr N N (callsC (qs.take k)) w1 wr) (fun i _ => n - (intOf i).toNat)
    case atStart => exact ⟨0, Nat.zero_le _, rfl, HL3.out⟩
    case round =>
      obtain ⟨k, hk, rfl, hl⟩ := hrel
      have HL := hid hl
      clear hl HL3
      by_cases hlt : k < n
      · skip
        have hlt' : (k : Int) < (n : Int) := by omega
        have hx : k < qs.length := by rw [HN.out]; exact hlt
        obtain ⟨b, off, c', e1, hbb, hcc⟩ := HQ.out.inv (by rw [HN.out]; omega)
        rw [HN.out] at e1
        simp only [Value.slice.injEq] at e1
        obtain ⟨rfl, -, rfl⟩ := e1
        obtain ⟨q, hq⟩ : ∃ q, qs[k] = q := ⟨_, rfl⟩
        have hzk := hcc k hx
        rw [hq] at hzk
        obtain ⟨T, hT⟩ : ∃ T, callsC (qs.take k) = T := ⟨_, rfl⟩
        rw [hT] at HL
        have hlen := callsC_len HQL.out k (by omega)
        rw [hT] at hlen
        have hnx := callsC_take hx
        rw [hT, hq] at hnx
        have hbN : b < N := by have := HBW.out.size; have := HBS.out; omega
        have HZ : Hid (Zk wr b (off + k * 19) q) := hid (by
          obtain ⟨_, _, _, _, _, hb5⟩ := HL.out
          exact (hzk.below HBW.out).kept (hb5.block b hbN))
        have HNX := hid hnx
        have HLN : Hid (T.length ≤ 20000) := hid (by have := HQL.out; omega)
        have HBN := hid hbN
        have c0 := HZ.out.c0
        have HCU := hid (lr_cutk HL.out q.r q.n q.f q.t HLN.out hbN)
        clear hcc hq hzk hT hlen hnx hbb hx hbN
        by_cases hw0 : q.w = 0
        · rw [hw0] at c0
          have HW0 := hid hw0
          clear hw0
          go_upto_region 10 with fail
          refine few_put (N := N) (r := N) (b := b) (off := off) (n := n) (c := c) (k := k) (q := q) (T := T) (w0 := w1) HZ.out HL.out HBN.out hlt HLN.out (fun _ _ _ _ _ h => h) ?_
          intro W5 hl5
          have HL5 : Hid (Lr N N (callsC (qs.take (k + 1))) w1 W5) := hid (by rw [HNX.out]; unfold callC; rw [if_pos HW0.out]; exact hl5)
          clear hl5 c0
          go_wp2_with fail
          go_roundw
          case rel => exact ⟨k + 1, hlt, by go_num, HL5.out⟩
          case measure => simp [intOf]; omega
        · have hw1 : (q.w == 0) = false := by simpa using hw0
          have HW0 := hid hw0
          clear hw0
          go_wp2_with (first | (refine wl_val' _ _ rfl (runU_cut rfl rfl HZ.out.k) ?_) | fail)
          refine HCU.out.mono ?_
          rintro e W5 ⟨rfl, hl5, _⟩
          have HL5 : Hid (Lr N N (callsC (qs.take (k + 1))) w1 W5) := hid (by rw [HNX.out]; unfold callC; rw [if_neg HW0.out]; exact hl5)
          clear hl5 c0
          go_wp2_with fail
          go_roundw
          case rel => exact ⟨k + 1, hlt, by go_num, HL5.out⟩
          case measure => simp [intOf]; omega
      · obtain rfl : k = n := by omega
        have hnl : ¬ (k : Int) < (k : Int) := by omega
        have e : qs.take k = qs := List.take_of_length_le (by rw [HN.out]; exact Nat.le_refl _)
        rw [e] at HL
        have hlen := callsC_len HQL.out k (by rw [HN.out]; exact Nat.le_refl _)
        rw [e] at hlen
        obtain ⟨T, hT⟩ : ∃ T, callsC qs = T := ⟨_, rfl⟩
        rw [hT] at HL hlen
        have HLN : Hid (T.length ≤ 20000) := hid (by omega)
        clear e hlen hT
        have HR := hid (lr_runs HL.out HLN.out)
        have HGJ := hid (lr_good HL.out).1
        have HJL : Hid ((J T).length ≤ T.length) := hid (by have hgl := good_len (lr_good HL.out).1; rwa [(lr_good HL.out).2] at hgl)
        obtain ⟨L, hL⟩ : ∃ L, J T = L := ⟨_, rfl⟩
        rw [hL] at HR HGJ HJL
        clear hL
        go_wp2_with fail
        refine HR.out.mono ?_
        rintro e W7 ⟨u, rfl, hu7, b7⟩
        have HL7 := hid (HL.out.below b7)
        have HU7 := hid hu7.us
        obtain ⟨ua, uc, rfl, _, _⟩ := hu7.us.form
        obtain ⟨m, hm⟩ : ∃ m, L.length = m := ⟨_, rfl⟩
        have HM := hid hm
        rw [hm] at HU7 ⊢
        have HML : Hid (m ≤ 20000) := hid (by have := HLN.out; have := HJL.out; omega)
        clear b7 hu7 hm HR
        go_wp2_with fail
        go_loopw [6] (fun i wr => ∃ j : Nat, j ≤ m ∧ i = .int .i64 ((j : Int) + 1) ∧ Below W7.heap.size W7 wr) (fun i _ => m + 1 - (intOf i).toNat)
        case atStart => exact ⟨0, Nat.zero_le _, rfl, Below.refl _ _⟩
        case round =>
          obtain ⟨j, hj, rfl, hb⟩ := hrel
          have HBR := hid hb
          have hml := HML.out
          clear hb
          by_cases hlt2 : j + 1 < m
          · have hlt3 : (j : Int) + 1 < (m : Int) := by omega
            have hj0 : (j : Int) < (m : Int) := by omega
            obtain ⟨bb, off, c7, hv7, _, _, hbl, hcell⟩ := HU7.out.inv (by rw [HM.out]; omega)
            rw [HM.out] at hv7
            simp only [Value.slice.injEq] at hv7
            obtain ⟨rfl, -, rfl⟩ := hv7
            have hx1 : j < L.length := by rw [HM.out]; omega
            have hx2 : j + 1 < L.length := by rw [HM.out]; omega
            have hfew := HGJ.out.few j hx2
            obtain ⟨x, hxx⟩ : ∃ x, L[j] = x := ⟨_, rfl⟩
            obtain ⟨y, hyy⟩ : ∃ y, L[j + 1] = y := ⟨_, rfl⟩
            have hgx := HGJ.out.gd _ (List.getElem_mem hx1)
            have hC1 := (hcell j hx1).below HBR.out
            have hC2 := (hcell (j + 1) hx2).below HBR.out
            rw [hxx] at hC1 hfew hgx
            rw [hyy] at hC2 hfew
            have HC1 := hid hC1
            have HC2 := hid hC2
            have HFW := hid hfew
            have hf0 := hgx.g.fi.f
            have hl0 := hgx.g.fi.l
            have hs0 := hgx.g.fi.s
            have hj2 : j ≤ 20000 := by omega
            clear hcell hC1 hC2 hfew hgx hxx hyy hx1 hx2 hbl
            go_upto_region 17 with (first
              | (refine wl_ldI rfl rfl rfl HC1.out ?_)
              | (refine wl_alI rfl rfl ?_; intro W8 b8 e8 hub8 hb8; have HV8 := hid hub8; have HB8 := hid hb8; have HG8 := hid (by omega : wr.heap.size ≤ b8); clear e8 hub8 hb8)
              | (refine wl_stI rfl rfl rfl rfl HV8.out ?_; intro W9 hu9 hf9; have HU9 := hid hu9; have HB9 := hid (below_fr HB8.out hf9 HG8.out); have HC9 := hid (HC2.out.below HB9.out); clear hu9 hf9))
            go_upto_region 18 with (first
              | (refine wl_ldI rfl rfl rfl HC9.out ?_)
              | (refine wl_alI rfl rfl ?_; intro W10 b10 e10 hub10 hb10; have HV10 := hid hub10; have HB10 := hid (bt HB9.out hb10); have HG10 := hid (by have := HB9.out.size; omega : wr.heap.size ≤ b10); have HA10 := hid (HU9.out.below hb10); have HN10 := hid (by have := HU9.out.lt; omega : b8 ≠ b10); clear e10 hub10 hb10)
              | (refine wl_stI rfl rfl rfl rfl HV10.out ?_; intro W11 hu11 hf11; have HU11 := hid hu11; have HB11 := hid (below_fr HB10.out hf11 HG10.out); have HA11 := hid (HA10.out.fr hf11 HN10.out); clear hu11 hf11))
            have a2 : W11.cell? ⟨b8, 2, none⟩ = some (.int .i64 x.f) := HA11.out.cells.c2
            have a3 : W11.cell? ⟨b8, 3, none⟩ = some (.int .i64 x.l) := HA11.out.cells.c3
            have a10 : W11.cell? ⟨b8, 10, none⟩ = some (.bool x.g) := HA11.out.cells.c10
            have a11 : W11.cell? ⟨b8, 11, none⟩ = some (.bool x.m) := HA11.out.cells.c11
            have d2 : W11.cell? ⟨b10, 2, none⟩ = some (.int .i64 y.f) := HU11.out.cells.c2
            have d10 : W11.cell? ⟨b10, 10, none⟩ = some (.bool y.g) := HU11.out.cells.c10
            have d11 : W11.cell? ⟨b10, 11, none⟩ = some (.bool y.m) := HU11.out.cells.c11
            have HB12 := hid (bt HBR.out HB11.out)
            have a0 : W11.cell? ⟨b8, 0, none⟩ = some (.int .i64 x.r) := HA11.out.cells.c0
            have a1 : W11.cell? ⟨b8, 1, none⟩ = some (.int .i64 x.n) := HA11.out.cells.c1
            have d0 : W11.cell? ⟨b10, 0, none⟩ = some (.int .i64 y.r) := HU11.out.cells.c0
            have d1 : W11.cell? ⟨b10, 1, none⟩ = some (.int .i64 y.n) := HU11.out.cells.c1
            by_cases hr : x.r = y.r
            · by_cases hn2 : x.n = y.n
              · cases he : ((x.f + x.l == y.f) : Bool)
                · go_wp2
                  go_roundw
                  case rel => exact ⟨j + 1, by omega, by go_num, HB12.out⟩
                  case measure => simp [intOf]; omega
                · have he2 : x.f + x.l = y.f := by simpa using he
                  have fw := HFW.out
                  unfold joinsB sameI at fw
                  rw [decide_eq_true (And.intro hr hn2), decide_eq_true he2] at fw
                  clear he2
                  obtain ⟨xg, hxg⟩ : ∃ g, x.g = g := ⟨_, rfl⟩
                  obtain ⟨yg, hyg⟩ : ∃ g, y.g = g := ⟨_, rfl⟩
                  obtain ⟨xm, hxm⟩ : ∃ g, x.m = g := ⟨_, rfl⟩
                  obtain ⟨ym, hym⟩ : ∃ g, y.m = g := ⟨_, rfl⟩
                  rw [hxg, hyg, hxm, hym] at fw
                  rw [hxg] at a10
                  rw [hyg] at d10
                  rw [hxm] at a11
                  rw [hym] at d11
                  clear hxg hyg hxm hym
                  cases xg <;> cases yg <;> cases xm <;> cases ym <;> (try (exact absurd fw (by decide)))
                  all_goals
                    clear fw
                    go_wp2
                    go_roundw
                    case rel => exact ⟨j + 1, by omega, by go_num, HB12.out⟩
                    case measure => simp [intOf]; omega
              · go_wp2
                go_roundw
                case rel => exact ⟨j + 1, by omega, by go_num, HB12.out⟩
                case measure => simp [intOf]; omega
            · go_wp2
              go_roundw
              case rel => exact ⟨j + 1, by omega, by go_num, HB12.out⟩
              case measure => simp [intOf]; omega
          · have hnl3 : ¬ (j : Int) + 1 < (m : Int) := by omega
            have HFI : Hid (Below w.heap.size w wr) := hid (by
              obtain ⟨_, _, _, _, _, hb5⟩ := HL7.out
              have h6 := hb5.trans (HBR.out.mono (by have := hb5.size; have := HBS.out; omega))
              rw [HBS.out] at h6
              exact bt HBW.out h6)
            go_wp2
            go_ret
            exact ⟨rfl, HFI.out⟩
  · go_wp2_with fail
    go_ret
    exact ⟨rfl, B1.out⟩

end Go.Proofs.Ytkaphlpohhaacaa
