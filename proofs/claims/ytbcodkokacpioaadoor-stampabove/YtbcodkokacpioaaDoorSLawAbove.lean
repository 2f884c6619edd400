/-
  StampAbove: what is ticked is above all that was ticked or seen ahead of it: for every replica and every row of calls, where the package variables hold what the program lays there.
-/
import Derived.Test.YtbcodkokacpioaaDoorSAlive
import Derived.Test.YtbcodkokacpioaaDoorSCalls
import Derived.StillTailTactics
namespace Go.Proofs.YtbcodkokacpioaaDoor
open Go.RowKit
set_option linter.unusedVariables false

theorem rr_bounds {r : Int} (h : rr r = true) : 0 ≤ r ∧ r < 16 := by simpa [rr] using h

set_option maxHeartbeats 8000000 in
set_option maxRecDepth 100000 in
theorem above_walk (r : Int) (v : Value) (qs : List Qu) (w : World) (h : Cq w v qs) (hL : Lay w) :
    Calls Tryd.prog 7 #[.int .i64 r, v] w fun e w' => e = .returned (.bool true) ∧ Below w.heap.size w w' := by
  have hlen := h.len
  unfold maxLen at hlen
  have HA := hid (alive_any w hL)
  by_cases hbig : 500 < qs.length
  · obtain ⟨a, c, rfl, _⟩ := h
    have hb : (500 : Int) < (qs.length : Int) := by omega
    obtain ⟨n, hn⟩ : ∃ n, qs.length = n := ⟨_, rfl⟩
    rw [hn] at hb hlen ⊢
    clear hL hbig hn
    go_enter Tryd.func7, Tryd.ntmps7
    go_wp2_with fail
    refine HA.out.mono ?_
    rintro e w1 ⟨rfl, b1⟩
    go_wp2_with fail
    go_ret
    exact ⟨rfl, b1⟩
  · obtain ⟨n, hn⟩ : ∃ n, qs.length = n := ⟨_, rfl⟩
    have hv : ∃ a c, v = .slice a n c := by
      obtain ⟨a, c, e, _⟩ := h
      exact ⟨a, c, by rw [e, hn]⟩
    obtain ⟨a, c, rfl⟩ := hv
    have HQ := hid h
    have HL := hid hL
    have HN := hid hn
    rw [hn] at hbig hlen
    have hb : ¬ (500 : Int) < (n : Int) := by omega
    clear h hL hn
    cases hr : rr r
    · have hr' : (decide (r < 0) = true) ∨ (decide (r < 0) = false ∧ (15 : Int) < r) := by
        simp [rr] at hr
        by_cases h0 : r < 0
        · exact .inl (by simpa using h0)
        · exact .inr ⟨by simpa using h0, by omega⟩
      have HR := hid hr
      clear hr
      go_enter Tryd.func7, Tryd.ntmps7
      go_wp2_with fail
      refine HA.out.mono ?_
      rintro e w1 ⟨rfl, b1⟩
      go_wp2_with fail
      refine (new_none r w1 HR.out).mono ?_
      rintro e w2 ⟨rfl, rfl⟩
      have B1 := hid b1
      clear b1
      rcases hr' with h1 | ⟨h1, h2⟩
      all_goals
        go_wp2_with fail
        go_ret
        exact ⟨rfl, B1.out⟩
    · have HR := hid hr
      have hrb := rr_bounds hr
      clear hr
      go_enter Tryd.func7, Tryd.ntmps7
      go_wp2_with fail
      refine HA.out.mono ?_
      rintro e w1 ⟨rfl, b1⟩
      go_wp2_with fail
      refine (new_any r w1 HR.out).mono ?_
      rintro e w2 ⟨g, rfl, hg, hc, b2⟩
      have B2 := hid (bt b1 b2)
      have hG : w.heap.size ≤ g := Nat.le_trans b1.size hg
      have HG := hid hG
      have HC := hid hc
      clear b1 b2 hc hG hg HA
      go_wp2_with fail
      go_loopw [7, 8, 9] (fun mo la i wr => ∃ (k : Nat) (T N : Int), k ≤ n ∧ i = .int .i64 k ∧ mo = .int .i64 T ∧ la = .int .i64 N ∧ In T N ∧ Ck wr g r 0 (wd T N) ∧ Below w.heap.size w wr) (fun _ _ i _ => n - (intOf i).toNat)
      case atStart => exact ⟨0, 0, 0, Nat.zero_le _, rfl, rfl, rfl, by decide, HC.out, B2.out⟩
      case round =>
        obtain ⟨k, T, N, hk, rfl, rfl, rfl, hin, hck, hbw⟩ := hrel
        by_cases hlt : k < n
        · obtain ⟨bl, off, c', hv, hbl, hcell⟩ := HQ.out.inv (by rw [HN.out]; omega)
          rw [HN.out] at hv
          simp only [Value.slice.injEq, true_and] at hv
          obtain ⟨rfl, rfl⟩ := hv
          obtain ⟨q0, q1, q2, q3⟩ := hcell k (by rw [HN.out]; omega)
          obtain ⟨⟨wq, u, i, j⟩, hqu⟩ : ∃ q, qs.getD k Qu.zero = q := ⟨_, rfl⟩
          rw [hqu] at q0 q1 q2 q3
          have k0 : wr.cell? ⟨bl, off + k * 4, none⟩ = some (.int .i64 wq) := (hbw.cell hbl).trans q0
          have k1 : wr.cell? ⟨bl, off + k * 4 + 1, none⟩ = some (.int .i64 u) := (hbw.cell hbl).trans q1
          have k2 : wr.cell? ⟨bl, off + k * 4 + 2, none⟩ = some (.int .i64 i) := (hbw.cell hbl).trans q2
          have k3 : wr.cell? ⟨bl, off + k * 4 + 3, none⟩ = some (.int .i64 j) := (hbw.cell hbl).trans q3
          have Q1 := hid q1
          have Q2 := hid q2
          have Q3 := hid q3
          have HBL := hid hbl
          have HI := hid hin
          have HK := hid hck
          have HW := hid hbw
          have hlt' : (k : Int) < (n : Int) := by omega
          clear hcell hqu q0 q1 q2 q3 hbl hin hck hbw
          cases hq : (wq != 0)
          · by_cases hlim : T = 1099511627776 ∨ N = 1048576
            · have hl2 : (1099511627776 ≤ T) ∨ (decide (1099511627776 ≤ T) = false ∧ 1048576 ≤ N) := by
                by_cases h0 : 1099511627776 ≤ T
                · exact .inl h0
                · exact .inr ⟨by simpa using h0, by omega⟩
              have HT := hid (tick_lim g r T N wr HK.out HI.out hlim)
              clear hlim
              go_wp2_with fail
              refine HT.out.mono ?_
              rintro e w3 ⟨rfl, hc3, g3⟩
              have B3 := hid (bt (bg HW.out g3 HG.out) (ba w3 (ido 23 0 0)))
              clear hc3 g3
              rcases hl2 with h1 | ⟨h1, h2⟩
              all_goals
                go_wp2_with fail
                go_ret
                exact ⟨rfl, B3.out⟩
            · have HT := hid (tick_goes g r T N wr HK.out HI.out (fun e => hlim (.inl e)) (fun e => hlim (.inr e)))
              have hI2 : In (T + 1) (N + 1) := by have := HI.out; omega
              have HI2 := hid hI2
              have m1 : ¬ T + 1 ≤ T := by omega
              have m2 : ¬ N + 1 ≤ N := by omega
              have m1' : decide (T + 1 ≤ T) = false := by simpa using m1
              have m2' : decide (N + 1 ≤ N) = false := by simpa using m2
              have m3 : (r != r) = false := by simp
              have hro : ro r (N + 1) = true := by obtain ⟨a1, a2, a3, a4⟩ := hI2; obtain ⟨c1, c2, c3, c4⟩ := HI.out; simp only [ro, decide_eq_true_eq]; omega
              have hrs : rs (T + 1) r = true := by obtain ⟨a1, a2, a3, a4⟩ := hI2; obtain ⟨c1, c2, c3, c4⟩ := HI.out; simp only [rs, decide_eq_true_eq]; omega
              clear hlim hI2 m1 m2
              go_wp2_with fail
              refine HT.out.mono ?_
              rintro e w3 ⟨rfl, hc3, g3⟩
              have B3 := hid (bt (bg HW.out g3 HG.out) (ba w3 (ido 23 r (N + 1))))
              have hp := Pr.new 23 w3 r (N + 1)
              have p0 := hp.c0
              have p1 := hp.c1
              have HP := hid hp
              have HC3 := hid (hc3.below (ba w3 (ido 23 r (N + 1))))
              have s1 := fun o => ((ba (w3.alloc (ido 23 r (N + 1))) o).cell (p := ⟨w3.heap.size, 0, none⟩) hp.lt).trans p0
              have s2 := fun o => ((ba (w3.alloc (ido 23 r (N + 1))) o).cell (p := ⟨w3.heap.size, 1, none⟩) hp.lt).trans p1
              have s3 := fun o o' => ((ba ((w3.alloc (ido 23 r (N + 1))).alloc o) o').cell (p := ⟨w3.heap.size, 1, none⟩) (Nat.lt_of_lt_of_le hp.lt (ba _ _).size)).trans (s2 o)
              clear hc3 g3 hp
              go_wp2_with (first
                | (go_at_call 10; refine (ro_any _ _ _).mono ?_; rintro e w4 ⟨rfl, rfl⟩; rw [hro])
                | (go_at_call 14; refine (rs_any _ _ _).mono ?_; rintro e w4 ⟨rfl, rfl⟩; rw [hrs]))
              go_roundw
              case rel => exact ⟨k + 1, T + 1, N + 1, by omega, by go_num, rfl, rfl, HI2.out, (HC3.out.below (ba _ _)).below (ba _ _), bt B3.out (bt (ba _ _) (ba _ _))⟩
              case measure => simp [intOf]; omega
          · go_wp2_with fail
            refine wp_region_still_tail 11 (by kernel_rfl) (by kernel_rfl) ?_
            change wpStill _ _ (World.drew _) (fun a' => wpList _ _ _ _ a' (World.drew _)) _ _
            simp only [List.take_succ_cons, List.take_zero, List.drop_succ_cons, List.drop_zero]
            repeat still_step
            refine wpStill_nil ?_
            go_wp2_with fail
            refine (see_any g r T N i j u _ HK.out.drew HI.out HR.out).mono ?_
            rintro e w3 ⟨rfl, hc3, g3⟩
            have B3 := hid (bg HW.out.drew g3 HG.out)
            have S1 := hid (see_in (r := r) (i := i) (j := j) (u := u) HI.out)
            have HC3 := hid hc3
            have e1 : w3.cell? ⟨bl, off + k * 4 + 1, none⟩ = some (.int .i64 u) := (B3.out.cell HBL.out).trans Q1.out
            have e2 : w3.cell? ⟨bl, off + k * 4 + 2, none⟩ = some (.int .i64 i) := (B3.out.cell HBL.out).trans Q2.out
            have e3 : w3.cell? ⟨bl, off + k * 4 + 3, none⟩ = some (.int .i64 j) := (B3.out.cell HBL.out).trans Q3.out
            have hbl3 := Nat.lt_of_lt_of_le HBL.out B3.out.size
            have d2 := fun o => ((ba w3 o).cell (p := ⟨bl, off + k * 4 + 2, none⟩) hbl3).trans e2
            have d3 := fun o => ((ba w3 o).cell (p := ⟨bl, off + k * 4 + 3, none⟩) hbl3).trans e3
            obtain ⟨T', hT'⟩ : ∃ T', seeT T u = T' := ⟨_, rfl⟩
            obtain ⟨N', hN'⟩ : ∃ N', seeN r N i j = N' := ⟨_, rfl⟩
            rw [hT', hN'] at S1 HC3
            have HT := hid hT'
            have HNN := hid hN'
            clear hc3 g3 k0 k1 k2 k3 hbl3 hT' hN' hq
            cases hu : decide (u ≤ 1099511627776)
            · obtain rfl : T = T' := by
                have := HT.out
                unfold seeT at this
                simp at hu
                rw [if_neg (by omega)] at this
                exact this
              cases hro : ro i j
              · obtain rfl : N = N' := by
                  have := HNN.out
                  unfold seeN at this
                  rw [if_neg (fun h => by rw [hro] at h; simp at h)] at this
                  exact this
                go_wp2_with (go_at_call 10; refine (ro_any _ _ _).mono ?_; rintro e w4 ⟨rfl, rfl⟩; rw [hro])
                go_roundw
                case rel => exact ⟨k + 1, T, N, by omega, by go_num, (by first | rfl | exact congrArg _ (by omega)), (by first | rfl | exact congrArg _ (by omega)), S1.out, HC3.out.below (ba _ _), bt B3.out (ba _ _)⟩
                case measure => simp [intOf]; omega
              · cases hi : (i == r)
                · obtain rfl : N = N' := by
                    have := HNN.out
                    unfold seeN at this
                    simp at hi
                    rw [if_neg (fun h => hi h.1)] at this
                    exact this
                  go_wp2_with (go_at_call 10; refine (ro_any _ _ _).mono ?_; rintro e w4 ⟨rfl, rfl⟩; rw [hro])
                  go_roundw
                  case rel => exact ⟨k + 1, T, N, by omega, by go_num, (by first | rfl | exact congrArg _ (by omega)), (by first | rfl | exact congrArg _ (by omega)), S1.out, HC3.out.below (ba _ _), bt B3.out (ba _ _)⟩
                  case measure => simp [intOf]; omega
                · rcases (by omega : ¬ N < j ∨ N < j) with hnj | hnj
                  · obtain rfl : N = N' := by
                      have := HNN.out
                      unfold seeN at this
                      simp at hi
                      rw [if_pos ⟨hi, hro⟩] at this
                      omega
                    go_wp2_with (go_at_call 10; refine (ro_any _ _ _).mono ?_; rintro e w4 ⟨rfl, rfl⟩; rw [hro])
                    go_roundw
                    case rel => exact ⟨k + 1, T, N, by omega, by go_num, (by first | rfl | exact congrArg _ (by omega)), (by first | rfl | exact congrArg _ (by omega)), S1.out, HC3.out.below (ba _ _), bt B3.out (ba _ _)⟩
                    case measure => simp [intOf]; omega
                  · obtain rfl : j = N' := by
                      have := HNN.out
                      unfold seeN at this
                      simp at hi
                      rw [if_pos ⟨hi, hro⟩] at this
                      omega
                    go_wp2_with (go_at_call 10; refine (ro_any _ _ _).mono ?_; rintro e w4 ⟨rfl, rfl⟩; rw [hro])
                    go_roundw
                    case rel => exact ⟨k + 1, T, j, by omega, by go_num, (by first | rfl | exact congrArg _ (by omega)), (by first | rfl | exact congrArg _ (by omega)), S1.out, HC3.out.below (ba _ _), bt B3.out (ba _ _)⟩
                    case measure => simp [intOf]; omega
            · rcases (by omega : ¬ T < u ∨ T < u) with htu | htu
              · obtain rfl : T = T' := by
                  have := HT.out
                  unfold seeT at this
                  simp at hu
                  rw [if_pos (by omega)] at this
                  omega
                cases hro : ro i j
                · obtain rfl : N = N' := by
                    have := HNN.out
                    unfold seeN at this
                    rw [if_neg (fun h => by rw [hro] at h; simp at h)] at this
                    exact this
                  go_wp2_with (go_at_call 10; refine (ro_any _ _ _).mono ?_; rintro e w4 ⟨rfl, rfl⟩; rw [hro])
                  go_roundw
                  case rel => exact ⟨k + 1, T, N, by omega, by go_num, (by first | rfl | exact congrArg _ (by omega)), (by first | rfl | exact congrArg _ (by omega)), S1.out, HC3.out.below (ba _ _), bt B3.out (ba _ _)⟩
                  case measure => simp [intOf]; omega
                · cases hi : (i == r)
                  · obtain rfl : N = N' := by
                      have := HNN.out
                      unfold seeN at this
                      simp at hi
                      rw [if_neg (fun h => hi h.1)] at this
                      exact this
                    go_wp2_with (go_at_call 10; refine (ro_any _ _ _).mono ?_; rintro e w4 ⟨rfl, rfl⟩; rw [hro])
                    go_roundw
                    case rel => exact ⟨k + 1, T, N, by omega, by go_num, (by first | rfl | exact congrArg _ (by omega)), (by first | rfl | exact congrArg _ (by omega)), S1.out, HC3.out.below (ba _ _), bt B3.out (ba _ _)⟩
                    case measure => simp [intOf]; omega
                  · rcases (by omega : ¬ N < j ∨ N < j) with hnj | hnj
                    · obtain rfl : N = N' := by
                        have := HNN.out
                        unfold seeN at this
                        simp at hi
                        rw [if_pos ⟨hi, hro⟩] at this
                        omega
                      go_wp2_with (go_at_call 10; refine (ro_any _ _ _).mono ?_; rintro e w4 ⟨rfl, rfl⟩; rw [hro])
                      go_roundw
                      case rel => exact ⟨k + 1, T, N, by omega, by go_num, (by first | rfl | exact congrArg _ (by omega)), (by first | rfl | exact congrArg _ (by omega)), S1.out, HC3.out.below (ba _ _), bt B3.out (ba _ _)⟩
                      case measure => simp [intOf]; omega
                    · obtain rfl : j = N' := by
                        have := HNN.out
                        unfold seeN at this
                        simp at hi
                        rw [if_pos ⟨hi, hro⟩] at this
                        omega
                      go_wp2_with (go_at_call 10; refine (ro_any _ _ _).mono ?_; rintro e w4 ⟨rfl, rfl⟩; rw [hro])
                      go_roundw
                      case rel => exact ⟨k + 1, T, j, by omega, by go_num, (by first | rfl | exact congrArg _ (by omega)), (by first | rfl | exact congrArg _ (by omega)), S1.out, HC3.out.below (ba _ _), bt B3.out (ba _ _)⟩
                      case measure => simp [intOf]; omega
              · obtain rfl : u = T' := by
                  have := HT.out
                  unfold seeT at this
                  simp at hu
                  rw [if_pos (by omega)] at this
                  omega
                cases hro : ro i j
                · obtain rfl : N = N' := by
                    have := HNN.out
                    unfold seeN at this
                    rw [if_neg (fun h => by rw [hro] at h; simp at h)] at this
                    exact this
                  go_wp2_with (go_at_call 10; refine (ro_any _ _ _).mono ?_; rintro e w4 ⟨rfl, rfl⟩; rw [hro])
                  go_roundw
                  case rel => exact ⟨k + 1, u, N, by omega, by go_num, (by first | rfl | exact congrArg _ (by omega)), (by first | rfl | exact congrArg _ (by omega)), S1.out, HC3.out.below (ba _ _), bt B3.out (ba _ _)⟩
                  case measure => simp [intOf]; omega
                · cases hi : (i == r)
                  · obtain rfl : N = N' := by
                      have := HNN.out
                      unfold seeN at this
                      simp at hi
                      rw [if_neg (fun h => hi h.1)] at this
                      exact this
                    go_wp2_with (go_at_call 10; refine (ro_any _ _ _).mono ?_; rintro e w4 ⟨rfl, rfl⟩; rw [hro])
                    go_roundw
                    case rel => exact ⟨k + 1, u, N, by omega, by go_num, (by first | rfl | exact congrArg _ (by omega)), (by first | rfl | exact congrArg _ (by omega)), S1.out, HC3.out.below (ba _ _), bt B3.out (ba _ _)⟩
                    case measure => simp [intOf]; omega
                  · rcases (by omega : ¬ N < j ∨ N < j) with hnj | hnj
                    · obtain rfl : N = N' := by
                        have := HNN.out
                        unfold seeN at this
                        simp at hi
                        rw [if_pos ⟨hi, hro⟩] at this
                        omega
                      go_wp2_with (go_at_call 10; refine (ro_any _ _ _).mono ?_; rintro e w4 ⟨rfl, rfl⟩; rw [hro])
                      go_roundw
                      case rel => exact ⟨k + 1, u, N, by omega, by go_num, (by first | rfl | exact congrArg _ (by omega)), (by first | rfl | exact congrArg _ (by omega)), S1.out, HC3.out.below (ba _ _), bt B3.out (ba _ _)⟩
                      case measure => simp [intOf]; omega
                    · obtain rfl : j = N' := by
                        have := HNN.out
                        unfold seeN at this
                        simp at hi
                        rw [if_pos ⟨hi, hro⟩] at this
                        omega
                      go_wp2_with (go_at_call 10; refine (ro_any _ _ _).mono ?_; rintro e w4 ⟨rfl, rfl⟩; rw [hro])
                      go_roundw
                      case rel => exact ⟨k + 1, u, j, by omega, by go_num, (by first | rfl | exact congrArg _ (by omega)), (by first | rfl | exact congrArg _ (by omega)), S1.out, HC3.out.below (ba _ _), bt B3.out (ba _ _)⟩
                      case measure => simp [intOf]; omega
        · have hlt' : ¬ (k : Int) < (n : Int) := by omega
          have HW := hid hbw
          clear hlt hin hck hbw
          go_wp2_with fail
          go_ret
          exact ⟨rfl, HW.out⟩

end Go.Proofs.YtbcodkokacpioaaDoor
