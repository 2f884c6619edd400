/-
  StampClocks: every row of calls on a clock is answered as the document says: for every replica and every row of calls, where the package variables hold what the program lays there.
-/
import Derived.Test.YtbcodkokacpioaaDoorSAlive
import Derived.Test.YtbcodkokacpioaaDoorSCalls
import Derived.Test.YtbcodkokacpioaaDoorXClk
import Derived.StillTailTactics
namespace Go.Proofs.YtbcodkokacpioaaDoor
open Go.RowKit
set_option linter.unusedVariables false

theorem rr_bounds {r : Int} (h : rr r = true) : 0 ≤ r ∧ r < 16 := by simpa [rr] using h

set_option maxHeartbeats 8000000 in
set_option maxRecDepth 100000 in
theorem clocks_walk (r : Int) (v : Value) (qs : List Qu) (w : World) (h : Cq w v qs) (hL : Lay w) :
    Calls Tryd.prog 6 #[.int .i64 r, v] w fun e w' => e = .returned (.bool true) ∧ Below w.heap.size w w' := by
  have hlen := h.len
  unfold maxLen at hlen
  have HA := hid (alive_any w hL)
  by_cases hbig : 500 < qs.length
  · obtain ⟨a, c, rfl, _⟩ := h
    have hb : (500 : Int) < (qs.length : Int) := by omega
    obtain ⟨n, hn⟩ : ∃ n, qs.length = n := ⟨_, rfl⟩
    rw [hn] at hb hlen ⊢
    clear hL hbig hn
    go_enter Tryd.func6, Tryd.ntmps6
    go_wp2_with fail
    refine HA.out.mono ?_
    rintro e w1 ⟨rfl, b1⟩
    go_wp2_with fail
    go_ret
    exact ⟨rfl, b1⟩
  · obtain ⟨n, hn⟩ : ∃ n, qs.length = n := ⟨_, rfl⟩
    have hv : ∃ a c, v = .slice a n c := by
      obtain ⟨a, c, e, _⟩ := h
      exact ⟨a, c, by rw [e, hn]⟩
    obtain ⟨a, c, rfl⟩ := hv
    have HQ := hid h
    have HN := hid hn
    rw [hn] at hbig hlen
    have hb : ¬ (500 : Int) < (n : Int) := by omega
    clear h hL hn
    cases hr : rr r
    · have hr' : (decide (r < 0) = true) ∨ (decide (r < 0) = false ∧ (15 : Int) < r) := by
        simp [rr] at hr
        by_cases h0 : r < 0
        · exact .inl (by simpa using h0)
        · exact .inr ⟨by simpa using h0, by omega⟩
      have HR := hid hr
      clear hr
      go_enter Tryd.func6, Tryd.ntmps6
      go_wp2_with fail
      refine HA.out.mono ?_
      rintro e w1 ⟨rfl, b1⟩
      go_wp2_with fail
      refine (new_none r w1 HR.out).mono ?_
      rintro e w2 ⟨rfl, rfl⟩
      have B1 := hid b1
      clear b1
      rcases hr' with h1 | ⟨h1, h2⟩
      all_goals
        go_wp2_with fail
        go_ret
        exact ⟨rfl, B1.out⟩
    · have HR := hid hr
      have hrb := rr_bounds hr
      have hr1 : decide (r < 0) = false := by simp; omega
      have hr2 : ¬ (15 : Int) < r := by omega
      clear hr
      go_enter Tryd.func6, Tryd.ntmps6
      go_wp2_with fail
      refine HA.out.mono ?_
      rintro e w1 ⟨rfl, b1⟩
      go_wp2_with fail
      refine (new_any r w1 HR.out).mono ?_
      rintro e w2 ⟨g, rfl, hg, hc, b2⟩
      have B2 := hid (bt b1 b2)
      have hG : w.heap.size ≤ g := Nat.le_trans b1.size hg
      have HG := hid hG
      have hgl := hc.lt
      have HC := hid (hc.below (ba w2 (.cells #[.int .i64 r, .int .i64 0, .int .i64 0] 47)))
      have HX0 := hid (heap_alloc_new w2 (.cells #[.int .i64 r, .int .i64 0, .int .i64 0] 47))
      have B2' := hid (bt B2.out (ba w2 (.cells #[.int .i64 r, .int .i64 0, .int .i64 0] 47)))
      obtain ⟨x, hx⟩ : ∃ x, w2.heap.size = x := ⟨_, rfl⟩
      have hgx : ¬ g = x := by omega
      have hxg : ¬ x = g := by omega
      have HGX : Hid (w.heap.size ≤ x) := by unfold Hid; omega
      rw [hx] at HX0
      clear b1 b2 hc hG hg HA hgl
      go_wp2_with fail
      go_loopw [8] (fun i wr => ∃ (k : Nat) (T N : Int), k ≤ n ∧ i = .int .i64 k ∧ In T N ∧ Ck wr g r 0 (wd T N) ∧ Xk wr x r T N ∧ Below w.heap.size w wr) (fun i _ => n - (intOf i).toNat)
      case atStart => exact ⟨0, 0, 0, Nat.zero_le _, rfl, by decide, HC.out, HX0.out, B2'.out⟩
      case round =>
        obtain ⟨k, T, N, hk, rfl, hin, hck, hxk, hbw⟩ := hrel
        by_cases hlt : k < n
        · obtain ⟨bl, off, c', hv, hbl, hcell⟩ := HQ.out.inv (by rw [HN.out]; omega)
          rw [HN.out] at hv
          simp only [Value.slice.injEq, true_and] at hv
          obtain ⟨rfl, rfl⟩ := hv
          obtain ⟨q0, q1, q2, q3⟩ := hcell k (by rw [HN.out]; omega)
          obtain ⟨⟨wq, u, i, j⟩, hqu⟩ : ∃ q, qs.getD k Qu.zero = q := ⟨_, rfl⟩
          rw [hqu] at q0 q1 q2 q3
          have k0 : wr.cell? ⟨bl, off + k * 4, none⟩ = some (.int .i64 wq) := (hbw.cell hbl).trans q0
          have k1 : wr.cell? ⟨bl, off + k * 4 + 1, none⟩ = some (.int .i64 u) := (hbw.cell hbl).trans q1
          have k2 : wr.cell? ⟨bl, off + k * 4 + 2, none⟩ = some (.int .i64 i) := (hbw.cell hbl).trans q2
          have k3 : wr.cell? ⟨bl, off + k * 4 + 3, none⟩ = some (.int .i64 j) := (hbw.cell hbl).trans q3
          have Q1 := hid q1
          have K0 := hid k0
          have Q2 := hid q2
          have Q3 := hid q3
          have HBL := hid hbl
          have HI := hid hin
          have HK := hid hck
          have HW := hid hbw
          have hlt' : (k : Int) < (n : Int) := by omega
          have HX := hid hxk
          clear hcell hqu q0 q1 q2 q3 hbl hin hck hbw hxk
          cases hq : (wq == 0)
          · skip
            go_wp2_with fail
            refine wp_region_still_tail 11 (by kernel_rfl) (by kernel_rfl) ?_
            change wpStill _ _ (World.drew _) (fun a' => wpList _ _ _ _ a' (World.drew _)) _ _
            simp only [List.take_succ_cons, List.take_zero, List.drop_succ_cons, List.drop_zero]
            repeat still_step
            refine wpStill_nil ?_
            go_wp2_with fail
            refine (see_any g r T N i j u _ HK.out.drew HI.out HR.out).mono ?_
            rintro e w3 ⟨rfl, hc3, g3⟩
            have B3 := hid (bg HW.out.drew g3 HG.out)
            have X3 := hid (HX.out.drew.other g3 hxg)
            have C3 := hid hc3
            have e1 : w3.cell? ⟨bl, off + k * 4 + 1, none⟩ = some (.int .i64 u) := (B3.out.cell HBL.out).trans Q1.out
            have e2 : w3.cell? ⟨bl, off + k * 4 + 2, none⟩ = some (.int .i64 i) := (B3.out.cell HBL.out).trans Q2.out
            have e3 : w3.cell? ⟨bl, off + k * 4 + 3, none⟩ = some (.int .i64 j) := (B3.out.cell HBL.out).trans Q3.out
            have HI5 := hid (see_in (r := r) (i := i) (j := j) (u := u) HI.out)
            clear hc3 g3 k0 k1 k2 k3 hq
            go_wp2_with fail
            refine wp_region_still_tail 11 (by kernel_rfl) (by kernel_rfl) ?_
            change wpStill _ _ (World.drew _) (fun a' => wpList _ _ _ _ a' (World.drew _)) _ _
            simp only [List.take_succ_cons, List.take_zero, List.drop_succ_cons, List.drop_zero]
            repeat still_step
            refine wpStill_nil ?_
            go_wp2_with fail
            refine (xsee_any x r T N i j u _ X3.out.drew).mono ?_
            rintro e w4 ⟨rfl, hx4, g4⟩
            have HC5 := hid (C3.out.drew.other g4 hgx)
            have s4 := hx4.c1
            have s5 := hx4.c2
            have HX5 := hid hx4
            have B5 := hid (bg B3.out.drew g4 HGX.out)
            clear hx4 g4
            obtain ⟨T', hT'⟩ : ∃ T', seeT T u = T' := ⟨_, rfl⟩
            obtain ⟨N', hN'⟩ : ∃ N', seeN r N i j = N' := ⟨_, rfl⟩
            rw [hT', hN'] at HC5 HX5 HI5
            rw [hT'] at s4
            rw [hN'] at s5
            clear hT' hN'
            go_wp2_with fail
            go_quiet ((first
              | (go_at_call 31; exact Calls.quiet_of_same ((now_any g r 0 T' N' _ (HC5.out.drewN _) HI5.out).mono fun _ _ h => ⟨h.1, h.2.symm⟩))
              | (go_at_call 32; exact Calls.quiet_of_same ((last_any g r 0 T' N' _ (HC5.out.drewN _) HI5.out).mono fun _ _ h => ⟨h.1, h.2.symm⟩))))
            go_wp2_with fail
            go_roundw
            case rel => exact ⟨k + 1, T', N', by omega, by go_num, HI5.out, HC5.out.drewN _, HX5.out, bt B5.out (bd _ _)⟩
            case measure => simp [intOf]; omega
          · clear k0 k1 k2 k3
            have k0 : wr.cell? ⟨bl, off + k * 4, none⟩ = some (.int .i64 0) := by
              have h0 : wq = 0 := by simpa using hq
              rw [← h0]; exact K0.out
            by_cases hlim : T = 1099511627776 ∨ N = 1048576
            · have HT := hid (tick_lim g r T N wr HK.out HI.out hlim)
              have HLI := hid hlim
              have HI5 := hid HI.out
              clear hlim
              go_wp2_with fail
              refine HT.out.mono ?_
              rintro e w3 ⟨rfl, hc3, g3⟩
              have hx3 := HX.out.other g3 hxg
              have hlx := hx3.lt
              have A4 := hid (Pr.new 23 w3 0 0)
              have X3 := hid (hx3.below (ba w3 (ido 23 0 0)))
              have C3 := hid (hc3.below (ba w3 (ido 23 0 0)))
              have B3 := hid (bt (bg HW.out g3 HG.out) (ba w3 (ido 23 0 0)))
              have hax : ¬ w3.heap.size = x := by omega
              clear hc3 g3 hx3 hlx
              go_wp2_with fail
              refine (xtick_lim x r T N _ X3.out HI.out HLI.out).mono ?_
              rintro e w4 ⟨rfl, hx4, g4⟩
              have a5 := (A4.out.other g4 hax).below (ba w4 (ido 23 0 0))
              have d5 := Pr.new 23 w4 0 0
              have HC5 := hid ((C3.out.other g4 hgx).below (ba w4 (ido 23 0 0)))
              have x5 := hx4.below (ba w4 (ido 23 0 0))
              have B5 := hid (bt (bg B3.out g4 HGX.out) (ba w4 (ido 23 0 0)))
              have s0 := a5.c0
              have s1 := a5.c1
              have s2 := d5.c0
              have s3 := d5.c1
              have s4 := x5.c1
              have s5 := x5.c2
              have HX5 := hid x5
              clear hx4 g4 a5 d5 x5
              go_wp2_with fail
              go_quiet ((first
                | (go_at_call 31; exact Calls.quiet_of_same ((now_any g r 0 T N _ (HC5.out.drewN _) HI5.out).mono fun _ _ h => ⟨h.1, h.2.symm⟩))
                | (go_at_call 32; exact Calls.quiet_of_same ((last_any g r 0 T N _ (HC5.out.drewN _) HI5.out).mono fun _ _ h => ⟨h.1, h.2.symm⟩))))
              go_wp2_with fail
              go_roundw
              case rel => exact ⟨k + 1, T, N, by omega, by go_num, HI5.out, HC5.out.drewN _, HX5.out, bt B5.out (bd _ _)⟩
              case measure => simp [intOf]; omega
            · have HT := hid (tick_goes g r T N wr HK.out HI.out (fun e => hlim (.inl e)) (fun e => hlim (.inr e)))
              have hI2 : In (T + 1) (N + 1) := by obtain ⟨c1, c2, c3, c4⟩ := HI.out; refine ⟨?_, ?_, ?_, ?_⟩ <;> omega
              have HI5 := hid hI2
              have HL1 := hid (fun e => hlim (.inl e))
              have HL2 := hid (fun e => hlim (.inr e))
              clear hlim hI2
              go_wp2_with fail
              refine HT.out.mono ?_
              rintro e w3 ⟨rfl, hc3, g3⟩
              have hx3 := HX.out.other g3 hxg
              have hlx := hx3.lt
              have A4 := hid (Pr.new 23 w3 r (N + 1))
              have X3 := hid (hx3.below (ba w3 (ido 23 r (N + 1))))
              have C3 := hid (hc3.below (ba w3 (ido 23 r (N + 1))))
              have B3 := hid (bt (bg HW.out g3 HG.out) (ba w3 (ido 23 r (N + 1))))
              have hax : ¬ w3.heap.size = x := by omega
              clear hc3 g3 hx3 hlx
              go_wp2_with fail
              refine (xtick_goes x r T N _ X3.out HI.out HL1.out HL2.out).mono ?_
              rintro e w4 ⟨rfl, hx4, g4⟩
              have a5 := (A4.out.other g4 hax).below (ba w4 (ido 23 r (N + 1)))
              have d5 := Pr.new 23 w4 r (N + 1)
              have HC5 := hid ((C3.out.other g4 hgx).below (ba w4 (ido 23 r (N + 1))))
              have x5 := hx4.below (ba w4 (ido 23 r (N + 1)))
              have B5 := hid (bt (bg B3.out g4 HGX.out) (ba w4 (ido 23 r (N + 1))))
              have s0 := a5.c0
              have s1 := a5.c1
              have s2 := d5.c0
              have s3 := d5.c1
              have s4 := x5.c1
              have s5 := x5.c2
              have HX5 := hid x5
              clear hx4 g4 a5 d5 x5
              go_wp2_with fail
              go_quiet ((first
                | (go_at_call 31; exact Calls.quiet_of_same ((now_any g r 0 (T + 1) (N + 1) _ (HC5.out.drewN _) HI5.out).mono fun _ _ h => ⟨h.1, h.2.symm⟩))
                | (go_at_call 32; exact Calls.quiet_of_same ((last_any g r 0 (T + 1) (N + 1) _ (HC5.out.drewN _) HI5.out).mono fun _ _ h => ⟨h.1, h.2.symm⟩))))
              go_wp2_with fail
              go_roundw
              case rel => exact ⟨k + 1, (T + 1), (N + 1), by omega, by go_num, HI5.out, HC5.out.drewN _, HX5.out, bt B5.out (bd _ _)⟩
              case measure => simp [intOf]; omega
        · have hlt' : ¬ (k : Int) < (n : Int) := by omega
          have HW := hid hbw
          clear hlt hin hck hbw hxk
          go_wp2_with fail
          go_ret
          exact ⟨rfl, HW.out⟩

end Go.Proofs.YtbcodkokacpioaaDoor
