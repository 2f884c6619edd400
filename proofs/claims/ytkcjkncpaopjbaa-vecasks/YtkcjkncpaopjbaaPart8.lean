/-
  Parts of the proof, one behind the other; what each proves stands at its head.
-/
import Derived.Test.YtkcjkncpaopjbaaPart7

/-
  What the reference's Count, Covers, List and Join answer and leave is proved here, for all vectors.
-/
namespace Go.Proofs.Ytkcjkncpaopjbaa
open Go.RowKit
set_option linter.unusedVariables false
set_option maxRecDepth 100000

theorem xcount_any (b : Nat) (l : List Int) (w : World) (h : Vc w b l) :
    Calls Try.prog 23 #[.pointer (some ⟨b, 0, none⟩)] w fun e w' => e = .returned (.int .i64 (sumTo l 16)) ∧ w = w' := by
  have HV := hid h
  have hk := h.1
  clear h
  go_enter Try.func23, Try.ntmps23
  go_wp2_with fail
  go_loopw [3, 4] (fun s i wr => ∃ k : Nat, k ≤ 16 ∧ i = .int .i64 k ∧ s = .int .i64 (sumTo l k) ∧ w = wr) (fun _ i _ => 16 - (intOf i).toNat)
  case atStart => exact ⟨0, by omega, rfl, rfl, rfl⟩
  case round =>
    obtain ⟨k, hk16, rfl, rfl, rfl⟩ := hrel
    by_cases hlt : k < 16
    · have hlt' : (k : Int) < 16 := by omega
      have hcell := HV.out.cell hlt
      obtain ⟨x, hx⟩ : ∃ x, l.getD k 0 = x := ⟨_, rfl⟩
      obtain ⟨S, hS⟩ : ∃ S, sumTo l k = S := ⟨_, rfl⟩
      have hs1 : sumTo l (k + 1) = S + x := by rw [← hS, ← hx]; rfl
      have hb := sum_le hk (k + 1)
      rw [hs1] at hb
      have HS := hid hs1
      rw [hx] at hcell
      rw [hS]
      clear hs1 hx hS
      go_wp2_with fail
      go_roundw
      case rel => exact ⟨k + 1, by omega, by go_num, by rw [HS.out], trivial⟩
      case measure => simp [intOf]; omega
    · obtain rfl : k = 16 := by omega
      obtain ⟨S, hS⟩ : ∃ S, sumTo l 16 = S := ⟨_, rfl⟩
      rw [hS]
      have HS := hid hS
      clear hS
      go_wp2_with fail
      go_ret
      exact ⟨by rw [HS.out]; rfl, rfl⟩

theorem xcovers_any (b c : Nat) (l m : List Int) (w : World) (h : Vc w b l) (h' : Vc w c m) :
    Calls Try.prog 21 #[.pointer (some ⟨b, 0, none⟩), .pointer (some ⟨c, 0, none⟩)] w fun e w' => e = .returned (.bool (covV l m)) ∧ Below w.heap.size w w' := by
  obtain ⟨z, hz⟩ : ∃ z, covV l m = z := ⟨_, rfl⟩
  rw [hz]
  have HZ := hid hz
  have HV := hid h
  have HW := hid h'
  clear h h' hz
  go_enter Try.func21, Try.ntmps21
  go_wp2_with fail
  go_loopw [5] (fun i wr => ∃ k : Nat, k ≤ 16 ∧ i = .int .i64 k ∧ covTo l m k ∧ Below w.heap.size w wr) (fun i _ => 16 - (intOf i).toNat)
  case atStart => exact ⟨0, by omega, rfl, fun i hi => absurd hi (Nat.not_lt_zero _), Below.refl _ _⟩
  case round =>
    obtain ⟨k, hk16, rfl, hcv, hbel⟩ := hrel
    have HC := hid hcv
    have HB := hid hbel
    have HV := hid (HV.out.below hbel)
    have HW := hid (HW.out.below hbel)
    clear hcv hbel
    by_cases hlt : k < 16
    · have hlt' : (k : Int) < 16 := by omega
      have hcell := HV.out.cell hlt
      have hcell2 := HW.out.cell hlt
      obtain ⟨x, hx⟩ : ∃ x, m.getD k 0 = x := ⟨_, rfl⟩
      obtain ⟨y, hy⟩ : ∃ y, l.getD k 0 = y := ⟨_, rfl⟩
      rw [hx] at hcell2
      rw [hy] at hcell
      have HX := hid hx
      have HY := hid hy
      clear hx hy
      cases hd : decide (y < x)
      · have HD := hid hd
        go_wp2_with (go_quiet (fail))
        go_roundw
        case rel =>
          refine ⟨k + 1, by omega, by go_num, fun i hi => ?_, below_drewN HB.out _⟩
          by_cases e : i = k
          · subst e; rw [HX.out, HY.out]; have := HD.out; simp at this; exact this
          · exact HC.out i (by omega)
        case measure => simp [intOf]; omega
      · have HD := hid hd
        go_wp2_with (go_quiet (fail))
        go_ret
        refine ⟨?_, below_drewN HB.out _⟩
        rw [← HZ.out, cov_not k hlt (by rw [HX.out, HY.out]; have := HD.out; simpa using this)]
        rfl
    · obtain rfl : k = 16 := by omega
      go_wp2_with fail
      go_ret
      refine ⟨?_, HB.out⟩
      rw [← HZ.out, cov_iff.2 HC.out]
      rfl

end Go.Proofs.Ytkcjkncpaopjbaa

/-
  What the law's alive and both answer is proved here.
-/
namespace Go.Proofs.Ytkcjkncpaopjbaa
open Go.RowKit
set_option linter.unusedVariables false
set_option maxRecDepth 100000

theorem of_yes (v : Value) (l : List Int) (w : World) (h : Iz w v l) (hok : okV l = true) : Calls Try.prog 30 #[v] w fun e w' => ∃ c, e = .returned (.tuple #[.pointer (some ⟨c, 0, none⟩), .bool true]) ∧ w.heap.size ≤ c ∧ Vc w' c (padV l) ∧ Below w.heap.size w w' :=
  (of_any v l w h).mono fun e w' h => h.elim (fun h => h.2) (fun h => absurd h.1 (by rw [hok]; decide))
theorem of_no (v : Value) (l : List Int) (w : World) (h : Iz w v l) (hok : okV l = false) : Calls Try.prog 30 #[v] w fun e w' => e = .returned (.tuple #[.pointer none, .bool false]) ∧ Below w.heap.size w w' :=
  (of_any v l w h).mono fun e w' h => h.elim (fun h => absurd h.1 (by rw [hok]; decide)) (fun h => h.2)
theorem xof_yes (v : Value) (l : List Int) (w : World) (h : Iz w v l) (hok : okV l = true) : Calls Try.prog 31 #[v] w fun e w' => ∃ c, e = .returned (.tuple #[.pointer (some ⟨c, 0, none⟩), .bool true]) ∧ w.heap.size ≤ c ∧ Vc w' c (padV l) ∧ Below w.heap.size w w' :=
  (xof_any v l w h).mono fun e w' h => h.elim (fun h => h.2) (fun h => absurd h.1 (by rw [hok]; decide))
theorem xof_no (v : Value) (l : List Int) (w : World) (h : Iz w v l) (hok : okV l = false) : Calls Try.prog 31 #[v] w fun e w' => e = .returned (.tuple #[.pointer none, .bool false]) ∧ Below w.heap.size w w' :=
  (xof_any v l w h).mono fun e w' h => h.elim (fun h => absurd h.1 (by rw [hok]; decide)) (fun h => h.2)
theorem Cs.first {w : World} {g off c : Nat} {x : Ct} (h : Cs w (.slice (some ⟨g, off, none⟩) 1 c) [x]) :
    w.cell? ⟨g, off, none⟩ = some (.int .i64 x.r) ∧ w.cell? ⟨g, off + 1, none⟩ = some (.int .i64 x.n) ∧ w.cell? ⟨g, off + 2, none⟩ = some (.int .i64 x.f) ∧ w.cell? ⟨g, off + 3, none⟩ = some (.int .i64 x.t) := by
  obtain ⟨g', off', c', e, _, _, _, hc⟩ := h.inv (Nat.succ_pos _)
  simp only [Value.slice.injEq, Option.some.injEq, Addr.mk.injEq, and_true] at e
  obtain ⟨⟨rfl, rfl⟩, _, rfl⟩ := e
  have := hc 0 (Nat.succ_pos _)
  simpa using this

theorem lit3 (W : World) : Iz (W.alloc (.cells #[.int .i64 0, .int .i64 0, .int .i64 4] 3)) (.slice (some ⟨W.heap.size, 0, none⟩) 3 3) [0, 0, 4] :=
  Sl.lit (sz := 1) W 3 #[.int .i64 0, .int .i64 0, .int .i64 4] 3 (by decide) rfl

def u1 : List Int := putV v0 2 1
def u2 : List Int := padV [0, 0, 4]
theorem al0 : putV v0 2 1 = u1 := rfl
theorem al9 : padV [0, 0, 4] = u2 := rfl
theorem al1 : addV v0 2 1 = 0 := by kernel_rfl
theorem al2 : addV u1 2 3 = 22 := by kernel_rfl
theorem al3 : putV u1 2 3 = u1 := by kernel_rfl
theorem al4 : okV [0, 0, 4] = true := by kernel_rfl
theorem al5 : missTo u1 u2 16 = [⟨2, 2, 2, 5⟩] := by kernel_rfl
theorem al6 : sumTo u1 16 = 1 := by kernel_rfl
theorem al7 : hasV u1 2 1 = true := by kernel_rfl
theorem al8 : covV u2 u1 = true := by kernel_rfl

set_option maxHeartbeats 1000000 in
theorem alive_any (w : World) : Calls Try.prog 8 #[] w fun e w' => e = .returned (.bool true) ∧ Below w.heap.size w w' := by
  have HOK := hid al4
  go_enter Try.func8, Try.ntmps8
  go_wp2_with (first
    | (go_at_call 24; refine (new_any _).mono ?_; rintro e w1 ⟨rfl, hv1, hb1⟩; have V1 := hid hv1; have B1 := hid hb1; clear hv1 hb1)
    | (go_at_call 25; refine (add_any w.heap.size u1 2 3 _ V2.out).mono ?_; rintro e w3 ⟨rfl, hv3, hf3⟩; rw [al2]; rw [al3] at hv3; have V3 := hid hv3; have B3 := hid (B2.out.trans (hf3.below (fun i hi e => by omega) B2.out.size)); clear hv3 hf3)
    | (go_at_call 25; refine (add_any w.heap.size v0 2 1 _ V1.out).mono ?_; rintro e w2 ⟨rfl, hv2, hf2⟩; rw [al1]; rw [al0] at hv2; have V2 := hid hv2; have B2 := hid (B1.out.trans (hf2.below (fun i hi e => by omega) B1.out.size)); clear hv2 hf2)
    | (go_at_call 30; refine (of_yes _ [0, 0, 4] _ (lit3 _) HOK.out).mono ?_; rintro e w4 ⟨c, rfl, hc, hv4, hb4⟩; rw [al9] at hv4; have V4 := hid hv4; have B4 := hid (B3.out.trans ((bt (ba _ _) hb4).mono B3.out.size)); have V5 := hid (V3.out.below (bt (ba _ _) hb4)); clear hv4 hb4 hc)
    | (go_at_call 12; refine (missing_any w.heap.size c u1 u2 _ V5.out V4.out).mono ?_; rintro e w6 ⟨v6, rfl, hcs, hb6⟩; rw [al5] at hcs; obtain ⟨g, off, c6, rfl, -, -, -, -⟩ := Cs.inv hcs (Nat.succ_pos _); have C6 := hid hcs; have B6 := hid (B4.out.trans (hb6.mono B4.out.size)); have V6 := hid (V5.out.below hb6); have V7 := hid (V4.out.below hb6); clear hcs hb6)
    | (go_at_call 22; refine (count_any w.heap.size u1 _ V6.out).mono ?_; rintro e w7 ⟨rfl, rfl⟩; rw [al6])
    | (go_at_call 16; refine (has_any w.heap.size u1 2 1 _ V6.out).mono ?_; rintro e w8 ⟨rfl, hb8⟩; rw [al7]; obtain ⟨k0, k1, k2, k3⟩ := Cs.first (C6.out.below hb8); have B8 := hid (B6.out.trans (hb8.mono B6.out.size)); have V8 := hid (V6.out.below hb8); have V9 := hid (V7.out.below hb8); clear hb8)
    | (go_at_call 20; refine (covers_any c w.heap.size u2 u1 _ V9.out V8.out).mono ?_; rintro e w9 ⟨rfl, rfl⟩; rw [al8]))
  go_ret
  exact ⟨rfl, B8.out⟩

theorem results_tmp4 {fn : Func} {t u v x : Tmp} (h : fn.results = #[.tmp t, .tmp u, .tmp v, .tmp x]) (tmps : Array Value) (P : Program) (w : World) :
    (results fn tmps).run P w = .ok (.tuple #[tmps.getD t undef, tmps.getD u undef, tmps.getD v undef, tmps.getD x undef]) w := by
  simp [results, h]
/-- What both answers: two vectors, or none. -/
def BoV (w : World) (l : List Int) (e : Ending) (w' : World) : Prop :=
  (okV l = true ∧ ∃ c d, e = .returned (.tuple #[.pointer (some ⟨c, 0, none⟩), .pointer (some ⟨d, 0, none⟩), .bool true, .bool true]) ∧ w.heap.size ≤ c ∧ c < d ∧ Vc w' c (padV l) ∧ Vc w' d (padV l) ∧ Below w.heap.size w w') ∨
  (okV l = false ∧ e = .returned (.tuple #[.pointer none, .pointer none, .bool true, .bool false]) ∧ Below w.heap.size w w')
theorem both_any (v : Value) (l : List Int) (w : World) (h : Iz w v l) : Calls Try.prog 10 #[v] w fun e w' => BoV w l e w' := by
  have HZ := hid h
  clear h
  cases hok : okV l
  · have HOK := hid hok
    clear hok
    go_enter Try.func10, Try.ntmps10
    go_wp2_with (first
      | (go_at_call 30; refine (of_no _ l _ HZ.out HOK.out).mono ?_; rintro e w1 ⟨rfl, hb1⟩; have B1 := hid hb1; have Z1 := hid (HZ.out.below hb1); clear hb1)
      | (go_at_call 31; refine (xof_no _ l _ Z1.out HOK.out).mono ?_; rintro e w2 ⟨rfl, hb2⟩; have B2 := hid (bt B1.out hb2); clear hb2))
    refine bodyPost_ret (results_tmp4 rfl _ _ _) rfl ?_
    exact .inr ⟨HOK.out, rfl, B2.out⟩
  · have HOK := hid hok
    clear hok
    go_enter Try.func10, Try.ntmps10
    go_wp2_with (first
      | (go_at_call 30; refine (of_yes _ l _ HZ.out HOK.out).mono ?_; rintro e w1 ⟨c, rfl, hc, hv1, hb1⟩; have B1 := hid hb1; have Z1 := hid (HZ.out.below hb1); have C1 := hid hc; have V1 := hid hv1; clear hb1 hc hv1)
      | (go_at_call 31; refine (xof_yes _ l _ Z1.out HOK.out).mono ?_; rintro e w2 ⟨d, rfl, hd, hv2, hb2⟩; have B2 := hid (bt B1.out hb2); have C2 := hid (Nat.lt_of_lt_of_le V1.out.lt hd); have V2 := hid (V1.out.below hb2); have V3 := hid hv2; clear hb2 hd hv2))
    refine bodyPost_ret (results_tmp4 rfl _ _ _) rfl ?_
    exact .inl ⟨HOK.out, _, _, rfl, C1.out, C2.out, V2.out, V3.out, B2.out⟩

end Go.Proofs.Ytkcjkncpaopjbaa
