/-
  Parts of the proof, one behind the other; what each proves stands at its head.
-/
import Derived.Test.YtkcjkncpaopjbaaPart7
import Derived.Lib.AppendZeros

/-
  What the reference's Count, Covers, List and Join answer and leave is proved here, for all vectors.
-/
namespace Go.Proofs.Ytkcjkncpaopjbaa
open Go.RowKit
set_option linter.unusedVariables false
set_option maxRecDepth 100000

theorem xcount_any (b : Nat) (l : List Int) (w : World) (h : Vc w b l) :
    Calls Try.prog 23 #[.pointer (some ⟨b, 0, none⟩)] w fun e w' => e = .returned (.int .i64 (sumTo l 16)) ∧ w = w' := by
  have HV := hid h
  have hk := h.1
  clear h
  go_enter Try.func23, Try.ntmps23
  go_wp2_with fail
  go_loopw [3, 4] (fun s i wr => ∃ k : Nat, k ≤ 16 ∧ i = .int .i64 k ∧ s = .int .i64 (sumTo l k) ∧ w = wr) (fun _ i _ => 16 - (intOf i).toNat)
  case atStart => exact ⟨0, by omega, rfl, rfl, rfl⟩
  case round =>
    obtain ⟨k, hk16, rfl, rfl, rfl⟩ := hrel
    by_cases hlt : k < 16
    · have hlt' : (k : Int) < 16 := by omega
      have hcell := HV.out.cell hlt
      obtain ⟨x, hx⟩ : ∃ x, l.getD k 0 = x := ⟨_, rfl⟩
      obtain ⟨S, hS⟩ : ∃ S, sumTo l k = S := ⟨_, rfl⟩
      have hs1 : sumTo l (k + 1) = S + x := by rw [← hS, ← hx]; rfl
      have hb := sum_le hk (k + 1)
      rw [hs1] at hb
      have HS := hid hs1
      rw [hx] at hcell
      rw [hS]
      clear hs1 hx hS
      go_wp2_with fail
      go_roundw
      case rel => exact ⟨k + 1, by omega, by go_num, by rw [HS.out], trivial⟩
      case measure => simp [intOf]; omega
    · obtain rfl : k = 16 := by omega
      obtain ⟨S, hS⟩ : ∃ S, sumTo l 16 = S := ⟨_, rfl⟩
      rw [hS]
      have HS := hid hS
      clear hS
      go_wp2_with fail
      go_ret
      exact ⟨by rw [HS.out]; rfl, rfl⟩

theorem xcovers_any (b c : Nat) (l m : List Int) (w : World) (h : Vc w b l) (h' : Vc w c m) :
    Calls Try.prog 21 #[.pointer (some ⟨b, 0, none⟩), .pointer (some ⟨c, 0, none⟩)] w fun e w' => e = .returned (.bool (covV l m)) ∧ Below w.heap.size w w' := by
  obtain ⟨z, hz⟩ : ∃ z, covV l m = z := ⟨_, rfl⟩
  rw [hz]
  have HZ := hid hz
  have HV := hid h
  have HW := hid h'
  clear h h' hz
  go_enter Try.func21, Try.ntmps21
  go_wp2_with fail
  go_loopw [5] (fun i wr => ∃ k : Nat, k ≤ 16 ∧ i = .int .i64 k ∧ covTo l m k ∧ Below w.heap.size w wr) (fun i _ => 16 - (intOf i).toNat)
  case atStart => exact ⟨0, by omega, rfl, fun i hi => absurd hi (Nat.not_lt_zero _), Below.refl _ _⟩
  case round =>
    obtain ⟨k, hk16, rfl, hcv, hbel⟩ := hrel
    have HC := hid hcv
    have HB := hid hbel
    have HV := hid (HV.out.below hbel)
    have HW := hid (HW.out.below hbel)
    clear hcv hbel
    by_cases hlt : k < 16
    · have hlt' : (k : Int) < 16 := by omega
      have hcell := HV.out.cell hlt
      have hcell2 := HW.out.cell hlt
      obtain ⟨x, hx⟩ : ∃ x, m.getD k 0 = x := ⟨_, rfl⟩
      obtain ⟨y, hy⟩ : ∃ y, l.getD k 0 = y := ⟨_, rfl⟩
      rw [hx] at hcell2
      rw [hy] at hcell
      have HX := hid hx
      have HY := hid hy
      clear hx hy
      cases hd : decide (y < x)
      · have HD := hid hd
        go_wp2_with (go_quiet (fail))
        go_roundw
        case rel =>
          refine ⟨k + 1, by omega, by go_num, fun i hi => ?_, below_drewN HB.out _⟩
          by_cases e : i = k
          · subst e; rw [HX.out, HY.out]; have := HD.out; simp at this; exact this
          · exact HC.out i (by omega)
        case measure => simp [intOf]; omega
      · have HD := hid hd
        go_wp2_with (go_quiet (fail))
        go_ret
        refine ⟨?_, below_drewN HB.out _⟩
        rw [← HZ.out, cov_not k hlt (by rw [HX.out, HY.out]; have := HD.out; simpa using this)]
        rfl
    · obtain rfl : k = 16 := by omega
      go_wp2_with fail
      go_ret
      refine ⟨?_, HB.out⟩
      rw [← HZ.out, cov_iff.2 HC.out]
      rfl

end Go.Proofs.Ytkcjkncpaopjbaa

/-
  What the law's alive and both answer is proved here.
-/
namespace Go.Proofs.Ytkcjkncpaopjbaa
open Go.RowKit
set_option linter.unusedVariables false
set_option maxRecDepth 100000

theorem of_yes (v : Value) (l : List Int) (w : World) (h : Iz w v l) (hok : okV l = true) : Calls Try.prog 30 #[v] w fun e w' => ∃ c, e = .returned (.tuple #[.pointer (some ⟨c, 0, none⟩), .bool true]) ∧ w.heap.size ≤ c ∧ Vc w' c (padV l) ∧ Below w.heap.size w w' :=
  (of_any v l w h).mono fun e w' h => h.elim (fun h => h.2) (fun h => absurd h.1 (by rw [hok]; decide))
theorem of_no (v : Value) (l : List Int) (w : World) (h : Iz w v l) (hok : okV l = false) : Calls Try.prog 30 #[v] w fun e w' => e = .returned (.tuple #[.pointer none, .bool false]) ∧ Below w.heap.size w w' :=
  (of_any v l w h).mono fun e w' h => h.elim (fun h => absurd h.1 (by rw [hok]; decide)) (fun h => h.2)
theorem xof_yes (v : Value) (l : List Int) (w : World) (h : Iz w v l) (hok : okV l = true) : Calls Try.prog 31 #[v] w fun e w' => ∃ c, e = .returned (.tuple #[.pointer (some ⟨c, 0, none⟩), .bool true]) ∧ w.heap.size ≤ c ∧ Vc w' c (padV l) ∧ Below w.heap.size w w' :=
  (xof_any v l w h).mono fun e w' h => h.elim (fun h => h.2) (fun h => absurd h.1 (by rw [hok]; decide))
theorem xof_no (v : Value) (l : List Int) (w : World) (h : Iz w v l) (hok : okV l = false) : Calls Try.prog 31 #[v] w fun e w' => e = .returned (.tuple #[.pointer none, .bool false]) ∧ Below w.heap.size w w' :=
  (xof_any v l w h).mono fun e w' h => h.elim (fun h => absurd h.1 (by rw [hok]; decide)) (fun h => h.2)
theorem Cs.first {w : World} {g off c : Nat} {x : Ct} (h : Cs w (.slice (some ⟨g, off, none⟩) 1 c) [x]) :
    w.cell? ⟨g, off, none⟩ = some (.int .i64 x.r) ∧ w.cell? ⟨g, off + 1, none⟩ = some (.int .i64 x.n) ∧ w.cell? ⟨g, off + 2, none⟩ = some (.int .i64 x.f) ∧ w.cell? ⟨g, off + 3, none⟩ = some (.int .i64 x.t) := by
  obtain ⟨g', off', c', e, _, _, _, hc⟩ := h.inv (Nat.succ_pos _)
  simp only [Value.slice.injEq, Option.some.injEq, Addr.mk.injEq, and_true] at e
  obtain ⟨⟨rfl, rfl⟩, _, rfl⟩ := e
  have := hc 0 (Nat.succ_pos _)
  simpa using this

theorem lit3 (W : World) : Iz (W.alloc (.cells #[.int .i64 0, .int .i64 0, .int .i64 4] 3)) (.slice (some ⟨W.heap.size, 0, none⟩) 3 3) [0, 0, 4] :=
  Sl.lit (sz := 1) W 3 #[.int .i64 0, .int .i64 0, .int .i64 4] 3 (by decide) rfl

def u1 : List Int := putV v0 2 1
def u2 : List Int := padV [0, 0, 4]
theorem al0 : putV v0 2 1 = u1 := rfl
theorem al9 : padV [0, 0, 4] = u2 := rfl
theorem al1 : addV v0 2 1 = 0 := by kernel_rfl
theorem al2 : addV u1 2 3 = 22 := by kernel_rfl
theorem al3 : putV u1 2 3 = u1 := by kernel_rfl
theorem al4 : okV [0, 0, 4] = true := by kernel_rfl
theorem al5 : missTo u1 u2 16 = [⟨2, 2, 2, 5⟩] := by kernel_rfl
theorem al6 : sumTo u1 16 = 1 := by kernel_rfl
theorem al7 : hasV u1 2 1 = true := by kernel_rfl
theorem al8 : covV u2 u1 = true := by kernel_rfl

set_option maxHeartbeats 1000000 in
theorem alive_any (w : World) : Calls Try.prog 8 #[] w fun e w' => e = .returned (.bool true) ∧ Below w.heap.size w w' := by
  have HOK := hid al4
  go_enter Try.func8, Try.ntmps8
  go_wp2_with (first
    | (go_at_call 24; refine (new_any _).mono ?_; rintro e w1 ⟨rfl, hv1, hb1⟩; have V1 := hid hv1; have B1 := hid hb1; clear hv1 hb1)
    | (go_at_call 25; refine (add_any w.heap.size u1 2 3 _ V2.out).mono ?_; rintro e w3 ⟨rfl, hv3, hf3⟩; rw [al2]; rw [al3] at hv3; have V3 := hid hv3; have B3 := hid (B2.out.trans (hf3.below (fun i hi e => by omega) B2.out.size)); clear hv3 hf3)
    | (go_at_call 25; refine (add_any w.heap.size v0 2 1 _ V1.out).mono ?_; rintro e w2 ⟨rfl, hv2, hf2⟩; rw [al1]; rw [al0] at hv2; have V2 := hid hv2; have B2 := hid (B1.out.trans (hf2.below (fun i hi e => by omega) B1.out.size)); clear hv2 hf2)
    | (go_at_call 30; refine (of_yes _ [0, 0, 4] _ (lit3 _) HOK.out).mono ?_; rintro e w4 ⟨c, rfl, hc, hv4, hb4⟩; rw [al9] at hv4; have V4 := hid hv4; have B4 := hid (B3.out.trans ((bt (ba _ _) hb4).mono B3.out.size)); have V5 := hid (V3.out.below (bt (ba _ _) hb4)); clear hv4 hb4 hc)
    | (go_at_call 12; refine (missing_any w.heap.size c u1 u2 _ V5.out V4.out).mono ?_; rintro e w6 ⟨v6, rfl, hcs, hb6⟩; rw [al5] at hcs; obtain ⟨g, off, c6, rfl, -, -, -, -⟩ := Cs.inv hcs (Nat.succ_pos _); have C6 := hid hcs; have B6 := hid (B4.out.trans (hb6.mono B4.out.size)); have V6 := hid (V5.out.below hb6); have V7 := hid (V4.out.below hb6); clear hcs hb6)
    | (go_at_call 22; refine (count_any w.heap.size u1 _ V6.out).mono ?_; rintro e w7 ⟨rfl, rfl⟩; rw [al6])
    | (go_at_call 16; refine (has_any w.heap.size u1 2 1 _ V6.out).mono ?_; rintro e w8 ⟨rfl, hb8⟩; rw [al7]; obtain ⟨k0, k1, k2, k3⟩ := Cs.first (C6.out.below hb8); have B8 := hid (B6.out.trans (hb8.mono B6.out.size)); have V8 := hid (V6.out.below hb8); have V9 := hid (V7.out.below hb8); clear hb8)
    | (go_at_call 20; refine (covers_any c w.heap.size u2 u1 _ V9.out V8.out).mono ?_; rintro e w9 ⟨rfl, rfl⟩; rw [al8]))
  go_ret
  exact ⟨rfl, B8.out⟩

theorem results_tmp4 {fn : Func} {t u v x : Tmp} (h : fn.results = #[.tmp t, .tmp u, .tmp v, .tmp x]) (tmps : Array Value) (P : Program) (w : World) :
    (results fn tmps).run P w = .ok (.tuple #[tmps.getD t undef, tmps.getD u undef, tmps.getD v undef, tmps.getD x undef]) w := by
  simp [results, h]
/-- What both answers: two vectors, or none. -/
def BoV (w : World) (l : List Int) (e : Ending) (w' : World) : Prop :=
  (okV l = true ∧ ∃ c d, e = .returned (.tuple #[.pointer (some ⟨c, 0, none⟩), .pointer (some ⟨d, 0, none⟩), .bool true, .bool true]) ∧ w.heap.size ≤ c ∧ c < d ∧ Vc w' c (padV l) ∧ Vc w' d (padV l) ∧ Below w.heap.size w w') ∨
  (okV l = false ∧ e = .returned (.tuple #[.pointer none, .pointer none, .bool true, .bool false]) ∧ Below w.heap.size w w')
theorem both_any (v : Value) (l : List Int) (w : World) (h : Iz w v l) : Calls Try.prog 10 #[v] w fun e w' => BoV w l e w' := by
  have HZ := hid h
  clear h
  cases hok : okV l
  · have HOK := hid hok
    clear hok
    go_enter Try.func10, Try.ntmps10
    go_wp2_with (first
      | (go_at_call 30; refine (of_no _ l _ HZ.out HOK.out).mono ?_; rintro e w1 ⟨rfl, hb1⟩; have B1 := hid hb1; have Z1 := hid (HZ.out.below hb1); clear hb1)
      | (go_at_call 31; refine (xof_no _ l _ Z1.out HOK.out).mono ?_; rintro e w2 ⟨rfl, hb2⟩; have B2 := hid (bt B1.out hb2); clear hb2))
    refine bodyPost_ret (results_tmp4 rfl _ _ _) rfl ?_
    exact .inr ⟨HOK.out, rfl, B2.out⟩
  · have HOK := hid hok
    clear hok
    go_enter Try.func10, Try.ntmps10
    go_wp2_with (first
      | (go_at_call 30; refine (of_yes _ l _ HZ.out HOK.out).mono ?_; rintro e w1 ⟨c, rfl, hc, hv1, hb1⟩; have B1 := hid hb1; have Z1 := hid (HZ.out.below hb1); have C1 := hid hc; have V1 := hid hv1; clear hb1 hc hv1)
      | (go_at_call 31; refine (xof_yes _ l _ Z1.out HOK.out).mono ?_; rintro e w2 ⟨d, rfl, hd, hv2, hb2⟩; have B2 := hid (bt B1.out hb2); have C2 := hid (Nat.lt_of_lt_of_le V1.out.lt hd); have V2 := hid (V1.out.below hb2); have V3 := hid hv2; clear hb2 hd hv2))
    refine bodyPost_ret (results_tmp4 rfl _ _ _) rfl ?_
    exact .inl ⟨HOK.out, _, _, rfl, C1.out, C2.out, V2.out, V3.out, B2.out⟩

end Go.Proofs.Ytkcjkncpaopjbaa

/-
  An append of zeros ('append(x, make([]int, m)...)') to a row of numbers that the call made.
-/
namespace Go.Proofs.Ytkcjkncpaopjbaa
open Go.RowKit
set_option linter.unusedVariables false
set_option maxRecDepth 100000

theorem zero_cells (m : Nat) : Builtin.zeroCells (Value.int .i64 0).cells m = (is (List.replicate m 0)).toArray := by
  apply Array.ext
  · simp [Builtin.zeroCells, Value.cells]
  · intro i h1 h2
    simp [Builtin.zeroCells, Value.cells, Nat.mod_one]
theorem run_zeros (w : World) (base n : Nat) (v : Value) (xs : List Value) (hown : w.ownsRow base 3 1 v n xs) (m : Nat) (ty : TypeId) (hb : (n + m) * 8 ≤ 140737488355328) (hbase : base ≤ w.heap.size) :
    ∃ v' w', (Builtin.append_ #[22, 3] ty #[v, .int .i64 (m : Int)]).run Try.prog w = .ok v' w' ∧ w'.ownsRow base 3 1 v' (n + m) (xs ++ is (List.replicate m 0)) ∧ w.grownBy w' v.ownBlock := by
  obtain ⟨i0, hi, hz, hsz, hby⟩ := info_parts info_int
  have hlen : (xs ++ is (List.replicate m 0)).length = (n + m) * 1 := by rw [List.length_append, hown.1]; simp
  have hw : IntKind.i64.wrap (m : Int) = m := by rw [IntKind.wrap_i64]; omega
  have hneg : ¬ ((m : Int) < 0) := by omega
  have w0 : IntKind.i64.wrap 0 = 0 := by kernel_rfl
  have h48i : ¬ (281474976710656 < (m : Int) * (8 : Int)) := by omega
  have h63' : ¬ (9223372036854775807 < ((n : Int) + (m : Int))) := by omega
  have grown : ∀ (old : Nat), old < n + m → ∀ (row : Option Nat),
      (w.drew.alloc (.cells (xs.toArray ++ (is (List.replicate m 0)).toArray ++ Builtin.zeroCells (Value.int .i64 0).cells (grownCap w (n + m) old 3 - (n + m))) 3)).ownsRow base 3 1
        (.slice (some ⟨w.heap.size, 0, none⟩) (n + m) (grownCap w (n + m) old 3)) (n + m) (xs ++ is (List.replicate m 0)) ∧
      w.grownBy (w.drew.alloc (.cells (xs.toArray ++ (is (List.replicate m 0)).toArray ++ Builtin.zeroCells (Value.int .i64 0).cells (grownCap w (n + m) old 3 - (n + m))) 3)) row := by
    intro old ho row
    have hge := grownCap_ge w (n + m) old 3
    have hcm : grownCap w (n + m) old 3 ≤ maxLen := grownCap_le_maxLen w (n + m) old 3 (by unfold maxLen; omega)
    refine ⟨⟨hlen, .inr ⟨w.heap.size, _, _, rfl, hbase, heap_alloc_new w.drew _, hge, hcm, ?_, ?_⟩⟩, ⟨rfl, rfl, rfl, by simp, fun k hk _ => heap_alloc_old w.drew _ hk⟩⟩
    · have := hown.1
      simp only [Array.size_append, List.size_toArray, size_zeroCells, Value.cells, List.length_map, List.length_replicate]
      simp
      omega
    · simp only [Array.toList_append, List.append_assoc]
      rw [← List.append_assoc, ← hlen]
      exact List.take_left
  have tn : Try.prog.underlying 3 = some (.int .i64) := Try.underlying3
  rcases hown.2 with ⟨rfl, rfl⟩ | ⟨g, cap, cur, rfl, hbg, hg, hnc, hcm, hcs, htake⟩
  · have hx : xs = [] := List.eq_nil_of_length_eq_zero (by simpa using hown.1)
    subst hx
    by_cases hm : m = 0
    · subst hm
      refine ⟨.slice none 0 0, w, ?_, World.ownsRow_nil w base 3 1, ⟨rfl, rfl, rfl, Nat.le_refl _, fun _ _ _ => rfl⟩⟩
      simp [Builtin.append_, run_underlying Try.underlying22, run_underlying tn, sizeOf, typeInfo, zeroValue, hi, hz, hby, asInt, asIntOf, w0]
    · have hr := Lib.run_append_nil_zeros (P := Try.prog) w 22 3 ty 3 i0 _ .i64 .i64 Try.underlying22 tn hi hz m (by omega) (by omega) (by omega) (by rw [hby]; omega)
      have hgr := grown 0 (by omega) (Value.ownBlock (.slice none 0 0))
      rw [zero_cells m] at hr
      simp only [Nat.zero_add, List.nil_append] at hgr ⊢
      simp only [Array.empty_append] at hgr
      exact ⟨_, _, hr, hgr.1, hgr.2⟩
  · by_cases hroom : n + m ≤ cap
    · have hst := run_storeCells_at Try.prog g n 3 (is (List.replicate m 0)) 0 cur w hg (by simp; omega) (ints_oneCell .i64 _)
      obtain ⟨C, hC⟩ : ∃ C, (cur.toList.take n ++ is (List.replicate m 0) ++ cur.toList.drop (n + m)).toArray = C := ⟨_, rfl⟩
      have hst2 : (storeCells ⟨g, n, none⟩ (is (List.replicate m 0)) 0).run Try.prog w = .ok () (w.setRow g C) := by
        rw [hst, ← hC]; simp
      refine ⟨.slice (some ⟨g, 0, none⟩) (n + m) cap, w.setRow g C, ?_, ⟨hlen, .inr ⟨g, cap, C, rfl, hbg, setRow_heap w g cur _ 3 _ hg, hroom, hcm, ?_, ?_⟩⟩, ⟨rfl, rfl, rfl, by simp, fun k _ hk => setRow_other w g k _ (fun e => hk (by simp [Value.ownBlock, e]))⟩⟩
      · by_cases hm : m = 0
        · subst hm
          have hst3 : (storeCells ⟨g, n, none⟩ [] 0).run Try.prog w = .ok () (w.setRow g C) := by simpa using hst2
          simp [Builtin.append_, run_underlying Try.underlying22, run_underlying tn, sizeOf, typeInfo, zeroValue, hi, hz, hsz, hby, asInt, asIntOf, hnc, w0, Addr.add_lit, hst3]
        · have hst3 : (storeCells ⟨g, n, none⟩ (List.replicate m (Value.int .i64 0)) 0).run Try.prog w = .ok () (w.setRow g C) := by simpa using hst2
          simp [Builtin.append_, run_underlying Try.underlying22, run_underlying tn, sizeOf, typeInfo, zeroValue, hi, hz, hsz, hby, asInt, asIntOf, hw, hneg, h48i, hm, hroom, zero_cells, Addr.add_lit, hst3]
      · rw [← hC]; simp; omega
      · have hl2 : (cur.toList.take n ++ is (List.replicate m 0)).length = (n + m) * 1 := by simp; omega
        have ht : cur.toList.take n = xs := by simpa using htake
        rw [← hC, ← hl2, ht]
        exact List.take_left
    · have h48' : ¬ (281474976710656 < Builtin.nextslicecap (n + m) cap * 8) := by have := growslice_fits (show cap < n + m by omega) hb; omega
      have hfo := run_firstCells_some (P := Try.prog) w.drew 1 n ⟨g, 0, none⟩ n cap xs hown.1 (by simpa using hown.cells (g := g) rfl)
      have hgr := grown cap (by omega) (Value.ownBlock (.slice (some ⟨g, 0, none⟩) n cap))
      refine ⟨_, _, ?_, hgr.1, hgr.2⟩
      have hm : m ≠ 0 := by omega
      simp [Builtin.append_, run_underlying Try.underlying22, run_underlying tn, sizeOf, typeInfo, zeroValue, hi, hz, hsz, hby, asInt, asIntOf, hw, hneg, h48i, hm, hroom, h63', h48', Question.forced, hfo, newRow, grownCap, zero_cells]

end Go.Proofs.Ytkcjkncpaopjbaa

/-
  What the cuts that are missing tell, one behind the other, and what a vector is once the first ones were added.
-/
namespace Go.Proofs.Ytkcjkncpaopjbaa
open Go.RowKit
set_option linter.unusedVariables false
set_option maxRecDepth 100000

theorem of_flag (v : Value) (l : List Int) (w : World) (h : Iz w v l) : Calls Try.prog 30 #[v] w fun e w' => ∃ P, e = .returned (.tuple #[P, .bool (okV l)]) ∧ Below w.heap.size w w' :=
  (of_any v l w h).mono fun e w' h => h.elim (fun ⟨h1, c, h2, _, _, h5⟩ => ⟨_, by rw [h1]; exact h2, h5⟩) (fun ⟨h1, h2, h3⟩ => ⟨_, by rw [h1]; exact h2, h3⟩)
theorem join_cov1 {a b : List Int} : covV (joinV a b) a = true := cov_iff.2 fun i hi => by rw [join_at a b hi]; omega
theorem join_cov2 {a b : List Int} : covV (joinV a b) b = true := cov_iff.2 fun i hi => by rw [join_at a b hi]; omega
theorem miss_step (a b : List Int) (k : Nat) : missTo a b (k + 1) = if a.getD k 0 < b.getD k 0 then missTo a b k ++ [cutV a b k] else missTo a b k := rfl
theorem miss_grow (a b : List Int) {R S : Nat} (h : R ≤ S) : (missTo a b R).length ≤ (missTo a b S).length := by
  induction S with
  | zero => rw [show R = 0 by omega]; exact Nat.le_refl _
  | succ S ih =>
    by_cases e : R = S + 1
    · rw [e]; exact Nat.le_refl _
    · refine Nat.le_trans (ih (by omega)) ?_
      rw [miss_step]
      split
      · rw [List.length_append]; omega
      · exact Nat.le_refl _
theorem mix_same {a b : List Int} (ha : Vk a) (hb : Vk b) {R S : Nat} (h : R ≤ S) (h16 : S ≤ 16) (hl : (missTo a b R).length = (missTo a b S).length) : mixV a b R = mixV a b S := by
  induction S with
  | zero => rw [show R = 0 by omega]
  | succ S ih =>
    by_cases e : R = S + 1
    · rw [e]
    · have h1 := miss_grow a b (show R ≤ S by omega)
      have h2 := miss_grow a b (show S ≤ S + 1 by omega)
      rw [ih (by omega) (by omega) (by omega)]
      have h3 : ¬ a.getD S 0 < b.getD S 0 := by
        intro hlt
        have : (missTo a b (S + 1)).length = (missTo a b S).length + 1 := by rw [miss_step, if_pos hlt, List.length_append]; rfl
        omega
      refine (mix_ok ha hb S).ext (mix_ok ha hb (S + 1)) fun i hi => ?_
      rw [mix_at a b S hi, mix_at a b (S + 1) hi]
      by_cases e2 : i = S
      · subst e2; rw [if_neg (by omega), if_pos (by omega)]; omega
      · by_cases e3 : i < S
        · rw [if_pos e3, if_pos (by omega)]
        · rw [if_neg e3, if_neg (by omega)]
theorem mix_any {a b : List Int} (ha : Vk a) (hb : Vk b) {R S : Nat} (hR : R ≤ 16) (hS : S ≤ 16) (hl : (missTo a b R).length = (missTo a b S).length) : mixV a b R = mixV a b S := by
  by_cases h : R ≤ S
  · exact mix_same ha hb h hS hl
  · exact (mix_same ha hb (by omega) hR hl.symm).symm
theorem miss_get (a b : List Int) (K i : Nat) (hi : i < (missTo a b K).length) : ∃ R, R < K ∧ (missTo a b R).length = i ∧ a.getD R 0 < b.getD R 0 ∧ (missTo a b K)[i]? = some (cutV a b R) := by
  induction K with
  | zero => exact absurd hi (Nat.not_lt_zero _)
  | succ K ih =>
    by_cases h : a.getD K 0 < b.getD K 0
    · rw [miss_step, if_pos h] at hi ⊢
      by_cases h2 : i < (missTo a b K).length
      · obtain ⟨R, h3, h4, h5, h6⟩ := ih h2
        exact ⟨R, by omega, h4, h5, by rw [List.getElem?_append_left h2]; exact h6⟩
      · rw [List.length_append, List.length_singleton] at hi
        have e : i = (missTo a b K).length := by omega
        exact ⟨K, by omega, e.symm, h, by rw [e, List.getElem?_append_right (Nat.le_refl _), Nat.sub_self]; rfl⟩
    · rw [miss_step, if_neg h] at hi ⊢
      obtain ⟨R, h3, h4, h5, h6⟩ := ih hi
      exact ⟨R, by omega, h4, h5, h6⟩
theorem miss_next {a b : List Int} {R i : Nat} (h1 : (missTo a b R).length = i) (h2 : a.getD R 0 < b.getD R 0) : (missTo a b (R + 1)).length = i + 1 := by
  rw [miss_step, if_pos h2, List.length_append, h1]; rfl
theorem miss_none {a b : List Int} : ((missTo a b 16).length = 0) ↔ covV a b = true := by
  rw [cov_iff]
  constructor
  · intro h i hi
    have h1 := miss_grow a b (show i + 1 ≤ 16 by omega)
    by_cases h2 : a.getD i 0 < b.getD i 0
    · have := miss_next (rfl : (missTo a b i).length = _) h2; omega
    · omega
  · intro h
    by_cases h0 : (missTo a b 16).length = 0
    · exact h0
    · obtain ⟨R, h1, _, h2, _⟩ := miss_get a b 16 0 (by omega)
      have := h R h1
      omega
/-- A vector of which one number is on its way. -/
def partV (a b : List Int) (R : Nat) (x : Int) : List Int := (mixV a b R).set R x
theorem part_start {a b : List Int} (ha : Vk a) (hb : Vk b) {R : Nat} (hR : R < 16) : partV a b R (a.getD R 0) = mixV a b R := by
  have hb2 := ha.2 R
  refine ((mix_ok ha hb R).set R _ hb2).ext (mix_ok ha hb R) fun i hi => ?_
  rw [set_at (mix_ok ha hb R).1 R i _ hR]
  by_cases e : R = i
  · subst e; rw [if_pos rfl, mix_self hR]
  · rw [if_neg e]
theorem part_end {a b : List Int} (ha : Vk a) (hb : Vk b) {R : Nat} (hR : R < 16) (h : a.getD R 0 < b.getD R 0) : partV a b R (b.getD R 0) = mixV a b (R + 1) := by
  rw [← mix_set ha hb hR, show max (a.getD R 0) (b.getD R 0) = b.getD R 0 by omega]
  rfl
theorem part_at {a b : List Int} (ha : Vk a) (hb : Vk b) {R : Nat} (hR : R < 16) (x : Int) : (partV a b R x).getD R 0 = x := by
  unfold partV
  rw [set_at (mix_ok ha hb R).1 R R x hR, if_pos rfl]
theorem part_next {a b : List Int} (R : Nat) (x y : Int) : (partV a b R x).set R y = partV a b R y := by
  unfold partV
  rw [List.set_set]
theorem Cs.at {w : World} {g off n c : Nat} {l : List Ct} (h : Cs w (.slice (some ⟨g, off, none⟩) n c) l) (i : Nat) (x : Ct) (hi : l[i]? = some x) :
    w.cell? ⟨g, off + i * 4, none⟩ = some (.int .i64 x.r) ∧ w.cell? ⟨g, off + i * 4 + 1, none⟩ = some (.int .i64 x.n) ∧ w.cell? ⟨g, off + i * 4 + 2, none⟩ = some (.int .i64 x.f) ∧ w.cell? ⟨g, off + i * 4 + 3, none⟩ = some (.int .i64 x.t) := by
  have hlt : i < l.length := (List.getElem?_eq_some_iff.1 hi).1
  have hx : l[i] = x := (List.getElem?_eq_some_iff.1 hi).2
  obtain ⟨g', off', c', e, _, _, _, hc⟩ := h.inv (by omega)
  simp only [Value.slice.injEq, Option.some.injEq, Addr.mk.injEq, and_true] at e
  obtain ⟨⟨rfl, rfl⟩, _, rfl⟩ := e
  have := hc i hlt
  rw [hx] at this
  exact this
theorem Cs.fr {S : Nat → Prop} {w w' : World} {v : Value} {l : List Ct} (h : Cs w v l) (hf : Fr S w w') (hn : ∀ k, v.ownBlock = some k → ¬ S k) : Cs w' v l :=
  Sl.kept h fun k hk hlt => hf.block k hlt (hn k hk)

end Go.Proofs.Ytkcjkncpaopjbaa
