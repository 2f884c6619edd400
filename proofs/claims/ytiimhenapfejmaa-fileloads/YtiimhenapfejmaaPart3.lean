/-
  Parts of the proof, one behind the other; what each proves stands at its head.
-/
import Derived.Test.YtiimhenapfejmaaPart2
import Derived.Test.YtiimhenapfejmaaRows
import Derived.Test.YtiimhenapfejmaaPart1
import Derived.Deep.QuietTactic
import Derived.BigQuiet

/-
  What the reference's Trim, Bytes, New and Load do is proved here, for all its files, numbers and bytes.
-/
namespace Go.Proofs.Ytiimhenapfejmaa
open Go.RowKit
set_option linter.unusedVariables false
set_option maxRecDepth 100000

section
variable {B : Nat} {w : World} {b : Nat} {s l : Value} {xs ys : List Int} {R : Nat}

set_option maxHeartbeats 2000000 in
theorem rtrim_any (h : Re B w b s l xs ys R) (k : Int) :
    Calls Try.prog 16 #[.pointer (some ⟨b, 0, none⟩), .int .i64 k] w fun e w' =>
      e = .returned (.int .i64 (rtrim k xs ys).1) ∧ Ro B b R s l w (rtrim k xs ys).2.1 (rtrim k xs ys).2.2 w' := by
  have HF := hid h
  have hR := h.lim
  obtain ⟨hl, hl2⟩ := h.len
  obtain ⟨a, c, a2, c2, rfl, rfl, hc, hc2, g0, g1, g2, f0, f1⟩ := h.cells
  clear h
  obtain ⟨N, hN⟩ : ∃ N, xs.length = N := ⟨_, rfl⟩
  obtain ⟨N2, hN2⟩ : ∃ N, ys.length = N := ⟨_, rfl⟩
  have HN := hid hN
  have HN2 := hid hN2
  by_cases h1 : k < 0
  · rw [show rtrim k xs ys = (11, xs, ys) from if_neg (by omega)]
    rw [hN] at hl hc g0 HF ⊢
    rw [hN2] at hl2 hc2 g1 HF ⊢
    clear hN hN2
    have h1' : decide (k < 0) = true := by simpa using h1
    go_enter Try.func16, Try.ntmps16
    go_wp2
    go_quiet (fail)
    go_wp2
    go_ret
    exact ⟨rfl, _, _, HF.out.drewN _, (Rx.refl _ _ _ _).drewN _⟩
  · have h1' : decide (k < 0) = false := by simpa using h1
    by_cases h2 : (N : Int) + N2 < k
    · rw [show rtrim k xs ys = (11, xs, ys) from if_neg (by omega)]
      rw [hN] at hl hc g0 HF ⊢
      rw [hN2] at hl2 hc2 g1 HF ⊢
      clear hN hN2
      go_enter Try.func16, Try.ntmps16
      go_wp2
      go_quiet (fail)
      go_wp2
      go_ret
      exact ⟨rfl, _, _, HF.out.drewN _, (Rx.refl _ _ _ _).drewN _⟩
    · obtain ⟨m, rfl⟩ : ∃ m : Nat, k = m := ⟨k.toNat, by omega⟩
      have h2' : ¬ (N : Int) + N2 < m := h2
      by_cases h3 : (m : Int) ≤ N
      · rw [show rtrim (m : Int) xs ys = (0, xs.take m, []) by unfold rtrim; rw [if_pos (by omega), if_pos (by omega)]; rfl]
        have hm : m ≤ N := by omega
        have hmc : m ≤ c := by omega
        rw [hN] at hl hc g0 HF ⊢
        rw [hN2] at hl2 hc2 g1 HF ⊢
        clear hN hN2
        have hP := HF.out.put0 (w' := w) (s' := .slice a m c) (zs := xs.take m) (HF.out.os.take m (by rw [HN.out]; exact hm)) (Fr.refl _ _) (HF.out.bs.take m) (by rw [List.length_take, HN.out]; omega) (fun k hk => .inl (by cases a <;> exact hk))
        have hQ := hP.1.nil1
        have HQ := hid hQ.1
        have HX := hid (hP.2.trans hQ.2)
        clear hP hQ
        go_enter Try.func16, Try.ntmps16
        go_wp2
        go_quiet (fail)
        go_wp2
        go_ret
        exact ⟨rfl, _, _, HQ.out.drewN _, HX.out.drewN _⟩
      · rw [show rtrim (m : Int) xs ys = (0, xs, ys.take (m - xs.length)) by unfold rtrim; rw [if_pos (by omega), if_neg (by omega)]; rfl]
        obtain ⟨j, hj⟩ : ∃ j, m - N = j := ⟨_, rfl⟩
        have hjm : (m : Int) - N = j := by omega
        rw [hN] at hl hc g0 HF ⊢
        rw [hN2] at hl2 hc2 g1 HF ⊢
        clear hN hN2
        rw [hj]
        have hjc : j ≤ c2 := by omega
        have hj2 : j ≤ N2 := by omega
        clear hj
        have hP := HF.out.put1 (w' := w) (l' := .slice a2 j c2) (zs := ys.take j) (HF.out.ol.take j (by rw [HN2.out]; exact hj2)) (Fr.refl _ _) (HF.out.bl.take j) (by rw [List.length_take, HN2.out]; omega) (fun k hk => .inl (by cases a2 <;> exact hk))
        have HQ := hid hP.1
        have HX := hid hP.2
        clear hP
        go_enter Try.func16, Try.ntmps16
        go_wp2
        go_quiet (fail)
        go_wp2
        go_region
        all_goals
          go_wp2
          go_ret
          exact ⟨rfl, _, _, HQ.out.drewN _, HX.out.drewN _⟩

set_option maxHeartbeats 2000000 in
theorem rbytes_any (h : Re B w b s l xs ys R) :
    Calls Try.prog 20 #[.pointer (some ⟨b, 0, none⟩)] w fun e w' => ∃ v', e = .returned v' ∧ Ow w.heap.size w' v' (xs ++ ys) ∧ Below w.heap.size w w' := by
  have HF := hid h
  have hR := h.lim
  obtain ⟨hl, hl2⟩ := h.len
  obtain ⟨a, c, a2, c2, rfl, rfl, hc, hc2, g0, g1, g2, f0, f1⟩ := h.cells
  clear h
  have hlx : xs.length + ys.length ≤ 140737488355328 := by omega
  go_enter Try.func20, Try.ntmps20
  go_wp2_with fail
  go_region_law (first
    | (go_simp; go_at_call 11; refine (copy_own _ xs w.drew (HF.out.os.bs HF.out.bs) (by omega)).mono ?_; rintro e w2 ⟨g, cap, rfl, ho, hb2⟩; have HO := hid ho; have HB2 : Hid (Below w.heap.size w w2) := ((Below.refl _ w).drew).trans hb2; have HF2 := hid (HF.out.below HB2.out); have g1' : w2.cell? ⟨b, 1, none⟩ = some (.slice a2 ys.length c2) := (World.cell?_of_block (a := ⟨b, 1, none⟩) (hb2.block b HF.out.lt)).trans g1)
    | (refine step_append_bs rfl _ _ rfl w.heap.size _ _ xs rfl HO.out _ ys rfl (HF2.out.ol.bs HF2.out.bl) hlx HB2.out.size ?_; intro v3 w3 hown3 hg3 hv3; rw [← List.length_append] at hown3; have HO3 := hid hown3; have HB3 := hid (Below.grown HB2.out hg3 HB2.out.size (fun k hk => (HO.out.lt k hk).1))))
  all_goals
    go_wp2
    go_ret
    exact ⟨_, rfl, HO3.out, HB3.out⟩

set_option maxHeartbeats 2000000 in
theorem rnew_bad (k : Int) (h : k < 0 ∨ 1048576 < k) : Calls Try.prog 10 #[.int .i64 k] w fun e w' => e = .returned (.tuple #[.pointer none, .int .i64 11]) ∧ w = w' := by
  by_cases h1 : k < 0
  · go_enter Try.func10, Try.ntmps10
    go_wp2
    go_ret2
    exact ⟨rfl, rfl⟩
  · have h1' : decide (k < 0) = false := by simp; omega
    have h2 : (1048576 : Int) < k := by omega
    go_enter Try.func10, Try.ntmps10
    go_wp2
    go_ret2
    exact ⟨rfl, rfl⟩

set_option maxHeartbeats 2000000 in
theorem rnew_ok (R : Nat) (hR : R ≤ 1048576) : Calls Try.prog 10 #[.int .i64 R] w fun e w' =>
    e = .returned (.tuple #[.pointer (some ⟨w.heap.size, 0, none⟩), .int .i64 0]) ∧ Below w.heap.size w w' ∧ Re w.heap.size w' w.heap.size (.slice none 0 0) (.slice none 0 0) [] [] R := by
  have h1 : decide ((R : Int) < 0) = false := by simp
  have h2 : decide ((1048576 : Int) < (R : Int)) = false := by simp; omega
  have HR : Hid (Re w.heap.size (w.alloc (.cells #[.slice none 0 0, .slice none 0 0, .int .i64 R] 44 (0, 0))) w.heap.size (.slice none 0 0) (.slice none 0 0) [] [] R) :=
    ⟨heap_alloc_new w _, Nat.le_refl _, Ow.nil _ _, Ow.nil _ _, Byt.nil, Byt.nil, (fun k hk => by cases hk), ⟨Nat.zero_le _, Nat.zero_le _⟩, hR⟩
  go_enter Try.func10, Try.ntmps10
  go_wp2
  go_ret2
  exact ⟨rfl, ba _ _, HR.out⟩

set_option maxHeartbeats 2000000 in
theorem rload_bad (u : Value) (k : Int) (h : k < 0 ∨ 1048576 < k) : Calls Try.prog 26 #[u, .int .i64 k] w fun e w' => e = .returned (.tuple #[.pointer none, .int .i64 11]) ∧ w = w' := by
  have H := hid h
  clear h
  go_enter Try.func26, Try.ntmps26
  go_wp2_with fail
  refine (rnew_bad k H.out).mono ?_
  rintro e w1 ⟨rfl, rfl⟩
  go_wp2
  go_ret2
  exact ⟨rfl, rfl⟩

set_option maxHeartbeats 2000000 in
theorem rload_full (u : Value) (us : List Int) (R : Nat) (hR : R ≤ 1048576) (hu : Bs w u us) (h : R < us.length) : Calls Try.prog 26 #[u, .int .i64 R] w fun e w' => e = .returned (.tuple #[.pointer none, .int .i64 14]) ∧ Below w.heap.size w w' := by
  obtain ⟨ua, uc, rfl⟩ := hu.form
  obtain ⟨M, hM⟩ : ∃ M, us.length = M := ⟨_, rfl⟩
  rw [hM] at h ⊢
  have h' : (R : Int) < M := by omega
  clear hu hM
  go_enter Try.func26, Try.ntmps26
  go_wp2_with fail
  refine (rnew_ok R hR).mono ?_
  rintro e w1 ⟨rfl, hb, hf⟩
  have HB := hid hb
  clear hb hf
  go_wp2
  go_ret2
  exact ⟨rfl, HB.out⟩

set_option maxHeartbeats 2000000 in
theorem rload_ok (u : Value) (us : List Int) (R : Nat) (hR : R ≤ 1048576) (hu : Bs w u us) (h : us.length ≤ R) : Calls Try.prog 26 #[u, .int .i64 R] w fun e w' =>
    ∃ p : Addr, e = .returned (.tuple #[.pointer (some p), .int .i64 0]) ∧ Below w.heap.size w w' := by
  have HU := hid hu
  obtain ⟨ua, uc, rfl⟩ := hu.form
  obtain ⟨M, hM⟩ : ∃ M, us.length = M := ⟨_, rfl⟩
  have HM := hid hM
  rw [hM] at h HU ⊢
  have h' : ¬ (R : Int) < M := by omega
  clear hu hM
  go_enter Try.func26, Try.ntmps26
  go_wp2_with fail
  refine (rnew_ok R hR).mono ?_
  rintro e w1 ⟨rfl, hb, hf⟩
  have HB := hid hb
  have HF := hid hf
  have hlt := hf.lt
  clear hb hf
  go_wp2_with fail
  refine (copy_own _ us w1 (HU.out.below HB.out) (by rw [HM.out]; omega)).mono ?_
  rintro e w2 ⟨g, cap, rfl, hO, hb⟩
  have hfb := hb.block _ HF.out.lt
  obtain ⟨xa, xc, xa2, xc2, e1, e2, -, -, g0, -, -, f0, -⟩ := HF.out.cells
  clear e1 e2
  have q1 := (World.frozen?_of_block (a := ⟨w.heap.size, 0, none⟩) hfb).trans f0
  have q2 := (World.cell?_of_block (a := ⟨w.heap.size, 0, none⟩) hfb).trans g0
  have HB2 := hid ((HB.out.trans (hb.mono HB.out.size)).setCell (p := ⟨w.heap.size, 0, none⟩) (Nat.le_refl _) (.slice (some ⟨g, 0, none⟩) us.length cap))
  clear hO hb hfb g0 f0
  go_wp2
  go_ret2
  exact ⟨_, rfl, HB2.out⟩
end
end Go.Proofs.Ytiimhenapfejmaa

/-
  That offshootref00.SameBytes tells whether two lists of bytes are one is proved here, for all slices that read as bytes.
-/
namespace Go.Proofs.Ytiimhenapfejmaa
open Go.RowKit
set_option linter.unusedVariables false
set_option maxRecDepth 100000

theorem take_step {xs ys : List Int} {k : Nat} (h1 : k < xs.length) (h2 : k < ys.length) (h : xs.take k = ys.take k) (he : xs.getD k 0 = ys.getD k 0) : xs.take (k + 1) = ys.take (k + 1) := by
  rw [List.take_succ_eq_append_getElem h1, List.take_succ_eq_append_getElem h2, h]
  simp [List.getD, h1, h2] at he
  rw [he]
theorem not_eq_of_at {xs ys : List Int} {k : Nat} (he : xs.getD k 0 ≠ ys.getD k 0) : xs ≠ ys := by
  intro e; exact he (by rw [e])

set_option maxHeartbeats 1000000 in
theorem same_any (a b : Value) (xs ys : List Int) (w : World) (h1 : Bs w a xs) (h2 : Bs w b ys) :
    Calls Try.prog 18 #[a, b] w fun e w' => e = .returned (.bool (decide (xs = ys))) ∧ ∃ n, w' = w.drewN n := by
  have l1 := h1.len
  have l2 := h2.len
  unfold maxLen at l1 l2
  by_cases hl : xs.length = ys.length
  · by_cases hz : xs.length = 0
    · have e1 : xs = [] := List.eq_nil_of_length_eq_zero hz
      have e2 : ys = [] := List.eq_nil_of_length_eq_zero (by omega)
      subst e1 e2
      obtain ⟨a1, c1, rfl, _⟩ := h1.inv_nil
      obtain ⟨a2, c2, rfl, _⟩ := h2.inv_nil
      clear h1 h2 l1 l2 hl hz
      go_enter Try.func18, Try.ntmps18
      go_wp2
      refine wp_loop_rounds 1 ?_
      rw [rounds_succ]
      go_wp2
      go_ret
      exact ⟨rfl, 0, rfl⟩
    · obtain ⟨b1, o1, c1, rfl, _, _, hc1⟩ := h1.inv (by omega)
      obtain ⟨b2, o2, c2, rfl, _, _, hc2⟩ := h2.inv (by omega)
      rw [← hl]
      obtain ⟨n, hn⟩ : ∃ n, xs.length = n := ⟨_, rfl⟩
      have HL : Hid (ys.length = n) := by rw [← hl]; exact hn
      have HN : Hid (xs.length = n) := hn
      rw [hn]
      rw [hn] at hz l1
      clear hn hl h1 h2
      have hnn : ((n : Int) != (n : Int)) = false := by simp
      go_enter Try.func18, Try.ntmps18
      go_wp2
      go_loopw [5] (fun i wr => ∃ k m : Nat, k ≤ n ∧ i = .int .i64 k ∧ wr = w.drewN m ∧ xs.take k = ys.take k) (fun i _ => n - (intOf i).toNat)
      case atStart => exact ⟨0, 0, Nat.zero_le _, rfl, rfl, by simp⟩
      case round =>
        obtain ⟨k, m, hk, rfl, rfl, ht⟩ := hrel
        have HT := hid ht
        clear ht
        by_cases hlt : k < n
        · have g1 := hc1 k (by have := HN.out; omega)
          have g2 := hc2 k (by have := HL.out; omega)
          clear hc1 hc2
          have b1' : (k : Int) < (n : Int) := by omega
          go_wp2
          go_quiet (fail)
          by_cases he : xs.getD k 0 = ys.getD k 0
          · have he' : (xs[k]?.getD 0 != ys[k]?.getD 0) = false := by simpa [List.getD] using he
            have HE := hid he
            clear he
            go_wp2
            go_roundw
            case rel => exact ⟨k + 1, _, by omega, by go_num, rfl, take_step (by have := HN.out; omega) (by have := HL.out; omega) HT.out HE.out⟩
            case measure => simp [intOf]; omega
          · have he' : (xs[k]?.getD 0 != ys[k]?.getD 0) = true := by simpa [List.getD] using he
            have HE := hid he
            clear he
            go_wp2
            go_ret
            exact ⟨by rw [decide_eq_false (not_eq_of_at HE.out)]; rfl, _, World.drewN_drewN _ _ _⟩
        · clear hc1 hc2
          go_wp2
          go_ret
          refine ⟨?_, _, rfl⟩
          have e1 : k = n := by omega
          have h3 := HT.out
          rw [List.take_of_length_le (by have := HN.out; omega), List.take_of_length_le (by have := HL.out; omega)] at h3
          rw [decide_eq_true h3]; rfl
  · have hne : ((xs.length : Int) != (ys.length : Int)) = true := by simp; omega
    obtain ⟨a1, c1, rfl, _⟩ := h1
    obtain ⟨a2, c2, rfl, _⟩ := h2
    go_enter Try.func18, Try.ntmps18
    go_wp2
    go_ret
    exact ⟨by rw [decide_eq_false (by intro e; exact hl (by rw [e]))]; rfl, 0, rfl⟩


theorem same_b (a b : Value) (xs ys : List Int) (w : World) (h1 : Bs w a xs) (h2 : Bs w b ys) :
    Calls Try.prog 18 #[a, b] w fun e w' => e = .returned (.bool (decide (xs = ys))) ∧ Below w.heap.size w w' :=
  (same_any a b xs ys w h1 h2).mono fun _ _ ⟨he, n, hw⟩ => ⟨he, by rw [hw]; exact bd w n⟩

end Go.Proofs.Ytiimhenapfejmaa

/-
  That FileLoads returns true is proved here, for all bytes, rooms and numbers that are kept.
-/
namespace Go.Proofs.Ytiimhenapfejmaa
open Go.RowKit
set_option linter.unusedVariables false
set_option maxRecDepth 100000

theorem crash_full (k : Int) (xs : List Int) : crashS k xs xs.length = (0, xs, xs.length) := by
  have : left k xs xs.length = xs.length := by unfold left; omega
  unfold crashS
  rw [this, List.take_of_length_le (Nat.le_refl _)]

set_option maxHeartbeats 4000000 in
theorem loads_walk (v : Value) (xs : List Int) (room keep : Int) (w : World) (h0 : Bs w v xs) (h1 : (Lit.int .i64 room).wf = true) (h2 : (Lit.int .i64 keep).wf = true) :
    Calls Try.prog 4 #[v, .int .i64 room, .int .i64 keep] w fun e w' => e = .returned (.bool true) ∧ Below w.heap.size w w' := by
  have l1 := h0.len
  unfold maxLen at l1
  have HV := hid h0
  obtain ⟨va, vc, rfl⟩ := h0.form
  obtain ⟨N, hN⟩ : ∃ N, xs.length = N := ⟨_, rfl⟩
  have HN := hid hN
  rw [hN] at HV l1 ⊢
  clear h0 h1 h2 hN
  go_enter Try.func4, Try.ntmps4
  go_wp2_with fail
  refine (alive_any w).mono ?_
  rintro e w1 ⟨rfl, b1⟩
  have B1 := hid b1
  clear b1
  by_cases hg : (20000 : Int) < N
  · go_wp2
    go_ret
    exact ⟨rfl, B1.out⟩
  · have hg' : ¬ (20000 : Int) < N := hg
    go_wp2_with fail
    refine (copy_own _ xs w1 (HV.out.below B1.out) (by rw [HN.out]; omega)).mono ?_
    rintro e w2 ⟨g, cap, rfl, o2, b2⟩
    rw [HN.out] at o2 ⊢
    have hgg := o2.lt g rfl
    have hcp : N ≤ cap := by
      obtain ⟨_, _, e, h⟩ := own_form o2
      simp only [Value.slice.injEq] at e
      omega
    have O2 : Hid (Ow w1.heap.size w2 (.slice (some ⟨g, 0, none⟩) N cap) xs) := by show Ow _ _ _ _; rw [Ow, HN.out]; exact o2
    have B2 := hid (bt B1.out b2)
    have hws := B1.out.size
    clear o2 b2
    have HU : Hid (Bs w2 (.slice (some ⟨g, 0, none⟩) N cap) xs) := O2.out.bs HV.out.range
    go_wp2_with fail
    by_cases hr : room < 0 ∨ 1048576 < room
    · refine (load_bad _ room hr).mono ?_
      rintro e w3 ⟨rfl, rfl⟩
      go_wp2_with fail
      refine (rload_bad _ room hr).mono ?_
      rintro e w3 ⟨rfl, rfl⟩
      clear hr
      go_wp2_with fail
      refine (same_any _ _ _ _ w2 HU.out (HV.out.below B2.out)).mono ?_
      rintro e w3 ⟨rfl, m, rfl⟩
      rw [decide_eq_true rfl]
      go_wp2
      go_ret
      exact ⟨rfl, below_drewN B2.out m⟩
    · obtain ⟨R, rfl⟩ : ∃ R : Nat, room = R := ⟨room.toNat, by omega⟩
      have hR : R ≤ 1048576 := by omega
      by_cases hf : R < N
      · refine (load_full _ xs R hR HU.out (by rw [HN.out]; exact hf)).mono ?_
        rintro e w3 ⟨rfl, b3⟩
        have B3 := hid (bt B2.out b3)
        have HU3 := hid (HU.out.below b3)
        clear b3
        go_wp2_with fail
        refine (rload_full _ xs R hR (HV.out.below B3.out) (by rw [HN.out]; exact hf)).mono ?_
        rintro e w4 ⟨rfl, b4⟩
        have B4 := hid (bt B3.out b4)
        have HU4 := hid (HU3.out.below b4)
        clear b4 hr
        go_wp2_with fail
        refine (same_any _ _ _ _ w4 HU4.out (HV.out.below B4.out)).mono ?_
        rintro e w5 ⟨rfl, m, rfl⟩
        rw [decide_eq_true rfl]
        go_wp2
        go_ret
        exact ⟨rfl, below_drewN B4.out m⟩
      · refine (load_ok _ xs R hR HU.out (by rw [HN.out]; omega)).mono ?_
        rintro e w3 ⟨rfl, b3, v3, f3⟩
        rw [HN.out] at f3
        obtain ⟨b, hb⟩ : ∃ b, w2.heap.size = b := ⟨_, rfl⟩
        rw [hb] at f3 b3 hgg ⊢
        have HB := hid hb
        have hb2 : w.heap.size ≤ b := by rw [← hb]; exact B2.out.size
        have B3 := hid (bt B2.out (by rw [hb]; exact b3))
        have F3 := hid f3
        have hl3 : b < w3.heap.size := f3.lt
        have O3 : Hid (Ow w1.heap.size w3 (.slice (some ⟨g, 0, none⟩) N cap) xs) := O2.out.of_block (fun i hi => b3.block i (by have := (O2.out.lt i hi).2; omega))
        clear b3 f3 hb
        go_wp2_with fail
        refine (rload_ok _ xs R hR (HV.out.below B3.out) (by rw [HN.out]; omega)).mono ?_
        rintro e w4 ⟨p, rfl, b4⟩
        have B4 := hid (bt B3.out b4)
        have F4 := hid (F3.out.below b4)
        have O4 : Hid (Ow w1.heap.size w4 (.slice (some ⟨g, 0, none⟩) N cap) xs) := O3.out.of_block (fun i hi => b4.block i (O3.out.lt i hi).2)
        have hl4 : b < w4.heap.size := F4.out.lt
        have HU4 : Hid (Bs w4 (.slice (some ⟨g, 0, none⟩) N cap) xs) := O4.out.bs HV.out.range
        clear b4 hr
        go_wp2_with fail
        refine (same_any _ _ _ _ w4 HU4.out (HV.out.below B4.out)).mono ?_
        rintro e w5 ⟨rfl, m, rfl⟩
        rw [decide_eq_true rfl]
        go_wp2
        go_loopw [12] (fun i wr => ∃ (k : Nat) (zs : List Int), k ≤ N ∧ i = .int .i64 k ∧ zs.length = N ∧ wr.ownsRow w1.heap.size 5 1 (.slice (some ⟨g, 0, none⟩) N cap) N (cs zs) ∧ w4.grownBy wr (some g)) (fun i _ => N - (intOf i).toNat)
        case atStart => exact ⟨0, xs, Nat.zero_le _, rfl, HN.out, by have := O4.out; rw [Ow, HN.out] at this; exact this, World.grownBy.drewN (World.grownBy.rfl' _ _) m⟩
        case round =>
          obtain ⟨k, zs, hk, rfl, hzs, hown, hgr⟩ := hrel
          by_cases hlt : k < N
          · have hcell : wr.cell? ⟨g, k, none⟩ = some (.int .u8 (zs.getD k 0)) := by
              rw [hown.cellAt k (by omega)]
              simp [cs, show k < zs.length by omega]
            have hfz := hown.frozenAt k
            have HS := hid (hown.stored k)
            have hklt : (k : Int) < (N : Int) := by omega
            generalize zs.getD k 0 = z at hcell
            have HGR := hid hgr
            have HZS := hid hzs
            clear hown hgr hzs
            go_wp2
            go_roundw
            case rel =>
              have hs := HS.out (.int .u8 (bits BinOp.xor IntKind.u8 z 255))
              refine ⟨k + 1, zs.set k (bits BinOp.xor IntKind.u8 z 255), by omega, by go_num, by simpa using HZS.out, ?_, World.grownBy.trans HGR.out hs.2⟩
              have e := hs.1
              rw [← List.map_set] at e
              exact e
            case measure => simp [intOf]; omega
          · have F5 : Hid (Fi b wr b v3 xs N R) := F4.out.of_block (fun i hi => hgr.block i (by
              rcases hi with rfl | hi
              · exact F4.out.lt
              · exact (F4.out.own.lt i hi).2) (by
              simp only [ne_eq, Option.some.injEq]
              rcases hi with rfl | hi
              · omega
              · have := (F4.out.own.lt i hi).1; omega))
            have B5 : Hid (Below w.heap.size w wr) := bg B4.out hgr (by omega)
            have hl5 : b < wr.heap.size := F5.out.lt
            have HR : Hid (crashS keep xs N = (0, xs, N)) := by
              show crashS keep xs N = (0, xs, N)
              rw [← HN.out]; exact crash_full keep xs
            clear hown hgr hzs
            have hl : N ≤ R := by omega
            go_wp2_with fail
            refine (fcrash_any F5.out (by rw [HN.out]; exact Nat.le_refl _) keep).mono ?_
            rintro e w6 ⟨rfl, hf6⟩
            obtain ⟨v6, f6, x6⟩ := hf6.out HR.out
            have F6 := hid f6
            have B6 := hid (B5.out.trans ((F5.out.fr x6 (by omega)).mono hb2))
            clear hf6 f6 x6
            go_wp2_with fail
            refine (bytes_any F6.out).mono ?_
            rintro e w7 ⟨v7, rfl, o7, b7⟩
            have HY := hid (o7.bs HV.out.range)
            have F7 := hid (F6.out.below b7)
            have B7 := hid (bt B6.out b7)
            clear o7 b7
            go_wp2_with fail
            refine (same_any _ _ _ _ w7 HY.out (HV.out.below B7.out)).mono ?_
            rintro e w8 ⟨rfl, m8, rfl⟩
            rw [decide_eq_true rfl]
            go_wp2_with fail
            refine (synced_any (F7.out.drewN m8)).mono ?_
            rintro e w8 ⟨rfl, rfl⟩
            go_wp2_with fail
            refine (room_any (F7.out.drewN m8)).mono ?_
            rintro e w8 ⟨rfl, m9, rfl⟩
            rw [HN.out]
            go_wp2
            go_ret
            exact ⟨rfl, below_drewN B7.out (m8 + m9)⟩
end Go.Proofs.Ytiimhenapfejmaa
