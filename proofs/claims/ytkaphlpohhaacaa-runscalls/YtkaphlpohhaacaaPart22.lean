/-
  Parts of the proof, one behind the other; what each proves stands at its head.
-/
import Derived.Test.YtkaphlpohhaacaaPart21
import Derived.Test.YtkaphlpohhaacaaPart18
import Derived.Test.YtkaphlpohhaacaaPart19

/-
  What the reference's Put answers, and leaves of a row, is proved here. Printed by genuxput2.py.
-/
namespace Go.Proofs.Ytkaphlpohhaacaa
open Go.RowKit
set_option linter.unusedVariables false
set_option linter.unusedSimpArgs false
set_option maxRecDepth 100000

theorem has_no {T : List Un} {z : Un} (h : ∀ j : Nat, (j : Int) < z.l → ∀ x ∈ T, isC z.r z.n (z.f + j) x = false) : hasC T z = false := by
  unfold hasC
  rw [List.any_eq_false]
  intro x hx hh
  simp at hh
  obtain ⟨h1, h2, h3⟩ := hh
  have := h (x.f - z.f).toNat (by omega) x hx
  unfold isC at this
  rw [h1] at this
  simp at this
  omega
theorem has_yes {T : List Un} {z : Un} {k : Nat} (hk : (k : Int) < z.l) (h : 0 ≤ idxU (isC z.r z.n (z.f + k)) T) : hasC T z = true := by
  obtain ⟨j, hj, _, h2, _⟩ := idxU_pos h
  unfold hasC
  rw [List.any_eq_true]
  refine ⟨T[j], List.getElem_mem hj, ?_⟩
  unfold isC at h2
  simp at h2
  rw [h2.1]
  simp
  omega
theorem chs_take {z : Un} {k : Nat} (hk : (k : Int) < z.l) : (chs (ownU z)).take (k + 1) = (chs (ownU z)).take k ++ [⟨z.r, z.n, z.f + k, 1, 0, 0, 0, 0, 0, 0, z.g, z.m, z.t.extract k (k + 1)⟩] := by
  have hl : k < (chs (ownU z)).length := by
    unfold chs
    rw [List.length_map, List.length_range]
    show k < z.l.toNat
    omega
  rw [List.take_succ_eq_append_getElem hl]
  have e : (chs (ownU z))[k] = chU (ownU z) k := by simp [chs]
  rw [e]
  rfl

set_option maxHeartbeats 8000000 in
theorem xput_form (N r : Nat) (v : Value) (T : List Un) (p : Int) (z : Un) (w : World) (h : Xl N w r v T) (hz : rightB z = false) :
    Calls Try.prog 11 #[.pointer (some ⟨r, 0, none⟩), .int .i64 p, unv z] w fun e w' => e = .returned (.int .i64 10) ∧ Below w.heap.size w w' := by
  have HZ := hid hz
  clear h hz
  cases a0 : ro z.r z.n
  · skip
    have HR := hid a0
    clear a0
    go_enter Try.func11, Try.ntmps11
    go_wp2_with (first | (refine wl_boxI (u := z) rfl rfl rfl ?_; intro W1 b1 e1 hub hb1; have c0 : W1.cell? ⟨b1,0,none⟩ = some (.int .i64 z.r) := hub.cells.c0; have c1 : W1.cell? ⟨b1,1,none⟩ = some (.int .i64 z.n) := hub.cells.c1; have HU := hid hub; have HB := hid hb1; have HE := hid e1; clear e1 hub hb1) | fail)
    refine (xro_any _ _ _).mono ?_
    rintro e W2 ⟨rfl, rfl⟩
    rw [HR.out]
    have HA := hid (ba W1 (ido 24 z.r z.n))
    have HU2 := hid (HU.out.below HA.out)
    obtain ⟨W3, hW3⟩ : ∃ W, W1.alloc (ido 24 z.r z.n) = W := ⟨_, rfl⟩
    rw [hW3] at HA HU2 ⊢
    have d2 : W3.cell? ⟨b1, 2, none⟩ = some (.int .i64 z.f) := HU2.out.cells.c2
    have d3 : W3.cell? ⟨b1, 3, none⟩ = some (.int .i64 z.l) := HU2.out.cells.c3
    have d11 : W3.cell? ⟨b1, 11, none⟩ = some (.bool z.m) := HU2.out.cells.c11
    have d12 : W3.cell? ⟨b1, 12, none⟩ = some (.string z.t) := HU2.out.cells.c12
    have HBB := hid (bt HB.out HA.out)
    clear hW3 c0 c1 HU2 HA HB HU
    go_wp2_with fail
    go_ret
    exact ⟨rfl, HBB.out⟩
  cases a1 : decide (z.l < 1)
  rotate_left
  · skip
    have HR := hid a0
    clear a0
    go_enter Try.func11, Try.ntmps11
    go_wp2_with (first | (refine wl_boxI (u := z) rfl rfl rfl ?_; intro W1 b1 e1 hub hb1; have c0 : W1.cell? ⟨b1,0,none⟩ = some (.int .i64 z.r) := hub.cells.c0; have c1 : W1.cell? ⟨b1,1,none⟩ = some (.int .i64 z.n) := hub.cells.c1; have HU := hid hub; have HB := hid hb1; have HE := hid e1; clear e1 hub hb1) | fail)
    refine (xro_any _ _ _).mono ?_
    rintro e W2 ⟨rfl, rfl⟩
    rw [HR.out]
    have HA := hid (ba W1 (ido 24 z.r z.n))
    have HU2 := hid (HU.out.below HA.out)
    obtain ⟨W3, hW3⟩ : ∃ W, W1.alloc (ido 24 z.r z.n) = W := ⟨_, rfl⟩
    rw [hW3] at HA HU2 ⊢
    have d2 : W3.cell? ⟨b1, 2, none⟩ = some (.int .i64 z.f) := HU2.out.cells.c2
    have d3 : W3.cell? ⟨b1, 3, none⟩ = some (.int .i64 z.l) := HU2.out.cells.c3
    have d11 : W3.cell? ⟨b1, 11, none⟩ = some (.bool z.m) := HU2.out.cells.c11
    have d12 : W3.cell? ⟨b1, 12, none⟩ = some (.string z.t) := HU2.out.cells.c12
    have HBB := hid (bt HB.out HA.out)
    clear hW3 c0 c1 HU2 HA HB HU
    go_wp2_with fail
    go_ret
    exact ⟨rfl, HBB.out⟩
  cases a2 : decide (64 < z.l)
  rotate_left
  · skip
    have HR := hid a0
    clear a0
    go_enter Try.func11, Try.ntmps11
    go_wp2_with (first | (refine wl_boxI (u := z) rfl rfl rfl ?_; intro W1 b1 e1 hub hb1; have c0 : W1.cell? ⟨b1,0,none⟩ = some (.int .i64 z.r) := hub.cells.c0; have c1 : W1.cell? ⟨b1,1,none⟩ = some (.int .i64 z.n) := hub.cells.c1; have HU := hid hub; have HB := hid hb1; have HE := hid e1; clear e1 hub hb1) | fail)
    refine (xro_any _ _ _).mono ?_
    rintro e W2 ⟨rfl, rfl⟩
    rw [HR.out]
    have HA := hid (ba W1 (ido 24 z.r z.n))
    have HU2 := hid (HU.out.below HA.out)
    obtain ⟨W3, hW3⟩ : ∃ W, W1.alloc (ido 24 z.r z.n) = W := ⟨_, rfl⟩
    rw [hW3] at HA HU2 ⊢
    have d2 : W3.cell? ⟨b1, 2, none⟩ = some (.int .i64 z.f) := HU2.out.cells.c2
    have d3 : W3.cell? ⟨b1, 3, none⟩ = some (.int .i64 z.l) := HU2.out.cells.c3
    have d11 : W3.cell? ⟨b1, 11, none⟩ = some (.bool z.m) := HU2.out.cells.c11
    have d12 : W3.cell? ⟨b1, 12, none⟩ = some (.string z.t) := HU2.out.cells.c12
    have HBB := hid (bt HB.out HA.out)
    clear hW3 c0 c1 HU2 HA HB HU
    go_wp2_with fail
    go_ret
    exact ⟨rfl, HBB.out⟩
  cases a3 : decide (z.f < 0)
  rotate_left
  · skip
    have HR := hid a0
    clear a0
    go_enter Try.func11, Try.ntmps11
    go_wp2_with (first | (refine wl_boxI (u := z) rfl rfl rfl ?_; intro W1 b1 e1 hub hb1; have c0 : W1.cell? ⟨b1,0,none⟩ = some (.int .i64 z.r) := hub.cells.c0; have c1 : W1.cell? ⟨b1,1,none⟩ = some (.int .i64 z.n) := hub.cells.c1; have HU := hid hub; have HB := hid hb1; have HE := hid e1; clear e1 hub hb1) | fail)
    refine (xro_any _ _ _).mono ?_
    rintro e W2 ⟨rfl, rfl⟩
    rw [HR.out]
    have HA := hid (ba W1 (ido 24 z.r z.n))
    have HU2 := hid (HU.out.below HA.out)
    obtain ⟨W3, hW3⟩ : ∃ W, W1.alloc (ido 24 z.r z.n) = W := ⟨_, rfl⟩
    rw [hW3] at HA HU2 ⊢
    have d2 : W3.cell? ⟨b1, 2, none⟩ = some (.int .i64 z.f) := HU2.out.cells.c2
    have d3 : W3.cell? ⟨b1, 3, none⟩ = some (.int .i64 z.l) := HU2.out.cells.c3
    have d11 : W3.cell? ⟨b1, 11, none⟩ = some (.bool z.m) := HU2.out.cells.c11
    have d12 : W3.cell? ⟨b1, 12, none⟩ = some (.string z.t) := HU2.out.cells.c12
    have HBB := hid (bt HB.out HA.out)
    clear hW3 c0 c1 HU2 HA HB HU
    go_wp2_with fail
    go_ret
    exact ⟨rfl, HBB.out⟩
  cases a4 : decide (64 < z.f)
  rotate_left
  · skip
    have HR := hid a0
    clear a0
    go_enter Try.func11, Try.ntmps11
    go_wp2_with (first | (refine wl_boxI (u := z) rfl rfl rfl ?_; intro W1 b1 e1 hub hb1; have c0 : W1.cell? ⟨b1,0,none⟩ = some (.int .i64 z.r) := hub.cells.c0; have c1 : W1.cell? ⟨b1,1,none⟩ = some (.int .i64 z.n) := hub.cells.c1; have HU := hid hub; have HB := hid hb1; have HE := hid e1; clear e1 hub hb1) | fail)
    refine (xro_any _ _ _).mono ?_
    rintro e W2 ⟨rfl, rfl⟩
    rw [HR.out]
    have HA := hid (ba W1 (ido 24 z.r z.n))
    have HU2 := hid (HU.out.below HA.out)
    obtain ⟨W3, hW3⟩ : ∃ W, W1.alloc (ido 24 z.r z.n) = W := ⟨_, rfl⟩
    rw [hW3] at HA HU2 ⊢
    have d2 : W3.cell? ⟨b1, 2, none⟩ = some (.int .i64 z.f) := HU2.out.cells.c2
    have d3 : W3.cell? ⟨b1, 3, none⟩ = some (.int .i64 z.l) := HU2.out.cells.c3
    have d11 : W3.cell? ⟨b1, 11, none⟩ = some (.bool z.m) := HU2.out.cells.c11
    have d12 : W3.cell? ⟨b1, 12, none⟩ = some (.string z.t) := HU2.out.cells.c12
    have HBB := hid (bt HB.out HA.out)
    clear hW3 c0 c1 HU2 HA HB HU
    go_wp2_with fail
    go_ret
    exact ⟨rfl, HBB.out⟩
  cases a5 : decide (64 < z.f + z.l)
  rotate_left
  · skip
    have p1 : ¬ z.l < 1 := of_decide_eq_false a1
    have p2 : ¬ 64 < z.l := of_decide_eq_false a2
    have p3 : ¬ z.f < 0 := of_decide_eq_false a3
    have p4 : ¬ 64 < z.f := of_decide_eq_false a4
    have HR := hid a0
    clear a0
    go_enter Try.func11, Try.ntmps11
    go_wp2_with (first | (refine wl_boxI (u := z) rfl rfl rfl ?_; intro W1 b1 e1 hub hb1; have c0 : W1.cell? ⟨b1,0,none⟩ = some (.int .i64 z.r) := hub.cells.c0; have c1 : W1.cell? ⟨b1,1,none⟩ = some (.int .i64 z.n) := hub.cells.c1; have HU := hid hub; have HB := hid hb1; have HE := hid e1; clear e1 hub hb1) | fail)
    refine (xro_any _ _ _).mono ?_
    rintro e W2 ⟨rfl, rfl⟩
    rw [HR.out]
    have HA := hid (ba W1 (ido 24 z.r z.n))
    have HU2 := hid (HU.out.below HA.out)
    obtain ⟨W3, hW3⟩ : ∃ W, W1.alloc (ido 24 z.r z.n) = W := ⟨_, rfl⟩
    rw [hW3] at HA HU2 ⊢
    have d2 : W3.cell? ⟨b1, 2, none⟩ = some (.int .i64 z.f) := HU2.out.cells.c2
    have d3 : W3.cell? ⟨b1, 3, none⟩ = some (.int .i64 z.l) := HU2.out.cells.c3
    have d11 : W3.cell? ⟨b1, 11, none⟩ = some (.bool z.m) := HU2.out.cells.c11
    have d12 : W3.cell? ⟨b1, 12, none⟩ = some (.string z.t) := HU2.out.cells.c12
    have HBB := hid (bt HB.out HA.out)
    clear hW3 c0 c1 HU2 HA HB HU
    go_wp2_with fail
    go_ret
    exact ⟨rfl, HBB.out⟩
  cases a6 : decide ((z.t.size : Int) = z.l)
  · skip
    have p1 : ¬ z.l < 1 := of_decide_eq_false a1
    have p2 : ¬ 64 < z.l := of_decide_eq_false a2
    have p3 : ¬ z.f < 0 := of_decide_eq_false a3
    have p4 : ¬ 64 < z.f := of_decide_eq_false a4
    have p6 : ¬ (z.t.size : Int) = z.l := of_decide_eq_false a6
    have HR := hid a0
    clear a0
    go_enter Try.func11, Try.ntmps11
    go_wp2_with (first | (refine wl_boxI (u := z) rfl rfl rfl ?_; intro W1 b1 e1 hub hb1; have c0 : W1.cell? ⟨b1,0,none⟩ = some (.int .i64 z.r) := hub.cells.c0; have c1 : W1.cell? ⟨b1,1,none⟩ = some (.int .i64 z.n) := hub.cells.c1; have HU := hid hub; have HB := hid hb1; have HE := hid e1; clear e1 hub hb1) | fail)
    refine (xro_any _ _ _).mono ?_
    rintro e W2 ⟨rfl, rfl⟩
    rw [HR.out]
    have HA := hid (ba W1 (ido 24 z.r z.n))
    have HU2 := hid (HU.out.below HA.out)
    obtain ⟨W3, hW3⟩ : ∃ W, W1.alloc (ido 24 z.r z.n) = W := ⟨_, rfl⟩
    rw [hW3] at HA HU2 ⊢
    have d2 : W3.cell? ⟨b1, 2, none⟩ = some (.int .i64 z.f) := HU2.out.cells.c2
    have d3 : W3.cell? ⟨b1, 3, none⟩ = some (.int .i64 z.l) := HU2.out.cells.c3
    have d11 : W3.cell? ⟨b1, 11, none⟩ = some (.bool z.m) := HU2.out.cells.c11
    have d12 : W3.cell? ⟨b1, 12, none⟩ = some (.string z.t) := HU2.out.cells.c12
    have HBB := hid (bt HB.out HA.out)
    clear hW3 c0 c1 HU2 HA HB HU
    go_wp2_with (first | (refine wl_val3 (runU_ne rfl rfl rfl (b := true) (by simp [p6])) rfl ?_) | fail)
    go_ret
    exact ⟨rfl, HBB.out⟩
  cases a7 : z.m
  · have hz := HZ.out
    unfold rightB at hz
    simp at a1 a2 a3 a4 a5 a6
    simp [a0, a7, a6] at hz
    omega
  cases a8 : decide (1 < z.l)
  · have hz := HZ.out
    unfold rightB at hz
    simp at a1 a2 a3 a4 a5 a6 a8
    simp [a0, a7, a6] at hz
    omega
  · skip
    have p1 : ¬ z.l < 1 := of_decide_eq_false a1
    have p2 : ¬ 64 < z.l := of_decide_eq_false a2
    have p3 : ¬ z.f < 0 := of_decide_eq_false a3
    have p4 : ¬ 64 < z.f := of_decide_eq_false a4
    have p6 :  (z.t.size : Int) = z.l := of_decide_eq_true a6
    have HR := hid a0
    clear a0
    go_enter Try.func11, Try.ntmps11
    go_wp2_with (first | (refine wl_boxI (u := z) rfl rfl rfl ?_; intro W1 b1 e1 hub hb1; have c0 : W1.cell? ⟨b1,0,none⟩ = some (.int .i64 z.r) := hub.cells.c0; have c1 : W1.cell? ⟨b1,1,none⟩ = some (.int .i64 z.n) := hub.cells.c1; have HU := hid hub; have HB := hid hb1; have HE := hid e1; clear e1 hub hb1) | fail)
    refine (xro_any _ _ _).mono ?_
    rintro e W2 ⟨rfl, rfl⟩
    rw [HR.out]
    have HA := hid (ba W1 (ido 24 z.r z.n))
    have HU2 := hid (HU.out.below HA.out)
    obtain ⟨W3, hW3⟩ : ∃ W, W1.alloc (ido 24 z.r z.n) = W := ⟨_, rfl⟩
    rw [hW3] at HA HU2 ⊢
    have d2 : W3.cell? ⟨b1, 2, none⟩ = some (.int .i64 z.f) := HU2.out.cells.c2
    have d3 : W3.cell? ⟨b1, 3, none⟩ = some (.int .i64 z.l) := HU2.out.cells.c3
    have d11 : W3.cell? ⟨b1, 11, none⟩ = some (.bool z.m) := HU2.out.cells.c11
    have d12 : W3.cell? ⟨b1, 12, none⟩ = some (.string z.t) := HU2.out.cells.c12
    rw [a7] at d11
    have HBB := hid (bt HB.out HA.out)
    clear hW3 c0 c1 HU2 HA HB HU
    go_wp2_with (first | (refine wl_val3 (runU_ne rfl rfl rfl (b := false) (by simp [p6])) rfl ?_) | fail)
    go_ret
    exact ⟨rfl, HBB.out⟩

set_option maxHeartbeats 8000000 in
theorem xput_low (N r : Nat) (v : Value) (T : List Un) (p : Int) (z : Un) (w : World) (h : Xl N w r v T) (hz : rightB z = true) (hn : T.length ≤ 100000) (hp : p < 0) :
    Calls Try.prog 11 #[.pointer (some ⟨r, 0, none⟩), .int .i64 p, unv z] w fun e w' => e = .returned (.int .i64 11) ∧ Below w.heap.size w w' := by
  obtain ⟨a, c, rfl, hc0, hc1⟩ := h.u.us.form
  obtain ⟨n, hln⟩ : ∃ n, T.length = n := ⟨_, rfl⟩
  have HN := hid hln
  have HX := hid h
  rw [hln] at hn hc0 HX
  obtain ⟨a0, q1, q2, p3', p5', p6, p8⟩ := rightB_at hz
  have p1 : ¬ z.l < 1 := by omega
  have p2 : ¬ 64 < z.l := by omega
  have p3 : ¬ z.f < 0 := by omega
  have p4 : ¬ 64 < z.f := by omega
  have p5 : ¬ 64 < z.f + z.l := by omega
  have P8 := hid p8
  clear h hln hz p8
  cases a7 : z.m
  all_goals
    have p7 : z.m = true → ¬ 1 < z.l := fun h => by have := P8.out h; omega
    rw [a7] at p7
    have HR := hid a0
    clear a0
    go_enter Try.func11, Try.ntmps11
    go_wp2_with (first | (refine wl_boxI (u := z) rfl rfl rfl ?_; intro W1 b1 e1 hub hb1; have c0 : W1.cell? ⟨b1,0,none⟩ = some (.int .i64 z.r) := hub.cells.c0; have c1 : W1.cell? ⟨b1,1,none⟩ = some (.int .i64 z.n) := hub.cells.c1; have HU := hid hub; have HB := hid hb1; have HE := hid e1; clear e1 hub hb1) | fail)
    refine (xro_any _ _ _).mono ?_
    rintro e W2 ⟨rfl, rfl⟩
    rw [HR.out]
    have HA := hid (ba W1 (ido 24 z.r z.n))
    have HU2 := hid (HU.out.below HA.out)
    obtain ⟨W3, hW3⟩ : ∃ W, W1.alloc (ido 24 z.r z.n) = W := ⟨_, rfl⟩
    rw [hW3] at HA HU2 ⊢
    have d2 : W3.cell? ⟨b1, 2, none⟩ = some (.int .i64 z.f) := HU2.out.cells.c2
    have d3 : W3.cell? ⟨b1, 3, none⟩ = some (.int .i64 z.l) := HU2.out.cells.c3
    have d11 : W3.cell? ⟨b1, 11, none⟩ = some (.bool z.m) := HU2.out.cells.c11
    have d12 : W3.cell? ⟨b1, 12, none⟩ = some (.string z.t) := HU2.out.cells.c12
    rw [a7] at d11
    have HBB := hid (bt HB.out HA.out)
    have HX3 := hid (HX.out.below HBB.out)
    have c5 : W3.cell? ⟨r, 0, none⟩ = some (.slice a n c) := HX3.out.b.cell
    clear hW3 c0 c1 HA HB HU
    simp at p7
    go_wp2_with (first | (refine wl_val3 (runU_ne rfl rfl rfl (b := false) (by simp [p6])) rfl ?_) | fail)
    go_ret
    exact ⟨rfl, HBB.out⟩

set_option maxHeartbeats 8000000 in
theorem xput_high (N r : Nat) (v : Value) (T : List Un) (p : Int) (z : Un) (w : World) (h : Xl N w r v T) (hz : rightB z = true) (hn : T.length ≤ 100000) (hp : ¬ p < 0) (hp2 : (T.length : Int) < p) :
    Calls Try.prog 11 #[.pointer (some ⟨r, 0, none⟩), .int .i64 p, unv z] w fun e w' => e = .returned (.int .i64 11) ∧ Below w.heap.size w w' := by
  obtain ⟨a, c, rfl, hc0, hc1⟩ := h.u.us.form
  obtain ⟨n, hln⟩ : ∃ n, T.length = n := ⟨_, rfl⟩
  have HN := hid hln
  have HX := hid h
  rw [hln] at hn hc0 HX
  obtain ⟨a0, q1, q2, p3', p5', p6, p8⟩ := rightB_at hz
  have p1 : ¬ z.l < 1 := by omega
  have p2 : ¬ 64 < z.l := by omega
  have p3 : ¬ z.f < 0 := by omega
  have p4 : ¬ 64 < z.f := by omega
  have p5 : ¬ 64 < z.f + z.l := by omega
  have P8 := hid p8
  clear h hln hz p8
  rw [HN.out] at hp2
  cases a7 : z.m
  all_goals
    have p7 : z.m = true → ¬ 1 < z.l := fun h => by have := P8.out h; omega
    rw [a7] at p7
    have HR := hid a0
    clear a0
    go_enter Try.func11, Try.ntmps11
    go_wp2_with (first | (refine wl_boxI (u := z) rfl rfl rfl ?_; intro W1 b1 e1 hub hb1; have c0 : W1.cell? ⟨b1,0,none⟩ = some (.int .i64 z.r) := hub.cells.c0; have c1 : W1.cell? ⟨b1,1,none⟩ = some (.int .i64 z.n) := hub.cells.c1; have HU := hid hub; have HB := hid hb1; have HE := hid e1; clear e1 hub hb1) | fail)
    refine (xro_any _ _ _).mono ?_
    rintro e W2 ⟨rfl, rfl⟩
    rw [HR.out]
    have HA := hid (ba W1 (ido 24 z.r z.n))
    have HU2 := hid (HU.out.below HA.out)
    obtain ⟨W3, hW3⟩ : ∃ W, W1.alloc (ido 24 z.r z.n) = W := ⟨_, rfl⟩
    rw [hW3] at HA HU2 ⊢
    have d2 : W3.cell? ⟨b1, 2, none⟩ = some (.int .i64 z.f) := HU2.out.cells.c2
    have d3 : W3.cell? ⟨b1, 3, none⟩ = some (.int .i64 z.l) := HU2.out.cells.c3
    have d11 : W3.cell? ⟨b1, 11, none⟩ = some (.bool z.m) := HU2.out.cells.c11
    have d12 : W3.cell? ⟨b1, 12, none⟩ = some (.string z.t) := HU2.out.cells.c12
    rw [a7] at d11
    have HBB := hid (bt HB.out HA.out)
    have HX3 := hid (HX.out.below HBB.out)
    have c5 : W3.cell? ⟨r, 0, none⟩ = some (.slice a n c) := HX3.out.b.cell
    clear hW3 c0 c1 HA HB HU
    simp at p7
    go_wp2_with (first | (refine wl_val3 (runU_ne rfl rfl rfl (b := false) (by simp [p6])) rfl ?_) | fail)
    go_ret
    exact ⟨rfl, HBB.out⟩

set_option maxHeartbeats 8000000 in
theorem xput_main (N r : Nat) (v : Value) (T : List Un) (p : Int) (z : Un) (w : World) (h : Xl N w r v T) (hz : rightB z = true) (hn : T.length ≤ 100000) (q : Nat) (hpq : p = (q : Int)) (hq : q ≤ T.length) :
    Calls Try.prog 11 #[.pointer (some ⟨r, 0, none⟩), .int .i64 p, unv z] w fun e w' => (hasC T z = true ∧ e = .returned (.int .i64 12) ∧ Below w.heap.size w w') ∨ (hasC T z = false ∧ e = .returned (.int .i64 0) ∧ ChY N r v (T.take q ++ (chs (ownU z) ++ T.drop q)) w w') := by
  obtain ⟨a, c, rfl, hc0, hc1⟩ := h.u.us.form
  obtain ⟨n, hln⟩ : ∃ n, T.length = n := ⟨_, rfl⟩
  have HN := hid hln
  have HX := hid h
  rw [hln] at hn hc0 HX
  obtain ⟨a0, q1, q2, p3', p5', p6, p8⟩ := rightB_at hz
  have p1 : ¬ z.l < 1 := by omega
  have p2 : ¬ 64 < z.l := by omega
  have p3 : ¬ z.f < 0 := by omega
  have p4 : ¬ 64 < z.f := by omega
  have p5 : ¬ 64 < z.f + z.l := by omega
  have P8 := hid p8
  clear h hln hz p8
  subst hpq
  rw [HN.out] at hq
  have HNT : Hid (T.length ≤ 1000000) := hid (by rw [HN.out]; omega)
  have HCL : Hid ((chs (ownU z)).length ≤ 64) := hid (by rw [chs_len]; show z.l.toNat ≤ 64; omega)
  have HL6 : Hid (([] : List Un).length + (T.take q).length ≤ 1048576) := hid (by simp only [List.length_nil, List.length_take]; omega)
  have HL7 : Hid (([] ++ T.take q : List Un).length + (chs (ownU z)).length ≤ 1048576) := hid (by have := HCL.out; simp only [List.nil_append, List.length_take]; omega)
  have HL8 : Hid (([] ++ T.take q ++ chs (ownU z) : List Un).length + ((T.take n).drop q).length ≤ 1048576) := hid (by have := HCL.out; have := HN.out; simp only [List.nil_append, List.length_append, List.length_take, List.length_drop]; omega)
  have HTN : Hid ((T.take n).drop q = T.drop q) := hid (by rw [List.take_of_length_le (by rw [HN.out]; exact Nat.le_refl _)])
  have hq0 : ¬ (q : Int) < 0 := by omega
  have hq1 : ¬ (n : Int) < (q : Int) := by omega
  have hqc : q ≤ c := by omega
  cases a7 : z.m
  all_goals
    have p7 : z.m = true → ¬ 1 < z.l := fun h => by have := P8.out h; omega
    rw [a7] at p7
    have HR := hid a0
    clear a0
    go_enter Try.func11, Try.ntmps11
    go_wp2_with (first | (refine wl_boxI (u := z) rfl rfl rfl ?_; intro W1 b1 e1 hub hb1; have c0 : W1.cell? ⟨b1,0,none⟩ = some (.int .i64 z.r) := hub.cells.c0; have c1 : W1.cell? ⟨b1,1,none⟩ = some (.int .i64 z.n) := hub.cells.c1; have HU := hid hub; have HB := hid hb1; have HE := hid e1; clear e1 hub hb1) | fail)
    refine (xro_any _ _ _).mono ?_
    rintro e W2 ⟨rfl, rfl⟩
    rw [HR.out]
    have HA := hid (ba W1 (ido 24 z.r z.n))
    have HU2 := hid (HU.out.below HA.out)
    obtain ⟨W3, hW3⟩ : ∃ W, W1.alloc (ido 24 z.r z.n) = W := ⟨_, rfl⟩
    rw [hW3] at HA HU2 ⊢
    have d2 : W3.cell? ⟨b1, 2, none⟩ = some (.int .i64 z.f) := HU2.out.cells.c2
    have d3 : W3.cell? ⟨b1, 3, none⟩ = some (.int .i64 z.l) := HU2.out.cells.c3
    have d11 : W3.cell? ⟨b1, 11, none⟩ = some (.bool z.m) := HU2.out.cells.c11
    have d12 : W3.cell? ⟨b1, 12, none⟩ = some (.string z.t) := HU2.out.cells.c12
    rw [a7] at d11
    have HPB : Hid (b1 < W3.heap.size) := hid HU2.out.lt
    have HBB := hid (bt HB.out HA.out)
    have HX3 := hid (HX.out.below HBB.out)
    have c5 : W3.cell? ⟨r, 0, none⟩ = some (.slice a n c) := HX3.out.b.cell
    clear hW3 c0 c1 HA HB HU
    simp at p7
    go_wp2_with (first
      | (refine wl_val3 (runU_ne rfl rfl rfl (b := false) (by simp [p6])) rfl ?_)
      | (refine wl_nilP rfl rfl ?_; intro W4 A4 c4 hu4 hb4; have HU4 := hid hu4; have HB4 := hid hb4; clear hu4 hb4)
      | fail)
    go_loopw [7,8] (fun s i wr => ∃ (k : Nat) (sa : Option Addr) (sm sc : Nat),(k : Int) ≤ z.l ∧ i = .int .i64 (k : Int) ∧ s = .slice sa sm sc ∧ Ur 36 W3.heap.size wr (.slice sa sm sc) ((chs (ownU z)).take k) ∧ (∀ j : Nat,j < k → ∀ x ∈ T,isC z.r z.n (z.f + j) x = false) ∧ Below W3.heap.size W3 wr) (fun _ i _ => z.l.toNat - (intOf i).toNat)
    case atStart => exact ⟨0, A4, 0, c4, by omega, rfl, rfl, HU4.out, fun j hj => absurd hj (Nat.not_lt_zero _), HB4.out⟩
    case round =>
      obtain ⟨k, sa, sm, sc, hk, rfl, rfl, hu, hno, hb⟩ := hrel
      have HU5 := hid hu
      have HNO := hid hno
      have HB5 := hid hb
      have HX5 := hid (HX3.out.below hb)
      have HZ5 := hid (HU2.out.below hb)
      have g0 : wr.cell? ⟨b1, 0, none⟩ = some (.int .i64 z.r) := HZ5.out.cells.c0
      have g1 : wr.cell? ⟨b1, 1, none⟩ = some (.int .i64 z.n) := HZ5.out.cells.c1
      have g2 : wr.cell? ⟨b1, 2, none⟩ = some (.int .i64 z.f) := HZ5.out.cells.c2
      have g3 : wr.cell? ⟨b1, 3, none⟩ = some (.int .i64 z.l) := HZ5.out.cells.c3
      clear hu hno hb HU4 HB4 d2 d3 d11 d12 c5
      by_cases hlt : (k : Int) < z.l
      · have hk64 : k ≤ 64 := by omega
        rcases Int.lt_or_le (idxU (isC z.r z.n (z.f + (k : Int))) T) 0 with hix | hix
        · have HE1 : Hid (decide (0 ≤ idxU (isC z.r z.n (z.f + (k : Int))) T) = false) := hid (decide_eq_false (by omega))
          have HIX := hid hix
          clear hix
          go_upto_region 12 with (first
            | (refine wl_val3 (runU_bch rfl rfl rfl) rfl ?_)
            | (go_at_call 16; refine (xfind_any N r _ T z.r z.n (z.f + (k : Int)) _ HX5.out HNT.out).mono ?_; rintro e W6 ⟨rfl, hb6⟩; rw [HE1.out]; have HB6 := hid hb6; clear hb6)
            | fail)
          clear g0 g1 g2 g3
          refine xp_r12 (HU5.out.below HB6.out) (HZ5.out.below HB6.out) HPB.out (by have := HB5.out.size; have := HB6.out.size; omega) (by omega) (by omega) (by omega) (by omega) (by rw [List.length_take]; omega) (fun _ _ _ _ _ h => h) ?_
          intro W7 va vm vc hvm hu7 hf7
          have HU7 := hid hu7
          have HB7 := hid ((((Fr.of_below (bt HB5.out HB6.out) : Fr (fun j => (Value.slice sa sm sc).ownBlock = some j) _ _)).trans' hf7).below (fun j hj e => Nat.lt_irrefl _ (Nat.lt_of_lt_of_le hj (HU5.out.lt j e).1)) (Nat.le_refl _))
          clear hvm hu7 hf7
          go_wp2_with fail
          go_roundw
          case rel => exact ⟨k + 1, va, vm, vc, by omega, by go_num, rfl, by rw [chs_take hlt]; exact HU7.out, fun j hj x hx => by
            rcases Nat.lt_or_ge j k with h1 | h1
            · exact HNO.out j h1 x hx
            · obtain rfl : j = k := by omega
              exact idxU_neg HIX.out x hx, HB7.out⟩
          case measure => simp [intOf]; omega
        · have HE1 : Hid (decide (0 ≤ idxU (isC z.r z.n (z.f + (k : Int))) T) = true) := hid (decide_eq_true hix)
          have HHY : Hid (hasC T z = true) := hid (has_yes hlt hix)
          clear hix
          go_wp2_with (first
            | (refine wl_val3 (runU_bch rfl rfl rfl) rfl ?_)
            | (go_at_call 16; refine (xfind_any N r _ T z.r z.n (z.f + (k : Int)) _ HX5.out HNT.out).mono ?_; rintro e W6 ⟨rfl, hb6⟩; rw [HE1.out]; have HB6 := hid hb6; clear hb6)
            | fail)
          go_ret
          exact .inl ⟨HHY.out, rfl, bt HBB.out (bt HB5.out HB6.out)⟩
      · have hkl : (k : Int) = z.l := by omega
        have HNH : Hid (hasC T z = false) := hid (has_no (fun j hj => HNO.out j (by omega)))
        have hch : (chs (ownU z)).take k = chs (ownU z) := List.take_of_length_le (by rw [chs_len]; show z.l.toNat ≤ k; omega)
        rw [hch] at HU5
        clear hch g0 g1 g2
        have HNW : Hid (N ≤ wr.heap.size) := hid HX5.out.le
        have HBX : Hid (Below w.heap.size w wr) := hid (bt HBB.out HB5.out)
        go_wp2_with (first
          | (have _g := HU9.out; refine wl_st_items rfl rfl rfl rfl HX9.out.b ?_; intro W10 hx10 hf10; have HX10 := hid hx10; have HF10 := hid hf10; clear hx10 hf10)
          | (have _g := HU8.out; refine wl_appI rfl _ _ rfl wr.heap.size _ ([] ++ T.take q ++ chs (ownU z)) ((T.take n).drop q) rfl HU8.out _ rfl (HX8.out.u.us.part (f := q) (e := n) hq (Nat.le_refl n)) HL8.out HB8.out.size ?_; intro v9 W9 hu9 hf9 ho9; have HB9 := hid (((Fr.of_below HB8.out : Fr (fun k => (Value.ownBlock _) = some k) _ _).trans' hf9).below (fun j hj e => Nat.lt_irrefl _ (Nat.lt_of_lt_of_le hj (HU8.out.lt j e).1)) (Nat.le_refl _)); obtain ⟨va9,vc9,hv9,_⟩ := hu9.us.form; obtain ⟨m9,hm9⟩ : ∃ m,([] ++ T.take q ++ chs (ownU z) ++ (T.take n).drop q : List Un).length = m := ⟨_,rfl⟩; rw [hm9] at hv9; clear hm9; subst hv9; have HU9 := hid hu9; have HX9 := hid (HX5.out.below HB9.out); have cx9 : W9.cell? ⟨r,0,none⟩ = some (.slice a n c) := HX9.out.b.cell; clear hu9 hf9 ho9)
          | (have _g := HU7.out; refine wl_appI rfl _ _ rfl wr.heap.size _ ([] ++ T.take q) (chs (ownU z)) rfl HU7.out _ rfl (HU5.out.us.below HB7.out) HL7.out HB7.out.size ?_; intro v8 W8 hu8 hf8 ho8; have HB8 := hid (((Fr.of_below HB7.out : Fr (fun k => (Value.ownBlock _) = some k) _ _).trans' hf8).below (fun j hj e => Nat.lt_irrefl _ (Nat.lt_of_lt_of_le hj (HU7.out.lt j e).1)) (Nat.le_refl _)); obtain ⟨va8,vc8,hv8,_⟩ := hu8.us.form; obtain ⟨m8,hm8⟩ : ∃ m,([] ++ T.take q ++ chs (ownU z) : List Un).length = m := ⟨_,rfl⟩; rw [hm8] at hv8; clear hm8; subst hv8; have HU8 := hid hu8; have HX8 := hid (HX5.out.below HB8.out); have cx8 : W8.cell? ⟨r,0,none⟩ = some (.slice a n c) := HX8.out.b.cell; clear hu8 hf8 ho8)
          | (have _g := HU6.out; refine wl_appI rfl _ _ rfl wr.heap.size _ ([]) (T.take q) rfl HU6.out _ rfl (HX6.out.u.us.front (e := q) hq) HL6.out HB6.out.size ?_; intro v7 W7 hu7 hf7 ho7; have HB7 := hid (((Fr.of_below HB6.out : Fr (fun k => (Value.ownBlock _) = some k) _ _).trans' hf7).below (fun j hj e => Nat.lt_irrefl _ (Nat.lt_of_lt_of_le hj (HU6.out.lt j e).1)) (Nat.le_refl _)); obtain ⟨va7,vc7,hv7,_⟩ := hu7.us.form; obtain ⟨m7,hm7⟩ : ∃ m,([] ++ T.take q : List Un).length = m := ⟨_,rfl⟩; rw [hm7] at hv7; clear hm7; subst hv7; have HU7 := hid hu7; have HX7 := hid (HX5.out.below HB7.out); have cx7 : W7.cell? ⟨r,0,none⟩ = some (.slice a n c) := HX7.out.b.cell; clear hu7 hf7 ho7)
          | (refine wl_val3 (runU_sltI (e := q) rfl rfl rfl hqc) rfl ?_)
          | (refine wl_val3 (runU_sldI (f := q) rfl rfl rfl hq hc0) rfl ?_)
          | (refine wl_nilP rfl rfl ?_; intro W6 A6 c6 hu6 hb6; have HU6 := hid hu6; have HB6 := hid hb6; have HX6 := hid (HX5.out.below hb6); have cx6 : W6.cell? ⟨r, 0, none⟩ = some (.slice a n c) := HX6.out.b.cell; clear hu6 hb6)
          | fail)
        go_ret
        have hu9 := HU9.out
        rw [HTN.out, List.nil_append, List.append_assoc] at hu9
        have hne : ∀ k, (Value.slice va9 m9 vc9).ownBlock = some k → ¬ k = r := fun k e => by have := (hu9.lt k e).1; have := HX5.out.b.lt; omega
        refine .inr ⟨HNH.out, rfl, _, ⟨HX10.out, (hu9.fr HF10.out hne).mono HNW.out, fun e => hne r e rfl, Nat.le_trans HNW.out (Nat.le_trans HB9.out.size HF10.out.size), HX5.out.lo⟩, ?_, fun k e => .inr (Nat.le_trans HBX.out.size (hu9.lt k e).1)⟩
        rw [HN.out]
        exact (Fr.of_below (bt HBX.out HB9.out) : Fr (Sr r (.slice a n c)) _ _).trans HF10.out (fun j hj e => .inl e)

end Go.Proofs.Ytkaphlpohhaacaa

/-
  What Cut counts, character by character; what is cut twice is cut once.
-/
namespace Go.Proofs.Ytkaphlpohhaacaa
open Go.RowKit
set_option linter.unusedVariables false
set_option linter.unusedSimpArgs false
set_option maxRecDepth 100000

section
variable {cr cn cf ct : Int}
theorem cntC_cons (x : Un) (l : List Un) : cntC cr cn cf ct (x :: l) = (if (hitC cr cn cf ct x && !x.g) = true then 1 else 0) + cntC cr cn cf ct l := by
  unfold cntC
  rw [List.countP_cons]
  split <;> omega
theorem cntC_le (l : List Un) : 0 ≤ cntC cr cn cf ct l ∧ cntC cr cn cf ct l ≤ l.length := by
  unfold cntC
  have := List.countP_le_length (p := fun x => hitC cr cn cf ct x && !x.g) (l := l)
  omega
end

end Go.Proofs.Ytkaphlpohhaacaa

/-
  What the reference's Cut answers, and leaves of a row, is proved here.
-/
namespace Go.Proofs.Ytkaphlpohhaacaa
open Go.RowKit
set_option linter.unusedVariables false
set_option linter.unusedSimpArgs false
set_option maxRecDepth 100000

/-- An own row of items, cell by cell. -/
theorem Ur.openJ {B b off n c : Nat} {w : World} {xs : List Un} (h : Ur 36 B w (.slice (some ⟨b, off, none⟩) n c) xs) (hn : n = xs.length) (h0 : 0 < n) : off = 0 ∧ B ≤ b ∧ n ≤ c ∧ c ≤ maxLen ∧ ∃ l, Ri w b l ∧ l.length = c * 13 ∧ l.take (xs.length * 13) = xs.flatMap unc := by
  obtain ⟨g, cap, l, h1, h2, h3, h4, h5, h6, h7⟩ := h.openI (by omega)
  simp only [Value.slice.injEq, Option.some.injEq, Addr.mk.injEq, and_true] at h1
  obtain ⟨⟨rfl, rfl⟩, rfl, rfl⟩ := h1
  exact ⟨rfl, h2, h4, h5, l, h3, h6, h7⟩
theorem Ur.setI {B b n c k i : Nat} {w : World} {xs : List Un} {l : List Value} {y y' : Un} {v : Value} (hB : B ≤ b) (hc : n ≤ c) (hm : c ≤ maxLen) (hl : l.length = c * 13) (hn : n = xs.length) (ht : l.take (xs.length * 13) = xs.flatMap unc)
    (hk : k < xs.length) (hx : xs[k] = y) (hi : i < 13) (hy : (unc y).set i v = unc y') (hr : Ri w b (l.set (0 + k * 13 + i) v)) : Ur 36 B w (.slice (some ⟨b, 0, none⟩) n c) (xs.set k y') := by
  refine Ur.closeI hB hr (by rw [List.length_set]; exact hn) hc hm (by rw [List.length_set]; exact hl) ?_
  have := set_flatI ht hk hx hi hy
  rwa [hn]
section
variable {o : Oper} {a : Act} {W : World} {ops : Array Oper} {rest : List Oper} {Q : Exit → Act → World → Prop} {x y : Operand} {g i : Nat} {l : List Value}
theorem wl_st_boolI {s : Bool} (hw : Region.wanted o (yielded ops a.tmps) = true) (ho : o.op = .store 4 x y) (hx : a.eval x = .pointer (some ⟨g, i, none⟩)) (hy : a.eval y = .bool s) (h : Ri W g l) (hi : i < l.length)
    (hk : ∀ W', Ri W' g (l.set i (.bool s)) → Fr (fun k => k = g) W W' → wpList Try.prog ops Q rest (a.put o.dst undef) W') : wpList Try.prog ops Q (o :: rest) a W :=
  wl_nil' _ hw (runS_bool ho hx hy h (by simpa using hi)) (hk _ (h.cellset _) (Fr.of_set _ _ _ _))
theorem wl_st_intI {s : Int} (hw : Region.wanted o (yielded ops a.tmps) = true) (ho : o.op = .store 3 x y) (hx : a.eval x = .pointer (some ⟨g, i, none⟩)) (hy : a.eval y = .int .i64 s) (h : Ri W g l) (hi : i < l.length)
    (hk : ∀ W', Ri W' g (l.set i (.int .i64 s)) → Fr (fun k => k = g) W W' → wpList Try.prog ops Q rest (a.put o.dst undef) W') : wpList Try.prog ops Q (o :: rest) a W :=
  wl_nil' _ hw (runS_int ho hx hy h (by simpa using hi)) (hk _ (h.cellset _) (Fr.of_set _ _ _ _))
end
section
variable {cr cn cf ct : Int}
/-- The first k characters cut, the others as they were. -/
def midC (cr cn cf ct : Int) (T : List Un) (k : Nat) : List Un := (T.take k).map (cutC cr cn cf ct) ++ T.drop k
theorem midC_0 (T : List Un) : midC cr cn cf ct T 0 = T := by simp [midC]
theorem midC_n (T : List Un) : midC cr cn cf ct T T.length = T.map (cutC cr cn cf ct) := by simp [midC]
theorem midC_len {T : List Un} {k : Nat} (hk : k ≤ T.length) : (midC cr cn cf ct T k).length = T.length := by
  unfold midC
  rw [List.length_append, List.length_map, List.length_take, List.length_drop]
  omega
theorem midC_form {T : List Un} {k : Nat} (hk : k < T.length) : midC cr cn cf ct T k = (T.take k).map (cutC cr cn cf ct) ++ T[k] :: T.drop (k + 1) := by
  unfold midC
  rw [List.drop_eq_getElem_cons hk]
theorem midC_at {T : List Un} {k : Nat} (hk : k < T.length) : ∃ h : k < (midC cr cn cf ct T k).length, (midC cr cn cf ct T k)[k] = T[k] := by
  have h : k < (midC cr cn cf ct T k).length := by rw [midC_len (by omega)]; exact hk
  refine ⟨h, ?_⟩
  apply Option.some.inj
  rw [← List.getElem?_eq_getElem h, midC_form hk, List.getElem?_append_right (by rw [List.length_map, List.length_take]; omega), List.length_map, List.length_take, Nat.min_eq_left (by omega), Nat.sub_self]
  rfl
theorem midC_step {T : List Un} {k : Nat} (hk : k < T.length) : midC cr cn cf ct T (k + 1) = (midC cr cn cf ct T k).set k (cutC cr cn cf ct (T[k])) := by
  rw [midC_form hk]
  unfold midC
  have e : ((T.take k).map (cutC cr cn cf ct)).length = k := by rw [List.length_map, List.length_take]; omega
  rw [List.take_succ_eq_append_getElem hk, List.map_append, List.set_append_right _ _ (by omega), e, Nat.sub_self, List.append_assoc]
  rfl
theorem midC_stay {T : List Un} {k : Nat} (hk : k < T.length) (h : cutC cr cn cf ct (T[k]) = T[k]) : midC cr cn cf ct T (k + 1) = midC cr cn cf ct T k := by
  rw [midC_step hk, h]
  obtain ⟨h1, h2⟩ := midC_at (cr := cr) (cn := cn) (cf := cf) (ct := ct) hk
  conv => lhs; rw [← h2]
  exact List.set_getElem_self h1
theorem cntC_take {T : List Un} {k : Nat} (hk : k < T.length) : cntC cr cn cf ct (T.take (k + 1)) = cntC cr cn cf ct (T.take k) + (if (hitC cr cn cf ct (T[k]) && !(T[k]).g) = true then 1 else 0) := by
  rw [List.take_succ_eq_append_getElem hk, cntC_app, cntC_cons]
  have : cntC cr cn cf ct [] = 0 := rfl
  omega
theorem cut_keep {x : Un} (h : (hitC cr cn cf ct x && !x.g) = false) : cutC cr cn cf ct x = x := by
  unfold cutC
  cases hh : hitC cr cn cf ct x
  · rfl
  · rw [hh] at h
    simp at h
    rw [if_pos rfl]
    cases x
    simp at h
    simp [h]
/-- Is it one that is counted? -/
theorem cnt_ways (x : Un) {X : Prop} (h0 : ¬ x.r = cr → (hitC cr cn cf ct x && !x.g) = false → X) (h1 : x.r = cr → ¬ x.n = cn → (hitC cr cn cf ct x && !x.g) = false → X) (h2 : x.r = cr → x.n = cn → ¬ cf ≤ x.f → (hitC cr cn cf ct x && !x.g) = false → X)
    (h3 : x.r = cr → x.n = cn → cf ≤ x.f → ¬ x.f < ct → (hitC cr cn cf ct x && !x.g) = false → X) (h4 : x.r = cr → x.n = cn → cf ≤ x.f → x.f < ct → x.g = true → (hitC cr cn cf ct x && !x.g) = false → X)
    (h5 : x.r = cr → x.n = cn → cf ≤ x.f → x.f < ct → x.g = false → (hitC cr cn cf ct x && !x.g) = true → X) : X := by
  unfold hitC sameI at h0 h1 h2 h3 h4 h5
  by_cases e0 : x.r = cr
  · by_cases e1 : x.n = cn
    · by_cases e2 : cf ≤ x.f
      · by_cases e3 : x.f < ct
        · cases e4 : x.g
          · exact h5 e0 e1 e2 e3 e4 (by simp [e0, e1, e2, e3, e4])
          · exact h4 e0 e1 e2 e3 e4 (by simp [e4])
        · exact h3 e0 e1 e2 e3 (by simp [e3])
      · exact h2 e0 e1 e2 (by simp [e2])
    · exact h1 e0 e1 (by simp [e1])
  · exact h0 e0 (by simp [e0])
end

set_option maxHeartbeats 8000000 in
theorem xcut_any (N r : Nat) (v : Value) (T : List Un) (cr cn cf ct : Int) (w : World) (h : Xl N w r v T) (hn : T.length ≤ 100000) :
    Calls Try.prog 13 #[.pointer (some ⟨r, 0, none⟩), cuv cr cn cf ct] w fun e w' => e = .returned (.int .i64 (cntC cr cn cf ct T)) ∧ ChY N r v (T.map (cutC cr cn cf ct)) w w' := by
  obtain ⟨a, c, rfl, hc0, hc1⟩ := h.u.us.form
  obtain ⟨n, hln⟩ : ∃ n, T.length = n := ⟨_, rfl⟩
  have HN := hid hln
  have HX := hid h
  rw [hln] at hn hc0 HX ⊢
  clear h hln
  go_enter Try.func13, Try.ntmps13
  go_wp2_with (first
    | (refine wl_boxK (r := cr) (n := cn) (f := cf) (t := ct) rfl rfl rfl ?_; intro W1 kb e1 hkb hb1; have HK1 := hid hkb; have HB1 := hid hb1; have HX1 := hid (HX.out.below hb1); have HE1 := hid e1; clear e1 hkb hb1)
    | fail)
  have HNE : Hid (¬ Sr r (.slice a n c) kb) := hid (fun h => h.elim (fun e => by have := HX.out.b.lt; have := HE1.out; omega) (fun e => by have := (HX.out.u.lt _ e).2; have := HE1.out; omega))
  go_loopw [5, 6] (fun s i wr => ∃ (k : Nat) (g : Int), k ≤ n ∧ i = .int .i64 (k : Int) ∧ g = cntC cr cn cf ct (T.take k) ∧ s = .int .i64 g ∧ Xl N wr r (.slice a n c) (midC cr cn cf ct T k) ∧ Fr (Sr r (.slice a n c)) W1 wr) (fun _ i _ => n - (intOf i).toNat)
  case atStart => exact ⟨0, 0, Nat.zero_le _, rfl, rfl, rfl, by rw [midC_0]; exact HX1.out, Fr.refl _ _⟩
  case round =>
    obtain ⟨k, g, hk, rfl, hg, rfl, hx, hf⟩ := hrel
    have hgl := cntC_le (cr := cr) (cn := cn) (cf := cf) (ct := ct) (T.take k)
    rw [← hg, List.length_take, HN.out] at hgl
    have hg0 := hgl.1
    have hg1 : g ≤ 100000 := by omega
    have HG := hid hg
    have HXR := hid hx
    have HF := hid hf
    have c0 := hx.b.cell
    clear hgl hg hx hf
    by_cases hlt : k < n
    · have hlt' : (k : Int) < (n : Int) := by omega
      have hkT : k < T.length := by rw [HN.out]; exact hlt
      have hml : (midC cr cn cf ct T k).length = n := by rw [midC_len (by omega)]; exact HN.out
      obtain ⟨b, off, c', e1, _, _, hbl, hcc⟩ := HXR.out.u.us.inv (by rw [hml]; omega)
      rw [hml] at e1
      simp only [Value.slice.injEq] at e1
      obtain ⟨rfl, -, rfl⟩ := e1
      obtain ⟨hmk, hma⟩ := midC_at (cr := cr) (cn := cn) (cf := cf) (ct := ct) hkT
      have hC := hcc k hmk
      obtain ⟨x, hxx⟩ : ∃ x, T[k] = x := ⟨_, rfl⟩
      rw [hma, hxx] at hC
      have HC := hid hC
      have hcnt := cntC_take (cr := cr) (cn := cn) (cf := cf) (ct := ct) hkT
      have hst := midC_step (cr := cr) (cn := cn) (cf := cf) (ct := ct) hkT
      have hsy := midC_stay (cr := cr) (cn := cn) (cf := cf) (ct := ct) hkT
      rw [hxx, ← HG.out] at hcnt
      rw [hxx] at hst hsy hma
      have HCNT := hid hcnt
      have HST := hid hst
      have HSY := hid hsy
      obtain ⟨ho, hB, hnc, hcm, l, hri, hll, hlt2⟩ := HXR.out.u.openJ hml.symm (by omega)
      have HRI := hid hri
      have HLI : Hid (off + k * 13 + 10 < l.length) := hid (by rw [hll, ho]; omega)
      have HSET : Hid (∀ W, Ri W b (l.set (off + k * 13 + 10) (.bool true)) → Ur 36 N W (.slice (some ⟨b, off, none⟩) n c) ((midC cr cn cf ct T k).set k { x with g := true })) := hid (fun W hW => by
        subst ho
        exact Ur.setI hB hnc hcm hll hml.symm hlt2 hmk hma (by omega) rfl hW)
      have HBN : Hid (¬ b = r) := hid (fun e => HXR.out.ne (by rw [← e, ho]; rfl))
      have HOB : Hid (off = 0) := hid ho
      clear hcc hC hxx hbl hcnt hst hsy hmk hma hri hll hlt2 ho hB hcm hml hkT hnc
      go_upto_region 6 with (first
        | (refine wl_ldI rfl rfl rfl HC.out ?_)
        | (refine wl_alI rfl rfl ?_; intro W2 b2 e2 hub2 hb2; have HV2 := hid hub2; have HB2 := hid hb2; have HG2 := hid (by omega : wr.heap.size ≤ b2); clear e2 hub2 hb2)
        | (refine wl_stI rfl rfl rfl rfl HV2.out ?_; intro W3 hu3 hf3; have HU3 := hid hu3; have HB3 := hid (below_fr HB2.out hf3 HG2.out); clear hu3 hf3))
      have a0 : W3.cell? ⟨b2, 0, none⟩ = some (.int .i64 x.r) := HU3.out.cells.c0
      have a1 : W3.cell? ⟨b2, 1, none⟩ = some (.int .i64 x.n) := HU3.out.cells.c1
      have a2 : W3.cell? ⟨b2, 2, none⟩ = some (.int .i64 x.f) := HU3.out.cells.c2
      have a10 : W3.cell? ⟨b2, 10, none⟩ = some (.bool x.g) := HU3.out.cells.c10
      have HK3 := hid (((HK1.out.fr HF.out HNE.out).below HB3.out).cells)
      have k0 : W3.cell? ⟨kb, 0, none⟩ = some (.int .i64 cr) := HK3.out.c0
      have k1 : W3.cell? ⟨kb, 1, none⟩ = some (.int .i64 cn) := HK3.out.c1
      have k2 : W3.cell? ⟨kb, 2, none⟩ = some (.int .i64 cf) := HK3.out.c2
      have k3 : W3.cell? ⟨kb, 3, none⟩ = some (.int .i64 ct) := HK3.out.c3
      have HX3 := hid (HXR.out.below HB3.out)
      have HRI3 := hid (HRI.out.below HB3.out)
      have c3 : W3.cell? ⟨r, 0, none⟩ = some (.slice (some ⟨b, off, none⟩) n c) := HX3.out.b.cell
      have HF3 : Hid (Fr (Sr r (.slice (some ⟨b, off, none⟩) n c)) W1 W3) := hid (HF.out.trans' (Fr.of_below HB3.out))
      clear c0
      refine cnt_ways (cr := cr) (cn := cn) (cf := cf) (ct := ct) x ?_ ?_ ?_ ?_ ?_ ?_
      · intro h1 hh
        have HH := hid hh
        have HKE := hid (cut_keep hh)
        clear hh
        go_wp2_with fail
        go_roundw
        case rel => exact ⟨k + 1, g, hlt, by go_num, (by have := HCNT.out; rw [HH.out] at this; simp at this; omega), rfl, by rw [HSY.out HKE.out]; exact HX3.out, HF3.out⟩
        case measure => simp [intOf]; omega
      · intro h1 h2 hh
        have HH := hid hh
        have HKE := hid (cut_keep hh)
        clear hh
        go_wp2_with fail
        go_roundw
        case rel => exact ⟨k + 1, g, hlt, by go_num, (by have := HCNT.out; rw [HH.out] at this; simp at this; omega), rfl, by rw [HSY.out HKE.out]; exact HX3.out, HF3.out⟩
        case measure => simp [intOf]; omega
      · intro h1 h2 h3 hh
        have HH := hid hh
        have HKE := hid (cut_keep hh)
        clear hh
        go_wp2_with fail
        go_roundw
        case rel => exact ⟨k + 1, g, hlt, by go_num, (by have := HCNT.out; rw [HH.out] at this; simp at this; omega), rfl, by rw [HSY.out HKE.out]; exact HX3.out, HF3.out⟩
        case measure => simp [intOf]; omega
      · intro h1 h2 h3 h4 hh
        have HH := hid hh
        have HKE := hid (cut_keep hh)
        clear hh
        go_wp2_with fail
        go_roundw
        case rel => exact ⟨k + 1, g, hlt, by go_num, (by have := HCNT.out; rw [HH.out] at this; simp at this; omega), rfl, by rw [HSY.out HKE.out]; exact HX3.out, HF3.out⟩
        case measure => simp [intOf]; omega
      · intro h1 h2 h3 h4 h5 hh
        have HH := hid hh
        have HKE := hid (cut_keep hh)
        rw [h5] at a10
        clear hh h5
        go_wp2_with fail
        go_roundw
        case rel => exact ⟨k + 1, g, hlt, by go_num, (by have := HCNT.out; rw [HH.out] at this; simp at this; omega), rfl, by rw [HSY.out HKE.out]; exact HX3.out, HF3.out⟩
        case measure => simp [intOf]; omega
      · intro h1 h2 h3 h4 h5 hh
        have HH := hid hh
        have HKE : Hid (cutC cr cn cf ct x = { x with g := true }) := hid (by
          unfold cutC
          have : hitC cr cn cf ct x = true := by
            cases e : hitC cr cn cf ct x
            · rw [e] at hh; exact absurd hh (by simp)
            · rfl
          rw [if_pos this])
        rw [h5] at a10
        clear hh h5
        go_wp2_with (first
          | (refine wl_st_boolI rfl rfl rfl rfl HRI3.out HLI.out ?_; intro W4 hri4 hf4; have HRI4 := hid hri4; have HF4 := hid hf4; clear hri4 hf4)
          | fail)
        go_roundw
        case rel => exact ⟨k + 1, g + 1, hlt, by go_num, (by have := HCNT.out; rw [HH.out] at this; simp at this; omega), rfl, by
          rw [HST.out, HKE.out]
          exact ⟨HX3.out.b.fr HF4.out (fun e => HBN.out e.symm), HSET.out _ HRI4.out, HX3.out.ne, Nat.le_trans HX3.out.le HF4.out.size, HX3.out.lo⟩, HF3.out.trans HF4.out (fun j hj e => by subst e; rw [HOB.out]; exact .inr rfl)⟩
        case measure => simp [intOf]; omega
    · obtain rfl : k = n := by omega
      have hnl : ¬ (k : Int) < (k : Int) := by omega
      have HE : Hid (g = cntC cr cn cf ct T ∧ midC cr cn cf ct T k = T.map (cutC cr cn cf ct)) := hid ⟨by rw [HG.out, List.take_of_length_le (by rw [HN.out]; exact Nat.le_refl _)], by rw [← HN.out]; exact midC_n T⟩
      rw [HE.out.2] at HXR
      have HFE := hid ((Fr.of_below HB1.out : Fr (Sr r (.slice a k c)) _ _).trans' HF.out)
      go_wp2
      go_ret
      rw [← HE.out.1]
      exact ⟨rfl, _, HXR.out, HFE.out, fun j hj => .inl hj⟩

end Go.Proofs.Ytkaphlpohhaacaa
