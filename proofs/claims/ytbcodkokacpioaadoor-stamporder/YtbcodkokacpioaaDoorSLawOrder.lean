/-
  StampOrder: the orders of names and of stamps are orders: for every three names and three stamps, where the package variables hold what the program lays there.
-/
import Derived.Test.YtbcodkokacpioaaDoorSAlive
import Derived.Test.YtbcodkokacpioaaDoorSOrd
import Derived.Test.YtbcodkokacpioaaDoorSQuiet
namespace Go.Proofs.YtbcodkokacpioaaDoor
open Go.RowKit
set_option linter.unusedVariables false

theorem od_cases (a b c d : Int) : (od a b c d = -1 ∧ (a < c ∨ a = c ∧ b < d)) ∨ (od a b c d = 0 ∧ a = c ∧ b = d) ∨ (od a b c d = 1 ∧ (c < a ∨ a = c ∧ d < b)) := by
  unfold od Lib.compareInt
  by_cases h1 : a < c
  · simp [h1]
  · by_cases h2 : a > c
    · simp [h1, h2]
    · have e : a = c := by omega
      subst e
      by_cases h3 : b < d
      · simp [h3]
      · by_cases h4 : b > d
        · simp [h3, h4]
        · simp [h3, h4]; omega
theorem od_turn (a b c d : Int) : IntKind.i64.wrap (-(od c d a b)) = od a b c d := by
  have h1 := od_cases a b c d
  have h2 := od_cases c d a b
  rw [IntKind.wrap_i64]
  omega
theorem od_zero (a b c d : Int) : (od a b c d == 0) = (a == c && b == d) := by
  have h := od_cases a b c d
  cases h1 : (a == c && b == d) with
  | true => simp at h1; simp; omega
  | false => simp at h1; simp; omega
theorem od_trans {a b c d e f : Int} (h1 : od a b c d < 0) (h2 : od c d e f < 0) : od a b e f < 0 := by
  have := od_cases a b c d
  have := od_cases c d e f
  have := od_cases a b e f
  omega

set_option maxHeartbeats 8000000 in
set_option maxRecDepth 100000 in
theorem order_walk (a1 a2 b1 b2 c1 c2 x1 x2 y1 y2 z1 z2 : Int) (w : World) (hL : Lay w) :
    Calls Tryd.prog 8 #[idv a1 a2, idv b1 b2, idv c1 c2, idv x1 x2, idv y1 y2, idv z1 z2] w fun e w' => e = .returned (.bool true) ∧ Below w.heap.size w w' := by
  have q0 := ((((((Pr.new 23 w a1 a2).below (ba _ (ido 23 b1 b2))).below (ba _ (ido 23 c1 c2))).below (ba _ (ido 25 x1 x2))).below (ba _ (ido 25 y1 y2))).below (ba _ (ido 25 z1 z2)))
  have q1 := (((((Pr.new 23 (w.alloc (ido 23 a1 a2)) b1 b2).below (ba _ (ido 23 c1 c2))).below (ba _ (ido 25 x1 x2))).below (ba _ (ido 25 y1 y2))).below (ba _ (ido 25 z1 z2)))
  rw [show (w.alloc (ido 23 a1 a2)).heap.size = w.heap.size + 1 by simp] at q1
  have q2 := ((((Pr.new 23 ((w.alloc (ido 23 a1 a2)).alloc (ido 23 b1 b2)) c1 c2).below (ba _ (ido 25 x1 x2))).below (ba _ (ido 25 y1 y2))).below (ba _ (ido 25 z1 z2)))
  rw [show ((w.alloc (ido 23 a1 a2)).alloc (ido 23 b1 b2)).heap.size = w.heap.size + 1 + 1 by simp] at q2
  have q3 := (((Pr.new 25 (((w.alloc (ido 23 a1 a2)).alloc (ido 23 b1 b2)).alloc (ido 23 c1 c2)) x1 x2).below (ba _ (ido 25 y1 y2))).below (ba _ (ido 25 z1 z2)))
  rw [show (((w.alloc (ido 23 a1 a2)).alloc (ido 23 b1 b2)).alloc (ido 23 c1 c2)).heap.size = w.heap.size + 1 + 1 + 1 by simp] at q3
  have q4 := ((Pr.new 25 ((((w.alloc (ido 23 a1 a2)).alloc (ido 23 b1 b2)).alloc (ido 23 c1 c2)).alloc (ido 25 x1 x2)) y1 y2).below (ba _ (ido 25 z1 z2)))
  rw [show ((((w.alloc (ido 23 a1 a2)).alloc (ido 23 b1 b2)).alloc (ido 23 c1 c2)).alloc (ido 25 x1 x2)).heap.size = w.heap.size + 1 + 1 + 1 + 1 by simp] at q4
  have q5 := (Pr.new 25 (((((w.alloc (ido 23 a1 a2)).alloc (ido 23 b1 b2)).alloc (ido 23 c1 c2)).alloc (ido 25 x1 x2)).alloc (ido 25 y1 y2)) z1 z2)
  rw [show (((((w.alloc (ido 23 a1 a2)).alloc (ido 23 b1 b2)).alloc (ido 23 c1 c2)).alloc (ido 25 x1 x2)).alloc (ido 25 y1 y2)).heap.size = w.heap.size + 1 + 1 + 1 + 1 + 1 by simp] at q5
  have B0 := hid (bt (ba w (ido 23 a1 a2)) (bt (ba _ (ido 23 b1 b2)) (bt (ba _ (ido 23 c1 c2)) (bt (ba _ (ido 25 x1 x2)) (bt (ba _ (ido 25 y1 y2)) (ba _ (ido 25 z1 z2)))))))
  have HA := hid (alive_any _ (hL.below B0.out))
  have Q0 := hid q0
  have Q1 := hid q1
  have Q2 := hid q2
  have Q3 := hid q3
  have Q4 := hid q4
  have Q5 := hid q5
  have HX1 := hid (rfl : od a1 a2 b1 b2 = od a1 a2 b1 b2)
  clear q0 q1 q2 q3 q4 q5 hL HX1
  obtain ⟨X1, hX1⟩ : ∃ X, od a1 a2 b1 b2 = X := ⟨_, rfl⟩
  obtain ⟨Y1, hY1⟩ : ∃ X, od b1 b2 a1 a2 = X := ⟨_, rfl⟩
  obtain ⟨X2, hX2⟩ : ∃ X, od x1 x2 y1 y2 = X := ⟨_, rfl⟩
  obtain ⟨Y2, hY2⟩ : ∃ X, od y1 y2 x1 x2 = X := ⟨_, rfl⟩
  obtain ⟨X3, hX3⟩ : ∃ X, od b1 b2 c1 c2 = X := ⟨_, rfl⟩
  obtain ⟨X4, hX4⟩ : ∃ X, od a1 a2 c1 c2 = X := ⟨_, rfl⟩
  obtain ⟨X5, hX5⟩ : ∃ X, od y1 y2 z1 z2 = X := ⟨_, rfl⟩
  obtain ⟨X6, hX6⟩ : ∃ X, od x1 x2 z1 z2 = X := ⟨_, rfl⟩
  have t1 := od_turn a1 a2 b1 b2
  have t2 := od_turn x1 x2 y1 y2
  rw [hX1, hY1] at t1
  rw [hX2, hY2] at t2
  obtain ⟨E1, hE1⟩ : ∃ E, (a1 == b1 && a2 == b2) = E := ⟨_, rfl⟩
  obtain ⟨E2, hE2⟩ : ∃ E, (x1 == y1 && x2 == y2) = E := ⟨_, rfl⟩
  have u1 := od_zero a1 a2 b1 b2
  have u2 := od_zero x1 x2 y1 y2
  rw [hX1, hE1] at u1
  rw [hX2, hE2] at u2
  have v1 : X1 < 0 → X3 < 0 → X4 < 0 := fun h1 h2 => by rw [← hX1] at h1; rw [← hX3] at h2; rw [← hX4]; exact od_trans h1 h2
  have v2 : X2 < 0 → X5 < 0 → X6 < 0 := fun h1 h2 => by rw [← hX2] at h1; rw [← hX5] at h2; rw [← hX6]; exact od_trans h1 h2
  have V1 := hid v1
  have V2 := hid v2
  have HX1 := hid hX1
  have HY1 := hid hY1
  have HX2 := hid hX2
  have HY2 := hid hY2
  have HX3 := hid hX3
  have HX4 := hid hX4
  have HX5 := hid hX5
  have HX6 := hid hX6
  have HE1 := hid hE1
  have HE2 := hid hE2
  clear hX1 hY1 hX2 hY2 hX3 hX4 hX5 hX6 hE1 hE2 v1 v2
  obtain ⟨s, hs⟩ : ∃ s, w.heap.size = s := ⟨_, rfl⟩
  go_enter Tryd.func8, Tryd.ntmps8
  go_wp2_with fail
  refine HA.out.mono ?_
  rintro e w1 ⟨rfl, b1'⟩
  have B1 := hid (bt B0.out b1')
  have PA := hid (Q0.out.below b1')
  have PB := hid (Q1.out.below b1')
  have PC := hid (Q2.out.below b1')
  have PX := hid (Q3.out.below b1')
  have PY := hid (Q4.out.below b1')
  have PZ := hid (Q5.out.below b1')
  rw [hs] at PA PB PC PX PY PZ
  clear b1' Q0 Q1 Q2 Q3 Q4 Q5 HA
  go_wp2_with fail
  refine wp_region_class (C := fun W => Below w1.heap.size w1 W) (by kernel_rfl) (by kernel_rfl) (bd w1 1) ?_
  refine BigFrame.wpQuiet_want (by kernel_rfl) (fun K hK => ?_)
  refine q_val (idv a1 a2) (fun W hW => ?_) ?_
  · have c0 := (PA.out.below hW).c0
    have c1 := (PA.out.below hW).c1
    go_simp
  go_simp
  refine hK _ ?_
  clear hK K
  refine BigFrame.wpQuiet_want (by kernel_rfl) (fun K hK => ?_)
  refine q_val (idv b1 b2) (fun W hW => ?_) ?_
  · have c0 := (PB.out.below hW).c0
    have c1 := (PB.out.below hW).c1
    go_simp
  go_simp
  refine hK _ ?_
  clear hK K
  refine BigFrame.wpQuiet_want (by kernel_rfl) (fun K hK => ?_)
  refine q_call (f := 18) (args := #[idv a1 a2, idv b1 b2]) (.int .i64 X1) (fun W => ?_) (fun W hW => ?_) ?_
  · go_simp
  · exact (oi_any a1 a2 b1 b2 W).mono fun e W' ⟨he, hb'⟩ => ⟨by rw [he, HX1.out], bt hW hb'⟩
  go_simp
  refine hK _ ?_
  clear hK K
  refine BigFrame.wpQuiet_want (by kernel_rfl) (fun K hK => ?_)
  refine q_val (idv b1 b2) (fun W hW => ?_) ?_
  · have c0 := (PB.out.below hW).c0
    have c1 := (PB.out.below hW).c1
    go_simp
  go_simp
  refine hK _ ?_
  clear hK K
  refine BigFrame.wpQuiet_want (by kernel_rfl) (fun K hK => ?_)
  refine q_val (idv a1 a2) (fun W hW => ?_) ?_
  · have c0 := (PA.out.below hW).c0
    have c1 := (PA.out.below hW).c1
    go_simp
  go_simp
  refine hK _ ?_
  clear hK K
  refine BigFrame.wpQuiet_want (by kernel_rfl) (fun K hK => ?_)
  refine q_call (f := 18) (args := #[idv b1 b2, idv a1 a2]) (.int .i64 Y1) (fun W => ?_) (fun W hW => ?_) ?_
  · go_simp
  · exact (oi_any b1 b2 a1 a2 W).mono fun e W' ⟨he, hb'⟩ => ⟨by rw [he, HY1.out], bt hW hb'⟩
  go_simp
  refine hK _ ?_
  clear hK K
  refine BigFrame.wpQuiet_want (by kernel_rfl) (fun K hK => ?_)
  refine q_val (.int .i64 X1) (fun W hW => ?_) ?_
  · go_simp
  go_simp
  refine hK _ ?_
  clear hK K
  refine BigFrame.wpQuiet_want (by kernel_rfl) (fun K hK => ?_)
  refine q_val (.bool false) (fun W hW => ?_) ?_
  · go_simp
  go_simp
  refine hK _ ?_
  clear hK K
  refine BigFrame.wpQuiet_want (by kernel_rfl) (fun K hK => ?_)
  refine q_val (.bool false) (fun W hW => ?_) ?_
  · go_simp
  go_simp
  refine hK _ ?_
  clear hK K
  refine BigFrame.wpQuiet_want (by kernel_rfl) (fun K hK => ?_)
  refine q_val (idv a1 a2) (fun W hW => ?_) ?_
  · have c0 := (PA.out.below hW).c0
    have c1 := (PA.out.below hW).c1
    go_simp
  go_simp
  refine hK _ ?_
  clear hK K
  refine BigFrame.wpQuiet_want (by kernel_rfl) (fun K hK => ?_)
  refine q_val (idv b1 b2) (fun W hW => ?_) ?_
  · have c0 := (PB.out.below hW).c0
    have c1 := (PB.out.below hW).c1
    go_simp
  go_simp
  refine hK _ ?_
  clear hK K
  refine BigFrame.wpQuiet_want (by kernel_rfl) (fun K hK => ?_)
  refine q_call (f := 18) (args := #[idv a1 a2, idv b1 b2]) (.int .i64 X1) (fun W => ?_) (fun W hW => ?_) ?_
  · go_simp
  · exact (oi_any a1 a2 b1 b2 W).mono fun e W' ⟨he, hb'⟩ => ⟨by rw [he, HX1.out], bt hW hb'⟩
  go_simp
  refine hK _ ?_
  clear hK K
  refine BigFrame.wpQuiet_want (by kernel_rfl) (fun K hK => ?_)
  refine q_val (.bool E1) (fun W hW => ?_) ?_
  · go_simp
  go_simp
  refine hK _ ?_
  clear hK K
  refine BigFrame.wpQuiet_want (by kernel_rfl) (fun K hK => ?_)
  refine q_val (idv a1 a2) (fun W hW => ?_) ?_
  · have c0 := (PA.out.below hW).c0
    have c1 := (PA.out.below hW).c1
    go_simp
  go_simp
  refine hK _ ?_
  clear hK K
  refine BigFrame.wpQuiet_want (by kernel_rfl) (fun K hK => ?_)
  refine q_val (idv b1 b2) (fun W hW => ?_) ?_
  · have c0 := (PB.out.below hW).c0
    have c1 := (PB.out.below hW).c1
    go_simp
  go_simp
  refine hK _ ?_
  clear hK K
  refine BigFrame.wpQuiet_want (by kernel_rfl) (fun K hK => ?_)
  refine q_val (.bool E1) (fun W hW => ?_) ?_
  · rw [← HE1.out]
    cases h1 : (a1 == b1) <;> cases h2 : (a2 == b2) <;> go_simp
  go_simp
  refine hK _ ?_
  clear hK K
  refine BigFrame.wpQuiet_want (by kernel_rfl) (fun K hK => ?_)
  refine q_val (.bool false) (fun W hW => ?_) ?_
  · go_simp
  go_simp
  refine hK _ ?_
  clear hK K
  refine BigFrame.wpQuiet_want (by kernel_rfl) (fun K hK => ?_)
  refine q_val (.bool false) (fun W hW => ?_) ?_
  · go_simp
  go_simp
  refine hK _ ?_
  clear hK K
  refine BigFrame.wpQuiet_want (by kernel_rfl) (fun K hK => ?_)
  refine q_val (.bool false) (fun W hW => ?_) ?_
  · go_simp
  go_simp
  refine hK _ ?_
  clear hK K
  refine BigFrame.wpQuiet_want (by kernel_rfl) (fun K hK => ?_)
  refine q_val (idv x1 x2) (fun W hW => ?_) ?_
  · have c0 := (PX.out.below hW).c0
    have c1 := (PX.out.below hW).c1
    go_simp
  go_simp
  refine hK _ ?_
  clear hK K
  refine BigFrame.wpQuiet_want (by kernel_rfl) (fun K hK => ?_)
  refine q_val (idv y1 y2) (fun W hW => ?_) ?_
  · have c0 := (PY.out.below hW).c0
    have c1 := (PY.out.below hW).c1
    go_simp
  go_simp
  refine hK _ ?_
  clear hK K
  refine BigFrame.wpQuiet_want (by kernel_rfl) (fun K hK => ?_)
  refine q_call (f := 20) (args := #[idv x1 x2, idv y1 y2]) (.int .i64 X2) (fun W => ?_) (fun W hW => ?_) ?_
  · go_simp
  · exact (os_any x1 x2 y1 y2 W).mono fun e W' ⟨he, hb'⟩ => ⟨by rw [he, HX2.out], bt hW hb'⟩
  go_simp
  refine hK _ ?_
  clear hK K
  refine BigFrame.wpQuiet_want (by kernel_rfl) (fun K hK => ?_)
  refine q_val (idv y1 y2) (fun W hW => ?_) ?_
  · have c0 := (PY.out.below hW).c0
    have c1 := (PY.out.below hW).c1
    go_simp
  go_simp
  refine hK _ ?_
  clear hK K
  refine BigFrame.wpQuiet_want (by kernel_rfl) (fun K hK => ?_)
  refine q_val (idv x1 x2) (fun W hW => ?_) ?_
  · have c0 := (PX.out.below hW).c0
    have c1 := (PX.out.below hW).c1
    go_simp
  go_simp
  refine hK _ ?_
  clear hK K
  refine BigFrame.wpQuiet_want (by kernel_rfl) (fun K hK => ?_)
  refine q_call (f := 20) (args := #[idv y1 y2, idv x1 x2]) (.int .i64 Y2) (fun W => ?_) (fun W hW => ?_) ?_
  · go_simp
  · exact (os_any y1 y2 x1 x2 W).mono fun e W' ⟨he, hb'⟩ => ⟨by rw [he, HY2.out], bt hW hb'⟩
  go_simp
  refine hK _ ?_
  clear hK K
  refine BigFrame.wpQuiet_want (by kernel_rfl) (fun K hK => ?_)
  refine q_val (.int .i64 X2) (fun W hW => ?_) ?_
  · go_simp
  go_simp
  refine hK _ ?_
  clear hK K
  refine BigFrame.wpQuiet_want (by kernel_rfl) (fun K hK => ?_)
  refine q_val (.bool false) (fun W hW => ?_) ?_
  · go_simp
  go_simp
  refine hK _ ?_
  clear hK K
  refine BigFrame.wpQuiet_want (by kernel_rfl) (fun K hK => ?_)
  refine q_val (.bool false) (fun W hW => ?_) ?_
  · go_simp
  go_simp
  refine hK _ ?_
  clear hK K
  refine BigFrame.wpQuiet_want (by kernel_rfl) (fun K hK => ?_)
  refine q_val (.bool false) (fun W hW => ?_) ?_
  · go_simp
  go_simp
  refine hK _ ?_
  clear hK K
  refine BigFrame.wpQuiet_want (by kernel_rfl) (fun K hK => ?_)
  refine q_val (idv x1 x2) (fun W hW => ?_) ?_
  · have c0 := (PX.out.below hW).c0
    have c1 := (PX.out.below hW).c1
    go_simp
  go_simp
  refine hK _ ?_
  clear hK K
  refine BigFrame.wpQuiet_want (by kernel_rfl) (fun K hK => ?_)
  refine q_val (idv y1 y2) (fun W hW => ?_) ?_
  · have c0 := (PY.out.below hW).c0
    have c1 := (PY.out.below hW).c1
    go_simp
  go_simp
  refine hK _ ?_
  clear hK K
  refine BigFrame.wpQuiet_want (by kernel_rfl) (fun K hK => ?_)
  refine q_call (f := 20) (args := #[idv x1 x2, idv y1 y2]) (.int .i64 X2) (fun W => ?_) (fun W hW => ?_) ?_
  · go_simp
  · exact (os_any x1 x2 y1 y2 W).mono fun e W' ⟨he, hb'⟩ => ⟨by rw [he, HX2.out], bt hW hb'⟩
  go_simp
  refine hK _ ?_
  clear hK K
  refine BigFrame.wpQuiet_want (by kernel_rfl) (fun K hK => ?_)
  refine q_val (.bool E2) (fun W hW => ?_) ?_
  · go_simp
  go_simp
  refine hK _ ?_
  clear hK K
  refine BigFrame.wpQuiet_want (by kernel_rfl) (fun K hK => ?_)
  refine q_val (idv x1 x2) (fun W hW => ?_) ?_
  · have c0 := (PX.out.below hW).c0
    have c1 := (PX.out.below hW).c1
    go_simp
  go_simp
  refine hK _ ?_
  clear hK K
  refine BigFrame.wpQuiet_want (by kernel_rfl) (fun K hK => ?_)
  refine q_val (idv y1 y2) (fun W hW => ?_) ?_
  · have c0 := (PY.out.below hW).c0
    have c1 := (PY.out.below hW).c1
    go_simp
  go_simp
  refine hK _ ?_
  clear hK K
  refine BigFrame.wpQuiet_want (by kernel_rfl) (fun K hK => ?_)
  refine q_val (.bool E2) (fun W hW => ?_) ?_
  · rw [← HE2.out]
    cases h1 : (x1 == y1) <;> cases h2 : (x2 == y2) <;> go_simp
  go_simp
  refine hK _ ?_
  clear hK K
  refine BigFrame.wpQuiet_want (by kernel_rfl) (fun K hK => ?_)
  refine q_val (.bool false) (fun W hW => ?_) ?_
  · go_simp
  go_simp
  refine hK _ ?_
  clear hK K
  refine BigFrame.wpQuiet_want (by kernel_rfl) (fun K hK => ?_)
  refine q_val (.bool false) (fun W hW => ?_) ?_
  · go_simp
  go_simp
  refine hK _ ?_
  clear hK K
  refine wpQuiet_nil ?_
  intro w2 hW2
  have B2 := hid (bt B1.out hW2)
  have L2 := hid (And.intro (PA.out.below hW2) (And.intro (PB.out.below hW2) (And.intro (PC.out.below hW2) (And.intro (PX.out.below hW2) (And.intro (PY.out.below hW2) (PZ.out.below hW2))))))
  clear hW2
  have f0 := L2.out.1.c0
  have f1 := L2.out.1.c1
  have f2 := L2.out.2.1.c0
  have f3 := L2.out.2.1.c1
  go_wp2_with fail
  refine (oi_any a1 a2 b1 b2 _).mono ?_
  rintro e w3 ⟨rfl, b3'⟩
  rw [HX1.out]
  have L3 := hid (And.intro (L2.out.1.below b3') (And.intro (L2.out.2.1.below b3') (And.intro (L2.out.2.2.1.below b3') (And.intro (L2.out.2.2.2.1.below b3') (And.intro (L2.out.2.2.2.2.1.below b3') (L2.out.2.2.2.2.2.below b3'))))))
  have B3 := hid (bt B2.out b3')
  clear b3' f0 f1 f2 f3
  cases hi1 : decide (X1 < 0)
  · have f0 := L3.out.2.2.2.1.c0
    have f1 := L3.out.2.2.2.1.c1
    have f2 := L3.out.2.2.2.2.1.c0
    have f3 := L3.out.2.2.2.2.1.c1
    go_wp2_with fail
    refine (os_any x1 x2 y1 y2 _).mono ?_
    rintro e w4 ⟨rfl, b4'⟩
    rw [HX2.out]
    have L4 := hid (And.intro (L3.out.1.below b4') (And.intro (L3.out.2.1.below b4') (And.intro (L3.out.2.2.1.below b4') (And.intro (L3.out.2.2.2.1.below b4') (And.intro (L3.out.2.2.2.2.1.below b4') (L3.out.2.2.2.2.2.below b4'))))))
    have B4 := hid (bt B3.out b4')
    clear b4' f0 f1 f2 f3
    cases hs1 : decide (X2 < 0)
    · go_wp2_with fail
      go_ret
      exact ⟨rfl, B4.out⟩
    · have f0 := L4.out.2.2.2.2.1.c0
      have f1 := L4.out.2.2.2.2.1.c1
      have f2 := L4.out.2.2.2.2.2.c0
      have f3 := L4.out.2.2.2.2.2.c1
      go_wp2_with fail
      refine (os_any y1 y2 z1 z2 _).mono ?_
      rintro e w5 ⟨rfl, b5'⟩
      rw [HX5.out]
      have L5 := hid (And.intro (L4.out.1.below b5') (And.intro (L4.out.2.1.below b5') (And.intro (L4.out.2.2.1.below b5') (And.intro (L4.out.2.2.2.1.below b5') (And.intro (L4.out.2.2.2.2.1.below b5') (L4.out.2.2.2.2.2.below b5'))))))
      have B5 := hid (bt B4.out b5')
      clear b5' f0 f1 f2 f3
      cases hs2 : decide (X5 < 0)
      · go_wp2_with fail
        go_ret
        exact ⟨rfl, B5.out⟩
      · have hs3 : decide (0 ≤ X6) = false := by
          have := V2.out (by simpa using hs1) (by simpa using hs2)
          simp; omega
        have f0 := L5.out.2.2.2.1.c0
        have f1 := L5.out.2.2.2.1.c1
        have f2 := L5.out.2.2.2.2.2.c0
        have f3 := L5.out.2.2.2.2.2.c1
        go_wp2_with fail
        refine (os_any x1 x2 z1 z2 _).mono ?_
        rintro e w6 ⟨rfl, b6'⟩
        rw [HX6.out]
        have L6 := hid (And.intro (L5.out.1.below b6') (And.intro (L5.out.2.1.below b6') (And.intro (L5.out.2.2.1.below b6') (And.intro (L5.out.2.2.2.1.below b6') (And.intro (L5.out.2.2.2.2.1.below b6') (L5.out.2.2.2.2.2.below b6'))))))
        have B6 := hid (bt B5.out b6')
        clear b6' f0 f1 f2 f3
        go_wp2_with fail
        go_ret
        exact ⟨rfl, B6.out⟩
  · have f0 := L3.out.2.1.c0
    have f1 := L3.out.2.1.c1
    have f2 := L3.out.2.2.1.c0
    have f3 := L3.out.2.2.1.c1
    go_wp2_with fail
    refine (oi_any b1 b2 c1 c2 _).mono ?_
    rintro e w4 ⟨rfl, b4'⟩
    rw [HX3.out]
    have L4 := hid (And.intro (L3.out.1.below b4') (And.intro (L3.out.2.1.below b4') (And.intro (L3.out.2.2.1.below b4') (And.intro (L3.out.2.2.2.1.below b4') (And.intro (L3.out.2.2.2.2.1.below b4') (L3.out.2.2.2.2.2.below b4'))))))
    have B4 := hid (bt B3.out b4')
    clear b4' f0 f1 f2 f3
    cases hi2 : decide (X3 < 0)
    · have f0 := L4.out.2.2.2.1.c0
      have f1 := L4.out.2.2.2.1.c1
      have f2 := L4.out.2.2.2.2.1.c0
      have f3 := L4.out.2.2.2.2.1.c1
      go_wp2_with fail
      refine (os_any x1 x2 y1 y2 _).mono ?_
      rintro e w5 ⟨rfl, b5'⟩
      rw [HX2.out]
      have L5 := hid (And.intro (L4.out.1.below b5') (And.intro (L4.out.2.1.below b5') (And.intro (L4.out.2.2.1.below b5') (And.intro (L4.out.2.2.2.1.below b5') (And.intro (L4.out.2.2.2.2.1.below b5') (L4.out.2.2.2.2.2.below b5'))))))
      have B5 := hid (bt B4.out b5')
      clear b5' f0 f1 f2 f3
      cases hs1 : decide (X2 < 0)
      · go_wp2_with fail
        go_ret
        exact ⟨rfl, B5.out⟩
      · have f0 := L5.out.2.2.2.2.1.c0
        have f1 := L5.out.2.2.2.2.1.c1
        have f2 := L5.out.2.2.2.2.2.c0
        have f3 := L5.out.2.2.2.2.2.c1
        go_wp2_with fail
        refine (os_any y1 y2 z1 z2 _).mono ?_
        rintro e w6 ⟨rfl, b6'⟩
        rw [HX5.out]
        have L6 := hid (And.intro (L5.out.1.below b6') (And.intro (L5.out.2.1.below b6') (And.intro (L5.out.2.2.1.below b6') (And.intro (L5.out.2.2.2.1.below b6') (And.intro (L5.out.2.2.2.2.1.below b6') (L5.out.2.2.2.2.2.below b6'))))))
        have B6 := hid (bt B5.out b6')
        clear b6' f0 f1 f2 f3
        cases hs2 : decide (X5 < 0)
        · go_wp2_with fail
          go_ret
          exact ⟨rfl, B6.out⟩
        · have hs3 : decide (0 ≤ X6) = false := by
            have := V2.out (by simpa using hs1) (by simpa using hs2)
            simp; omega
          have f0 := L6.out.2.2.2.1.c0
          have f1 := L6.out.2.2.2.1.c1
          have f2 := L6.out.2.2.2.2.2.c0
          have f3 := L6.out.2.2.2.2.2.c1
          go_wp2_with fail
          refine (os_any x1 x2 z1 z2 _).mono ?_
          rintro e w7 ⟨rfl, b7'⟩
          rw [HX6.out]
          have L7 := hid (And.intro (L6.out.1.below b7') (And.intro (L6.out.2.1.below b7') (And.intro (L6.out.2.2.1.below b7') (And.intro (L6.out.2.2.2.1.below b7') (And.intro (L6.out.2.2.2.2.1.below b7') (L6.out.2.2.2.2.2.below b7'))))))
          have B7 := hid (bt B6.out b7')
          clear b7' f0 f1 f2 f3
          go_wp2_with fail
          go_ret
          exact ⟨rfl, B7.out⟩
    · have hi3 : decide (0 ≤ X4) = false := by
        have := V1.out (by simpa using hi1) (by simpa using hi2)
        simp; omega
      have f0 := L4.out.1.c0
      have f1 := L4.out.1.c1
      have f2 := L4.out.2.2.1.c0
      have f3 := L4.out.2.2.1.c1
      go_wp2_with fail
      refine (oi_any a1 a2 c1 c2 _).mono ?_
      rintro e w5 ⟨rfl, b5'⟩
      rw [HX4.out]
      have L5 := hid (And.intro (L4.out.1.below b5') (And.intro (L4.out.2.1.below b5') (And.intro (L4.out.2.2.1.below b5') (And.intro (L4.out.2.2.2.1.below b5') (And.intro (L4.out.2.2.2.2.1.below b5') (L4.out.2.2.2.2.2.below b5'))))))
      have B5 := hid (bt B4.out b5')
      clear b5' f0 f1 f2 f3
      have f0 := L5.out.2.2.2.1.c0
      have f1 := L5.out.2.2.2.1.c1
      have f2 := L5.out.2.2.2.2.1.c0
      have f3 := L5.out.2.2.2.2.1.c1
      go_wp2_with fail
      refine (os_any x1 x2 y1 y2 _).mono ?_
      rintro e w6 ⟨rfl, b6'⟩
      rw [HX2.out]
      have L6 := hid (And.intro (L5.out.1.below b6') (And.intro (L5.out.2.1.below b6') (And.intro (L5.out.2.2.1.below b6') (And.intro (L5.out.2.2.2.1.below b6') (And.intro (L5.out.2.2.2.2.1.below b6') (L5.out.2.2.2.2.2.below b6'))))))
      have B6 := hid (bt B5.out b6')
      clear b6' f0 f1 f2 f3
      cases hs1 : decide (X2 < 0)
      · go_wp2_with fail
        go_ret
        exact ⟨rfl, B6.out⟩
      · have f0 := L6.out.2.2.2.2.1.c0
        have f1 := L6.out.2.2.2.2.1.c1
        have f2 := L6.out.2.2.2.2.2.c0
        have f3 := L6.out.2.2.2.2.2.c1
        go_wp2_with fail
        refine (os_any y1 y2 z1 z2 _).mono ?_
        rintro e w7 ⟨rfl, b7'⟩
        rw [HX5.out]
        have L7 := hid (And.intro (L6.out.1.below b7') (And.intro (L6.out.2.1.below b7') (And.intro (L6.out.2.2.1.below b7') (And.intro (L6.out.2.2.2.1.below b7') (And.intro (L6.out.2.2.2.2.1.below b7') (L6.out.2.2.2.2.2.below b7'))))))
        have B7 := hid (bt B6.out b7')
        clear b7' f0 f1 f2 f3
        cases hs2 : decide (X5 < 0)
        · go_wp2_with fail
          go_ret
          exact ⟨rfl, B7.out⟩
        · have hs3 : decide (0 ≤ X6) = false := by
            have := V2.out (by simpa using hs1) (by simpa using hs2)
            simp; omega
          have f0 := L7.out.2.2.2.1.c0
          have f1 := L7.out.2.2.2.1.c1
          have f2 := L7.out.2.2.2.2.2.c0
          have f3 := L7.out.2.2.2.2.2.c1
          go_wp2_with fail
          refine (os_any x1 x2 z1 z2 _).mono ?_
          rintro e w8 ⟨rfl, b8'⟩
          rw [HX6.out]
          have L8 := hid (And.intro (L7.out.1.below b8') (And.intro (L7.out.2.1.below b8') (And.intro (L7.out.2.2.1.below b8') (And.intro (L7.out.2.2.2.1.below b8') (And.intro (L7.out.2.2.2.2.1.below b8') (L7.out.2.2.2.2.2.below b8'))))))
          have B8 := hid (bt B7.out b8')
          clear b8' f0 f1 f2 f3
          go_wp2_with fail
          go_ret
          exact ⟨rfl, B8.out⟩

end Go.Proofs.YtbcodkokacpioaaDoor
