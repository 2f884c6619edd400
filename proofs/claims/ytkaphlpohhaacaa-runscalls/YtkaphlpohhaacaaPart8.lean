/-
  Parts of the proof, one behind the other; what each proves stands at its head.
-/
import Derived.Test.YtkaphlpohhaacaaPart7
import Derived.Deep.Cut

/-
  What meets, joins, right, count, and the closures of Put and Find answer is proved here.
-/
namespace Go.Proofs.Ytkaphlpohhaacaa
open Go.RowKit
set_option linter.unusedVariables false
set_option linter.unusedSimpArgs false
set_option maxRecDepth 100000

def meetsB (x : Un) (r n i j : Int) : Bool := sameI x.r x.n r n && decide (max x.f i < min (x.f + x.l) j)
set_option maxHeartbeats 2000000 in
theorem meets_any (x : Un) (r n i j : Int) (w : World) (hf : Fi x) :
    Calls Try.prog 26 #[unv x, idv r n, .int .i64 i, .int .i64 j] w fun e w' => e = .returned (.bool (meetsB x r n i j)) ∧ Below w.heap.size w w' := by
  obtain ⟨b, hb⟩ : ∃ b, decide (max x.f i < min (x.f + x.l) j) = b := ⟨_, rfl⟩
  have e : meetsB x r n i j = (sameI x.r x.n r n && b) := by unfold meetsB; rw [hb]
  rw [e]
  have HF := hid hf
  have HB := hid hb
  clear hb e hf
  cases hi : sameI x.r x.n r n
  all_goals
    have HI := hid hi
    clear hi
    go_enter Try.func26, Try.ntmps26
    go_upto_region 1 with (first
      | (refine wl_boxR (u := x) rfl rfl rfl ?_; intro W1 b1 e1 hub hb1; have HU := hid hub; have HB1 := hid hb1; clear e1 hub hb1)
      | (refine wl_boxN (r := r) (n := n) rfl rfl rfl ?_; intro W2 b2 e2 hnb hb2; have HG := hid (show Rm W2 b1 b2 x r n from ⟨HU.out.below hb2, hnb⟩); have HB2 := hid (bt HB1.out hb2); clear e2 hnb hb2))
  · refine meets_r0 (p := b1) (q := b2) (x := x) (r := r) (n := n) (i := i) (j := j) HG.out HI.out (fun _ _ _ _ _ h => h) ?_
    intro W3 hb3
    go_wp2_with fail
    go_ret
    exact ⟨rfl, bt HB2.out hb3⟩
  · refine meets_r1 (p := b1) (q := b2) (x := x) (r := r) (n := n) (i := i) (j := j) HG.out HI.out HB.out HF.out (fun _ _ _ _ _ h => h) ?_
    intro W3 hb3
    go_wp2_with fail
    go_ret
    exact ⟨rfl, bt HB2.out hb3⟩

def joinsB (x y : Un) : Bool := sameI x.r x.n y.r y.n && (decide (x.f + x.l = y.f) && ((x.g == y.g) && (!x.m && !y.m)))
set_option maxHeartbeats 4000000 in
theorem joins_any (x y : Un) (w : World) (hf : Fi x) :
    Calls Try.prog 54 #[unv x, unv y] w fun e w' => e = .returned (.bool (joinsB x y)) ∧ Below w.heap.size w w' := by
  have HF := hid hf
  clear hf
  have hgo : ∀ (Z : Bool), (∀ (p q : Nat) (w2 : World), Rj w2 p q x y → ∀ {x4 x5 x6 x7 x8 x9 x10 x11 x12 x13 x14 x15 x16 x17 x18 x19 x20 x21 x22 x23 x24 x25 x26 x27 x28 x29 x30 x31 x32 x33 x34 x35 x36 x37 x38 x39 x40 : Value} {Q : Exit → Act → World → Prop},
      (∀ c t t' d W, Q (.panic c) { tmps := t, defers := d } W → Q (.panic c) { tmps := t', defers := d } W) →
      (∀ W,Below w2.heap.size w2 W → ∀ y5 y6 y7 y8 y9 y10 y11 y12 y13 y14 y15 y16 y17 y18 y19 y20 y21 y22 y23 y24 y25 y26 y27 y28 y29 y30 y31 y32 y33 y34 y35 y36 y37 y38 y39 y40,Q .normal { tmps := #[unv x,unv y,.pointer (some ⟨p,0,none⟩),.pointer (some ⟨q,0,none⟩),.bool Z,y5,y6,y7,y8,y9,y10,y11,y12,y13,y14,y15,y16,y17,y18,y19,y20,y21,y22,y23,y24,y25,y26,y27,y28,y29,y30,y31,y32,y33,y34,y35,y36,y37,y38,y39,y40],defers := [] } W) →
      (Code.region 1 ujs true).wp Try.prog Q { tmps := #[unv x,unv y,.pointer (some ⟨p,0,none⟩),.pointer (some ⟨q,0,none⟩),x4,x5,x6,x7,x8,x9,x10,x11,x12,x13,x14,x15,x16,x17,x18,x19,x20,x21,x22,x23,x24,x25,x26,x27,x28,x29,x30,x31,x32,x33,x34,x35,x36,x37,x38,x39,x40],defers := [] } w2) →
      Calls Try.prog 54 #[unv x, unv y] w fun e w' => e = .returned (.bool Z) ∧ Below w.heap.size w w' := by
    intro Z hZ
    have HZ := hid hZ
    clear hZ
    go_enter Try.func54, Try.ntmps54
    go_upto_region 1 with (first
      | (refine wl_boxR (u := y) rfl rfl rfl ?_; intro W2 b2 e2 hvb hb2; have HG := hid (show Rj W2 b1 b2 x y from ⟨HU.out.below hb2, hvb⟩); have HB2 := hid (bt HB1.out hb2); clear e2 hvb hb2)
      | (refine wl_boxR (u := x) rfl rfl rfl ?_; intro W1 b1 e1 hub hb1; have HU := hid hub; have HB1 := hid hb1; clear e1 hub hb1))
    refine HZ.out b1 b2 _ HG.out (fun _ _ _ _ _ h => h) ?_
    intro W3 hb3 y5 y6 y7 y8 y9 y10 y11 y12 y13 y14 y15 y16 y17 y18 y19 y20 y21 y22 y23 y24 y25 y26 y27 y28 y29 y30 y31 y32 y33 y34 y35 y36 y37 y38 y39 y40
    go_wp2_with fail
    go_ret
    exact ⟨rfl, bt HB2.out hb3⟩
  unfold joinsB
  cases hi : sameI x.r x.n y.r y.n
  · exact hgo _ (fun p q w2 h _ _ _ _ _ _ _ _ _ _ _ _ _ _ _ _ _ _ _ _ _ _ _ _ _ _ _ _ _ _ _ _ _ _ _ _ _ Q hP hQ => joins_r0 h HF.out hi hP (fun W hW => hQ W hW _ _ _ _ _ _ _ _ _ _ _ _ _ _ _ _ _ _ _ _ _ _ _ _ _ _ _ _ _ _ _ _ _ _ _ _))
  cases he : decide (x.f + x.l = y.f)
  · exact hgo _ (fun p q w2 h _ _ _ _ _ _ _ _ _ _ _ _ _ _ _ _ _ _ _ _ _ _ _ _ _ _ _ _ _ _ _ _ _ _ _ _ _ Q hP hQ => joins_r1 h HF.out hi he hP (fun W hW => hQ W hW _ _ _ _ _ _ _ _ _ _ _ _ _ _ _ _ _ _ _ _ _ _ _ _ _ _ _ _ _ _ _ _ _ _ _ _))
  cases hg : (x.g == y.g)
  · exact hgo _ (fun p q w2 h _ _ _ _ _ _ _ _ _ _ _ _ _ _ _ _ _ _ _ _ _ _ _ _ _ _ _ _ _ _ _ _ _ _ _ _ _ Q hP hQ => joins_r2 h HF.out hi he hg hP (fun W hW => hQ W hW _ _ _ _ _ _ _ _ _ _ _ _ _ _ _ _ _ _ _ _ _ _ _ _ _ _ _ _ _ _ _ _ _ _ _ _))
  cases hm : x.m
  · exact hgo _ (fun p q w2 h _ _ _ _ _ _ _ _ _ _ _ _ _ _ _ _ _ _ _ _ _ _ _ _ _ _ _ _ _ _ _ _ _ _ _ _ _ Q hP hQ => joins_r4 h HF.out hi he hg hm hP (fun W hW => hQ W hW _ _ _ _ _ _ _ _ _ _ _ _ _ _ _ _ _ _ _ _ _ _ _ _ _ _ _ _ _ _ _ _ _ _ _ _))
  · exact hgo _ (fun p q w2 h _ _ _ _ _ _ _ _ _ _ _ _ _ _ _ _ _ _ _ _ _ _ _ _ _ _ _ _ _ _ _ _ _ _ _ _ _ Q hP hQ => joins_r3 h HF.out hi he hg hm hP (fun W hW => hQ W hW _ _ _ _ _ _ _ _ _ _ _ _ _ _ _ _ _ _ _ _ _ _ _ _ _ _ _ _ _ _ _ _ _ _ _ _))

def holdB (x : Un) (r n i : Int) : Bool := sameI x.r x.n r n && (decide (x.f ≤ i) && decide (i < x.f + x.l))
set_option maxHeartbeats 4000000 in
theorem hold_any (x : Un) (q : Nat) (r n i : Int) (w : World) (hf : Fi x) (hq : Hb w q r n i) :
    Calls Try.prog 36 #[unv x, .pointer (some ⟨q, 0, none⟩)] w fun e w' => e = .returned (.bool (holdB x r n i)) ∧ Below w.heap.size w w' := by
  have HF := hid hf
  have HQ := hid hq
  clear hf hq
  unfold holdB
  cases hi : sameI x.r x.n r n
  · have HI := hid hi
    clear hi
    go_enter Try.func36, Try.ntmps36
    go_upto_region 1 with (refine wl_boxR (u := x) rfl rfl rfl ?_; intro W1 b1 e1 hub hb1; have HG := hid (show Rh W1 b1 q x r n i from ⟨hub, HQ.out.below hb1⟩); have HB1 := hid hb1; clear e1 hub hb1)
    refine hold_r0 (p := b1) (q := q) (x := x) (r := r) (n := n) (i := i) HG.out HF.out HI.out (fun _ _ _ _ _ h => h) ?_
    intro W3 hb3
    go_wp2_with fail
    go_ret
    exact ⟨rfl, bt HB1.out hb3⟩
  · have HI := hid hi
    clear hi
    cases he : decide (x.f ≤ i)
    · have HE := hid he
      clear he
      go_enter Try.func36, Try.ntmps36
      go_upto_region 1 with (refine wl_boxR (u := x) rfl rfl rfl ?_; intro W1 b1 e1 hub hb1; have HG := hid (show Rh W1 b1 q x r n i from ⟨hub, HQ.out.below hb1⟩); have HB1 := hid hb1; clear e1 hub hb1)
      refine hold_r1 (p := b1) (q := q) (x := x) (r := r) (n := n) (i := i) HG.out HF.out HI.out HE.out (fun _ _ _ _ _ h => h) ?_
      intro W3 hb3
      go_wp2_with fail
      go_ret
      exact ⟨rfl, bt HB1.out hb3⟩
    · have HE := hid he
      obtain ⟨b, hb⟩ : ∃ b, decide (i < x.f + x.l) = b := ⟨_, rfl⟩
      have HB := hid hb
      rw [hb]
      clear he hb
      go_enter Try.func36, Try.ntmps36
      go_upto_region 1 with (refine wl_boxR (u := x) rfl rfl rfl ?_; intro W1 b1 e1 hub hb1; have HG := hid (show Rh W1 b1 q x r n i from ⟨hub, HQ.out.below hb1⟩); have HB1 := hid hb1; clear e1 hub hb1)
      refine hold_r2 (p := b1) (q := q) (x := x) (r := r) (n := n) (i := i) HG.out HF.out HI.out HE.out HB.out (fun _ _ _ _ _ h => h) ?_
      intro W3 hb3
      go_wp2_with fail
      go_ret
      exact ⟨rfl, bt HB1.out hb3⟩

end Go.Proofs.Ytkaphlpohhaacaa

/-
  What right answers of an item is proved here; count, seek.
-/
namespace Go.Proofs.Ytkaphlpohhaacaa
open Go.RowKit
set_option linter.unusedVariables false
set_option linter.unusedSimpArgs false
set_option maxRecDepth 100000

def rightB (x : Un) : Bool := ro x.r x.n && (decide (1 ≤ x.l) && (decide (x.l ≤ 64) && (decide (0 ≤ x.f) && (decide (x.f ≤ 64 - x.l) && (((x.t.size : Int) == x.l) && (!x.m || (x.l == 1)))))))
set_option maxHeartbeats 8000000 in
theorem right_any (x : Un) (w : World) :
    Calls Try.prog 27 #[unv x] w fun e w' => e = .returned (.bool (rightB x)) ∧ Below w.heap.size w w' := by
  unfold rightB
  cases a0 : ro x.r x.n
  · skip
    have HR := hid a0
    go_enter Try.func27, Try.ntmps27
    go_wp2_with (first | (refine wl_boxI (u := x) rfl rfl rfl ?_; intro W1 b1 e1 hub hb1; have c0 : W1.cell? ⟨b1,0,none⟩ = some (.int .i64 x.r) := hub.cells.c0; have c1 : W1.cell? ⟨b1,1,none⟩ = some (.int .i64 x.n) := hub.cells.c1; have HU := hid hub; have HB := hid hb1; clear e1 hub hb1) | fail)
    refine (ro_any _ _ _).mono ?_
    rintro e W2 ⟨rfl, rfl⟩
    rw [HR.out]
    have HA := hid (ba W1 (ido 24 x.r x.n))
    have HU2 := hid (HU.out.below HA.out)
    obtain ⟨W3, hW3⟩ : ∃ W, W1.alloc (ido 24 x.r x.n) = W := ⟨_, rfl⟩
    rw [hW3] at HA HU2 ⊢
    have d2 : W3.cell? ⟨b1, 2, none⟩ = some (.int .i64 x.f) := HU2.out.cells.c2
    have d3 : W3.cell? ⟨b1, 3, none⟩ = some (.int .i64 x.l) := HU2.out.cells.c3
    have d11 : W3.cell? ⟨b1, 11, none⟩ = some (.bool x.m) := HU2.out.cells.c11
    have d12 : W3.cell? ⟨b1, 12, none⟩ = some (.string x.t) := HU2.out.cells.c12
    have HBB := hid (bt HB.out HA.out)
    clear hW3 c0 c1 HU2 HA HB HU
    go_wp2_with fail
    go_ret
    exact ⟨by simp, HBB.out⟩
  cases a1 : decide (1 ≤ x.l)
  · skip
    have HR := hid a0
    go_enter Try.func27, Try.ntmps27
    go_wp2_with (first | (refine wl_boxI (u := x) rfl rfl rfl ?_; intro W1 b1 e1 hub hb1; have c0 : W1.cell? ⟨b1,0,none⟩ = some (.int .i64 x.r) := hub.cells.c0; have c1 : W1.cell? ⟨b1,1,none⟩ = some (.int .i64 x.n) := hub.cells.c1; have HU := hid hub; have HB := hid hb1; clear e1 hub hb1) | fail)
    refine (ro_any _ _ _).mono ?_
    rintro e W2 ⟨rfl, rfl⟩
    rw [HR.out]
    have HA := hid (ba W1 (ido 24 x.r x.n))
    have HU2 := hid (HU.out.below HA.out)
    obtain ⟨W3, hW3⟩ : ∃ W, W1.alloc (ido 24 x.r x.n) = W := ⟨_, rfl⟩
    rw [hW3] at HA HU2 ⊢
    have d2 : W3.cell? ⟨b1, 2, none⟩ = some (.int .i64 x.f) := HU2.out.cells.c2
    have d3 : W3.cell? ⟨b1, 3, none⟩ = some (.int .i64 x.l) := HU2.out.cells.c3
    have d11 : W3.cell? ⟨b1, 11, none⟩ = some (.bool x.m) := HU2.out.cells.c11
    have d12 : W3.cell? ⟨b1, 12, none⟩ = some (.string x.t) := HU2.out.cells.c12
    have HBB := hid (bt HB.out HA.out)
    clear hW3 c0 c1 HU2 HA HB HU
    go_wp2_with fail
    go_ret
    exact ⟨by simp, HBB.out⟩
  cases a2 : decide (x.l ≤ 64)
  · skip
    have HR := hid a0
    go_enter Try.func27, Try.ntmps27
    go_wp2_with (first | (refine wl_boxI (u := x) rfl rfl rfl ?_; intro W1 b1 e1 hub hb1; have c0 : W1.cell? ⟨b1,0,none⟩ = some (.int .i64 x.r) := hub.cells.c0; have c1 : W1.cell? ⟨b1,1,none⟩ = some (.int .i64 x.n) := hub.cells.c1; have HU := hid hub; have HB := hid hb1; clear e1 hub hb1) | fail)
    refine (ro_any _ _ _).mono ?_
    rintro e W2 ⟨rfl, rfl⟩
    rw [HR.out]
    have HA := hid (ba W1 (ido 24 x.r x.n))
    have HU2 := hid (HU.out.below HA.out)
    obtain ⟨W3, hW3⟩ : ∃ W, W1.alloc (ido 24 x.r x.n) = W := ⟨_, rfl⟩
    rw [hW3] at HA HU2 ⊢
    have d2 : W3.cell? ⟨b1, 2, none⟩ = some (.int .i64 x.f) := HU2.out.cells.c2
    have d3 : W3.cell? ⟨b1, 3, none⟩ = some (.int .i64 x.l) := HU2.out.cells.c3
    have d11 : W3.cell? ⟨b1, 11, none⟩ = some (.bool x.m) := HU2.out.cells.c11
    have d12 : W3.cell? ⟨b1, 12, none⟩ = some (.string x.t) := HU2.out.cells.c12
    have HBB := hid (bt HB.out HA.out)
    clear hW3 c0 c1 HU2 HA HB HU
    go_wp2_with fail
    go_ret
    exact ⟨by simp, HBB.out⟩
  cases a3 : decide (0 ≤ x.f)
  · skip
    have HR := hid a0
    go_enter Try.func27, Try.ntmps27
    go_wp2_with (first | (refine wl_boxI (u := x) rfl rfl rfl ?_; intro W1 b1 e1 hub hb1; have c0 : W1.cell? ⟨b1,0,none⟩ = some (.int .i64 x.r) := hub.cells.c0; have c1 : W1.cell? ⟨b1,1,none⟩ = some (.int .i64 x.n) := hub.cells.c1; have HU := hid hub; have HB := hid hb1; clear e1 hub hb1) | fail)
    refine (ro_any _ _ _).mono ?_
    rintro e W2 ⟨rfl, rfl⟩
    rw [HR.out]
    have HA := hid (ba W1 (ido 24 x.r x.n))
    have HU2 := hid (HU.out.below HA.out)
    obtain ⟨W3, hW3⟩ : ∃ W, W1.alloc (ido 24 x.r x.n) = W := ⟨_, rfl⟩
    rw [hW3] at HA HU2 ⊢
    have d2 : W3.cell? ⟨b1, 2, none⟩ = some (.int .i64 x.f) := HU2.out.cells.c2
    have d3 : W3.cell? ⟨b1, 3, none⟩ = some (.int .i64 x.l) := HU2.out.cells.c3
    have d11 : W3.cell? ⟨b1, 11, none⟩ = some (.bool x.m) := HU2.out.cells.c11
    have d12 : W3.cell? ⟨b1, 12, none⟩ = some (.string x.t) := HU2.out.cells.c12
    have HBB := hid (bt HB.out HA.out)
    clear hW3 c0 c1 HU2 HA HB HU
    go_wp2_with fail
    go_ret
    exact ⟨by simp, HBB.out⟩
  cases a4 : decide (x.f ≤ 64 - x.l)
  · skip
    have HR := hid a0
    have p1 : 1 ≤ x.l := of_decide_eq_true a1
    have p2 : x.l ≤ 64 := of_decide_eq_true a2
    have p3 : (0 : Int) ≤ 64 - x.l := by omega
    have p4 : 64 - x.l ≤ 63 := by omega
    go_enter Try.func27, Try.ntmps27
    go_wp2_with (first | (refine wl_boxI (u := x) rfl rfl rfl ?_; intro W1 b1 e1 hub hb1; have c0 : W1.cell? ⟨b1,0,none⟩ = some (.int .i64 x.r) := hub.cells.c0; have c1 : W1.cell? ⟨b1,1,none⟩ = some (.int .i64 x.n) := hub.cells.c1; have HU := hid hub; have HB := hid hb1; clear e1 hub hb1) | fail)
    refine (ro_any _ _ _).mono ?_
    rintro e W2 ⟨rfl, rfl⟩
    rw [HR.out]
    have HA := hid (ba W1 (ido 24 x.r x.n))
    have HU2 := hid (HU.out.below HA.out)
    obtain ⟨W3, hW3⟩ : ∃ W, W1.alloc (ido 24 x.r x.n) = W := ⟨_, rfl⟩
    rw [hW3] at HA HU2 ⊢
    have d2 : W3.cell? ⟨b1, 2, none⟩ = some (.int .i64 x.f) := HU2.out.cells.c2
    have d3 : W3.cell? ⟨b1, 3, none⟩ = some (.int .i64 x.l) := HU2.out.cells.c3
    have d11 : W3.cell? ⟨b1, 11, none⟩ = some (.bool x.m) := HU2.out.cells.c11
    have d12 : W3.cell? ⟨b1, 12, none⟩ = some (.string x.t) := HU2.out.cells.c12
    have HBB := hid (bt HB.out HA.out)
    clear hW3 c0 c1 HU2 HA HB HU
    go_wp2_with fail
    go_ret
    exact ⟨by simp, HBB.out⟩
  cases a5 : ((x.t.size : Int) == x.l)
  · skip
    have HR := hid a0
    have p1 : 1 ≤ x.l := of_decide_eq_true a1
    have p2 : x.l ≤ 64 := of_decide_eq_true a2
    have p3 : (0 : Int) ≤ 64 - x.l := by omega
    have p4 : 64 - x.l ≤ 63 := by omega
    go_enter Try.func27, Try.ntmps27
    go_wp2_with (first | (refine wl_boxI (u := x) rfl rfl rfl ?_; intro W1 b1 e1 hub hb1; have c0 : W1.cell? ⟨b1,0,none⟩ = some (.int .i64 x.r) := hub.cells.c0; have c1 : W1.cell? ⟨b1,1,none⟩ = some (.int .i64 x.n) := hub.cells.c1; have HU := hid hub; have HB := hid hb1; clear e1 hub hb1) | fail)
    refine (ro_any _ _ _).mono ?_
    rintro e W2 ⟨rfl, rfl⟩
    rw [HR.out]
    have HA := hid (ba W1 (ido 24 x.r x.n))
    have HU2 := hid (HU.out.below HA.out)
    obtain ⟨W3, hW3⟩ : ∃ W, W1.alloc (ido 24 x.r x.n) = W := ⟨_, rfl⟩
    rw [hW3] at HA HU2 ⊢
    have d2 : W3.cell? ⟨b1, 2, none⟩ = some (.int .i64 x.f) := HU2.out.cells.c2
    have d3 : W3.cell? ⟨b1, 3, none⟩ = some (.int .i64 x.l) := HU2.out.cells.c3
    have d11 : W3.cell? ⟨b1, 11, none⟩ = some (.bool x.m) := HU2.out.cells.c11
    have d12 : W3.cell? ⟨b1, 12, none⟩ = some (.string x.t) := HU2.out.cells.c12
    have HBB := hid (bt HB.out HA.out)
    clear hW3 c0 c1 HU2 HA HB HU
    go_wp2_with fail
    go_ret
    exact ⟨by simp, HBB.out⟩
  cases a6 : x.m
  · skip
    have HR := hid a0
    have p1 : 1 ≤ x.l := of_decide_eq_true a1
    have p2 : x.l ≤ 64 := of_decide_eq_true a2
    have p3 : (0 : Int) ≤ 64 - x.l := by omega
    have p4 : 64 - x.l ≤ 63 := by omega
    go_enter Try.func27, Try.ntmps27
    go_wp2_with (first | (refine wl_boxI (u := x) rfl rfl rfl ?_; intro W1 b1 e1 hub hb1; have c0 : W1.cell? ⟨b1,0,none⟩ = some (.int .i64 x.r) := hub.cells.c0; have c1 : W1.cell? ⟨b1,1,none⟩ = some (.int .i64 x.n) := hub.cells.c1; have HU := hid hub; have HB := hid hb1; clear e1 hub hb1) | fail)
    refine (ro_any _ _ _).mono ?_
    rintro e W2 ⟨rfl, rfl⟩
    rw [HR.out]
    have HA := hid (ba W1 (ido 24 x.r x.n))
    have HU2 := hid (HU.out.below HA.out)
    obtain ⟨W3, hW3⟩ : ∃ W, W1.alloc (ido 24 x.r x.n) = W := ⟨_, rfl⟩
    rw [hW3] at HA HU2 ⊢
    have d2 : W3.cell? ⟨b1, 2, none⟩ = some (.int .i64 x.f) := HU2.out.cells.c2
    have d3 : W3.cell? ⟨b1, 3, none⟩ = some (.int .i64 x.l) := HU2.out.cells.c3
    have d11 : W3.cell? ⟨b1, 11, none⟩ = some (.bool x.m) := HU2.out.cells.c11
    have d12 : W3.cell? ⟨b1, 12, none⟩ = some (.string x.t) := HU2.out.cells.c12
    rw [a6] at d11
    have HBB := hid (bt HB.out HA.out)
    clear hW3 c0 c1 HU2 HA HB HU
    go_wp2_with fail
    go_ret
    exact ⟨by simp, HBB.out⟩
  cases a7 : (x.l == 1)
  · skip
    have HR := hid a0
    have p1 : 1 ≤ x.l := of_decide_eq_true a1
    have p2 : x.l ≤ 64 := of_decide_eq_true a2
    have p3 : (0 : Int) ≤ 64 - x.l := by omega
    have p4 : 64 - x.l ≤ 63 := by omega
    go_enter Try.func27, Try.ntmps27
    go_wp2_with (first | (refine wl_boxI (u := x) rfl rfl rfl ?_; intro W1 b1 e1 hub hb1; have c0 : W1.cell? ⟨b1,0,none⟩ = some (.int .i64 x.r) := hub.cells.c0; have c1 : W1.cell? ⟨b1,1,none⟩ = some (.int .i64 x.n) := hub.cells.c1; have HU := hid hub; have HB := hid hb1; clear e1 hub hb1) | fail)
    refine (ro_any _ _ _).mono ?_
    rintro e W2 ⟨rfl, rfl⟩
    rw [HR.out]
    have HA := hid (ba W1 (ido 24 x.r x.n))
    have HU2 := hid (HU.out.below HA.out)
    obtain ⟨W3, hW3⟩ : ∃ W, W1.alloc (ido 24 x.r x.n) = W := ⟨_, rfl⟩
    rw [hW3] at HA HU2 ⊢
    have d2 : W3.cell? ⟨b1, 2, none⟩ = some (.int .i64 x.f) := HU2.out.cells.c2
    have d3 : W3.cell? ⟨b1, 3, none⟩ = some (.int .i64 x.l) := HU2.out.cells.c3
    have d11 : W3.cell? ⟨b1, 11, none⟩ = some (.bool x.m) := HU2.out.cells.c11
    have d12 : W3.cell? ⟨b1, 12, none⟩ = some (.string x.t) := HU2.out.cells.c12
    rw [a6] at d11
    have HBB := hid (bt HB.out HA.out)
    clear hW3 c0 c1 HU2 HA HB HU
    go_wp2_with fail
    go_ret
    exact ⟨by simp, HBB.out⟩
  · skip
    have HR := hid a0
    have p1 : 1 ≤ x.l := of_decide_eq_true a1
    have p2 : x.l ≤ 64 := of_decide_eq_true a2
    have p3 : (0 : Int) ≤ 64 - x.l := by omega
    have p4 : 64 - x.l ≤ 63 := by omega
    go_enter Try.func27, Try.ntmps27
    go_wp2_with (first | (refine wl_boxI (u := x) rfl rfl rfl ?_; intro W1 b1 e1 hub hb1; have c0 : W1.cell? ⟨b1,0,none⟩ = some (.int .i64 x.r) := hub.cells.c0; have c1 : W1.cell? ⟨b1,1,none⟩ = some (.int .i64 x.n) := hub.cells.c1; have HU := hid hub; have HB := hid hb1; clear e1 hub hb1) | fail)
    refine (ro_any _ _ _).mono ?_
    rintro e W2 ⟨rfl, rfl⟩
    rw [HR.out]
    have HA := hid (ba W1 (ido 24 x.r x.n))
    have HU2 := hid (HU.out.below HA.out)
    obtain ⟨W3, hW3⟩ : ∃ W, W1.alloc (ido 24 x.r x.n) = W := ⟨_, rfl⟩
    rw [hW3] at HA HU2 ⊢
    have d2 : W3.cell? ⟨b1, 2, none⟩ = some (.int .i64 x.f) := HU2.out.cells.c2
    have d3 : W3.cell? ⟨b1, 3, none⟩ = some (.int .i64 x.l) := HU2.out.cells.c3
    have d11 : W3.cell? ⟨b1, 11, none⟩ = some (.bool x.m) := HU2.out.cells.c11
    have d12 : W3.cell? ⟨b1, 12, none⟩ = some (.string x.t) := HU2.out.cells.c12
    rw [a6] at d11
    have HBB := hid (bt HB.out HA.out)
    clear hW3 c0 c1 HU2 HA HB HU
    go_wp2_with fail
    go_ret
    exact ⟨by simp, HBB.out⟩

end Go.Proofs.Ytkaphlpohhaacaa

/-
  What count and seek answer is proved here.
-/
namespace Go.Proofs.Ytkaphlpohhaacaa
open Go.RowKit
set_option linter.unusedVariables false
set_option linter.unusedSimpArgs false
set_option maxRecDepth 100000

/-- How many characters. -/
def cntU (xs : List Un) : Int := (xs.map Un.l).sum
theorem cntU_nil : cntU [] = 0 := rfl
theorem cntU_cons (x : Un) (xs : List Un) : cntU (x :: xs) = x.l + cntU xs := by simp [cntU]
theorem cntU_app (xs ys : List Un) : cntU (xs ++ ys) = cntU xs + cntU ys := by simp [cntU]
theorem cntU_take {xs : List Un} {k : Nat} (hk : k < xs.length) : cntU (xs.take (k + 1)) = cntU (xs.take k) + (xs[k]).l := by
  rw [List.take_succ_eq_append_getElem hk, cntU_app, cntU_cons, cntU_nil, Int.add_zero]
def Fis (xs : List Un) : Prop := ∀ x ∈ xs, Fi x
theorem Fis.cnt {xs : List Un} (h : Fis xs) : 0 ≤ cntU xs ∧ cntU xs ≤ 64 * xs.length := by
  induction xs with
  | nil => simp [cntU]
  | cons x xs ih =>
    obtain ⟨h1, h2⟩ := ih (fun y hy => h y (List.mem_cons_of_mem _ hy))
    have := h x (List.mem_cons_self ..)
    have a1 := this.l
    have a2 := this.s
    have a3 := this.f
    rw [cntU_cons, List.length_cons]
    omega
theorem Fis.take {xs : List Un} (h : Fis xs) (k : Nat) : Fis (xs.take k) := fun x hx => h x (List.mem_of_mem_take hx)
theorem Fis.drop {xs : List Un} (h : Fis xs) (k : Nat) : Fis (xs.drop k) := fun x hx => h x (List.mem_of_mem_drop hx)
theorem Fis.app {xs ys : List Un} (h : Fis xs) (k : Fis ys) : Fis (xs ++ ys) := fun x hx => (List.mem_append.1 hx).elim (h x) (k x)

set_option maxHeartbeats 4000000 in
theorem count_any (v : Value) (xs : List Un) (w : World) (h : Us w v xs) (hf : Fis xs) (hn : xs.length ≤ 1000000) :
    Calls Try.prog 35 #[v] w fun e w' => e = .returned (.int .i64 (cntU xs)) ∧ Below w.heap.size w w' := by
  obtain ⟨a, c, rfl, hc0, hc1⟩ := h.form
  obtain ⟨n, hln⟩ : ∃ n, xs.length = n := ⟨_, rfl⟩
  have HN := hid hln
  have HX := hid h
  have HF := hid hf
  rw [hln] at hn hc0 HX ⊢
  clear h hf hln
  go_enter Try.func35, Try.ntmps35
  go_wp2
  go_loopw [3, 8] (fun s i wr => ∃ k : Nat, k ≤ n ∧ i = .int .i64 k ∧ s = .int .i64 (cntU (xs.take k)) ∧ Below w.heap.size w wr) (fun s i _ => n - (intOf i).toNat)
  case atStart => exact ⟨0, Nat.zero_le _, rfl, rfl, Below.refl _ _⟩
  case round =>
    obtain ⟨k, hk, rfl, rfl, hb⟩ := hrel
    have B := hid hb
    clear hb
    by_cases hlt : k < n
    · have hlt' : (k : Int) < (n : Int) := by omega
      have hx : k < xs.length := by rw [HN.out]; exact hlt
      obtain ⟨b, off, c', e1, _, _, hbl, hcc⟩ := HX.out.inv (by rw [HN.out]; omega)
      rw [HN.out] at e1
      simp only [Value.slice.injEq] at e1
      obtain ⟨rfl, -, rfl⟩ := e1
      have HC := hid ((hcc k hx).below B.out)
      obtain ⟨x, hxx⟩ : ∃ x, xs[k] = x := ⟨_, rfl⟩
      have hfx := HF.out x (by rw [← hxx]; exact List.getElem_mem hx)
      have hct := cntU_take hx
      have hcs := (HF.out.take k).cnt
      have hl1 : (xs.take k).length ≤ 1000000 := by rw [List.length_take]; omega
      rw [hxx] at HC hct
      have hs0 := hcs.1
      have hs1 : cntU (xs.take k) ≤ 64000000 := by have := hcs.2; omega
      have hl0 := hfx.l
      have hl2 : x.l ≤ 64 := by have := hfx.s; have := hfx.f; omega
      have HCT := hid hct
      clear hcc hcs hct hfx hl1 hxx
      obtain ⟨z, hz⟩ : ∃ z, cntU (xs.take k) = z := ⟨_, rfl⟩
      rw [hz] at hs0 hs1 HCT ⊢
      clear hz
      go_wp2_with (first
        | (refine wl_ldR rfl rfl rfl HC.out ?_)
        | (refine wl_alR rfl rfl ?_; intro W2 b2 e2 hub2 hb2; have HV2 := hid hub2; have HB2 := hid (bt B.out hb2); have HG2 := hid (by have := B.out.size; omega : w.heap.size ≤ b2); clear e2 hub2 hb2)
        | (refine wl_stR rfl rfl rfl rfl HV2.out ?_; intro W3 hu3 hf3; have d3 : W3.cell? ⟨b2, 3, none⟩ = some (.int .i64 x.l) := hu3.cells.c3; have HB3 := hid (below_fr HB2.out hf3 HG2.out); clear hu3 hf3)
        | fail)
      go_roundw
      case rel => exact ⟨k + 1, hlt, by go_num, by rw [HCT.out], HB3.out⟩
      case measure => simp [intOf]; omega
    · obtain rfl : k = n := by omega
      have hnl : ¬ (k : Int) < (k : Int) := by omega
      have e : xs.take k = xs := List.take_of_length_le (by rw [HN.out]; exact Nat.le_refl _)
      rw [e]
      go_wp2
      go_ret
      exact ⟨rfl, B.out⟩

/-- In which run a place is, how far within. -/
def seekU : List Un → Int → Nat × Int
  | [], _ => (0, 0)
  | x :: xs, p => if p < x.l then (0, p) else ((seekU xs (p - x.l)).1 + 1, (seekU xs (p - x.l)).2)

/-- A row's block: it holds the row of runs v. -/
def Wb (w : World) (b : Nat) (v : Value) : Prop := w.heap[b]? = some (.cells #[v] 57 (0, 0))
theorem Wb.lt {w : World} {b : Nat} {v : Value} (h : Wb w b v) : b < w.heap.size := (Array.getElem?_eq_some_iff.1 h).1
theorem Wb.fr {S : Nat → Prop} {w w' : World} {b : Nat} {v : Value} (h : Wb w b v) (hf : Fr S w w') (hs : ¬ S b) : Wb w' b v := by unfold Wb; rw [hf.block b h.lt hs]; exact h
theorem Wb.below {w w' : World} {b : Nat} {v : Value} (h : Wb w b v) (hb : Below w.heap.size w w') : Wb w' b v := h.fr (S := fun _ => False) (Fr.of_below hb) (fun h => h)
theorem Wb.cell {w : World} {b : Nat} {v : Value} (h : Wb w b v) : w.cell? ⟨b, 0, none⟩ = some v := cell_of_row w b 0 _ _ _ h

/-- Where a place is found. -/
theorem seekU_at {xs : List Un} (hf : Fis xs) : ∀ {p : Int}, 0 ≤ p → (p < cntU xs → ∃ k q, ∃ (h : k < xs.length), seekU xs p = (k, q) ∧ 0 ≤ q ∧ q < (xs[k]).l ∧ cntU (xs.take k) + q = p) ∧ (cntU xs ≤ p → seekU xs p = (xs.length, 0)) := by
  induction xs with
  | nil => intro p h0; exact ⟨fun h => by rw [cntU_nil] at h; omega, fun _ => rfl⟩
  | cons x xs ih =>
    intro p h0
    have hfx := (hf x (List.mem_cons_self ..)).l
    have hf' : Fis xs := fun y hy => hf y (List.mem_cons_of_mem _ hy)
    have hc := hf'.cnt.1
    rw [cntU_cons]
    by_cases hp : p < x.l
    · have e : seekU (x :: xs) p = (0, p) := by unfold seekU; rw [if_pos hp]
      rw [e]
      exact ⟨fun _ => ⟨0, p, Nat.zero_lt_succ _, rfl, h0, hp, by simp [cntU]⟩, fun h => by omega⟩
    · have e : seekU (x :: xs) p = ((seekU xs (p - x.l)).1 + 1, (seekU xs (p - x.l)).2) := by rw [seekU, if_neg hp]
      rw [e]
      obtain ⟨i1, i2⟩ := ih hf' (p := p - x.l) (by omega)
      refine ⟨fun h => ?_, fun h => ?_⟩
      · obtain ⟨k, q, j1, j0, j2, j3, j4⟩ := i1 (by omega)
        refine ⟨k + 1, q, Nat.succ_lt_succ j1, by rw [j0], j2, j3, ?_⟩
        rw [List.take_succ_cons, cntU_cons]
        omega
      · rw [i2 (by omega)]
        rfl

set_option maxHeartbeats 4000000 in
theorem seek_any (rb : Nat) (v : Value) (xs : List Un) (p : Int) (w : World) (hw : Wb w rb v) (h : Us w v xs) (hf : Fis xs) (hn : xs.length ≤ 1000000) (h0 : 0 ≤ p) (hp : p ≤ 100000000) :
    Calls Try.prog 29 #[.pointer (some ⟨rb, 0, none⟩), .int .i64 p] w fun e w' => e = .returned (.tuple #[.int .i64 ((seekU xs p).1 : Int), .int .i64 (seekU xs p).2]) ∧ Below w.heap.size w w' := by
  obtain ⟨a, c, rfl, hc0, hc1⟩ := h.form
  obtain ⟨n, hln⟩ : ∃ n, xs.length = n := ⟨_, rfl⟩
  obtain ⟨S, hS⟩ : ∃ S, seekU xs p = S := ⟨_, rfl⟩
  rw [hS]
  have HS := hid hS
  have HN := hid hln
  have HX := hid h
  have HF := hid hf
  have HW := hid hw
  have c0 := hw.cell
  rw [hln] at hn hc0 HX HW c0
  clear h hf hln hw hS
  go_enter Try.func29, Try.ntmps29
  go_wp2
  clear c0
  go_loopw [1, 13] (fun s i wr => ∃ (k : Nat) (q : Int), k ≤ n ∧ i = .int .i64 k ∧ s = .int .i64 q ∧ 0 ≤ q ∧ q ≤ 100000000 ∧ (S = ((seekU (xs.drop k) q).1 + k, (seekU (xs.drop k) q).2)) ∧ Below w.heap.size w wr) (fun s i _ => n - (intOf i).toNat)
  case atStart => exact ⟨0, p, Nat.zero_le _, rfl, rfl, h0, hp, by rw [← HS.out]; rfl, Below.refl _ _⟩
  case round =>
    obtain ⟨k, q, hk, rfl, rfl, hq0, hq1, hs, hb⟩ := hrel
    have HSK := hid hs
    have B := hid hb
    clear hb hs h0 hp
    by_cases hlt : k < n
    · have hlt' : (k : Int) < (n : Int) := by omega
      have hx : k < xs.length := by rw [HN.out]; exact hlt
      obtain ⟨b, off, c', e1, _, _, hbl, hcc⟩ := HX.out.inv (by rw [HN.out]; omega)
      rw [HN.out] at e1
      simp only [Value.slice.injEq] at e1
      obtain ⟨rfl, -, rfl⟩ := e1
      have HC := hid ((hcc k hx).below B.out)
      obtain ⟨x, hxx⟩ : ∃ x, xs[k] = x := ⟨_, rfl⟩
      have hfx := HF.out x (by rw [← hxx]; exact List.getElem_mem hx)
      rw [hxx] at HC
      have hdr : xs.drop k = x :: xs.drop (k + 1) := by rw [List.drop_eq_getElem_cons hx, hxx]
      have hl0 := hfx.l
      have hl2 : x.l ≤ 64 := by have := hfx.s; have := hfx.f; omega
      rw [hdr] at HSK
      unfold seekU at HSK
      clear hcc hfx hxx hdr
      by_cases hql : q < x.l
      · have e : S = (k, q) := by have := HSK.out; rw [if_pos hql] at this; simpa using this
        subst e
        clear HSK
        go_wp2_with (first
          | (refine wl_ldR rfl rfl rfl HC.out ?_)
          | (refine wl_alR rfl rfl ?_; intro W2 b2 e2 hub2 hb2; have HV2 := hid hub2; have HB2 := hid (bt B.out hb2); have HG2 := hid (by have := B.out.size; omega : w.heap.size ≤ b2); clear e2 hub2 hb2)
          | (refine wl_stR rfl rfl rfl rfl HV2.out ?_; intro W3 hu3 hf3; have d3 : W3.cell? ⟨b2, 3, none⟩ = some (.int .i64 x.l) := hu3.cells.c3; have HB3 := hid (below_fr HB2.out hf3 HG2.out); clear hu3 hf3)
          | fail)
        go_ret2
        exact ⟨rfl, HB3.out⟩
      · have hql' : ¬ q < x.l := hql
        have e : S = ((seekU (xs.drop (k + 1)) (q - x.l)).1 + (k + 1), (seekU (xs.drop (k + 1)) (q - x.l)).2) := by
          have := HSK.out
          rw [if_neg hql] at this
          rw [this]
          simp; omega
        have HE := hid e
        clear HSK e hql
        go_wp2_with (first
          | (refine wl_ldR rfl rfl rfl HC.out ?_)
          | (refine wl_alR rfl rfl ?_; intro W2 b2 e2 hub2 hb2; have HV2 := hid hub2; have HB2 := hid (bt B.out hb2); have HG2 := hid (by have := B.out.size; omega : w.heap.size ≤ b2); clear e2 hub2 hb2)
          | (refine wl_stR rfl rfl rfl rfl HV2.out ?_; intro W3 hu3 hf3; have d3 : W3.cell? ⟨b2, 3, none⟩ = some (.int .i64 x.l) := hu3.cells.c3; have HB3 := hid (below_fr HB2.out hf3 HG2.out); clear hu3 hf3)
          | fail)
        go_roundw
        case rel => exact ⟨k + 1, q - x.l, hlt, by go_num, rfl, by omega, by omega, HE.out, HB3.out⟩
        case measure => simp [intOf]; omega
    · obtain rfl : k = n := by omega
      have hnl : ¬ (k : Int) < (k : Int) := by omega
      have e : xs.drop k = [] := List.drop_eq_nil_of_le (by rw [HN.out]; exact Nat.le_refl _)
      rw [e] at HSK
      have e2 : S = (k, 0) := by have := HSK.out; simpa [seekU] using this
      subst e2
      have c1 := (HW.out.below B.out).cell
      go_wp2
      go_ret2
      exact ⟨rfl, B.out⟩

theorem len_any (rb : Nat) (v : Value) (xs : List Un) (w : World) (hw : Wb w rb v) (h : Us w v xs) (hf : Fis xs) (hn : xs.length ≤ 1000000) :
    Calls Try.prog 14 #[.pointer (some ⟨rb, 0, none⟩)] w fun e w' => e = .returned (.int .i64 (cntU xs)) ∧ Below w.heap.size w w' := by
  have HC := hid (count_any v xs w h hf hn)
  have c0 := hw.cell
  obtain ⟨a, c, rfl, hc0, hc1⟩ := h.form
  clear hw h hf
  go_enter Try.func14, Try.ntmps14
  go_wp2_with fail
  refine HC.out.mono ?_
  rintro e w2 ⟨rfl, b2⟩
  have HB := hid b2
  clear b2
  go_wp2_with fail
  go_ret
  exact ⟨rfl, HB.out⟩

end Go.Proofs.Ytkaphlpohhaacaa

/-
  What slices.IndexFunc and ContainsFunc answer of runs, by the closures of Put and Find, is proved here. Printed by genuidx.py.
-/
namespace Go.Proofs.Ytkaphlpohhaacaa
open Go.RowKit
set_option linter.unusedVariables false
set_option linter.unusedSimpArgs false
set_option maxRecDepth 100000

/-- The first place at which p holds, or -1. -/
def idxU (p : Un → Bool) : List Un → Int
  | [] => -1
  | x :: xs => if p x = true then 0 else if idxU p xs < 0 then -1 else idxU p xs + 1
theorem idxU_low (p : Un → Bool) (xs : List Un) : -1 ≤ idxU p xs ∧ idxU p xs < xs.length := by
  induction xs with
  | nil => simp [idxU]
  | cons x xs ih =>
    unfold idxU
    rw [List.length_cons]
    split
    · omega
    · split <;> omega
theorem idxU_none {p : Un → Bool} {xs : List Un} (h : ∀ x ∈ xs, p x = false) : idxU p xs = -1 := by
  induction xs with
  | nil => rfl
  | cons x xs ih =>
    unfold idxU
    rw [if_neg (by rw [h x (List.mem_cons_self ..)]; simp), if_pos (by rw [ih (fun y hy => h y (List.mem_cons_of_mem _ hy))]; omega)]
theorem idxU_at {p : Un → Bool} {xs : List Un} : ∀ {k : Nat} (hk : k < xs.length), (∀ x ∈ xs.take k, p x = false) → p (xs[k]) = true → idxU p xs = k := by
  induction xs with
  | nil => intro k hk; exact absurd hk (Nat.not_lt_zero _)
  | cons x xs ih =>
    intro k hk h1 h2
    unfold idxU
    cases k with
    | zero => rw [if_pos (show p x = true from h2)]; rfl
    | succ k =>
      have e := ih (k := k) (by simpa using hk) (fun y hy => h1 y (by rw [List.take_succ_cons]; exact List.mem_cons_of_mem _ hy)) h2
      rw [if_neg (by rw [h1 x (by rw [List.take_succ_cons]; exact List.mem_cons_self ..)]; simp), e, if_neg (by omega)]
      omega
theorem idxU_neg {p : Un → Bool} {xs : List Un} (h : idxU p xs < 0) : ∀ x ∈ xs, p x = false := by
  induction xs with
  | nil => intro x hx; cases hx
  | cons y ys ih =>
    unfold idxU at h
    intro x hx
    split at h
    · omega
    · rename_i hy
      split at h
      · rename_i hn
        rcases List.mem_cons.1 hx with rfl | hx
        · simpa using hy
        · exact ih hn x hx
      · have := (idxU_low p ys).1; omega
theorem idxU_pos {p : Un → Bool} {xs : List Un} : ∀ (h : 0 ≤ idxU p xs), ∃ (k : Nat) (hk : k < xs.length), idxU p xs = k ∧ p (xs[k]) = true ∧ ∀ x ∈ xs.take k, p x = false := by
  induction xs with
  | nil => intro h; simp [idxU] at h
  | cons y ys ih =>
    intro h
    by_cases hy : p y = true
    · exact ⟨0, Nat.zero_lt_succ _, by unfold idxU; rw [if_pos hy]; rfl, hy, fun x hx => by simp at hx⟩
    · unfold idxU at h
      rw [if_neg hy] at h
      by_cases hn : idxU p ys < 0
      · rw [if_pos hn] at h; omega
      · obtain ⟨k, hk, e, h2, h3⟩ := ih (by omega)
        refine ⟨k + 1, Nat.succ_lt_succ hk, by unfold idxU; rw [if_neg hy, if_neg hn, e]; omega, h2, fun x hx => ?_⟩
        rw [List.take_succ_cons] at hx
        rcases List.mem_cons.1 hx with rfl | hx
        · simpa using hy
        · exact h3 x hx

/-- Put's closure: is any of the item's names among a run's. -/
def thereB (x z : Un) : Bool := meetsB x z.r z.n z.f (z.f + z.l)
set_option maxHeartbeats 2000000 in
theorem there_any (x : Un) (q : Nat) (z : Un) (w : World) (hf : Fi x) (hz0 : 0 ≤ z.f) (hz1 : 0 ≤ z.l) (hz2 : z.f + z.l ≤ 64) (hq : Ub 36 w q z) :
    Calls Try.prog 25 #[unv x, .pointer (some ⟨q, 0, none⟩)] w fun e w' => e = .returned (.bool (thereB x z)) ∧ Below w.heap.size w w' := by
  have HM : Hid (∀ W, Calls Try.prog 26 #[unv x, idv z.r z.n, .int .i64 z.f, .int .i64 (z.f + z.l)] W fun e w' => e = .returned (.bool (thereB x z)) ∧ Below W.heap.size W w') := hid (fun W => meets_any x z.r z.n z.f (z.f + z.l) W hf)
  have HQ := hid hq
  clear hf hq
  go_enter Try.func25, Try.ntmps25
  go_wp2_with (first
    | (refine wl_boxR (u := x) rfl rfl rfl ?_; intro W1 b1 e1 hub hb1; have HU := hid hub; have HB1 := hid hb1; have c0 : W1.cell? ⟨q,0,none⟩ = some (.int .i64 z.r) := (HQ.out.below hb1).cells.c0; have c1 : W1.cell? ⟨q,1,none⟩ = some (.int .i64 z.n) := (HQ.out.below hb1).cells.c1; have c2 : W1.cell? ⟨q,2,none⟩ = some (.int .i64 z.f) := (HQ.out.below hb1).cells.c2; have c3 : W1.cell? ⟨q,3,none⟩ = some (.int .i64 z.l) := (HQ.out.below hb1).cells.c3; clear e1 hub hb1)
    | (refine wl_ldR rfl rfl rfl HU.out.cells ?_)
    | fail)
  refine (HM.out _).mono ?_
  rintro e W2 ⟨rfl, b2⟩
  have HB2 := hid (bt HB1.out b2)
  clear b2
  go_wp2_with fail
  go_ret
  exact ⟨rfl, HB2.out⟩

set_option maxHeartbeats 4000000 in
theorem there_index (q : Nat) (z : Un) (v : Value) (xs : List Un) (w : World) (h : Us w v xs) (hf : Fis xs) (hn : xs.length ≤ 1000000) (hz0 : 0 ≤ z.f) (hz1 : 0 ≤ z.l) (hz2 : z.f + z.l ≤ 64) (hq : Ub 36 w q z) :
    Calls Try.prog 37 #[v, .func (.func 25) #[] #[.pointer (some ⟨q, 0, none⟩)]] w fun e w' => e = .returned (.int .i64 (idxU (fun x => thereB x z) xs)) ∧ Below w.heap.size w w' := by
  obtain ⟨a, c, rfl, hc0, hc1⟩ := h.form
  obtain ⟨n, hln⟩ : ∃ n, xs.length = n := ⟨_, rfl⟩
  obtain ⟨p, hp⟩ : ∃ p : Un → Bool, (fun x => thereB x z) = p := ⟨_, rfl⟩
  have HC : Hid (∀ x ∈ xs, ∀ W, Below w.heap.size w W → Calls Try.prog 25 #[unv x, .pointer (some ⟨q, 0, none⟩)] W fun e w' => e = .returned (.bool (p x)) ∧ Below W.heap.size W w') := hid (fun x hx W hW => by rw [← hp]; exact there_any x q z W (hf x hx) hz0 hz1 hz2 (hq.below hW))
  rw [hp]
  have HN := hid hln
  have HX := hid h
  rw [hln] at hn hc0 HX
  clear h hf hln hp
  go_enter Try.func37, Try.ntmps37
  rw [HN.out]
  go_wp2
  go_loopw [5, 8] (fun _ i wr => ∃ k : Nat, i = .int .i64 k ∧ k ≤ n ∧ (∀ x ∈ xs.take k, p x = false) ∧ Below w.heap.size w wr) (fun _ i _ => n - (intOf i).toNat)
  case atStart => exact ⟨0, rfl, Nat.zero_le _, fun x hx => by simp at hx, Below.refl _ _⟩
  case round =>
    obtain ⟨k, rfl, hk, hall, hb⟩ := hrel
    have B := hid hb
    have HALL := hid hall
    clear hb hall
    by_cases hlt : k < n
    · have hlt' : (k : Int) < (n : Int) := by omega
      have hx : k < xs.length := by rw [HN.out]; exact hlt
      obtain ⟨b, off, c', e1, _, _, hbl, hcc⟩ := HX.out.inv (by rw [HN.out]; omega)
      rw [HN.out] at e1
      simp only [Value.slice.injEq] at e1
      obtain ⟨rfl, -, rfl⟩ := e1
      have HCC := hid ((hcc k hx).below B.out)
      obtain ⟨x, hxx⟩ : ∃ x, xs[k] = x := ⟨_, rfl⟩
      have HE := hid (HC.out x (by rw [← hxx]; exact List.getElem_mem hx) wr B.out)
      rw [hxx] at HCC
      have HXX := hid hxx
      clear hcc hxx
      cases hpx : p x
      · rw [hpx] at HE
        have HPX := hid hpx
        clear hpx
        go_wp2_with (first | (refine wl_ldR rfl rfl rfl HCC.out ?_) | fail)
        refine HE.out.mono ?_
        rintro e w2 ⟨rfl, b2⟩
        have HB2 := hid (bt B.out b2)
        clear b2 HE
        go_wp2
        go_roundw
        case rel =>
          refine ⟨k + 1, by go_num, hlt, ?_, HB2.out⟩
          intro y hy
          rw [List.take_succ_eq_append_getElem hx, List.mem_append, List.mem_singleton] at hy
          rcases hy with hy | rfl
          · exact HALL.out y hy
          · rw [HXX.out]; exact HPX.out
        case measure => simp [intOf]; omega
      · rw [hpx] at HE
        have HPX := hid hpx
        clear hpx
        have he : idxU p xs = k := idxU_at hx HALL.out (by rw [HXX.out]; exact HPX.out)
        have HK := hid he
        clear he
        go_wp2_with (first | (refine wl_ldR rfl rfl rfl HCC.out ?_) | fail)
        refine HE.out.mono ?_
        rintro e w2 ⟨rfl, b2⟩
        have HB2 := hid (bt B.out b2)
        clear b2 HE
        go_wp2
        go_ret
        exact ⟨by rw [HK.out]; rfl, HB2.out⟩
    · obtain rfl : k = n := by omega
      have hnl : ¬ (k : Int) < (k : Int) := by omega
      have e : xs.take k = xs := List.take_of_length_le (by rw [HN.out]; exact Nat.le_refl _)
      have he : idxU p xs = -1 := idxU_none (by rw [← e]; exact HALL.out)
      have HK := hid he
      clear e he
      go_wp2
      go_ret
      exact ⟨by rw [HK.out]; rfl, B.out⟩

set_option maxHeartbeats 4000000 in
theorem hold_index (q : Nat) (r m i : Int) (v : Value) (xs : List Un) (w : World) (h : Us w v xs) (hf : Fis xs) (hn : xs.length ≤ 1000000) (hq : Hb w q r m i) :
    Calls Try.prog 37 #[v, .func (.func 36) #[] #[.pointer (some ⟨q, 0, none⟩)]] w fun e w' => e = .returned (.int .i64 (idxU (fun x => holdB x r m i) xs)) ∧ Below w.heap.size w w' := by
  obtain ⟨a, c, rfl, hc0, hc1⟩ := h.form
  obtain ⟨n, hln⟩ : ∃ n, xs.length = n := ⟨_, rfl⟩
  obtain ⟨p, hp⟩ : ∃ p : Un → Bool, (fun x => holdB x r m i) = p := ⟨_, rfl⟩
  have HC : Hid (∀ x ∈ xs, ∀ W, Below w.heap.size w W → Calls Try.prog 36 #[unv x, .pointer (some ⟨q, 0, none⟩)] W fun e w' => e = .returned (.bool (p x)) ∧ Below W.heap.size W w') := hid (fun x hx W hW => by rw [← hp]; exact hold_any x q r m i W (hf x hx) (hq.below hW))
  rw [hp]
  have HN := hid hln
  have HX := hid h
  rw [hln] at hn hc0 HX
  clear h hf hln hp
  go_enter Try.func37, Try.ntmps37
  rw [HN.out]
  go_wp2
  go_loopw [5, 8] (fun _ i wr => ∃ k : Nat, i = .int .i64 k ∧ k ≤ n ∧ (∀ x ∈ xs.take k, p x = false) ∧ Below w.heap.size w wr) (fun _ i _ => n - (intOf i).toNat)
  case atStart => exact ⟨0, rfl, Nat.zero_le _, fun x hx => by simp at hx, Below.refl _ _⟩
  case round =>
    obtain ⟨k, rfl, hk, hall, hb⟩ := hrel
    have B := hid hb
    have HALL := hid hall
    clear hb hall
    by_cases hlt : k < n
    · have hlt' : (k : Int) < (n : Int) := by omega
      have hx : k < xs.length := by rw [HN.out]; exact hlt
      obtain ⟨b, off, c', e1, _, _, hbl, hcc⟩ := HX.out.inv (by rw [HN.out]; omega)
      rw [HN.out] at e1
      simp only [Value.slice.injEq] at e1
      obtain ⟨rfl, -, rfl⟩ := e1
      have HCC := hid ((hcc k hx).below B.out)
      obtain ⟨x, hxx⟩ : ∃ x, xs[k] = x := ⟨_, rfl⟩
      have HE := hid (HC.out x (by rw [← hxx]; exact List.getElem_mem hx) wr B.out)
      rw [hxx] at HCC
      have HXX := hid hxx
      clear hcc hxx
      cases hpx : p x
      · rw [hpx] at HE
        have HPX := hid hpx
        clear hpx
        go_wp2_with (first | (refine wl_ldR rfl rfl rfl HCC.out ?_) | fail)
        refine HE.out.mono ?_
        rintro e w2 ⟨rfl, b2⟩
        have HB2 := hid (bt B.out b2)
        clear b2 HE
        go_wp2
        go_roundw
        case rel =>
          refine ⟨k + 1, by go_num, hlt, ?_, HB2.out⟩
          intro y hy
          rw [List.take_succ_eq_append_getElem hx, List.mem_append, List.mem_singleton] at hy
          rcases hy with hy | rfl
          · exact HALL.out y hy
          · rw [HXX.out]; exact HPX.out
        case measure => simp [intOf]; omega
      · rw [hpx] at HE
        have HPX := hid hpx
        clear hpx
        have he : idxU p xs = k := idxU_at hx HALL.out (by rw [HXX.out]; exact HPX.out)
        have HK := hid he
        clear he
        go_wp2_with (first | (refine wl_ldR rfl rfl rfl HCC.out ?_) | fail)
        refine HE.out.mono ?_
        rintro e w2 ⟨rfl, b2⟩
        have HB2 := hid (bt B.out b2)
        clear b2 HE
        go_wp2
        go_ret
        exact ⟨by rw [HK.out]; rfl, HB2.out⟩
    · obtain rfl : k = n := by omega
      have hnl : ¬ (k : Int) < (k : Int) := by omega
      have e : xs.take k = xs := List.take_of_length_le (by rw [HN.out]; exact Nat.le_refl _)
      have he : idxU p xs = -1 := idxU_none (by rw [← e]; exact HALL.out)
      have HK := hid he
      clear e he
      go_wp2
      go_ret
      exact ⟨by rw [HK.out]; rfl, B.out⟩

theorem there_contains (q : Nat) (z : Un) (v : Value) (xs : List Un) (w : World) (h : Us w v xs) (hf : Fis xs) (hn : xs.length ≤ 1000000) (hz0 : 0 ≤ z.f) (hz1 : 0 ≤ z.l) (hz2 : z.f + z.l ≤ 64) (hq : Ub 36 w q z) :
    Calls Try.prog 28 #[v, .func (.func 25) #[] #[.pointer (some ⟨q, 0, none⟩)]] w fun e w' => e = .returned (.bool (decide (0 ≤ idxU (fun x => thereB x z) xs))) ∧ Below w.heap.size w w' := by
  have HC := hid (there_index q z v xs w h hf hn hz0 hz1 hz2 hq)
  obtain ⟨k, hk⟩ : ∃ k, idxU (fun x => thereB x z) xs = k := ⟨_, rfl⟩
  rw [hk] at HC ⊢
  clear hk h hf hq
  go_enter Try.func28, Try.ntmps28
  go_wp2_with fail
  refine HC.out.mono ?_
  rintro e w2 ⟨rfl, b2⟩
  have HB := hid b2
  clear b2 HC
  go_wp2_with fail
  go_ret
  exact ⟨rfl, HB.out⟩

end Go.Proofs.Ytkaphlpohhaacaa
