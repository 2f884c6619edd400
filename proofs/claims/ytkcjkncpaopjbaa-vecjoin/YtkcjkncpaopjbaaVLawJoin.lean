/-
  The law VecJoin answers true for all rows of numbers, and leaves its input as it was.
-/
import Derived.Test.YtkcjkncpaopjbaaPart8
import Derived.Test.YtkcjkncpaopjbaaPart5
namespace Go.Proofs.Ytkcjkncpaopjbaa
open Go.RowKit
set_option linter.unusedVariables false
set_option maxRecDepth 100000

theorem join_swap {a b : List Int} (ha : Vk a) (hb : Vk b) : joinV a b = joinV b a := (join_ok ha hb).ext (join_ok hb ha) fun i hi => by rw [join_at a b hi, join_at b a hi]; omega
theorem join_least {a b c : List Int} (h1 : covV c a = true) (h2 : covV c b = true) : covV c (joinV a b) = true := cov_iff.2 fun i hi => by
  have k1 := cov_iff.1 h1 i hi
  have k2 := cov_iff.1 h2 i hi
  rw [join_at a b hi]; omega
theorem ok_len {l : List Int} (h : okV l = true) : l.length ≤ 16 := by
  unfold okV at h
  rw [Bool.and_eq_true, decide_eq_true_eq] at h
  exact h.1
theorem pad_zeros (l : List Int) : is l ++ is (List.replicate (16 - l.length) 0) = is (padV l) := by
  unfold padV is
  rw [List.map_append]
theorem wpList_append_zeros {w : World} {ops : Array Oper} {rest : List Oper} {o : Oper} {a : Act} {Q : Exit → Act → World → Prop} (hgd : o.guard = none ∨ Region.wanted o (yielded ops a.tmps) = true) (s x : Operand)
    (ho : o.op = .call { callee := .builtin .append, args := #[s, x], argTypes := #[22, 3] }) (base n : Nat) (v : Value) (xs : List Value) (hs : a.eval s = v) (hown : w.ownsRow base 3 1 v n xs) (m : Nat) (M : Int) (hx : a.eval x = .int .i64 M) (hM : M = (m : Int))
    (hb : (n + m) * 8 ≤ 140737488355328) (hbase : base ≤ w.heap.size)
    (h : ∀ v' w', w'.ownsRow base 3 1 v' (n + m) (xs ++ is (List.replicate m 0)) → w.grownBy w' v.ownBlock → wpList Try.prog ops Q rest (a.put o.dst v') w') : wpList Try.prog ops Q (o :: rest) a w := by
  subst hM
  obtain ⟨v', w', hr, h1, h2⟩ := run_zeros w base n v xs hown m o.type hb hbase
  rcases hgd with hgd | hw
  · exact Lib.wpList_append_run w hgd s x _ _ ho v _ hs hx v' w' hr (h v' w' h1 h2)
  · exact BigFrame.wpList_want hw fun K hK => Lib.wp_append_run w s x _ _ ho v _ hs hx v' w' hr (hK _ _ (h v' w' h1 h2))

/-- Five vectors. -/
structure Qd (w : World) (x y z p q : Nat) (A B C J K : List Int) : Prop where
  x : Vc w x A
  y : Vc w y B
  z : Vc w z C
  p : Vc w p J
  q : Vc w q K
theorem Qd.below {w w' : World} {x y z p q : Nat} {A B C J K : List Int} (h : Qd w x y z p q A B C J K) (hb : Below w.heap.size w w') : Qd w' x y z p q A B C J K :=
  ⟨h.x.below hb, h.y.below hb, h.z.below hb, h.p.below hb, h.q.below hb⟩

set_option maxHeartbeats 4000000 in
theorem join_law (v0 : Value) (a : List Int) (v1 : Value) (b : List Int) (v2 : Value) (c : List Int) (w : World) (ha : Iz w v0 a) (hb : Iz w v1 b) (hc : Iz w v2 c) :
    Calls Try.prog 5 #[v0, v1, v2] w fun e w' => e = .returned (.bool true) ∧ Below w.heap.size w w' := by
  have HA := hid ha
  have HB := hid hb
  have HC := hid hc
  have hform := ha.form
  obtain ⟨a0, c0, rfl, hc1, hc2⟩ := hform
  obtain ⟨N, hN⟩ : ∃ N, a.length = N := ⟨_, rfl⟩
  have HN := hid hN
  rw [hN]
  rw [hN] at HA
  clear ha hb hc hN hc1 hc2
  by_cases hall : okV a = true ∧ okV b = true ∧ okV c = true
  · obtain ⟨k1, k2, k3⟩ := hall
    have K1 := hid k1
    have K2 := hid k2
    have K3 := hid k3
    have HN16 := hid (show N ≤ 16 by rw [← HN.out]; exact ok_len k1)
    obtain ⟨A, hA⟩ : ∃ A, padV a = A := ⟨_, rfl⟩
    obtain ⟨B, hB⟩ : ∃ B, padV b = B := ⟨_, rfl⟩
    obtain ⟨C, hC⟩ : ∃ C, padV c = C := ⟨_, rfl⟩
    have HAA := hid hA
    have HBB := hid hB
    have HCC := hid hC
    have hcase : covV C A = false ∨ (covV C A = true ∧ covV C B = false) ∨ (covV C A = true ∧ covV C B = true) := by
      cases covV C A <;> cases covV C B <;> simp
    clear k1 k2 k3 hA hB hC
    rcases hcase with e1 | ⟨e1, e2⟩ | ⟨e1, e2⟩
    all_goals
      have E1 := hid e1
      try have E2 := hid e2
      try clear e2
      clear e1
      go_enter Try.func5, Try.ntmps5
      go_wp2_with (first
        | (go_at_call 8; refine (alive_any w).mono ?_; rintro e w1 ⟨rfl, hb1⟩; have B1 := hid hb1; have A1 := hid (HA.out.below hb1); have BB1 := hid (HB.out.below hb1); have CC1 := hid (HC.out.below hb1); clear hb1)
        | (go_at_call 30; have _g := CC3.out; refine (of_yes v2 c _ CC3.out K3.out).mono ?_; rintro e w4 ⟨z, rfl, hz, hv4, hb4⟩; rw [HCC.out] at hv4; have Z1 := hid hv4; have B4 := hid (bt B3.out hb4); have X3 := hid (X2.out.below hb4); have Y2 := hid (Y1.out.below hb4); have A4 := hid (A3.out.below hb4); have D3 := hid (Nat.lt_of_lt_of_le Y1.out.lt hz); clear hv4 hb4 hz _g)
        | (go_at_call 30; have _g := BB2.out; refine (of_yes v1 b _ BB2.out K2.out).mono ?_; rintro e w3 ⟨y, rfl, hy, hv3, hb3⟩; rw [HBB.out] at hv3; have Y1 := hid hv3; have B3 := hid (bt B2.out hb3); have X2 := hid (X1.out.below hb3); have CC3 := hid (CC2.out.below hb3); have A3 := hid (A2.out.below hb3); have D2 := hid (Nat.lt_of_lt_of_le X1.out.lt hy); clear hv3 hb3 hy _g)
        | (go_at_call 30; refine (of_yes _ a _ (by have := A1.out; exact this) K1.out).mono ?_; rintro e w2 ⟨x, rfl, hx, hv2, hb2⟩; rw [HAA.out] at hv2; have X1 := hid hv2; have B2 := hid (bt B1.out hb2); have BB2 := hid (BB1.out.below hb2); have CC2 := hid (CC1.out.below hb2); have A2 := hid (A1.out.below hb2); have D1 := hid (Nat.le_trans B1.out.size hx); clear hv2 hb2 hx)
        | (go_at_call 27; have _g := P1.out; refine (clone_any y B _ Y3.out).mono ?_; rintro e w6 ⟨q, rfl, hq, hv6, hb6⟩; have B6 := hid (bt B5.out hb6); have D5 := hid (Nat.lt_of_lt_of_le P1.out.lt hq); have Q6 := hid (Qd.mk (X4.out.below hb6) (Y3.out.below hb6) (Z2.out.below hb6) (P1.out.below hb6) hv6); have A6 := hid (A5.out.below hb6); clear hq hv6 hb6 _g)
        | (go_at_call 27; refine (clone_any x A _ X3.out).mono ?_; rintro e w5 ⟨p, rfl, hp, hv5, hb5⟩; have P1 := hid hv5; have B5 := hid (bt B4.out hb5); have X4 := hid (X3.out.below hb5); have Y3 := hid (Y2.out.below hb5); have Z2 := hid (Z1.out.below hb5); have A5 := hid (A4.out.below hb5); have D4 := hid (Nat.lt_of_lt_of_le Z1.out.lt hp); clear hp hv5 hb5)
        | (go_at_call 28; have _g := Q7.out; refine (join_any q x B A _ Q7.out.q Q7.out.x (by have := D2.out; have := D3.out; have := D4.out; have := D5.out; omega)).mono ?_; rintro e w8 ⟨rfl, hv8, hf8⟩
           have Q8 := hid (Qd.mk (Q7.out.x.fr hf8 (by have := D2.out; have := D3.out; have := D4.out; have := D5.out; omega)) (Q7.out.y.fr hf8 (by have := D3.out; have := D4.out; have := D5.out; omega)) (Q7.out.z.fr hf8 (by have := D4.out; have := D5.out; omega)) (Q7.out.p.fr hf8 (by have := D5.out; omega)) hv8)
           have B8 := hid (B7.out.trans (hf8.below (fun i hi e => by have := D1.out; have := D2.out; have := D3.out; have := D4.out; have := D5.out; omega) B7.out.size))
           clear hv8 hf8 _g)
        | (go_at_call 28; refine (join_any p y A B _ Q6.out.p Q6.out.y (by have := D3.out; have := D4.out; omega)).mono ?_; rintro e w7 ⟨rfl, hv7, hf7⟩
           have Q7 := hid (Qd.mk (Q6.out.x.fr hf7 (by have := D2.out; have := D3.out; have := D4.out; omega)) (Q6.out.y.fr hf7 (by have := D3.out; have := D4.out; omega)) (Q6.out.z.fr hf7 (by have := D4.out; omega)) hv7 (Q6.out.q.fr hf7 (by have := D5.out; omega)))
           have B7 := hid (B6.out.trans (hf7.below (fun i hi e => by have := D1.out; have := D2.out; have := D3.out; have := D4.out; omega) B6.out.size))
           clear hv7 hf7)
        | (go_at_call 20; have _g := M4; refine (covers_any z p C (joinV A B) _ QF.out.z QF.out.p).mono ?_; rintro e w21 ⟨rfl, rfl⟩; rw [join_least E1.out E2.out])
        | (go_at_call 20; have _g := M3; refine (covers_any z y C B _ QF.out.z QF.out.y).mono ?_; rintro e w20 ⟨rfl, rfl⟩; rw [E2.out]; have M4 : True := trivial)
        | (go_at_call 20; have _g := QF.out; refine (covers_any z x C A _ QF.out.z QF.out.x).mono ?_; rintro e w19 ⟨rfl, rfl⟩; rw [E1.out]; have M3 : True := trivial; clear _g)
        | (go_at_call 20; have _g := M1; refine (covers_any p y (joinV A B) B _ Q8.out.p Q8.out.y).mono ?_; rintro e w10 ⟨rfl, rfl⟩; rw [join_cov2]; have M2 : True := trivial)
        | (go_at_call 20; refine (covers_any p x (joinV A B) A _ Q8.out.p Q8.out.x).mono ?_; rintro e w9 ⟨rfl, rfl⟩; rw [join_cov1]; have M1 : True := trivial)
        | (go_at_call 14; have _g := S1.out; refine (have_any x A _ S1.out.x).mono ?_; rintro e w14 ⟨u3, rfl, hu3, hb14⟩; have U3 := hid hu3; have B14 := hid (bt B13.out hb14); have Q14 := hid (S1.out.below hb14); clear hu3 hb14 _g)
        | (go_at_call 14; have _g := U1.out; refine (have_any q (joinV B A) _ Q11.out.q).mono ?_; rintro e w12 ⟨u2, rfl, hu2, hb12⟩; have U2 := hid hu2; have U12 := hid (U1.out.below hb12); have B12 := hid (bt B11.out hb12); have Q12 := hid (Q11.out.below hb12); clear hu2 hb12 _g)
        | (go_at_call 14; refine (have_any p (joinV A B) _ Q8.out.p).mono ?_; rintro e w11 ⟨u1, rfl, hu1, hb11⟩; have U1 := hid hu1; have B11 := hid (bt B8.out hb11); have Q11 := hid (Q8.out.below hb11); clear hu1 hb11)
        | (go_at_call 11; have _g := O16.out; refine (sameints_any _ _ A A _ U16.out (Iz.of_own O16.out)).mono ?_; rintro e w18 ⟨rfl, hb18⟩; rw [decide_eq_true (rfl : A = A)]; have BF := hid (bt B16.out hb18); have QF := hid (Q16.out.below hb18); clear hb18 _g)
        | (go_at_call 11; refine (sameints_any _ _ (joinV A B) (joinV B A) _ U12.out U2.out).mono ?_; rintro e w13 ⟨rfl, hb13⟩; rw [decide_eq_true (join_swap Q12.out.x.1 Q12.out.y.1)]; have S1 := hid (Q12.out.below hb13); have B13 := hid (bt B12.out hb13); clear hb13)
        | (go_at_call 9; refine (copyints_any _ a _ (HA.out.below B14.out) (by have := HN.out; have := HN16.out; omega)).mono ?_; rintro e w15 ⟨u5, rfl, ho5, hb15⟩; rw [HN.out] at ho5; have O15 := hid ho5; have U15 := hid (U3.out.below hb15); have B15 := hid (bt B14.out hb15); have Q15 := hid (Q14.out.below hb15); have S15 := hid hb15; obtain ⟨a5, c5, rfl⟩ := own_any ho5; clear ho5 hb15)
        | (at_builtin; refine wpList_append_zeros (.inr (by kernel_rfl)) (.tmp 92) (.tmp 95) rfl w14.heap.size N _ (is a) rfl O15.out (16 - N) _ rfl (by have := HN16.out; unfold wrap64; omega) (by have := HN16.out; omega) S15.out.size ?_; intro v' w16 ho hg; have hbl : Below w14.heap.size w15 w16 := Below.grown (Below.refl _ _) hg S15.out.size (fun k hk => (O15.out.lt k hk).1); have b16 := S15.out.trans hbl; have U16 := hid (U3.out.below b16); have Q16 := hid (Q14.out.below b16); have B16 := hid (bt B14.out b16); have O16 := hid (show w16.ownsRow w14.heap.size 3 1 v' (N + (16 - N)) (is A) by rw [← HAA.out, ← pad_zeros, HN.out]; exact ho); obtain ⟨a6, c6, rfl⟩ := own_any ho; clear ho hg hbl b16)
        | fail)
      go_ret
      exact ⟨rfl, BF.out⟩
  · have hcase : okV a = false ∨ (okV a = true ∧ okV b = false) ∨ (okV a = true ∧ okV b = true ∧ okV c = false) := by
      revert hall
      cases okV a <;> cases okV b <;> cases okV c <;> simp
    clear hall
    rcases hcase with e1 | ⟨e1, e2⟩ | ⟨e1, e2, e3⟩
    all_goals
      have E1 := hid e1
      try have E2 := hid e2
      try have E3 := hid e3
      try clear e3
      try clear e2
      clear e1
      go_enter Try.func5, Try.ntmps5
      go_wp2_with (first
        | (go_at_call 8; refine (alive_any w).mono ?_; rintro e w1 ⟨rfl, hb1⟩; have B1 := hid hb1; have A1 := hid (HA.out.below hb1); have BB1 := hid (HB.out.below hb1); have CC1 := hid (HC.out.below hb1); clear hb1)
        | (go_at_call 30; have _g := CC3.out; refine (of_flag v2 c _ CC3.out).mono ?_; rintro e w4 ⟨P3, rfl, hb4⟩; (first | rw [E3.out] | skip); have B4 := hid (bt B3.out hb4); clear hb4 _g)
        | (go_at_call 30; have _g := BB2.out; refine (of_flag v1 b _ BB2.out).mono ?_; rintro e w3 ⟨P2, rfl, hb3⟩; (first | rw [E2.out] | skip); have B3 := hid (bt B2.out hb3); have CC3 := hid (CC2.out.below hb3); clear hb3 _g)
        | (go_at_call 30; refine (of_flag _ a _ (by have := A1.out; exact this)).mono ?_; rintro e w2 ⟨P1, rfl, hb2⟩; rw [E1.out]; have B2 := hid (bt B1.out hb2); have BB2 := hid (BB1.out.below hb2); have CC2 := hid (CC1.out.below hb2); clear hb2)
        | fail)
      go_ret
      exact ⟨rfl, B4.out⟩

namespace vecJoin
open Go.ChangeShapes Go.WideShapes Go.ChangeAt
open Go.ChangeMaps (open_string shut_string)

theorem own : ownKnob Try.prog.godebug = none := by kernel_rfl
theorem laidOut : laidOutB Try.prog = true := by kernel_rfl

set_option maxRecDepth 100000 in
theorem lifted (os : Os) (started : os.Started) (H : Type) (enc : TypeId × Value → H) :
    ReturnsInHanded {} Try.checked os 5 .any (Rows.vecJoinSpec.pre6 enc Try.prog Try.f5 Rows.vecJoinRow.domain false) (Rows.vecJoinSpec.post enc Try.prog Try.f5 false true false false) := by
  refine returnsInHanded_of_change (C := Try.checked) own started (by kernel_rfl) Try.func5
    (ChangeSpec.witness6 (enc := enc) (C := Try.checked) false ⟨#[], #[.slice none 0 0, .slice none 0 0, .slice none 0 0], []⟩ 8 (by kernel_rfl) (by kernel_rfl) (by kernel_rfl) (by kernel_rfl)) ?_
  intro W base args ds gs before hval0 hW hcnd _
  have hval : ∀ (j : Nat) t v, Try.f5.params[j]? = some t → args[j]? = some v → Value.okWide Try.prog W .any base t v := hval0
  have hW' := hW
  obtain ⟨p, q, hA0, hV, rfl, hfz, hnd⟩ := hW
  have hA : DataW.TrodAll enc Try.prog W 0 (fun _ => true) true Try.f5.params.toList args.toList ds p := hA0
  rw [Try.params5] at hA hval
  obtain ⟨v0, vs0, d0, ds0, p0, q0, hargs, rfl, rfl, h0, r0⟩ := trodAll_cons hA
  obtain ⟨v1, vs1, d1, ds1, p1, q1, rfl, rfl, rfl, h1, r1⟩ := trodAll_cons r0
  obtain ⟨v2, vs2, d2, ds2, p2, q2, rfl, rfl, rfl, h2, r2⟩ := trodAll_cons r1
  obtain ⟨rfl, rfl, rfl⟩ := trodAll_nil r2
  obtain rfl : args = #[v0, v1, v2] := by cases args; simp_all
  obtain ⟨rfl, rfl⟩ := trodVars_none hV
  obtain ⟨a0, len0, cap0, rfl⟩ := okWide_slice Try.underlying22 (hval 0 22 v0 rfl rfl)
  have k0 := h0
  have lt0 : ∀ x ∈ p0, x.block < W.heap.size := by obtain ⟨m, hm⟩ := k0; exact DataW.trod_lt m _ _ _ hm
  obtain ⟨z0, w0⟩ := Iz.open h0
  obtain ⟨a1, len1, cap1, rfl⟩ := okWide_slice Try.underlying22 (hval 1 22 v1 rfl rfl)
  have k1 := h1
  have lt1 : ∀ x ∈ p1, x.block < W.heap.size := by obtain ⟨m, hm⟩ := k1; exact DataW.trod_lt m _ _ _ hm
  obtain ⟨z1, w1⟩ := Iz.open h1
  obtain ⟨a2, len2, cap2, rfl⟩ := okWide_slice Try.underlying22 (hval 2 22 v2 rfl rfl)
  have k2 := h2
  have lt2 : ∀ x ∈ p2, x.block < W.heap.size := by obtain ⟨m, hm⟩ := k2; exact DataW.trod_lt m _ _ _ hm
  obtain ⟨z2, w2⟩ := Iz.open h2
  clear hA0 hval0
  refine (join_law _ z0 _ z1 _ z2 W w0 w1 w2).mono fun e W' ⟨he, bel⟩ => ?_
  subst he
  exact ⟨_, rfl, _, _, _, [], _, [], hW', trodAll_mk1 (shut_bool Try.underlying4 _), (trodAll_cons_mk (Below.trod laidOut (by kernel_rfl) (of_decide_eq_true (by kernel_rfl)) k0 bel lt0) (trodAll_cons_mk (Below.trod laidOut (by kernel_rfl) (of_decide_eq_true (by kernel_rfl)) k1 bel lt1) (trodAll_cons_mk (Below.trod laidOut (by kernel_rfl) (of_decide_eq_true (by kernel_rfl)) k2 bel lt2) trodAll_mk0))), rfl, bel.frame _, fun h => by cases h⟩

theorem over : Rows.vecJoinRow.holds Try.pinned (OpenSpec.ofChange Rows.vecJoinSpec) :=
  OpenClaim.holds_of_wide 5 Try.f5 rfl rfl rfl rfl rfl rfl rfl ⟨rfl, rfl, rfl, rfl, rfl⟩ rfl rfl rfl rfl rfl (by kernel_rfl) Try.func5 (by kernel_rfl)
    (of_decide_eq_true (by kernel_rfl)) (by unfold Func.isWrapper; first | (rw [if_pos (by decide +kernel)]; kernel_rfl) | (rw [if_neg (by decide +kernel)]; exact ⟨rfl, rfl⟩))
    (fun os started H enc _ => lifted os started H enc)
end vecJoin

/-- THE STATEMENT. -/
theorem vecJoin_holds : Rows.VecJoinSaid := vecJoin.over


end Go.Proofs.Ytkcjkncpaopjbaa
