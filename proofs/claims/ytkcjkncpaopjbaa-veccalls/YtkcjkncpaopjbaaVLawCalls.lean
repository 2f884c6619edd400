/-
  The law VecCalls answers true for every row of names and all numbers, and leaves its input as it was.
-/
import Derived.Test.YtkcjkncpaopjbaaPart8
import Derived.Test.YtkcjkncpaopjbaaPart5
namespace Go.Proofs.Ytkcjkncpaopjbaa
open Go.RowKit
set_option linter.unusedVariables false
set_option maxRecDepth 100000

theorem len16 {l : List Int} (h : l.length = 16) : ∃ a0 a1 a2 a3 a4 a5 a6 a7 a8 a9 a10 a11 a12 a13 a14 a15, l = [a0, a1, a2, a3, a4, a5, a6, a7, a8, a9, a10, a11, a12, a13, a14, a15] := by
  match l, h with
  | [a0, a1, a2, a3, a4, a5, a6, a7, a8, a9, a10, a11, a12, a13, a14, a15], _ => exact ⟨_, _, _, _, _, _, _, _, _, _, _, _, _, _, _, _, rfl⟩
theorem built_vec {l : List Int} (h : l.length = 16) : Try.prog.built 48 [(0, .agg (is l).toArray)] = some (is l).toArray := by
  obtain ⟨a0, a1, a2, a3, a4, a5, a6, a7, a8, a9, a10, a11, a12, a13, a14, a15, rfl⟩ := len16 h
  kernel_rfl
theorem wpList_build_vec {w : World} {ops : Array Oper} {rest : List Oper} {o : Oper} {a : Act} {Q : Exit → Act → World → Prop} (hgd : o.guard = none) (x : Operand) (ho : o.op = .build 48 #[(0, x)]) (l : List Int) (hl : l.length = 16)
    (hx : a.eval x = .agg (is l).toArray) (h : wpList Try.prog ops Q rest (a.put o.dst (.agg (is l).toArray)) w) : wpList Try.prog ops Q (o :: rest) a w := by
  refine wpList_plain hgd fun K hK => ?_
  have hb : (Try.prog.built 48 (#[(0, x)].map fun (i, x) => (i, a.eval x)).toList) = some (is l).toArray := by
    have e : (#[(0, x)].map fun ((i, x) : Nat × Operand) => (i, a.eval x)).toList = [(0, a.eval x)] := by simp
    rw [e, hx, built_vec hl]
  refine wp_build 48 #[(0, x)] ho (by rw [hb]; rfl) ?_
  rw [hb]
  exact hK _ _ h
theorem wpList_box_vec {w : World} {ops : Array Oper} {rest : List Oper} {o : Oper} {a : Act} {Q : Exit → Act → World → Prop} (hgd : o.guard = none) (x : Operand) (ho : o.op = .box 48 x) (l : List Int) (hl : Vk l)
    (hx : a.eval x = .agg (is l).toArray) (h : ∀ w', Vc w' w.heap.size l → Below w.heap.size w w' → wpList Try.prog ops Q rest (a.put o.dst (.pointer (some ⟨w.heap.size, 0, none⟩))) w') : wpList Try.prog ops Q (o :: rest) a w := by
  refine wpList_plain hgd fun K hK => ?_
  have hh := hK _ _ (h _ (Vc.new w l hl 48) (ba w _))
  unfold Oper.wp execOp
  simp only [ho, hx]
  simp [Instr.box, go_sem]
  exact hh

/-- Five vectors and numbers' rows that were read. -/
structure Cq (W : World) (v r x s : Nat) (A B : List Int) : Prop where
  v : Vc W v A
  r : Vc W r A
  x : Vc W x B
  s : Vc W s B
theorem Cq.below {W W' : World} {v r x s : Nat} {A B : List Int} (h : Cq W v r x s A B) (hb : Below W.heap.size W W') : Cq W' v r x s A B := ⟨h.v.below hb, h.r.below hb, h.x.below hb, h.s.below hb⟩
theorem Cq.fr {S : Nat → Prop} {W W' : World} {v r x s : Nat} {A B : List Int} (h : Cq W v r x s A B) (hf : Fr S W W') (h1 : ¬ S v) (h2 : ¬ S r) (h3 : ¬ S x) (h4 : ¬ S s) : Cq W' v r x s A B := ⟨h.v.fr hf h1, h.r.fr hf h2, h.x.fr hf h3, h.s.fr hf h4⟩

theorem Ns.two {w : World} {g off n c : Nat} {l : List (Int × Int)} (h : Ns w (.slice (some ⟨g, off, none⟩) n c) l) (i : Nat) (hi : i < l.length) :
    w.cell? ⟨g, off + i * 2, none⟩ = some (.int .i64 (l[i]).1) ∧ w.cell? ⟨g, off + i * 2 + 1, none⟩ = some (.int .i64 (l[i]).2) := by
  obtain ⟨g', off', c', e, _, _, _, hc⟩ := h.inv (by omega)
  simp only [Value.slice.injEq, Option.some.injEq, Addr.mk.injEq, and_true] at e
  obtain ⟨⟨rfl, rfl⟩, _, rfl⟩ := e
  exact hc i hi

set_option maxHeartbeats 4000000 in
theorem calls_law (v0 : Value) (qs : List (Int × Int)) (v1 : Value) (js : List Int) (w : World) (hq : Ns w v0 qs) (hj : Iz w v1 js) :
    Calls Try.prog 4 #[v0, v1] w fun e w' => e = .returned (.bool true) ∧ Below w.heap.size w w' := by
  have HQ := hid hq
  have HJ := hid hj
  have f0 := hq.form
  have f1 := hj.form
  obtain ⟨p0, c0, rfl, g0, g1⟩ := f0
  obtain ⟨p1, c1, rfl, g2, g3⟩ := f1
  obtain ⟨N, hN⟩ : ∃ N, qs.length = N := ⟨_, rfl⟩
  obtain ⟨M, hM⟩ : ∃ M, js.length = M := ⟨_, rfl⟩
  have HN := hid hN
  have HM := hid hM
  rw [hN] at HQ g0 ⊢
  rw [hM] at HJ g2 ⊢
  clear hq hj hN hM
  by_cases hsmall : N ≤ 300 ∧ M ≤ 50
  · have s1 : decide ((300 : Int) < (N : Int)) = false := by simp; omega
    have s2 : decide ((50 : Int) < (M : Int)) = false := by simp; omega
    have hN3 : N ≤ 300 := hsmall.1
    clear hsmall g0 g1 g2 g3
    go_enter Try.func4, Try.ntmps4
    go_wp2_with (first
      | (go_at_call 8; refine (alive_any w).mono ?_; rintro e w1 ⟨rfl, hb1⟩; have B1 := hid hb1; clear hb1)
      | (go_at_call 24; refine (new_any _).mono ?_; rintro e w2 ⟨rfl, hv2, hb2⟩; obtain ⟨v, hvv⟩ : ∃ v, w1.heap.size = v := ⟨_, rfl⟩; rw [hvv] at hv2 ⊢; have V2 := hid hv2; have B2 := hid (bt B1.out hb2); have HV := hid (show w.heap.size ≤ v by rw [← hvv]; exact B1.out.size); clear hv2 hb2 hvv)
      | (refine wpList_box_vec rfl (.tmp 25) rfl Go.Proofs.Ytkcjkncpaopjbaa.v0 v0_ok rfl ?_; intro w3 hr3 hb3; have V3 := hid (V2.out.below hb3); have R3 := hid hr3; have B3 := hid (bt B2.out hb3); have HR := hid V2.out.lt; clear hr3 hb3)
      | fail)
    obtain ⟨r, hr⟩ : ∃ r, w2.heap.size = r := ⟨_, rfl⟩
    rw [hr] at R3 HR ⊢
    clear hr
    go_loopw [7] (fun kk wr => ∃ (k : Nat) (l : List Int), k ≤ N ∧ kk = .int .i64 k ∧ Hid (Vc wr v l ∧ Vc wr r l) ∧ Below w.heap.size w wr) (fun kk _ => N - (intOf kk).toNat)
    case atStart => exact ⟨0, _, by omega, rfl, ⟨V3.out, R3.out⟩, B3.out⟩
    case round =>
      clear B1 V2 B2 V3 R3 B3
      obtain ⟨k, l, hk, rfl, HL, hbel⟩ := hrel
      have HBL := hid hbel
      clear hbel
      by_cases hlt : k < N
      · have hlt' : (k : Int) < (N : Int) := by omega
        have hki : k < qs.length := by have := HN.out; omega
        obtain ⟨g, off, c', e, _, _, hg, _⟩ := HQ.out.inv (by omega)
        rw [HN.out] at e
        simp only [Value.slice.injEq] at e
        obtain ⟨rfl, _, rfl⟩ := e
        have h2 := Ns.two (HQ.out.below HBL.out) k hki
        have hv := HV.out
        have hr := HR.out
        go_wp2_with (first
          | (refine calls_r hlt HL.out.1 HL.out.2 (by omega) (by omega) (by omega) h2 (fun _ _ _ _ _ h => h) (fun u1 u2 W hv2 hr2 hf2 => ?_); have V5 := hid (And.intro hv2 hr2); have B5 := hid (HBL.out.trans (Below.trans (below_drewN (Below.refl _ _) 1) (hf2.below (fun i hi e => by rcases e with e | e <;> omega) HBL.out.size))); clear hv2 hr2 hf2)
          | fail)
        go_roundw
        case rel => exact ⟨k + 1, _, by omega, by go_num, V5.out, B5.out⟩
        case measure => simp [intOf]; omega
      · obtain rfl : k = N := by omega
        cases hok : okV js
        · have HOK := hid hok
          clear hok
          go_wp2_with (first
            | (go_at_call 10; refine (bo_flag _ js _ (HJ.out.below HBL.out)).mono ?_; rintro e w4 ⟨P, R, rfl, hb4⟩; rw [HOK.out]; have B4 := hid (bt HBL.out hb4); clear hb4)
            | fail)
          go_ret
          exact ⟨rfl, B4.out⟩
        · have HOK := hid hok
          clear hok
          have hlv := HL.out.1.1
          obtain ⟨B, hB⟩ : ∃ B, padV js = B := ⟨_, rfl⟩
          have HBB := hid hB
          clear hB
          go_wp2_with (first
            | (go_at_call 10; refine (bo_yes _ js _ (HJ.out.below HBL.out) HOK.out).mono ?_; rintro e w4 ⟨x, s, rfl, hx, hs, hvx, hvs, hb4⟩; rw [HBB.out] at hvx hvs; have B4 := hid (bt HBL.out hb4); have D4 := hid (And.intro (Nat.lt_of_lt_of_le HL.out.2.lt hx) hs); have Q4 := hid (Cq.mk (HL.out.1.below hb4) (HL.out.2.below hb4) hvx hvs); clear hb4 hx hs hvx hvs)
            | (go_at_call 27; refine (clone_any v l _ Q4.out.v).mono ?_; rintro e w5 ⟨c, rfl, hc, hvc, hb5⟩; have C5 := hid hvc; have B5 := hid (bt B4.out hb5); have D5 := hid (Nat.lt_of_lt_of_le Q4.out.s.lt hc); have Q5 := hid (Q4.out.below hb5); clear hc hvc hb5)
            | (go_at_call 28; refine (join_any c x l B _ C5.out Q5.out.x (by have := D4.out; have := D5.out; omega)).mono ?_; rintro e w6 ⟨rfl, hv6, hf6⟩; have C6 := hid hv6; have Q6 := hid (Q5.out.fr hf6 (by have := D4.out; have := D5.out; have := HR.out; omega) (by have := D4.out; have := D5.out; omega) (by have := D4.out; have := D5.out; omega) (by have := D5.out; omega)); have B6 := hid (B5.out.trans (hf6.below (fun i hi e => by have := D4.out; have := D5.out; have := HR.out; have := HV.out; omega) B5.out.size)); clear hv6 hf6)
            | (refine wpList_ld_arr rfl (.tmp 81) rfl r l rfl Q6.out.r ?_)
            | (refine wpList_build_vec rfl (.tmp 82) rfl l hlv.1 rfl ?_)
            | (refine wpList_box_vec rfl (.tmp 83) rfl l hlv rfl ?_; intro w7 hv7 hb7; have E7 := hid hv7; have C7 := hid (C6.out.below hb7); have Q7 := hid (Q6.out.below hb7); have B7 := hid (bt B6.out hb7); have D7 := hid C6.out.lt; have D6 := hid Q6.out.s.lt; obtain ⟨d, hd⟩ : ∃ d, w6.heap.size = d := ⟨_, rfl⟩; have HD := hid hd; rw [hd] at E7 D7 D6 ⊢; clear hv7 hb7 hd)
            | (go_at_call 29; refine (xjoin_any d s l B _ E7.out Q7.out.s (by have := D6.out; omega)).mono ?_; rintro e w8 ⟨rfl, hv8, hf8⟩; have E8 := hid hv8; have C8 := hid (C7.out.fr hf8 (by have := D7.out; omega)); have Q8 := hid (Q7.out.fr hf8 (by have := D4.out; have := D6.out; have := HR.out; omega) (by have := D4.out; have := D6.out; omega) (by have := D4.out; have := D6.out; omega) (by have := D6.out; omega)); have B8 := hid (B7.out.trans (hf8.below (fun i hi e => by have := HD.out; have := B6.out.size; omega) B7.out.size)); clear hv8 hf8)
            | (go_at_call 14; have _g := S1; refine (have_any v l _ Q11.out.v).mono ?_; rintro e w12 ⟨u3, rfl, hu, hb⟩; have U3 := hid hu; have Q12 := hid (Q11.out.below hb); have B12 := hid (bt B11.out hb); clear hu hb _g)
            | (go_at_call 14; refine (have_any c (joinV l B) _ C8.out).mono ?_; rintro e w9 ⟨u1, rfl, hu, hb⟩; have U1 := hid hu; have E9 := hid (E8.out.below hb); have Q9 := hid (Q8.out.below hb); have B9 := hid (bt B8.out hb); clear hu hb)
            | (go_at_call 15; have _g := U3.out; refine (xlist_any r l _ Q12.out.r).mono ?_; rintro e w13 ⟨u4, rfl, hu, hb⟩; have U4 := hid hu; have U33 := hid (U3.out.below hb); have B13 := hid (bt B12.out hb); clear hu hb _g)
            | (go_at_call 15; refine (xlist_any d (joinV l B) _ E9.out).mono ?_; rintro e w10 ⟨u2, rfl, hu, hb⟩; have U2 := hid hu; have U11 := hid (U1.out.below hb); have Q10 := hid (Q9.out.below hb); have B10 := hid (bt B9.out hb); clear hu hb)
            | (go_at_call 11; have _g := U4.out; refine (sameints_any _ _ l l _ U33.out U4.out).mono ?_; rintro e w14 ⟨rfl, hb⟩; rw [decide_eq_true (rfl : l = l)]; have BF := hid (bt B13.out hb); clear hb _g)
            | (go_at_call 11; refine (sameints_any _ _ (joinV l B) (joinV l B) _ U11.out U2.out).mono ?_; rintro e w11 ⟨rfl, hb⟩; rw [decide_eq_true (rfl : joinV l B = joinV l B)]; have S1 : True := trivial; have Q11 := hid (Q10.out.below hb); have B11 := hid (bt B10.out hb); clear hb)
            | fail)
          go_ret
          exact ⟨rfl, BF.out⟩
  · have hd : decide ((300 : Int) < (N : Int)) = true ∨ (decide ((300 : Int) < (N : Int)) = false ∧ decide ((50 : Int) < (M : Int)) = true) := by simp; omega
    clear hsmall g0 g1 g2 g3
    rcases hd with e1 | ⟨e1, e2⟩
    all_goals
      go_enter Try.func4, Try.ntmps4
      go_wp2_with (first
        | (go_at_call 8; refine (alive_any w).mono ?_; rintro e w1 ⟨rfl, hb1⟩; have B1 := hid hb1; clear hb1)
        | fail)
      go_ret
      exact ⟨rfl, B1.out⟩


namespace vecCalls
open Go.ChangeShapes Go.WideShapes Go.ChangeAt
open Go.ChangeMaps (open_string shut_string)

theorem own : ownKnob Try.prog.godebug = none := by kernel_rfl
theorem laidOut : laidOutB Try.prog = true := by kernel_rfl

set_option maxRecDepth 100000 in
theorem lifted (os : Os) (started : os.Started) (H : Type) (enc : TypeId × Value → H) :
    ReturnsInHanded {} Try.checked os 4 .any (Rows.vecCallsSpec.pre6 enc Try.prog Try.f4 Rows.vecCallsRow.domain false) (Rows.vecCallsSpec.post enc Try.prog Try.f4 false true false false) := by
  refine returnsInHanded_of_change (C := Try.checked) own started (by kernel_rfl) Try.func4
    (ChangeSpec.witness6 (enc := enc) (C := Try.checked) false ⟨#[], #[.slice none 0 0, .slice none 0 0], []⟩ 8 (by kernel_rfl) (by kernel_rfl) (by kernel_rfl) (by kernel_rfl)) ?_
  intro W base args ds gs before hval0 hW hcnd _
  have hval : ∀ (j : Nat) t v, Try.f4.params[j]? = some t → args[j]? = some v → Value.okWide Try.prog W .any base t v := hval0
  have hW' := hW
  obtain ⟨p, q, hA0, hV, rfl, hfz, hnd⟩ := hW
  have hA : DataW.TrodAll enc Try.prog W 0 (fun _ => true) true Try.f4.params.toList args.toList ds p := hA0
  rw [Try.params4] at hA hval
  obtain ⟨v0, vs0, d0, ds0, p0, q0, hargs, rfl, rfl, h0, r0⟩ := trodAll_cons hA
  obtain ⟨v1, vs1, d1, ds1, p1, q1, rfl, rfl, rfl, h1, r1⟩ := trodAll_cons r0
  obtain ⟨rfl, rfl, rfl⟩ := trodAll_nil r1
  obtain rfl : args = #[v0, v1] := by cases args; simp_all
  obtain ⟨rfl, rfl⟩ := trodVars_none hV
  obtain ⟨a0, len0, cap0, rfl⟩ := okWide_slice Try.underlying44 (hval 0 44 v0 rfl rfl)
  have k0 := h0
  have lt0 : ∀ x ∈ p0, x.block < W.heap.size := by obtain ⟨m, hm⟩ := k0; exact DataW.trod_lt m _ _ _ hm
  obtain ⟨z0, w0⟩ := Ns.open h0
  obtain ⟨a1, len1, cap1, rfl⟩ := okWide_slice Try.underlying22 (hval 1 22 v1 rfl rfl)
  have k1 := h1
  have lt1 : ∀ x ∈ p1, x.block < W.heap.size := by obtain ⟨m, hm⟩ := k1; exact DataW.trod_lt m _ _ _ hm
  obtain ⟨z1, w1⟩ := Iz.open h1
  clear hA0 hval0
  refine (calls_law _ z0 _ z1 W w0 w1).mono fun e W' ⟨he, bel⟩ => ?_
  subst he
  exact ⟨_, rfl, _, _, _, [], _, [], hW', trodAll_mk1 (shut_bool Try.underlying4 _), (trodAll_cons_mk (Below.trod laidOut (by kernel_rfl) (of_decide_eq_true (by kernel_rfl)) k0 bel lt0) (trodAll_cons_mk (Below.trod laidOut (by kernel_rfl) (of_decide_eq_true (by kernel_rfl)) k1 bel lt1) trodAll_mk0)), rfl, bel.frame _, fun h => by cases h⟩

theorem over : Rows.vecCallsRow.holds Try.pinned (OpenSpec.ofChange Rows.vecCallsSpec) :=
  OpenClaim.holds_of_wide 4 Try.f4 rfl rfl rfl rfl rfl rfl rfl ⟨rfl, rfl, rfl, rfl, rfl⟩ rfl rfl rfl rfl rfl (by kernel_rfl) Try.func4 (by kernel_rfl)
    (of_decide_eq_true (by kernel_rfl)) (by unfold Func.isWrapper; first | (rw [if_pos (by decide +kernel)]; kernel_rfl) | (rw [if_neg (by decide +kernel)]; exact ⟨rfl, rfl⟩))
    (fun os started H enc _ => lifted os started H enc)
end vecCalls

/-- THE STATEMENT. -/
theorem vecCalls_holds : Rows.VecCallsSaid := vecCalls.over


end Go.Proofs.Ytkcjkncpaopjbaa
