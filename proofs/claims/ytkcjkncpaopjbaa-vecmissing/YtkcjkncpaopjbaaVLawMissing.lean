/-
  The law VecMissing answers true for all rows of numbers, and leaves its input as it was.
-/
import Derived.Test.YtkcjkncpaopjbaaPart8
import Derived.Test.YtkcjkncpaopjbaaPart5
namespace Go.Proofs.Ytkcjkncpaopjbaa
open Go.RowKit
set_option linter.unusedVariables false
set_option maxRecDepth 100000

/-- Two vectors, and the cuts that one lacks. -/
structure Ms (w : World) (x y : Nat) (X Y : List Int) (u : Value) (ms : List Ct) : Prop where
  x : Vc w x X
  y : Vc w y Y
  c : Cs w u ms
theorem Ms.below {w w' : World} {x y : Nat} {X Y : List Int} {u : Value} {ms : List Ct} (h : Ms w x y X Y u ms) (hb : Below w.heap.size w w') : Ms w' x y X Y u ms := ⟨h.x.below hb, h.y.below hb, h.c.below hb⟩

set_option maxHeartbeats 4000000 in
theorem missing_law (v0 : Value) (a : List Int) (v1 : Value) (b : List Int) (w : World) (ha : Iz w v0 a) (hb : Iz w v1 b) :
    Calls Try.prog 6 #[v0, v1] w fun e w' => e = .returned (.bool true) ∧ Below w.heap.size w w' := by
  have HA := hid ha
  have HB := hid hb
  clear ha hb
  by_cases hall : okV a = true ∧ okV b = true
  · obtain ⟨k1, k2⟩ := hall
    have K1 := hid k1
    have K2 := hid k2
    obtain ⟨A, hA⟩ : ∃ A, padV a = A := ⟨_, rfl⟩
    obtain ⟨B, hB⟩ : ∃ B, padV b = B := ⟨_, rfl⟩
    have HAA := hid hA
    have HBB := hid hB
    have hVA : Vk A := by rw [← hA]; exact pad_ok k1
    have hVB : Vk B := by rw [← hB]; exact pad_ok k2
    obtain ⟨ms, hms⟩ : ∃ ms, missTo A B 16 = ms := ⟨_, rfl⟩
    have HMS := hid hms
    obtain ⟨L, hL⟩ : ∃ L, ms.length = L := ⟨_, rfl⟩
    have HL := hid hL
    have hL16 : L ≤ 16 := by rw [← hL, ← hms]; exact miss_len A B 16
    have hcv : ((L : Int) == 0) = covV A B := by
      rw [Bool.eq_iff_iff, ← miss_none, hms, hL]
      simp
    have HCV := hid hcv
    have VA := hid hVA
    have VB := hid hVB
    clear k1 k2 hA hB hms hL hcv hVA hVB
    go_enter Try.func6, Try.ntmps6
    go_wp2_with (first
      | (go_at_call 8; refine (alive_any w).mono ?_; rintro e w1 ⟨rfl, hb1⟩; have B1 := hid hb1; have A1 := hid (HA.out.below hb1); have BB1 := hid (HB.out.below hb1); clear hb1)
      | (go_at_call 30; have _g := BB2.out; refine (of_yes v1 b _ BB2.out K2.out).mono ?_; rintro e w3 ⟨y, rfl, hy, hv3, hb3⟩; rw [HBB.out] at hv3; have Y1 := hid hv3; have B3 := hid (bt B2.out hb3); have X2 := hid (X1.out.below hb3); have D2 := hid (Nat.lt_of_lt_of_le X1.out.lt hy); clear hv3 hb3 hy _g)
      | (go_at_call 30; refine (of_yes v0 a _ A1.out K1.out).mono ?_; rintro e w2 ⟨x, rfl, hx, hv2, hb2⟩; rw [HAA.out] at hv2; have X1 := hid hv2; have B2 := hid (bt B1.out hb2); have BB2 := hid (BB1.out.below hb2); have D1 := hid (Nat.le_trans B1.out.size hx); clear hv2 hb2 hx)
      | (go_at_call 12; refine (missing_new x y A B _ X2.out Y1.out).mono ?_; rintro e w4 ⟨u, rfl, hcs, hb4, hfr⟩; rw [HMS.out] at hcs; obtain ⟨ga, gc, rfl, hgc⟩ := hcs.form; rw [HL.out] at hcs ⊢; have M4 := hid (Ms.mk (X2.out.below hb4) (Y1.out.below hb4) hcs); have B4 := hid (bt B3.out hb4); have FR := hid (fun k hk => Nat.lt_of_lt_of_le X2.out.lt (hfr k hk)); clear hcs hb4 hfr hgc)
      | (go_at_call 20; refine (covers_any x y A B _ M4.out.x M4.out.y).mono ?_; rintro e w5 ⟨rfl, rfl⟩; rw [← HCV.out])
      | fail)
    go_loopw [10, 11] (fun n i wr => ∃ (j R : Nat) (nn : Int), j ≤ L ∧ R ≤ 16 ∧ i = .int .i64 j ∧ n = .int .i64 nn ∧ Hid ((missTo A B R).length = j) ∧ Hid (Ms wr x y (mixV A B R) B (.slice ga L gc) ms) ∧ Below w.heap.size w wr) (fun _ i _ => L - (intOf i).toNat)
    case atStart => exact ⟨0, 0, 0, by omega, by omega, rfl, rfl, rfl, by rw [mix_zero VA.out VB.out]; exact M4.out, B4.out⟩
    case round =>
      clear HA HB A1 BB1 B1 X1 X2 Y1 B2 BB2 B3 B4 M4
      obtain ⟨j, R, nn, hjL, hR, rfl, rfl, HJ, HM, hbel⟩ := hrel
      have HBL := hid hbel
      by_cases hlt : j < L
      · have hlt' : (j : Int) < (L : Int) := by omega
        obtain ⟨S, hS, hlen, hAB, hget⟩ := miss_get A B 16 j (by rw [HMS.out, HL.out]; exact hlt)
        rw [mix_any VA.out VB.out hR (by omega : S ≤ 16) (by rw [HJ.out, hlen])] at HM
        rw [HMS.out] at hget
        have hVA := VA.out.2 S
        have hVB := VB.out.2 S
        have HST := hid (part_start VA.out VB.out hS)
        have HEN := hid (part_end VA.out VB.out hS hAB)
        have HPT := hid (fun z => part_at VA.out VB.out hS z)
        have HNX := hid (miss_next hlen hAB)
        unfold cutV at hget
        obtain ⟨α, hα⟩ : ∃ α, A.getD S 0 = α := ⟨_, rfl⟩
        obtain ⟨β, hβ⟩ : ∃ β, B.getD S 0 = β := ⟨_, rfl⟩
        have HBT := hid hβ
        rw [hα, hβ] at hget hAB
        rw [hα] at hVA HST
        rw [hβ] at hVB HEN
        have HG := hid hget
        obtain ⟨g, off, gc', e, _, _, _, _⟩ := HM.out.c.inv (by rw [HL.out]; omega)
        rw [HL.out] at e
        simp only [Value.slice.injEq] at e
        obtain ⟨rfl, _, rfl⟩ := e
        have HCA := hid (fun (W : World) (P : List Int) (h : Ms W x y P B (.slice (some ⟨g, off, none⟩) L gc) ms) => Cs.at h.c j _ HG.out)
        have HS16 := hid hS
        obtain ⟨m0, m1, m2, m3⟩ := HCA.out _ _ HM.out
        dsimp only at m0 m1 m2 m3
        have hd1 : decide (β + 1 ≤ α + 1) = false := by simp; omega
        clear hget hα hβ hlen hbel
        cases hbig : decide ((300 : Int) < β + 1 - (α + 1))
        · go_wp2_with (first | go_quiet (fail) | fail)
          go_loopw [12] (fun kk wr2 => ∃ (t : Nat), α + t ≤ β ∧ kk = .int .i64 (α + 1 + t) ∧ Hid (Ms wr2 x y (partV A B S (α + t)) B (.slice (some ⟨g, off, none⟩) L gc) ms) ∧ Below w.heap.size w wr2) (fun kk _ => (β + 1 - intOf kk).toNat)
          case atStart => exact ⟨0, by omega, by simp, by simp only [Int.natCast_zero, Int.add_zero]; rw [HST.out]; exact ⟨HM.out.x, HM.out.y, HM.out.c⟩, below_drewN HBL.out _⟩
          case round =>
            obtain ⟨t, ht, rfl, HM2, hbel2⟩ := hrel
            have HB2 := hid hbel2
            obtain ⟨m0, m1, m2, m3⟩ := HCA.out _ _ HM2.out
            try dsimp only at m0 m1 m2 m3
            have hSz : S < 16 := HS16.out
            by_cases hlt2 : α + t < β
            · have hlt2' : α + 1 + t < β + 1 := by omega
              obtain ⟨P, hP⟩ : ∃ P, partV A B S (α + t) = P := ⟨_, rfl⟩
              have hPS : P.getD S 0 = α + t := by rw [← hP]; exact HPT.out _
              have hro : ro S (α + 1 + t) = true := ro_iff.2 (by omega)
              have E1 := hid (show hasV P S (α + 1 + t) = false by rw [has_in hro hPS]; simp; omega)
              have E2 := hid (show hasV B S (α + 1 + t) = true by rw [has_in hro HBT.out]; simp; omega)
              have e3 : addV P S (α + 1 + t) = 0 := by rw [add_in hro hPS, if_neg (by omega), if_pos (by omega)]
              have E3 := hid e3
              have E4 := hid (show putV P S (α + 1 + t) = partV A B S (α + (t + 1 : Nat)) by rw [put_in e3, ← hP, part_next]; congr 1; omega)
              rw [hP] at HM2
              clear hP hPS hro e3 hbel2
              go_wp2_with (first
                | (go_at_call 16; have _g := M6.out; refine (has_any y B S (α + 1 + t) _ M6.out.y).mono ?_; rintro e w7 ⟨rfl, hb7⟩; rw [E2.out]; have M7 := hid (M6.out.below hb7); have I7 := hid (I6.out.below hb7); have i70 := I7.out.c0; have i71 := I7.out.c1; have B7 := hid (B6.out.trans (hb7.mono B6.out.size)); clear hb7 _g)
                | (go_at_call 16; refine (has_any x P S (α + 1 + t) _ (HM2.out.below (ba _ _)).x).mono ?_; rintro e w6 ⟨rfl, hb6⟩; rw [E1.out]; have M6 := hid (HM2.out.below (bt (ba _ _) hb6)); have I6 := hid (Idb.below (g := wr.heap.size) (r := S) (n := α + 1 + t) ⟨_, heap_alloc_new wr _⟩ hb6); have i60 := I6.out.c0; have i61 := I6.out.c1; have B6 := hid (HB2.out.trans ((bt (ba _ _) hb6).mono HB2.out.size)); clear hb6)
                | (go_at_call 25; refine (add_any x P S (α + 1 + t) _ M7.out.x).mono ?_; rintro e w8 ⟨rfl, hv8, hf8⟩; rw [E3.out]; rw [E4.out] at hv8; have M8 := hid (Ms.mk hv8 (M7.out.y.fr hf8 (by have := D2.out; omega)) (Cs.fr M7.out.c hf8 (fun k hk e => by have := FR.out k hk; omega))); have B8 := hid (B7.out.trans (hf8.below (fun i hi e => by have := D1.out; omega) B7.out.size)); clear hv8 hf8)
                | fail)
              go_roundw
              case rel => exact ⟨t + 1, by omega, by congr 1; omega, M8.out, B8.out⟩
              case measure => simp [intOf]; omega
            · have hte : α + t = β := by omega
              have e1 : decide (α + 1 + (t : Int) < β + 1) = false := by simp; omega
              rw [hte, HEN.out] at HM2
              clear hbel2
              go_wp2_with fail
              go_roundw
              case rel => exact ⟨j + 1, S + 1, _, by omega, by omega, by go_num, rfl, HNX.out, HM2.out, HB2.out⟩
              case measure => simp [intOf]; omega
        · go_wp2_with (first | go_quiet (fail) | fail)
          go_ret
          exact ⟨rfl, below_drewN HBL.out _⟩
      · obtain rfl : j = L := by omega
        have HF := hid (show covV (mixV A B R) B = true by rw [mix_any VA.out VB.out hR (Nat.le_refl 16) (by rw [HJ.out, HMS.out, HL.out]), mix_full VA.out VB.out]; exact join_cov2)
        clear hbel
        go_wp2_with (first
          | (go_at_call 20; refine (covers_any x y (mixV A B R) B _ HM.out.x HM.out.y).mono ?_; rintro e w5 ⟨rfl, rfl⟩; rw [HF.out])
          | fail)
        go_ret
        exact ⟨rfl, HBL.out⟩
  · have hcase : okV a = false ∨ (okV a = true ∧ okV b = false) := by
      revert hall
      cases okV a <;> cases okV b <;> simp
    clear hall
    rcases hcase with e1 | ⟨e1, e2⟩
    all_goals
      have E1 := hid e1
      try have E2 := hid e2
      try clear e2
      clear e1
      go_enter Try.func6, Try.ntmps6
      go_wp2_with (first
        | (go_at_call 8; refine (alive_any w).mono ?_; rintro e w1 ⟨rfl, hb1⟩; have B1 := hid hb1; have A1 := hid (HA.out.below hb1); have BB1 := hid (HB.out.below hb1); clear hb1)
        | (go_at_call 30; have _g := BB2.out; refine (of_flag v1 b _ BB2.out).mono ?_; rintro e w3 ⟨P2, rfl, hb3⟩; (first | rw [E2.out] | skip); have B3 := hid (bt B2.out hb3); clear hb3 _g)
        | (go_at_call 30; refine (of_flag v0 a _ A1.out).mono ?_; rintro e w2 ⟨P1, rfl, hb2⟩; rw [E1.out]; have B2 := hid (bt B1.out hb2); have BB2 := hid (BB1.out.below hb2); clear hb2)
        | fail)
      go_ret
      exact ⟨rfl, B3.out⟩


namespace vecMissing
open Go.ChangeShapes Go.WideShapes Go.ChangeAt
open Go.ChangeMaps (open_string shut_string)

theorem own : ownKnob Try.prog.godebug = none := by kernel_rfl
theorem laidOut : laidOutB Try.prog = true := by kernel_rfl

set_option maxRecDepth 100000 in
theorem lifted (os : Os) (started : os.Started) (H : Type) (enc : TypeId × Value → H) :
    ReturnsInHanded {} Try.checked os 6 .any (Rows.vecMissingSpec.pre6 enc Try.prog Try.f6 Rows.vecMissingRow.domain false) (Rows.vecMissingSpec.post enc Try.prog Try.f6 false true false false) := by
  refine returnsInHanded_of_change (C := Try.checked) own started (by kernel_rfl) Try.func6
    (ChangeSpec.witness6 (enc := enc) (C := Try.checked) false ⟨#[], #[.slice none 0 0, .slice none 0 0], []⟩ 8 (by kernel_rfl) (by kernel_rfl) (by kernel_rfl) (by kernel_rfl)) ?_
  intro W base args ds gs before hval0 hW hcnd _
  have hval : ∀ (j : Nat) t v, Try.f6.params[j]? = some t → args[j]? = some v → Value.okWide Try.prog W .any base t v := hval0
  have hW' := hW
  obtain ⟨p, q, hA0, hV, rfl, hfz, hnd⟩ := hW
  have hA : DataW.TrodAll enc Try.prog W 0 (fun _ => true) true Try.f6.params.toList args.toList ds p := hA0
  rw [Try.params6] at hA hval
  obtain ⟨v0, vs0, d0, ds0, p0, q0, hargs, rfl, rfl, h0, r0⟩ := trodAll_cons hA
  obtain ⟨v1, vs1, d1, ds1, p1, q1, rfl, rfl, rfl, h1, r1⟩ := trodAll_cons r0
  obtain ⟨rfl, rfl, rfl⟩ := trodAll_nil r1
  obtain rfl : args = #[v0, v1] := by cases args; simp_all
  obtain ⟨rfl, rfl⟩ := trodVars_none hV
  obtain ⟨a0, len0, cap0, rfl⟩ := okWide_slice Try.underlying22 (hval 0 22 v0 rfl rfl)
  have k0 := h0
  have lt0 : ∀ x ∈ p0, x.block < W.heap.size := by obtain ⟨m, hm⟩ := k0; exact DataW.trod_lt m _ _ _ hm
  obtain ⟨z0, w0⟩ := Iz.open h0
  obtain ⟨a1, len1, cap1, rfl⟩ := okWide_slice Try.underlying22 (hval 1 22 v1 rfl rfl)
  have k1 := h1
  have lt1 : ∀ x ∈ p1, x.block < W.heap.size := by obtain ⟨m, hm⟩ := k1; exact DataW.trod_lt m _ _ _ hm
  obtain ⟨z1, w1⟩ := Iz.open h1
  clear hA0 hval0
  refine (missing_law _ z0 _ z1 W w0 w1).mono fun e W' ⟨he, bel⟩ => ?_
  subst he
  exact ⟨_, rfl, _, _, _, [], _, [], hW', trodAll_mk1 (shut_bool Try.underlying4 _), (trodAll_cons_mk (Below.trod laidOut (by kernel_rfl) (of_decide_eq_true (by kernel_rfl)) k0 bel lt0) (trodAll_cons_mk (Below.trod laidOut (by kernel_rfl) (of_decide_eq_true (by kernel_rfl)) k1 bel lt1) trodAll_mk0)), rfl, bel.frame _, fun h => by cases h⟩

theorem over : Rows.vecMissingRow.holds Try.pinned (OpenSpec.ofChange Rows.vecMissingSpec) :=
  OpenClaim.holds_of_wide 6 Try.f6 rfl rfl rfl rfl rfl rfl rfl ⟨rfl, rfl, rfl, rfl, rfl⟩ rfl rfl rfl rfl rfl (by kernel_rfl) Try.func6 (by kernel_rfl)
    (of_decide_eq_true (by kernel_rfl)) (by unfold Func.isWrapper; first | (rw [if_pos (by decide +kernel)]; kernel_rfl) | (rw [if_neg (by decide +kernel)]; exact ⟨rfl, rfl⟩))
    (fun os started H enc _ => lifted os started H enc)
end vecMissing

/-- THE STATEMENT. -/
theorem vecMissing_holds : Rows.VecMissingSaid := vecMissing.over


end Go.Proofs.Ytkcjkncpaopjbaa
