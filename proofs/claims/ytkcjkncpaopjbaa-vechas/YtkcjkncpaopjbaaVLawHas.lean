/-
  The law VecHas answers true for every row of names and every name, and leaves its input as it was.
-/
import Derived.Test.YtkcjkncpaopjbaaPart8
import Derived.Test.YtkcjkncpaopjbaaPart5
namespace Go.Proofs.Ytkcjkncpaopjbaa
open Go.RowKit
set_option linter.unusedVariables false
set_option maxRecDepth 100000

theorem has_there {l : List Int} {r n : Int} : hasV l r n = true ↔ addV l r n = 12 := by
  unfold hasV addV
  by_cases h : ro r n = true
  · rw [h, Bool.true_and, if_neg (by decide)]
    by_cases h2 : n ≤ l.getD r.toNat 0
    · rw [if_pos h2]; simpa using h2
    · rw [if_neg h2]
      have : ¬ (decide (n ≤ l.getD r.toNat 0) = true) := by simpa using h2
      constructor
      · intro e; exact absurd e this
      · intro e; split at e <;> omega
  · have h' : ro r n = false := by simpa using h
    rw [h', Bool.false_and, if_pos rfl]
    exact ⟨(fun e => by cases e), (fun e => by omega)⟩
theorem has_put {l : List Int} (hl : Vk l) {r n : Int} (h : addV l r n = 0) : hasV (putV l r n) r n = true := by
  have h1 : ro r n = true := by
    cases e : ro r n with
    | true => rfl
    | false => rw [add_not e] at h; omega
  have hq := ro_iff.1 h1
  unfold hasV putV
  rw [if_pos h, h1, Bool.true_and, set_at hl.1 r.toNat r.toNat n (by omega), if_pos rfl]
  simp
theorem has_next {l : List Int} (hl : Vk l) {r n : Int} (h : hasV l r n = true) : n < nextV l r ∨ nextV l r = 0 := by
  unfold hasV at h
  rw [Bool.and_eq_true, decide_eq_true_eq] at h
  have hq := ro_iff.1 h.1
  unfold nextV
  rw [if_neg (by omega)]
  split
  · exact .inr rfl
  · exact .inl (by omega)
theorem not_next {l : List Int} (hl : Vk l) {r n : Int} (h : hasV l r n = false) : nextV l r ≤ n ∨ n < 1 := by
  by_cases h1 : n < 1
  · exact .inr h1
  · left
    unfold nextV
    split
    · omega
    · split
      · omega
      · rename_i h2 h3
        have hb := hl.2 r.toNat
        by_cases h4 : n ≤ 1048576
        · have hr : ro r n = true := ro_iff.2 (by omega)
          unfold hasV at h
          rw [hr, Bool.true_and, decide_eq_false_iff_not] at h
          omega
        · omega

/-- A slice of names: the element's cells. -/
theorem Ns.two {w : World} {g off n c : Nat} {l : List (Int × Int)} (h : Ns w (.slice (some ⟨g, off, none⟩) n c) l) (i : Nat) (hi : i < l.length) :
    w.cell? ⟨g, off + i * 2, none⟩ = some (.int .i64 (l[i]).1) ∧ w.cell? ⟨g, off + i * 2 + 1, none⟩ = some (.int .i64 (l[i]).2) := by
  obtain ⟨g', off', c', e, _, _, _, hc⟩ := h.inv (by omega)
  simp only [Value.slice.injEq, Option.some.injEq, Addr.mk.injEq, and_true] at e
  obtain ⟨⟨rfl, rfl⟩, _, rfl⟩ := e
  exact hc i hi

set_option maxHeartbeats 2000000 in
theorem has_law (v : Value) (qs : List (Int × Int)) (r n : Int) (w : World) (h : Ns w v qs) :
    Calls Try.prog 7 #[v, idv r n] w fun e w' => e = .returned (.bool true) ∧ Below w.heap.size w w' := by
  obtain ⟨w0, hw0⟩ : ∃ x, w.alloc (ido 24 r n) = x := ⟨_, rfl⟩
  have HB0 := hid (show Below w.heap.size w w0 by rw [← hw0]; exact ba w _)
  have HI := hid (show Idb w0 w.heap.size r n by rw [← hw0]; exact ⟨_, heap_alloc_new w _⟩)
  have HQ := hid (show Ns w0 v qs from h.below HB0.out)
  have hform := h.form
  obtain ⟨a, c, rfl, hc1, hc2⟩ := hform
  obtain ⟨N, hN⟩ : ∃ N, qs.length = N := ⟨_, rfl⟩
  have HN := hid hN
  rw [hN] at hc1 HQ ⊢
  have hmx : (N : Int) ≤ 9223372036854775807 := by unfold maxLen at hc2; omega
  clear h hN
  cases hlong : decide (300 < N)
  · have hl3 : decide ((300 : Int) < (N : Int)) = false := by simp at hlong ⊢; omega
    clear hlong
    go_enter Try.func7, Try.ntmps7
    go_wp2_with (first
      | (go_at_call 8; refine (alive_any w0).mono ?_; rintro e w1 ⟨rfl, hb1⟩; have B1 := hid hb1; clear hb1)
      | (go_at_call 24; refine (new_any _).mono ?_; rintro e w2 ⟨rfl, hv2, hb2⟩; obtain ⟨G, hG⟩ : ∃ G, w1.heap.size = G := ⟨_, rfl⟩; rw [hG] at hv2 ⊢; have V2 := hid hv2; have B2 := hid (bt B1.out hb2); have HG := hid (show w0.heap.size ≤ G by have := B1.out.size; omega); clear hv2 hb2))
    go_loopw [6] (fun i wr => ∃ k : Nat, k ≤ N ∧ i = .int .i64 k ∧ (∃ l, Vc wr G l) ∧ Below w0.heap.size w0 wr) (fun i _ => N - (intOf i).toNat)
    case atStart => exact ⟨0, by omega, rfl, ⟨_, V2.out⟩, B2.out⟩
    case round =>
      clear B1 V2 B2 hG hw0
      obtain ⟨k, hk, rfl, ⟨l, hv⟩, hb⟩ := hrel
      have V := hid hv
      have B := hid hb
      have HLV := hid hv.1
      by_cases hlt : k < N
      · have hlt' : (k : Int) < (N : Int) := by omega
        have hqs : 0 < qs.length := by have := HN.out; omega
        obtain ⟨g, off, c', e, _, _, hg, _⟩ := HQ.out.inv hqs
        rw [HN.out] at e
        simp only [Value.slice.injEq] at e
        obtain ⟨rfl, _, rfl⟩ := e
        have hki : k < qs.length := by have := HN.out; omega
        obtain ⟨x, hx⟩ : ∃ x, (qs[k]).1 = x := ⟨_, rfl⟩
        obtain ⟨y, hy⟩ : ∃ y, (qs[k]).2 = y := ⟨_, rfl⟩
        have HC := hid (fun (W : World) (hW : Below w0.heap.size w0 W) => by have := Ns.two (HQ.out.below hW) k hki; rw [hx, hy] at this; exact this : ∀ W, Below w0.heap.size w0 W → W.cell? ⟨g, off + k * 2, none⟩ = some (.int .i64 x) ∧ W.cell? ⟨g, off + k * 2 + 1, none⟩ = some (.int .i64 y))
        obtain ⟨m0, m1⟩ := HC.out _ hb
        have hcase : (hasV l x y = true ∧ addV l x y = 12) ∨ (hasV l x y = false ∧ addV l x y = 0 ∧ hasV (putV l x y) x y = true) ∨ ∃ z, hasV l x y = false ∧ addV l x y = z ∧ (z == 12) = false ∧ (z == 0) = false := by
          by_cases h1 : hasV l x y = true
          · exact .inl ⟨h1, has_there.1 h1⟩
          · have h1' : hasV l x y = false := by simpa using h1
            by_cases h2 : addV l x y = 0
            · exact .inr (.inl ⟨h1', h2, has_put HLV.out h2⟩)
            · exact .inr (.inr ⟨_, h1', rfl, by simpa using fun e => h1 (has_there.2 e), by simpa using h2⟩)
        clear hx hy hv hb hqs hki
        rcases hcase with ⟨e1, e2⟩ | ⟨e1, e2, e3⟩ | ⟨z, e1, e2, e3, e4⟩
        · have E1 := hid e1
          have E2 := hid e2
          clear e1 e2
          go_wp2_with (first
            | (go_at_call 16; refine (has_any G l x y _ V.out).mono ?_; rintro e w3 ⟨rfl, hb3⟩; rw [E1.out]; have V3 := hid (V.out.below hb3); have B3 := hid (bt B.out hb3); obtain ⟨n0, n1⟩ := HC.out _ B3.out; clear hb3)
            | (go_at_call 25; refine (add_any G l x y _ V3.out).mono ?_; rintro e w4 ⟨rfl, hv4, hf4⟩; rw [E2.out]; have V4 := hid hv4; have B4 := hid (B3.out.trans (hf4.below (fun i hi e => by have := HG.out; omega) B3.out.size)); clear hv4 hf4))
          go_roundw
          case rel => exact ⟨k + 1, by omega, by go_num, ⟨_, V4.out⟩, B4.out⟩
          case measure => simp [intOf]; omega
        · have E1 := hid e1
          have E2 := hid e2
          have E3 := hid e3
          clear e1 e2 e3
          go_wp2_with (first
            | (go_at_call 16; have V4' := V4.out; refine (has_any G (putV l x y) x y _ V4.out).mono ?_; rintro e w5 ⟨rfl, hb5⟩; rw [E3.out]; have V5 := hid (V4.out.below hb5); have B5 := hid (bt B4.out hb5); clear hb5)
            | (go_at_call 16; refine (has_any G l x y _ V.out).mono ?_; rintro e w3 ⟨rfl, hb3⟩; rw [E1.out]; have V3 := hid (V.out.below hb3); have B3 := hid (bt B.out hb3); obtain ⟨n0, n1⟩ := HC.out _ B3.out; clear hb3)
            | (go_at_call 25; refine (add_any G l x y _ V3.out).mono ?_; rintro e w4 ⟨rfl, hv4, hf4⟩; rw [E2.out]; have V4 := hid hv4; have B4 := hid (B3.out.trans (hf4.below (fun i hi e => by have := HG.out; omega) B3.out.size)); obtain ⟨p0, p1⟩ := HC.out _ B4.out; clear hv4 hf4))
          go_roundw
          case rel => exact ⟨k + 1, by omega, by go_num, ⟨_, V5.out⟩, B5.out⟩
          case measure => simp [intOf]; omega
        · have E1 := hid e1
          have E2 := hid e2
          clear e1 e2
          go_wp2_with (first
            | (go_at_call 16; refine (has_any G l x y _ V.out).mono ?_; rintro e w3 ⟨rfl, hb3⟩; rw [E1.out]; have V3 := hid (V.out.below hb3); have B3 := hid (bt B.out hb3); obtain ⟨n0, n1⟩ := HC.out _ B3.out; clear hb3)
            | (go_at_call 25; refine (add_any G l x y _ V3.out).mono ?_; rintro e w4 ⟨rfl, hv4, hf4⟩; rw [E2.out]; have V4 := hid hv4; have B4 := hid (B3.out.trans (hf4.below (fun i hi e => by have := HG.out; omega) B3.out.size)); clear hv4 hf4))
          go_roundw
          case rel => exact ⟨k + 1, by omega, by go_num, ⟨_, V4.out⟩, B4.out⟩
          case measure => simp [intOf]; omega
      · obtain rfl : k = N := by omega
        have q0 := (HI.out.below hb).c0
        have q1 := (HI.out.below hb).c1
        obtain ⟨z, hz⟩ : ∃ z, nextV l r = z := ⟨_, rfl⟩
        have HZ := hid hz
        have hcase : (hasV l r n = true ∧ decide (n < z) = true) ∨ (hasV l r n = true ∧ decide (n < z) = false ∧ (z == 0) = true) ∨ (hasV l r n = false ∧ decide (z ≤ n) = true) ∨ (hasV l r n = false ∧ decide (z ≤ n) = false ∧ decide (n < 1) = true) := by
          rw [← hz]
          cases e : hasV l r n
          · have := not_next HLV.out e; simp; omega
          · have := has_next HLV.out e; simp; omega
        clear hz hv hb
        rcases hcase with ⟨e1, e2⟩ | ⟨e1, e2, e3⟩ | ⟨e1, e2⟩ | ⟨e1, e2, e3⟩
        all_goals
          have E1 := hid e1
          clear e1
          go_wp2_with (first
            | (go_at_call 18; refine (next_any G l r _ V.out).mono ?_; rintro e w3 ⟨rfl, rfl⟩; rw [HZ.out])
            | (go_at_call 16; refine (has_any G l r n _ V.out).mono ?_; rintro e w3 ⟨rfl, hb3⟩; rw [E1.out]; have B3 := hid (bt B.out hb3); have r0 := (HI.out.below B3.out).c0; have r1 := (HI.out.below B3.out).c1; clear hb3))
          go_ret
          exact ⟨rfl, bt HB0.out B3.out⟩
  · have hl3 : decide ((300 : Int) < (N : Int)) = true := by simp at hlong ⊢; omega
    clear hlong
    go_enter Try.func7, Try.ntmps7
    go_wp2_with (go_at_call 8; refine (alive_any w0).mono ?_; rintro e w1 ⟨rfl, hb1⟩; have B1 := hid hb1; clear hb1)
    go_ret
    exact ⟨rfl, bt HB0.out B1.out⟩

namespace vecHas
open Go.ChangeShapes Go.WideShapes Go.ChangeAt
open Go.ChangeMaps (open_string shut_string)

theorem own : ownKnob Try.prog.godebug = none := by kernel_rfl
theorem laidOut : laidOutB Try.prog = true := by kernel_rfl

set_option maxRecDepth 100000 in
theorem lifted (os : Os) (started : os.Started) (H : Type) (enc : TypeId × Value → H) :
    ReturnsInHanded {} Try.checked os 7 .any (Rows.vecHasSpec.pre6 enc Try.prog Try.f7 Rows.vecHasRow.domain false) (Rows.vecHasSpec.post enc Try.prog Try.f7 false true false false) := by
  refine returnsInHanded_of_change (C := Try.checked) own started (by kernel_rfl) Try.func7
    (ChangeSpec.witness6 (enc := enc) (C := Try.checked) false ⟨#[], #[.slice none 0 0, idv 0 0], []⟩ 8 (by kernel_rfl) (by kernel_rfl) (by kernel_rfl) (by kernel_rfl)) ?_
  intro W base args ds gs before hval0 hW hcnd _
  have hval : ∀ (j : Nat) t v, Try.f7.params[j]? = some t → args[j]? = some v → Value.okWide Try.prog W .any base t v := hval0
  have hW' := hW
  obtain ⟨p, q, hA0, hV, rfl, hfz, hnd⟩ := hW
  have hA : DataW.TrodAll enc Try.prog W 0 (fun _ => true) true Try.f7.params.toList args.toList ds p := hA0
  rw [Try.params7] at hA hval
  obtain ⟨v0, vs0, d0, ds0, p0, q0, hargs, rfl, rfl, h0, r0⟩ := trodAll_cons hA
  obtain ⟨v1, vs1, d1, ds1, p1, q1, rfl, rfl, rfl, h1, r1⟩ := trodAll_cons r0
  obtain ⟨rfl, rfl, rfl⟩ := trodAll_nil r1
  obtain rfl : args = #[v0, v1] := by cases args; simp_all
  obtain ⟨rfl, rfl⟩ := trodVars_none hV
  obtain ⟨a0, len0, cap0, rfl⟩ := okWide_slice Try.underlying44 (hval 0 44 v0 rfl rfl)
  have k0 := h0
  have lt0 : ∀ x ∈ p0, x.block < W.heap.size := by obtain ⟨m, hm⟩ := k0; exact DataW.trod_lt m _ _ _ hm
  obtain ⟨z0, w0⟩ := Ns.open h0
  have k1 := h1
  have lt1 : ∀ x ∈ p1, x.block < W.heap.size := by obtain ⟨m, hm⟩ := k1; exact DataW.trod_lt m _ _ _ hm
  obtain ⟨a1, c1, rfl⟩ := open_id (hval 1 24 v1 rfl rfl) h1
  clear hA0 hval0
  refine (has_law _ z0 a1 c1 W w0).mono fun e W' ⟨he, bel⟩ => ?_
  subst he
  exact ⟨_, rfl, _, _, _, [], _, [], hW', trodAll_mk1 (shut_bool Try.underlying4 _), (trodAll_cons_mk (Below.trod laidOut (by kernel_rfl) (of_decide_eq_true (by kernel_rfl)) k0 bel lt0) (trodAll_cons_mk (Below.trod laidOut (by kernel_rfl) (of_decide_eq_true (by kernel_rfl)) k1 bel lt1) trodAll_mk0)), rfl, bel.frame _, fun h => by cases h⟩

theorem over : Rows.vecHasRow.holds Try.pinned (OpenSpec.ofChange Rows.vecHasSpec) :=
  OpenClaim.holds_of_wide 7 Try.f7 rfl rfl rfl rfl rfl rfl rfl ⟨rfl, rfl, rfl, rfl, rfl⟩ rfl rfl rfl rfl rfl (by kernel_rfl) Try.func7 (by kernel_rfl)
    (of_decide_eq_true (by kernel_rfl)) (by unfold Func.isWrapper; first | (rw [if_pos (by decide +kernel)]; kernel_rfl) | (rw [if_neg (by decide +kernel)]; exact ⟨rfl, rfl⟩))
    (fun os started H enc _ => lifted os started H enc)
end vecHas

/-- THE STATEMENT. -/
theorem vecHas_holds : Rows.VecHasSaid := vecHas.over


end Go.Proofs.Ytkcjkncpaopjbaa
