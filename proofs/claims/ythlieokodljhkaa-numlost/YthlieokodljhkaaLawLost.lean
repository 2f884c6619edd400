/-
  For every list of bytes and every row of questions the law NumLost returns true: a lost cursor takes nothing any more. No condition.
-/
import Derived.Test.YthlieokodljhkaaAlive
import Derived.Test.YthlieokodljhkaaLeaves
import Derived.Test.YthlieokodljhkaaCalls
import Derived.ProofKit
import Derived.OpenShut
import Derived.ShutString
import Derived.ChangeOld
import Derived.Below
namespace Go.Proofs.Ythlieokodljhkaa
open Go.RowKit
set_option linter.unusedVariables false

set_option maxHeartbeats 4000000 in
set_option maxRecDepth 100000 in
theorem lostlaw_any (v : Value) (xs : List Int) (u : Value) (qs : List (Int × Int)) (w : World) (hv : Bs w v xs) (hu : Cl w u qs) :
    Calls Try.prog 8 #[v, u] w fun e w' => e = .returned (.bool true) ∧ Below w.heap.size w w' := by
  have l1 := hv.len
  have l2 := hu.len
  unfold maxLen at l1 l2
  have HV := hid hv
  have HU := hid hu
  have hv' := hv
  have hu' := hu
  obtain ⟨a, c, rfl, _⟩ := hv'
  obtain ⟨a2, c2, rfl, _⟩ := hu'
  clear hv hu
  by_cases hg : 5000 < xs.length ∨ 200 < qs.length
  · by_cases hg1 : 5000 < xs.length
    all_goals
      go_enter Try.func8, Try.ntmps8
      go_wp2_with fail
      refine (alive_any _).mono ?_
      rintro e w1 ⟨rfl, b1⟩
      go_wp2
      go_ret
      exact ⟨rfl, b1⟩
  · have hx5 : xs.length ≤ 5000 := by omega
    have hq2 : qs.length ≤ 200 := by omega
    clear hg
    go_enter Try.func8, Try.ntmps8
    go_wp2_with fail
    refine (alive_any _).mono ?_
    rintro e w1 ⟨rfl, b1⟩
    go_wp2_with fail
    refine (at_any _ _ _ (HV.out.below b1) (by omega)).mono ?_
    rintro e w2 ⟨bc, rfl, hbc, hcur, b2⟩
    have hbc0 : w.heap.size ≤ bc := Nat.le_trans b1.size hbc
    have b02 := bt b1 b2
    have hu2 := HU.out.keeps (Keeps.below b02)
    clear b1 b2 hbc HU HV
    have HU2 := hid hu2
    clear hu2
    go_wp2
    go_loopw [6, 7] (fun lo i wr => ∃ (k : Nat) (ys : List Int) (l : Bool), k ≤ qs.length ∧ i = .int .i64 k ∧ lo = .bool l ∧ Cur 47 wr bc ys l ∧ (l = true → ys = []) ∧ ys.length ≤ 5000 ∧ Below w.heap.size w wr ∧ Keeps w2 wr)
      (fun _ i _ => qs.length - (intOf i).toNat)
    case atStart => exact ⟨0, xs, false, Nat.zero_le _, rfl, rfl, hcur, (fun e => by cases e), hx5, b02, Keeps.refl _⟩
    case round =>
      clear hcur b02
      obtain ⟨k, ys, l, hk, rfl, rfl, hcur, hly, hy5, bel, hkp⟩ := hrel
      have HC := hid hcur
      have HLY := hid hly
      clear hcur hly
      by_cases hlt : k < qs.length
      · obtain ⟨a3, c3, hue, hc31, hc32, hcell⟩ := HU2.out.keeps hkp
        obtain ⟨qb, qo, hq, hq0, hq1⟩ := hcell k hlt
        simp only [Value.slice.injEq, true_and] at hue
        obtain ⟨rfl, rfl⟩ := hue
        subst hq
        obtain ⟨⟨what, N⟩, hqq⟩ : ∃ q, qs.getD k (0, 0) = q := ⟨_, rfl⟩
        rw [hqq] at hq0 hq1
        clear hqq hcell
        by_cases w0 : what = 0
        · subst w0
          go_wp2_with fail
          refine (num_any bc _ _ N _ HC.out).mono ?_
          rintro e w3 ⟨rfl, hc3, g3⟩
          have hL := leaves_num N ys l HLY.out
          have bel3 := bg bel g3 hbc0
          have hkp3 := hkp.trans (HC.out.keeps g3)
          have hL0 : True := trivial
          generalize M.numV N ys = nv at hL ⊢
          generalize M.numS N ys = ys1 at hL hc3
          generalize M.numL N ys l = l1 at hL hc3
          clear HC HLY bel hkp hq0 hq1 hL0
          cases l1 with
          | true =>
            obtain ⟨rfl, rfl⟩ := hL.1 rfl
            cases l with
            | true =>
              clear hL
              go_wp2_with (first
                | (go_at_call 23; refine (lost_any bc _ _ _ hc3).mono ?_; rintro e w' ⟨rfl, rfl⟩)
                | (go_at_call 24; refine (left_any bc _ _ _ hc3).mono ?_; rintro e w' ⟨rfl, rfl⟩)
                | (go_at_call 25; refine (end_any bc _ _ _ hc3).mono ?_; rintro e w' ⟨rfl, rfl⟩))
              go_roundw
              case rel => exact ⟨k + 1, [], true, by omega, by go_num, rfl, hc3, fun _ => rfl, by simp, bel3, hkp3⟩
              case measure => simp [intOf]; omega
            | false =>
              clear hL
              go_wp2_with (first
                | (go_at_call 23; refine (lost_any bc _ _ _ hc3).mono ?_; rintro e w' ⟨rfl, rfl⟩)
                | (go_at_call 24; refine (left_any bc _ _ _ hc3).mono ?_; rintro e w' ⟨rfl, rfl⟩)
                | (go_at_call 25; refine (end_any bc _ _ _ hc3).mono ?_; rintro e w' ⟨rfl, rfl⟩))
              go_roundw
              case rel => exact ⟨k + 1, [], true, by omega, by go_num, rfl, hc3, fun _ => rfl, by simp, bel3, hkp3⟩
              case measure => simp [intOf]; omega
          | false =>
            cases l with
            | true => have := hL.2.1 rfl; cases this
            | false =>
              have hle := hL.2.2
              clear hL
              go_wp2_with (first
                | (go_at_call 23; refine (lost_any bc _ _ _ hc3).mono ?_; rintro e w' ⟨rfl, rfl⟩)
                | (go_at_call 24; refine (left_any bc _ _ _ hc3).mono ?_; rintro e w' ⟨rfl, rfl⟩)
                | (go_at_call 25; refine (end_any bc _ _ _ hc3).mono ?_; rintro e w' ⟨rfl, rfl⟩))
              go_roundw
              case rel => exact ⟨k + 1, ys1, false, by omega, by go_num, rfl, hc3, (fun e => by cases e), by omega, bel3, hkp3⟩
              case measure => simp [intOf]; omega
        · by_cases w1' : what = 1
          · subst w1'
            go_wp2_with fail
            refine (text_any bc _ _ N _ HC.out).mono ?_
            rintro e w3 ⟨rfl, hc3, g3⟩
            have hL := leaves_text N ys l HLY.out
            have bel3 := bg bel g3 hbc0
            have hkp3 := hkp.trans (HC.out.keeps g3)
            have hL0 := str_size (M.textV N ys)
            rw [← hL0] at hL
            generalize M.str (M.textV N ys) = st at hL hL0 ⊢
            generalize M.textS N ys = ys1 at hL hc3
            generalize M.textL N ys l = l1 at hL hc3
            clear HC HLY bel hkp hq0 hq1 hL0
            cases l1 with
            | true =>
              obtain ⟨hs0, rfl⟩ := hL.1 rfl
              cases l with
              | true =>
                clear hL
                go_wp2_with (first
                  | (go_at_call 23; refine (lost_any bc _ _ _ hc3).mono ?_; rintro e w' ⟨rfl, rfl⟩)
                  | (go_at_call 24; refine (left_any bc _ _ _ hc3).mono ?_; rintro e w' ⟨rfl, rfl⟩)
                  | (go_at_call 25; refine (end_any bc _ _ _ hc3).mono ?_; rintro e w' ⟨rfl, rfl⟩))
                go_roundw
                case rel => exact ⟨k + 1, [], true, by omega, by go_num, rfl, hc3, fun _ => rfl, by simp, bel3, hkp3⟩
                case measure => simp [intOf]; omega
              | false =>
                clear hL
                go_wp2_with (first
                  | (go_at_call 23; refine (lost_any bc _ _ _ hc3).mono ?_; rintro e w' ⟨rfl, rfl⟩)
                  | (go_at_call 24; refine (left_any bc _ _ _ hc3).mono ?_; rintro e w' ⟨rfl, rfl⟩)
                  | (go_at_call 25; refine (end_any bc _ _ _ hc3).mono ?_; rintro e w' ⟨rfl, rfl⟩))
                go_roundw
                case rel => exact ⟨k + 1, [], true, by omega, by go_num, rfl, hc3, fun _ => rfl, by simp, bel3, hkp3⟩
                case measure => simp [intOf]; omega
            | false =>
              cases l with
              | true => have := hL.2.1 rfl; cases this
              | false =>
                have hle := hL.2.2
                clear hL
                go_wp2_with (first
                  | (go_at_call 23; refine (lost_any bc _ _ _ hc3).mono ?_; rintro e w' ⟨rfl, rfl⟩)
                  | (go_at_call 24; refine (left_any bc _ _ _ hc3).mono ?_; rintro e w' ⟨rfl, rfl⟩)
                  | (go_at_call 25; refine (end_any bc _ _ _ hc3).mono ?_; rintro e w' ⟨rfl, rfl⟩))
                go_roundw
                case rel => exact ⟨k + 1, ys1, false, by omega, by go_num, rfl, hc3, (fun e => by cases e), by omega, bel3, hkp3⟩
                case measure => simp [intOf]; omega
          · by_cases w2' : what = 2
            · subst w2'
              go_wp2_with fail
              refine (bytes_any bc _ _ N _ HC.out (by omega)).mono ?_
              rintro e w3 ⟨v3, rfl, hb3, hc3, g3⟩
              have hL := leaves_take N ys l HLY.out
              have bel3 := bg bel g3 hbc0
              have hkp3 := hkp.trans (HC.out.keeps g3)
              have hL0 : True := trivial
              obtain ⟨a4, c4, rfl, _⟩ := hb3
              generalize M.takeV N ys = tv at hL ⊢
              generalize M.takeS N ys = ys1 at hL hc3
              generalize M.takeL N ys l = l1 at hL hc3
              clear HC HLY bel hkp hq0 hq1 hL0
              cases l1 with
              | true =>
                obtain ⟨hs0, rfl⟩ := hL.1 rfl
                cases l with
                | true =>
                  clear hL
                  go_wp2_with (first
                    | (go_at_call 23; refine (lost_any bc _ _ _ hc3).mono ?_; rintro e w' ⟨rfl, rfl⟩)
                    | (go_at_call 24; refine (left_any bc _ _ _ hc3).mono ?_; rintro e w' ⟨rfl, rfl⟩)
                    | (go_at_call 25; refine (end_any bc _ _ _ hc3).mono ?_; rintro e w' ⟨rfl, rfl⟩))
                  go_roundw
                  case rel => exact ⟨k + 1, [], true, by omega, by go_num, rfl, hc3, fun _ => rfl, by simp, bel3, hkp3⟩
                  case measure => simp [intOf]; omega
                | false =>
                  clear hL
                  go_wp2_with (first
                    | (go_at_call 23; refine (lost_any bc _ _ _ hc3).mono ?_; rintro e w' ⟨rfl, rfl⟩)
                    | (go_at_call 24; refine (left_any bc _ _ _ hc3).mono ?_; rintro e w' ⟨rfl, rfl⟩)
                    | (go_at_call 25; refine (end_any bc _ _ _ hc3).mono ?_; rintro e w' ⟨rfl, rfl⟩))
                  go_roundw
                  case rel => exact ⟨k + 1, [], true, by omega, by go_num, rfl, hc3, fun _ => rfl, by simp, bel3, hkp3⟩
                  case measure => simp [intOf]; omega
              | false =>
                cases l with
                | true => have := hL.2.1 rfl; cases this
                | false =>
                  have hle := hL.2.2
                  clear hL
                  go_wp2_with (first
                    | (go_at_call 23; refine (lost_any bc _ _ _ hc3).mono ?_; rintro e w' ⟨rfl, rfl⟩)
                    | (go_at_call 24; refine (left_any bc _ _ _ hc3).mono ?_; rintro e w' ⟨rfl, rfl⟩)
                    | (go_at_call 25; refine (end_any bc _ _ _ hc3).mono ?_; rintro e w' ⟨rfl, rfl⟩))
                  go_roundw
                  case rel => exact ⟨k + 1, ys1, false, by omega, by go_num, rfl, hc3, (fun e => by cases e), by omega, bel3, hkp3⟩
                  case measure => simp [intOf]; omega
            · have n0 : (what == 0) = false := by simpa using w0
              have n1 : (what == 1) = false := by simpa using w1'
              have n2 : (what == 2) = false := by simpa using w2'
              have hc3 := HC.out
              have hLY := HLY.out
              clear HC HLY
              cases l with
              | true =>
                obtain rfl := hLY rfl
                go_wp2_with (first
                  | (go_at_call 23; refine (lost_any bc _ _ _ hc3).mono ?_; rintro e w' ⟨rfl, rfl⟩)
                  | (go_at_call 24; refine (left_any bc _ _ _ hc3).mono ?_; rintro e w' ⟨rfl, rfl⟩)
                  | (go_at_call 25; refine (end_any bc _ _ _ hc3).mono ?_; rintro e w' ⟨rfl, rfl⟩))
                go_roundw
                case rel => exact ⟨k + 1, [], true, by omega, by go_num, rfl, hc3, fun _ => rfl, by simp, bel, hkp⟩
                case measure => simp [intOf]; omega
              | false =>
                clear hLY
                go_wp2_with (first
                  | (go_at_call 23; refine (lost_any bc _ _ _ hc3).mono ?_; rintro e w' ⟨rfl, rfl⟩)
                  | (go_at_call 24; refine (left_any bc _ _ _ hc3).mono ?_; rintro e w' ⟨rfl, rfl⟩)
                  | (go_at_call 25; refine (end_any bc _ _ _ hc3).mono ?_; rintro e w' ⟨rfl, rfl⟩))
                go_roundw
                case rel => exact ⟨k + 1, ys, false, by omega, by go_num, rfl, hc3, (fun e => by cases e), hy5, bel, hkp⟩
                case measure => simp [intOf]; omega
      · go_wp2
        go_ret
        exact ⟨rfl, bel⟩


namespace numLost
open Go.ChangeShapes Go.WideShapes Go.ChangeAt
open Go.ChangeMaps (open_string shut_string)

theorem own : ownKnob Try.prog.godebug = none := by kernel_rfl
theorem laidOut : laidOutB Try.prog = true := by kernel_rfl

set_option maxRecDepth 100000 in
theorem lifted (os : Os) (started : os.Started) (H : Type) (enc : TypeId × Value → H) :
    ReturnsInHanded {} Try.checked os 8 .any (Rows.numLostSpec.pre6 enc Try.prog Try.f8 Rows.numLostRow.domain false) (Rows.numLostSpec.post enc Try.prog Try.f8 false true false false) := by
  refine returnsInHanded_of_change (C := Try.checked) own started (by kernel_rfl) Try.func8
    (ChangeSpec.witness6 (enc := enc) (C := Try.checked) false ⟨#[], #[.slice none 0 0, .slice none 0 0], []⟩ 8 (by kernel_rfl) (by kernel_rfl) (by kernel_rfl) (by kernel_rfl)) ?_
  intro W base args ds gs before hval0 hW hcnd _
  have hval : ∀ (j : Nat) t v, Try.f8.params[j]? = some t → args[j]? = some v → Value.okWide Try.prog W .any base t v := hval0
  have hW' := hW
  obtain ⟨p, q, hA0, hV, rfl, hfz, hnd⟩ := hW
  have hA : DataW.TrodAll enc Try.prog W 0 (fun _ => true) true Try.f8.params.toList args.toList ds p := hA0
  rw [Try.params8] at hA hval
  obtain ⟨v0, vs0, d0, ds0, p0, q0, hargs, rfl, rfl, h0, r0⟩ := trodAll_cons hA
  obtain ⟨v1, vs1, d1, ds1, p1, q1, rfl, rfl, rfl, h1, r1⟩ := trodAll_cons r0
  obtain ⟨rfl, rfl, rfl⟩ := trodAll_nil r1
  obtain rfl : args = #[v0, v1] := by cases args; simp_all
  obtain ⟨rfl, rfl⟩ := trodVars_none hV
  obtain ⟨a0, len0, cap0, rfl⟩ := okWide_slice Try.underlying23 (hval 0 23 v0 rfl rfl)
  have k0 := h0
  have lt0 : ∀ x ∈ p0, x.block < W.heap.size := by obtain ⟨m, hm⟩ := k0; exact DataW.trod_lt m _ _ _ hm
  obtain ⟨z0, w0⟩ : ∃ xs, Bs W (.slice a0 len0 cap0) xs := by
    obtain ⟨fuel, hf⟩ := h0
    rcases open_ints Try.underlying23 Try.underlying5 (by kernel_rfl) hf with ⟨hcs, _⟩ | ⟨x, l, c, zs, hcs, _, hl, hm, hz, _, hcell, hwz⟩
    · simp [Value.cells] at hcs
      obtain ⟨rfl, rfl, rfl⟩ := hcs
      exact ⟨[], Bs.nil W⟩
    · simp [Value.cells] at hcs
      obtain ⟨rfl, rfl, rfl⟩ := hcs
      exact ⟨zs.take len0, Bs.of_row hl hm (by simpa using hz) hcell hwz⟩
  obtain ⟨a1, len1, cap1, rfl⟩ := okWide_slice Try.underlying29 (hval 1 29 v1 rfl rfl)
  have k1 := h1
  have lt1 : ∀ x ∈ p1, x.block < W.heap.size := by obtain ⟨m, hm⟩ := k1; exact DataW.trod_lt m _ _ _ hm
  obtain ⟨z1, w1⟩ := Cl.open h1
  clear hA0 hval0
  refine (lostlaw_any _ z0 _ z1 W w0 w1).mono fun e W' ⟨he, bel⟩ => ?_
  subst he
  exact ⟨_, rfl, _, _, _, [], _, [], hW', trodAll_mk1 (shut_bool Try.underlying4 _), (trodAll_cons_mk (Below.trod laidOut (by kernel_rfl) (of_decide_eq_true (by kernel_rfl)) k0 bel lt0) (trodAll_cons_mk (Below.trod laidOut (by kernel_rfl) (of_decide_eq_true (by kernel_rfl)) k1 bel lt1) trodAll_mk0)), rfl, bel.frame _, fun h => by cases h⟩

theorem over : Rows.numLostRow.holds Try.pinned (OpenSpec.ofChange Rows.numLostSpec) :=
  OpenClaim.holds_of_wide 8 Try.f8 rfl rfl rfl rfl rfl rfl rfl ⟨rfl, rfl, rfl, rfl, rfl⟩ rfl rfl rfl rfl rfl (by kernel_rfl) Try.func8 (by kernel_rfl)
    (of_decide_eq_true (by kernel_rfl)) (by unfold Func.isWrapper; first | (rw [if_pos (by decide +kernel)]; kernel_rfl) | (rw [if_neg (by decide +kernel)]; exact ⟨rfl, rfl⟩))
    (fun os started H enc _ => lifted os started H enc)
end numLost

/-- THE STATEMENT. -/
theorem numLost_holds : Rows.NumLostSaid := numLost.over


end Go.Proofs.Ythlieokodljhkaa
