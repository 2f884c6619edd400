/-
  For all numbers n and m the law FracRow returns true: a row's keys rise, and each is right; a longer row begins with a shorter one. No condition.
-/
import Derived.Test.YtobnnidlpbnbkaaFAlive
import Derived.ProofKit
import Derived.OpenShut
import Derived.ShutString
import Derived.ChangeOld
import Derived.Below
namespace Go.Proofs.Ytobnnidlpbnbkaa
open Go.RowKit
set_option linter.unusedVariables false

theorem kt_right {j : Nat} (h : j < 400) (w : World) : Calls Try.prog 10 #[.string (kt j)] w fun e w' => e = .returned (.bool true) ∧ w' = w := by
  have := right_any (kt j) w (by have := nth_size (i := j + 1) (by omega); unfold kt; omega)
  unfold kt at this
  rw [tx_str (K.nth_byt (j + 1) (by omega)), (K.nth_right h).1] at this
  exact this.mono fun _ _ h => ⟨h.1, h.2.symm⟩
theorem kt_order {k : Nat} (h0 : 0 < k) (h : k < 400) : ∃ x : Int, decide (0 ≤ x) = false ∧ ∀ w : World, Calls Try.prog 12 #[.string (kt (k - 1)), .string (kt k)] w fun e w' => e = .returned (.int .i64 x) ∧ w' = w := by
  obtain ⟨j, rfl⟩ : ∃ j, k = j + 1 := ⟨k - 1, by omega⟩
  rw [Nat.add_sub_cancel]
  refine ⟨K.ord (tx (kt j)) (tx (kt (j + 1))), ?_, fun w => (order_any _ _ w).mono fun _ _ h => ⟨h.1, h.2.symm⟩⟩
  rw [K.ord_geq]
  unfold kt
  rw [tx_str (K.nth_byt _ (by omega)), tx_str (K.nth_byt _ (by omega)), (K.nth_right (i := j + 1) (by omega)).2]
  rfl
theorem rn_le (n : Int) : rn n ≤ 400 := by unfold rn; split <;> omega

set_option maxHeartbeats 2000000 in
set_option maxRecDepth 100000 in
theorem rowlaw_no (n m : Int) (w : World) (h : n < 0 ∨ 400 < n) :
    Calls Try.prog 6 #[.int .i64 n, .int .i64 m] w fun e w' => e = .returned (.bool true) ∧ Below w.heap.size w w' := by
  have hc : decide (n < 0) = true ∨ (decide (n < 0) = false ∧ decide (400 < n) = true) := by simp; omega
  have HN := hid (fun W => row_none n W h)
  clear h
  rcases hc with hc | ⟨hc, hd⟩
  all_goals
    go_enter Try.func6, Try.ntmps6
    go_wp2_with fail
    refine (alive_any _).mono ?_
    rintro e w1 ⟨rfl, b1⟩
    go_wp2_with fail
    refine (HN.out _).mono ?_
    rintro e w2 ⟨rfl, rfl⟩
    go_wp2_with fail
    refine (row_any m _).mono ?_
    rintro e w3 ⟨v3, rfl, hs3, b3⟩
    go_wp2
    go_ret
    exact ⟨rfl, bt b1 b3⟩

set_option maxHeartbeats 4000000 in
set_option maxRecDepth 100000 in
theorem rowlaw_yes (n : Nat) (m : Int) (w : World) (h : n ≤ 400) :
    Calls Try.prog 6 #[.int .i64 n, .int .i64 m] w fun e w' => e = .returned (.bool true) ∧ Below w.heap.size w w' := by
  have h0 : decide ((n : Int) < 0) = false := by simp
  have h4 : decide (400 < (n : Int)) = false := by simp; omega
  have hnn : ((n : Int) != (n : Int)) = false := by simp
  have hm := rn_le m
  have HM := hid (fun W => row_any m W)
  obtain ⟨M, eM⟩ : ∃ M, rn m = M := ⟨_, rfl⟩
  rw [eM] at HM hm
  clear eM
  have HN := hid (fun W => row_some n W h)
  go_enter Try.func6, Try.ntmps6
  go_wp2_with fail
  refine (alive_any _).mono ?_
  rintro e w1 ⟨rfl, b1⟩
  go_wp2_with fail
  refine (HN.out _).mono ?_
  rintro e w2 ⟨v2, rfl, hown2, b2⟩
  go_wp2_with fail
  refine (HM.out _).mono ?_
  rintro e w3 ⟨v3, rfl, hs3, b3⟩
  have hs2 := (Ss.of_own hown2).below b3
  have HS2 := hid hs2
  have HS3 := hid hs3
  obtain ⟨a2, c2, rfl, hc2⟩ := hs2.form
  obtain ⟨a3, c3, rfl, hc3⟩ := hs3.form
  rw [kts_length] at hc2 hc3 HS2 HS3 ⊢
  rw [kts_length]
  have B := hid (bt b1 (bt b2 b3))
  clear hs2 hs3 hown2 b1 b2 b3 HM HN
  go_wp2
  go_loopw [7] (fun ii wr => ∃ k : Nat, k ≤ n ∧ ii = .int .i64 k ∧ Ss wr (.slice a2 n c2) (kts n) ∧ Ss wr (.slice a3 M c3) (kts M) ∧ Below w.heap.size w wr) (fun ii _ => n + 1 - (intOf ii).toNat)
  case atStart => exact ⟨0, Nat.zero_le _, rfl, HS2.out, HS3.out, B.out⟩
  case round =>
    clear HS2 HS3 B
    obtain ⟨k, hk, rfl, hS2, hS3, hB⟩ := hrel
    have HS2 := hid hS2
    have HS3 := hid hS3
    have B := hid hB
    clear hS2 hS3 hB
    by_cases hkn : k < n
    · have hi2 := HS2.out.inv (by rw [kts_length]; omega)
      rw [kts_length] at hi2
      obtain ⟨g2, o2, d2, e2, _, _, hcell2⟩ := hi2
      simp only [Value.slice.injEq] at e2
      obtain ⟨rfl, -, rfl⟩ := e2
      have hx := hcell2 k hkn
      rw [kts_getD hkn] at hx
      have HR := hid (fun W => kt_right (j := k) (by omega) W)
      have hkn' : (k : Int) < (n : Int) := by omega
      by_cases hk0 : 0 < k
      · have hy := hcell2 (k - 1) (by omega)
        rw [kts_getD (by omega)] at hy
        obtain ⟨x, hxx, hord⟩ := kt_order hk0 (by omega)
        have HO := hid hord
        have hg0 : (0 : Int) < (k : Int) := by omega
        have hg1 : (k : Int) - 1 < (n : Int) := by omega
        have hg2 : (0 : Int) ≤ (k : Int) - 1 := by omega
        have hg3 : ((k : Int) - 1).toNat = k - 1 := by omega
        clear hord hcell2
        by_cases hkm : k < M
        · have hi3 := HS3.out.inv (by rw [kts_length]; omega)
          rw [kts_length] at hi3
          obtain ⟨g3, o3, d3, e3, _, _, hcell3⟩ := hi3
          simp only [Value.slice.injEq] at e3
          obtain ⟨rfl, -, rfl⟩ := e3
          have hz := hcell3 k hkm
          rw [kts_getD hkm] at hz
          have hkm' : (k : Int) < (M : Int) := by omega
          have hee := beq_refl (kt k)
          clear hcell3
          go_wp2
          go_quiet ((first
            | (go_at_call 10; exact Calls.quiet_of_same (HR.out _))
            | (go_at_call 12; exact Calls.quiet_of_same (HO.out _))))
          go_wp2
          go_roundw
          case rel => exact ⟨k + 1, by omega, by go_num, HS2.out.drewN _, HS3.out.drewN _, below_drewN B.out _⟩
          case measure => simp [intOf]; omega
        · have hkm' : decide ((k : Int) < (M : Int)) = false := by simp; omega
          go_wp2
          go_quiet ((first
            | (go_at_call 10; exact Calls.quiet_of_same (HR.out _))
            | (go_at_call 12; exact Calls.quiet_of_same (HO.out _))))
          go_wp2
          go_roundw
          case rel => exact ⟨k + 1, by omega, by go_num, HS2.out.drewN _, HS3.out.drewN _, below_drewN B.out _⟩
          case measure => simp [intOf]; omega
      · have hg0 : decide ((0 : Int) < (k : Int)) = false := by simp; omega
        clear hcell2
        by_cases hkm : k < M
        · have hi3 := HS3.out.inv (by rw [kts_length]; omega)
          rw [kts_length] at hi3
          obtain ⟨g3, o3, d3, e3, _, _, hcell3⟩ := hi3
          simp only [Value.slice.injEq] at e3
          obtain ⟨rfl, -, rfl⟩ := e3
          have hz := hcell3 k hkm
          rw [kts_getD hkm] at hz
          have hkm' : (k : Int) < (M : Int) := by omega
          have hee := beq_refl (kt k)
          clear hcell3
          go_wp2
          go_quiet ((go_at_call 10; exact Calls.quiet_of_same (HR.out _)))
          go_wp2
          go_roundw
          case rel => exact ⟨k + 1, by omega, by go_num, HS2.out.drewN _, HS3.out.drewN _, below_drewN B.out _⟩
          case measure => simp [intOf]; omega
        · have hkm' : decide ((k : Int) < (M : Int)) = false := by simp; omega
          go_wp2
          go_quiet ((go_at_call 10; exact Calls.quiet_of_same (HR.out _)))
          go_wp2
          go_roundw
          case rel => exact ⟨k + 1, by omega, by go_num, HS2.out.drewN _, HS3.out.drewN _, below_drewN B.out _⟩
          case measure => simp [intOf]; omega
    · obtain rfl : k = n := by omega
      go_wp2
      go_ret
      exact ⟨rfl, B.out⟩

theorem rowlaw_any (n m : Int) (w : World) (wn : (Lit.int .i64 n).wf = true) (wm : (Lit.int .i64 m).wf = true) :
    Calls Try.prog 6 #[.int .i64 n, .int .i64 m] w fun e w' => e = .returned (.bool true) ∧ Below w.heap.size w w' := by
  by_cases h : n < 0 ∨ 400 < n
  · exact rowlaw_no n m w h
  · obtain ⟨k, rfl⟩ : ∃ k : Nat, n = k := ⟨n.toNat, by omega⟩
    exact rowlaw_yes k m w (by omega)

namespace fracRow
open Go.ChangeShapes Go.WideShapes Go.ChangeAt
open Go.ChangeMaps (open_string shut_string)

theorem own : ownKnob Try.prog.godebug = none := by kernel_rfl
theorem laidOut : laidOutB Try.prog = true := by kernel_rfl

set_option maxRecDepth 100000 in
theorem lifted (os : Os) (started : os.Started) (H : Type) (enc : TypeId × Value → H) :
    ReturnsInHanded {} Try.checked os 6 .any (Rows.fracRowSpec.pre6 enc Try.prog Try.f6 Rows.fracRowRow.domain false) (Rows.fracRowSpec.post enc Try.prog Try.f6 false true false false) := by
  refine returnsInHanded_of_change (C := Try.checked) own started (by kernel_rfl) Try.func6
    (ChangeSpec.witness6 (enc := enc) (C := Try.checked) false ⟨#[], #[.int .i64 0, .int .i64 0], []⟩ 8 (by kernel_rfl) (by kernel_rfl) (by kernel_rfl) (by kernel_rfl)) ?_
  intro W base args ds gs before hval0 hW hcnd _
  have hval : ∀ (j : Nat) t v, Try.f6.params[j]? = some t → args[j]? = some v → Value.okWide Try.prog W .any base t v := hval0
  have hW' := hW
  obtain ⟨p, q, hA0, hV, rfl, hfz, hnd⟩ := hW
  have hA : DataW.TrodAll enc Try.prog W 0 (fun _ => true) true Try.f6.params.toList args.toList ds p := hA0
  rw [Try.params6] at hA hval
  obtain ⟨v0, vs0, d0, ds0, p0, q0, hargs, rfl, rfl, h0, r0⟩ := trodAll_cons hA
  obtain ⟨v1, vs1, d1, ds1, p1, q1, rfl, rfl, rfl, h1, r1⟩ := trodAll_cons r0
  obtain ⟨rfl, rfl, rfl⟩ := trodAll_nil r1
  obtain rfl : args = #[v0, v1] := by cases args; simp_all
  obtain ⟨rfl, rfl⟩ := trodVars_none hV
  obtain ⟨a0, rfl, rfl, rfl, w0⟩ := open_int Try.underlying3 (hval 0 3 v0 rfl rfl) h0
  obtain ⟨a1, rfl, rfl, rfl, w1⟩ := open_int Try.underlying3 (hval 1 3 v1 rfl rfl) h1
  clear hA0 hval0
  simp only [List.append_nil] at hW'
  refine (rowlaw_any a0 a1 W w0 w1).mono fun e W' ⟨he, bel⟩ => ?_
  subst he
  exact ⟨_, rfl, _, _, _, [], [], [], hW', trodAll_mk1 (shut_bool Try.underlying4 _), (trodAll_cons_mk (shut_int Try.underlying3 w0) (trodAll_cons_mk (shut_int Try.underlying3 w1) trodAll_mk0)), rfl, bel.frame _, fun h => by cases h⟩

theorem over : Rows.fracRowRow.holds Try.pinned (OpenSpec.ofChange Rows.fracRowSpec) :=
  OpenClaim.holds_of_wide 6 Try.f6 rfl rfl rfl rfl rfl rfl rfl ⟨rfl, rfl, rfl, rfl, rfl⟩ rfl rfl rfl rfl rfl (by kernel_rfl) Try.func6 (by kernel_rfl)
    (of_decide_eq_true (by kernel_rfl)) (by unfold Func.isWrapper; first | (rw [if_pos (by decide +kernel)]; kernel_rfl) | (rw [if_neg (by decide +kernel)]; exact ⟨rfl, rfl⟩))
    (fun os started H enc _ => lifted os started H enc)
end fracRow

/-- THE STATEMENT. -/
theorem fracRow_holds : Rows.FracRowSaid := fracRow.over


end Go.Proofs.Ytobnnidlpbnbkaa
