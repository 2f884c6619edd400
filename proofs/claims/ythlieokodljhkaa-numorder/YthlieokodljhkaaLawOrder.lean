/-
  For all numbers a and b the law NumOrder returns true: of two right numbers one is below the other just if its bytes are, and no number's bytes begin with another one's. No condition.
-/
import Derived.Test.YthlieokodljhkaaAlive
import Derived.Test.YthlieokodljhkaaOrder
import Derived.ProofKit
import Derived.OpenShut
import Derived.ShutString
import Derived.ChangeOld
import Derived.Below
namespace Go.Proofs.Ythlieokodljhkaa
open Go.RowKit
set_option linter.unusedVariables false

set_option maxHeartbeats 2000000 in
theorem order_any (a b : Int) (w : World) (wa : (Lit.int .i64 a).wf = true) (wb : (Lit.int .i64 b).wf = true) :
    Calls Try.prog 6 #[.int .i64 a, .int .i64 b] w fun e w' => e = .returned (.bool true) ∧ Below w.heap.size w w' := by
  clear wa wb
  by_cases ra : 0 ≤ a ∧ a < 562949953421312
  · obtain ⟨ha0, ha1⟩ := ra
    by_cases rb : 0 ≤ b ∧ b < 562949953421312
    · obtain ⟨hb0, hb1⟩ := rb
      by_cases hab : a = b
      · subst hab
        go_enter Try.func6, Try.ntmps6
        go_wp2_with fail
        refine (alive_any _).mono ?_
        rintro e w1 ⟨rfl, b1⟩
        go_wp2_with fail
        refine (put_bs a _ ha0 ha1).mono ?_
        rintro e w2 ⟨v2, rfl, h2, b2⟩
        go_wp2_with fail
        refine (put_bs a _ ha0 ha1).mono ?_
        rintro e w3 ⟨v3, rfl, h3, b3⟩
        go_wp2_with fail
        refine (same_b _ _ _ _ _ (h2.below b3) h3).mono ?_
        rintro e w4 ⟨rfl, b4⟩
        go_wp2
        go_ret
        exact ⟨by simp, bt b1 (bt b2 (bt b3 b4))⟩
      · obtain ⟨i, hi1, hi2, hi3, hi4, hi5⟩ := M.enc_first ha0 ha1 hb0 hb1 hab
        have hab' : (a == b) = false := by simpa using hab
        have H3 := hid hi3
        have H4 := hid hi4
        have H5 := hid hi5
        clear hi3 hi4 hi5 hab
        go_enter Try.func6, Try.ntmps6
        go_wp2_with fail
        refine (alive_any _).mono ?_
        rintro e w1 ⟨rfl, b1⟩
        go_wp2_with fail
        refine (put_bs a _ ha0 ha1).mono ?_
        rintro e w2 ⟨v2, rfl, h2, b2⟩
        go_wp2_with fail
        refine (put_bs b _ hb0 hb1).mono ?_
        rintro e w3 ⟨v3, rfl, h3, b3⟩
        have h2' := h2.below b3
        have l2 := h2'.len
        have l3 := h3.len
        unfold maxLen at l2 l3
        obtain ⟨g2, o2, c2, rfl, _, _, hc2⟩ := h2'.inv (by omega)
        obtain ⟨g3, o3, c3, rfl, _, _, hc3⟩ := h3.inv (by omega)
        have C2 := hid hc2
        have C3 := hid hc3
        have b03 : Below w.heap.size w w3 := bt b1 (bt b2 b3)
        clear hc2 hc3 h2 h2' h3 b1 b2 b3
        go_wp2
        go_loopw [9] (fun ii wr => ∃ k m : Nat, k ≤ i ∧ ii = .int .i64 k ∧ wr = w3.drewN m) (fun ii _ => i + 1 - (intOf ii).toNat)
        case atStart => exact ⟨0, 0, Nat.zero_le _, rfl, rfl⟩
        case round =>
          obtain ⟨k, m, hk, rfl, rfl⟩ := hrel
          have hcx := C2.out k (by omega)
          have hcy := C3.out k (by omega)
          have k1 : k < (M.enc a).length := by omega
          have k2 : k < (M.enc b).length := by omega
          have k1' : (k : Int) < ((M.enc a).length : Int) := by omega
          have k2' : (k : Int) < ((M.enc b).length : Int) := by omega
          by_cases hki : k < i
          · have hxy := H3.out k hki
            rw [hxy] at hcx
            generalize (M.enc b).getD k 0 = y at hcx hcy
            clear hxy
            have hne : (y != y) = false := by simp
            go_wp2
            go_quiet (fail)
            go_wp2
            go_roundw
            case rel => exact ⟨k + 1, _, by omega, by go_num, rfl⟩
            case measure => simp [intOf]; omega
          · obtain rfl : k = i := by omega
            have h4 := H4.out
            have h5 := H5.out
            generalize (M.enc b).getD k 0 = y at hcx hcy h4 h5
            generalize (M.enc a).getD k 0 = x at hcx hcy h4 h5
            have hne : (x != y) = true := by simpa using h4
            have H5' := hid h5
            clear h4 h5 H4 H5
            go_wp2
            go_quiet (fail)
            go_wp2
            go_quiet (fail)
            go_wp2
            go_ret
            exact ⟨by simp [H5'.out], below_drewN (below_drewN (below_drewN b03 _) _) _⟩
    · go_enter Try.func6, Try.ntmps6
      go_wp2_with fail
      refine (alive_any _).mono ?_
      rintro e w1 ⟨rfl, b1⟩
      go_wp2_with fail
      refine (put_bs a _ ha0 ha1).mono ?_
      rintro e w2 ⟨v2, rfl, h2, b2⟩
      go_wp2_with fail
      refine (put_wrong b _ (by omega)).mono ?_
      rintro e w3 ⟨rfl, rfl⟩
      go_wp2
      go_ret
      exact ⟨rfl, bt b1 b2⟩
  · by_cases rb : 0 ≤ b ∧ b < 562949953421312
    · go_enter Try.func6, Try.ntmps6
      go_wp2_with fail
      refine (alive_any _).mono ?_
      rintro e w1 ⟨rfl, b1⟩
      go_wp2_with fail
      refine (put_wrong a _ (by omega)).mono ?_
      rintro e w2 ⟨rfl, rfl⟩
      go_wp2_with fail
      refine (put_bs b _ rb.1 rb.2).mono ?_
      rintro e w3 ⟨v3, rfl, h3, b3⟩
      go_wp2
      go_ret
      exact ⟨rfl, bt b1 b3⟩
    · go_enter Try.func6, Try.ntmps6
      go_wp2_with fail
      refine (alive_any _).mono ?_
      rintro e w1 ⟨rfl, b1⟩
      go_wp2_with fail
      refine (put_wrong a _ (by omega)).mono ?_
      rintro e w2 ⟨rfl, rfl⟩
      go_wp2_with fail
      refine (put_wrong b _ (by omega)).mono ?_
      rintro e w3 ⟨rfl, rfl⟩
      go_wp2
      go_ret
      exact ⟨rfl, b1⟩


namespace numOrder
open Go.ChangeShapes Go.WideShapes Go.ChangeAt
open Go.ChangeMaps (open_string shut_string)

theorem own : ownKnob Try.prog.godebug = none := by kernel_rfl
theorem laidOut : laidOutB Try.prog = true := by kernel_rfl

set_option maxRecDepth 100000 in
theorem lifted (os : Os) (started : os.Started) (H : Type) (enc : TypeId × Value → H) :
    ReturnsInHanded {} Try.checked os 6 .any (Rows.numOrderSpec.pre6 enc Try.prog Try.f6 Rows.numOrderRow.domain false) (Rows.numOrderSpec.post enc Try.prog Try.f6 false true false false) := by
  refine returnsInHanded_of_change (C := Try.checked) own started (by kernel_rfl) Try.func6
    (ChangeSpec.witness6 (enc := enc) (C := Try.checked) false ⟨#[], #[.int .i64 0, .int .i64 0], []⟩ 8 (by kernel_rfl) (by kernel_rfl) (by kernel_rfl) (by kernel_rfl)) ?_
  intro W base args ds gs before hval0 hW hcnd _
  have hval : ∀ (j : Nat) t v, Try.f6.params[j]? = some t → args[j]? = some v → Value.okWide Try.prog W .any base t v := hval0
  have hW' := hW
  obtain ⟨p, q, hA0, hV, rfl, hfz, hnd⟩ := hW
  have hA : DataW.TrodAll enc Try.prog W 0 (fun _ => true) true Try.f6.params.toList args.toList ds p := hA0
  rw [Try.params6] at hA hval
  obtain ⟨v0, vs0, d0, ds0, p0, q0, hargs, rfl, rfl, h0, r0⟩ := trodAll_cons hA
  obtain ⟨v1, vs1, d1, ds1, p1, q1, rfl, rfl, rfl, h1, r1⟩ := trodAll_cons r0
  obtain ⟨rfl, rfl, rfl⟩ := trodAll_nil r1
  obtain rfl : args = #[v0, v1] := by cases args; simp_all
  obtain ⟨rfl, rfl⟩ := trodVars_none hV
  obtain ⟨a0, rfl, rfl, rfl, w0⟩ := open_int Try.underlying3 (hval 0 3 v0 rfl rfl) h0
  obtain ⟨a1, rfl, rfl, rfl, w1⟩ := open_int Try.underlying3 (hval 1 3 v1 rfl rfl) h1
  clear hA0 hval0
  simp only [List.append_nil] at hW'
  refine (order_any a0 a1 W w0 w1).mono fun e W' ⟨he, bel⟩ => ?_
  subst he
  exact ⟨_, rfl, _, _, _, [], [], [], hW', trodAll_mk1 (shut_bool Try.underlying4 _), (trodAll_cons_mk (shut_int Try.underlying3 w0) (trodAll_cons_mk (shut_int Try.underlying3 w1) trodAll_mk0)), rfl, bel.frame _, fun h => by cases h⟩

theorem over : Rows.numOrderRow.holds Try.pinned (OpenSpec.ofChange Rows.numOrderSpec) :=
  OpenClaim.holds_of_wide 6 Try.f6 rfl rfl rfl rfl rfl rfl rfl ⟨rfl, rfl, rfl, rfl, rfl⟩ rfl rfl rfl rfl rfl (by kernel_rfl) Try.func6 (by kernel_rfl)
    (of_decide_eq_true (by kernel_rfl)) (by unfold Func.isWrapper; first | (rw [if_pos (by decide +kernel)]; kernel_rfl) | (rw [if_neg (by decide +kernel)]; exact ⟨rfl, rfl⟩))
    (fun os started H enc _ => lifted os started H enc)
end numOrder

/-- THE STATEMENT. -/
theorem numOrder_holds : Rows.NumOrderSaid := numOrder.over


end Go.Proofs.Ythlieokodljhkaa
