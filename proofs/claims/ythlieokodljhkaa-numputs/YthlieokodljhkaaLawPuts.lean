/-
  For every number n and every text s the law NumPuts returns true: Put and PutText answer the document's bytes. No condition.
-/
import Derived.Test.YthlieokodljhkaaRefPut
import Derived.ProofKit
import Derived.OpenShut
import Derived.ShutString
import Derived.ChangeOld
import Derived.Below
namespace Go.Proofs.Ythlieokodljhkaa
open Go.RowKit
set_option linter.unusedVariables false

set_option maxHeartbeats 2000000 in
theorem puts_any (n : Int) (s : ByteArray) (w : World) (wn : (Lit.int .i64 n).wf = true) (ws : s.size ≤ maxLen) :
    Calls Try.prog 3 #[.int .i64 n, .string s] w fun e w' => e = .returned (.bool true) ∧ Below w.heap.size w w' := by
  clear wn
  unfold maxLen at ws
  by_cases hs : 20000 < s.size
  · go_enter Try.func3, Try.ntmps3
    go_wp2_with fail
    refine (alive_any _).mono ?_
    rintro e w1 ⟨rfl, b1⟩
    go_wp2
    go_ret
    exact ⟨rfl, b1⟩
  · have hs' : s.size ≤ 70368744177664 := by omega
    by_cases rn : 0 ≤ n ∧ n < 562949953421312
    · obtain ⟨h0, h1⟩ := rn
      go_enter Try.func3, Try.ntmps3
      go_wp2_with fail
      refine (alive_any _).mono ?_
      rintro e w1 ⟨rfl, b1⟩
      go_wp2_with fail
      refine (put_bs n _ h0 h1).mono ?_
      rintro e w2 ⟨v2, rfl, h2, b2⟩
      go_wp2_with fail
      refine (refput_bs n _ h0 h1).mono ?_
      rintro e w3 ⟨v3, rfl, h3, b3⟩
      go_wp2_with fail
      refine (same_b _ _ _ _ _ (h2.below b3) h3).mono ?_
      rintro e w4 ⟨rfl, b4⟩
      rw [decide_eq_true rfl]
      have b04 := bt b1 (bt b2 (bt b3 b4))
      clear h2 h3 b1 b2 b3 b4
      go_wp2_with fail
      refine (puttext_bs s _ hs').mono ?_
      rintro e w5 ⟨v5, rfl, h5, b5⟩
      go_wp2_with fail
      refine (refputtext_bs s _ hs').mono ?_
      rintro e w6 ⟨v6, rfl, h6, b6⟩
      go_wp2_with fail
      refine (same_b _ _ _ _ _ (h5.below b6) h6).mono ?_
      rintro e w7 ⟨rfl, b7⟩
      rw [decide_eq_true rfl]
      go_wp2
      go_ret
      exact ⟨rfl, bt b04 (bt b5 (bt b6 b7))⟩
    · go_enter Try.func3, Try.ntmps3
      go_wp2_with fail
      refine (alive_any _).mono ?_
      rintro e w1 ⟨rfl, b1⟩
      go_wp2_with fail
      refine (put_wrong n _ (by omega)).mono ?_
      rintro e w2 ⟨rfl, rfl⟩
      go_wp2_with fail
      refine (refput_wrong n _ (by omega)).mono ?_
      rintro e w3 ⟨rfl, rfl⟩
      go_wp2_with fail
      refine (same_b _ _ [] [] _ (Bs.nil _) (Bs.nil _)).mono ?_
      rintro e w4 ⟨rfl, b4⟩
      rw [decide_eq_true rfl]
      have b04 := bt b1 b4
      clear b1 b4
      go_wp2_with fail
      refine (puttext_bs s _ hs').mono ?_
      rintro e w5 ⟨v5, rfl, h5, b5⟩
      go_wp2_with fail
      refine (refputtext_bs s _ hs').mono ?_
      rintro e w6 ⟨v6, rfl, h6, b6⟩
      go_wp2_with fail
      refine (same_b _ _ _ _ _ (h5.below b6) h6).mono ?_
      rintro e w7 ⟨rfl, b7⟩
      rw [decide_eq_true rfl]
      go_wp2
      go_ret
      exact ⟨rfl, bt b04 (bt b5 (bt b6 b7))⟩

namespace numPuts
open Go.ChangeShapes Go.WideShapes Go.ChangeAt
open Go.ChangeMaps (open_string shut_string)

theorem own : ownKnob Try.prog.godebug = none := by kernel_rfl
theorem laidOut : laidOutB Try.prog = true := by kernel_rfl

set_option maxRecDepth 100000 in
theorem lifted (os : Os) (started : os.Started) (H : Type) (enc : TypeId × Value → H) :
    ReturnsInHanded {} Try.checked os 3 .any (Rows.numPutsSpec.pre6 enc Try.prog Try.f3 Rows.numPutsRow.domain false) (Rows.numPutsSpec.post enc Try.prog Try.f3 false true false false) := by
  refine returnsInHanded_of_change (C := Try.checked) own started (by kernel_rfl) Try.func3
    (ChangeSpec.witness6 (enc := enc) (C := Try.checked) false ⟨#[], #[.int .i64 0, .string ByteArray.empty], []⟩ 8 (by kernel_rfl) (by kernel_rfl) (by kernel_rfl) (by kernel_rfl)) ?_
  intro W base args ds gs before hval0 hW hcnd _
  have hval : ∀ (j : Nat) t v, Try.f3.params[j]? = some t → args[j]? = some v → Value.okWide Try.prog W .any base t v := hval0
  have hW' := hW
  obtain ⟨p, q, hA0, hV, rfl, hfz, hnd⟩ := hW
  have hA : DataW.TrodAll enc Try.prog W 0 (fun _ => true) true Try.f3.params.toList args.toList ds p := hA0
  rw [Try.params3] at hA hval
  obtain ⟨v0, vs0, d0, ds0, p0, q0, hargs, rfl, rfl, h0, r0⟩ := trodAll_cons hA
  obtain ⟨v1, vs1, d1, ds1, p1, q1, rfl, rfl, rfl, h1, r1⟩ := trodAll_cons r0
  obtain ⟨rfl, rfl, rfl⟩ := trodAll_nil r1
  obtain rfl : args = #[v0, v1] := by cases args; simp_all
  obtain ⟨rfl, rfl⟩ := trodVars_none hV
  obtain ⟨a0, rfl, rfl, rfl, w0⟩ := open_int Try.underlying3 (hval 0 3 v0 rfl rfl) h0
  obtain ⟨a1, rfl, rfl, rfl, w1⟩ := open_string Try.underlying9 (hval 1 9 v1 rfl rfl) h1
  clear hA0 hval0
  simp only [List.append_nil] at hW'
  refine (puts_any a0 a1 W w0 w1).mono fun e W' ⟨he, bel⟩ => ?_
  subst he
  exact ⟨_, rfl, _, _, _, [], [], [], hW', trodAll_mk1 (shut_bool Try.underlying4 _), (trodAll_cons_mk (shut_int Try.underlying3 w0) (trodAll_cons_mk (shut_string Try.underlying9 w1) trodAll_mk0)), rfl, bel.frame _, fun h => by cases h⟩

theorem over : Rows.numPutsRow.holds Try.pinned (OpenSpec.ofChange Rows.numPutsSpec) :=
  OpenClaim.holds_of_wide 3 Try.f3 rfl rfl rfl rfl rfl rfl rfl ⟨rfl, rfl, rfl, rfl, rfl⟩ rfl rfl rfl rfl rfl (by kernel_rfl) Try.func3 (by kernel_rfl)
    (of_decide_eq_true (by kernel_rfl)) (by unfold Func.isWrapper; first | (rw [if_pos (by decide +kernel)]; kernel_rfl) | (rw [if_neg (by decide +kernel)]; exact ⟨rfl, rfl⟩))
    (fun os started H enc _ => lifted os started H enc)
end numPuts

/-- THE STATEMENT. -/
theorem numPuts_holds : Rows.NumPutsSaid := numPuts.over


end Go.Proofs.Ythlieokodljhkaa
