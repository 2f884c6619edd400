/-
  For all texts a and b and every number n the law FracAnswers returns true: Right, Order, Between and Row answer what the document says. No condition.
-/
import Derived.Test.YtobnnidlpbnbkaaFAlive
import Derived.Test.YtobnnidlpbnbkaaXRow
import Derived.ProofKit
import Derived.OpenShut
import Derived.ShutString
import Derived.ChangeOld
import Derived.Below
namespace Go.Proofs.Ytobnnidlpbnbkaa
open Go.RowKit
set_option linter.unusedVariables false

theorem rn_most (n : Int) : rn n ≤ 400 := by unfold rn; split <;> omega

theorem answers_long (a b : ByteArray) (n : Int) (w : World) (wa : a.size ≤ maxLen) (wb : b.size ≤ maxLen) (h : 1000 < a.size ∨ 1000 < b.size) :
    Calls Try.prog 3 #[.string a, .string b, .int .i64 n] w fun e w' => e = .returned (.bool true) ∧ Below w.heap.size w w' := by
  unfold maxLen at wa wb
  by_cases h1 : 1000 < a.size
  · clear h
    go_enter Try.func3, Try.ntmps3
    go_wp2_with fail
    refine (alive_any _).mono ?_
    rintro e w1 ⟨rfl, b1⟩
    go_wp2
    go_ret
    exact ⟨rfl, b1⟩
  · have h2 : 1000 < b.size := by omega
    clear h
    go_enter Try.func3, Try.ntmps3
    go_wp2_with fail
    refine (alive_any _).mono ?_
    rintro e w1 ⟨rfl, b1⟩
    go_wp2
    go_ret
    exact ⟨rfl, b1⟩

/-- What Between returns, as two values. -/
theorem kv_two (k : Option (List Int)) : ∃ (s : ByteArray) (x : Int), kv k = .tuple #[.string s, .int .i64 x] := by
  cases k with
  | none => exact ⟨_, _, rfl⟩
  | some k => exact ⟨_, _, rfl⟩

set_option maxHeartbeats 8000000 in
set_option maxRecDepth 100000 in
theorem answers_short (a b : ByteArray) (n : Int) (w : World) (ha : a.size ≤ 1000) (hb : b.size ≤ 1000) :
    Calls Try.prog 3 #[.string a, .string b, .int .i64 n] w fun e w' => e = .returned (.bool true) ∧ Below w.heap.size w w' := by
  obtain ⟨s, x, hk⟩ := kv_two (K.key (tx a) (tx b))
  have HB := hid (fun W => between_any a b W (by omega) (by omega))
  have HXB := hid (fun W => xbetween_any a b W (by omega) (by omega))
  rw [hk] at HB HXB
  clear hk
  have HR := hid (fun W => right_any a W (by omega))
  have HXR := hid (fun W => xright_any a W (by omega))
  generalize K.right (tx a) = r at HR HXR
  have HO := hid (fun W => order_any a b W)
  have HXO := hid (fun W => texts_any a b W (by omega) (by omega))
  generalize K.ord (tx a) (tx b) = o at HO HXO
  have hoo : (o != o) = false := by simp
  have hxx : (x != x) = false := by simp
  have hss := beq_refl s
  have hN := rn_most n
  have HW := hid (fun W => row_any n W)
  have HXW := hid (fun W => xrow_any n W)
  generalize rn n = N at HW HXW hN
  cases r
  all_goals
    go_enter Try.func3, Try.ntmps3
    go_wp2_with fail
    refine (alive_any _).mono ?_
    rintro e w1 ⟨rfl, b1⟩
    go_wp2_with fail
    refine (HB.out _).mono ?_
    rintro e w2 ⟨rfl, b2⟩
    go_wp2_with fail
    refine (HXB.out _).mono ?_
    rintro e w3 ⟨rfl, b3⟩
    go_wp2_with fail
    refine (HR.out _).mono ?_
    rintro e w4 ⟨rfl, rfl⟩
    go_wp2_with fail
    refine (HXR.out _).mono ?_
    rintro e w4 ⟨rfl, rfl⟩
    go_wp2_with fail
    refine (HO.out _).mono ?_
    rintro e w4 ⟨rfl, rfl⟩
    go_wp2_with fail
    refine (HXO.out _).mono ?_
    rintro e w4 ⟨rfl, m4, rfl⟩
    go_wp2_with fail
    refine (HW.out _).mono ?_
    rintro e w5 ⟨v5, rfl, hs5, b5⟩
    go_wp2_with fail
    refine (HXW.out _).mono ?_
    rintro e w6 ⟨v6, rfl, hs6, b6⟩
    have hs5' := hs5.below b6
    have HS5 := hid hs5'
    have HS6 := hid hs6
    obtain ⟨a5, c5, rfl, hc5⟩ := hs5'.form
    obtain ⟨a6, c6, rfl, hc6⟩ := hs6.form
    rw [kts_length] at hc5 hc6 HS5 HS6 ⊢
    have B := hid (bt b1 (bt b2 (bt b3 (bt (bd _ m4) (bt b5 b6)))))
    clear hs5 hs5' hs6 b1 b2 b3 b5 b6 HB HXB HR HXR HO HXO HW HXW
    have hnn : ((N : Int) != (N : Int)) = false := by simp
    go_wp2
    go_loopw [13] (fun ii wr => ∃ k : Nat, k ≤ N ∧ ii = .int .i64 k ∧ Ss wr (.slice a5 N c5) (kts N) ∧ Ss wr (.slice a6 N c6) (kts N) ∧ Below w.heap.size w wr) (fun ii _ => N + 1 - (intOf ii).toNat)
    · exact ⟨0, Nat.zero_le _, rfl, HS5.out, HS6.out, B.out⟩
    · clear HS5 HS6 B
      obtain ⟨k, hk, rfl, hS5, hS6, hB⟩ := hrel
      have HS5 := hid hS5
      have HS6 := hid hS6
      have B := hid hB
      clear hS5 hS6 hB
      by_cases hkn : k < N
      · have hi5 := HS5.out.inv (by rw [kts_length]; omega)
        rw [kts_length] at hi5
        obtain ⟨g5, o5, d5, e5, _, _, hcell5⟩ := hi5
        simp only [Value.slice.injEq] at e5
        obtain ⟨rfl, -, rfl⟩ := e5
        have hi6 := HS6.out.inv (by rw [kts_length]; omega)
        rw [kts_length] at hi6
        obtain ⟨g6, o6, d6, e6, _, _, hcell6⟩ := hi6
        simp only [Value.slice.injEq] at e6
        obtain ⟨rfl, -, rfl⟩ := e6
        have hx5 := hcell5 k hkn
        have hx6 := hcell6 k hkn
        rw [kts_getD hkn] at hx5 hx6
        have hee := beq_refl (kt k)
        have hkn' : (k : Int) < (N : Int) := by omega
        clear hcell5 hcell6
        go_wp2
        go_quiet (fail)
        go_wp2
        go_roundw
        · exact ⟨k + 1, by omega, by go_num, HS5.out.drewN _, HS6.out.drewN _, below_drewN B.out _⟩
        · simp [intOf]; omega
      · obtain rfl : k = N := by omega
        go_wp2
        go_ret
        exact ⟨rfl, B.out⟩

theorem answers_any (a b : ByteArray) (n : Int) (w : World) (wa : a.size ≤ maxLen) (wb : b.size ≤ maxLen) (wn : (Lit.int .i64 n).wf = true) :
    Calls Try.prog 3 #[.string a, .string b, .int .i64 n] w fun e w' => e = .returned (.bool true) ∧ Below w.heap.size w w' := by
  by_cases h : 1000 < a.size ∨ 1000 < b.size
  · exact answers_long a b n w wa wb h
  · exact answers_short a b n w (by omega) (by omega)

namespace fracAnswers
open Go.ChangeShapes Go.WideShapes Go.ChangeAt
open Go.ChangeMaps (open_string shut_string)

theorem own : ownKnob Try.prog.godebug = none := by kernel_rfl
theorem laidOut : laidOutB Try.prog = true := by kernel_rfl

set_option maxRecDepth 100000 in
theorem lifted (os : Os) (started : os.Started) (H : Type) (enc : TypeId × Value → H) :
    ReturnsInHanded {} Try.checked os 3 .any (Rows.fracAnswersSpec.pre6 enc Try.prog Try.f3 Rows.fracAnswersRow.domain false) (Rows.fracAnswersSpec.post enc Try.prog Try.f3 false true false false) := by
  refine returnsInHanded_of_change (C := Try.checked) own started (by kernel_rfl) Try.func3
    (ChangeSpec.witness6 (enc := enc) (C := Try.checked) false ⟨#[], #[.string ByteArray.empty, .string ByteArray.empty, .int .i64 0], []⟩ 8 (by kernel_rfl) (by kernel_rfl) (by kernel_rfl) (by kernel_rfl)) ?_
  intro W base args ds gs before hval0 hW hcnd _
  have hval : ∀ (j : Nat) t v, Try.f3.params[j]? = some t → args[j]? = some v → Value.okWide Try.prog W .any base t v := hval0
  have hW' := hW
  obtain ⟨p, q, hA0, hV, rfl, hfz, hnd⟩ := hW
  have hA : DataW.TrodAll enc Try.prog W 0 (fun _ => true) true Try.f3.params.toList args.toList ds p := hA0
  rw [Try.params3] at hA hval
  obtain ⟨v0, vs0, d0, ds0, p0, q0, hargs, rfl, rfl, h0, r0⟩ := trodAll_cons hA
  obtain ⟨v1, vs1, d1, ds1, p1, q1, rfl, rfl, rfl, h1, r1⟩ := trodAll_cons r0
  obtain ⟨v2, vs2, d2, ds2, p2, q2, rfl, rfl, rfl, h2, r2⟩ := trodAll_cons r1
  obtain ⟨rfl, rfl, rfl⟩ := trodAll_nil r2
  obtain rfl : args = #[v0, v1, v2] := by cases args; simp_all
  obtain ⟨rfl, rfl⟩ := trodVars_none hV
  obtain ⟨a0, rfl, rfl, rfl, w0⟩ := open_string Try.underlying9 (hval 0 9 v0 rfl rfl) h0
  obtain ⟨a1, rfl, rfl, rfl, w1⟩ := open_string Try.underlying9 (hval 1 9 v1 rfl rfl) h1
  obtain ⟨a2, rfl, rfl, rfl, w2⟩ := open_int Try.underlying3 (hval 2 3 v2 rfl rfl) h2
  clear hA0 hval0
  simp only [List.append_nil] at hW'
  refine (answers_any a0 a1 a2 W w0 w1 w2).mono fun e W' ⟨he, bel⟩ => ?_
  subst he
  exact ⟨_, rfl, _, _, _, [], [], [], hW', trodAll_mk1 (shut_bool Try.underlying4 _), (trodAll_cons_mk (shut_string Try.underlying9 w0) (trodAll_cons_mk (shut_string Try.underlying9 w1) (trodAll_cons_mk (shut_int Try.underlying3 w2) trodAll_mk0))), rfl, bel.frame _, fun h => by cases h⟩

theorem over : Rows.fracAnswersRow.holds Try.pinned (OpenSpec.ofChange Rows.fracAnswersSpec) :=
  OpenClaim.holds_of_wide 3 Try.f3 rfl rfl rfl rfl rfl rfl rfl ⟨rfl, rfl, rfl, rfl, rfl⟩ rfl rfl rfl rfl rfl (by kernel_rfl) Try.func3 (by kernel_rfl)
    (of_decide_eq_true (by kernel_rfl)) (by unfold Func.isWrapper; first | (rw [if_pos (by decide +kernel)]; kernel_rfl) | (rw [if_neg (by decide +kernel)]; exact ⟨rfl, rfl⟩))
    (fun os started H enc _ => lifted os started H enc)
end fracAnswers

/-- THE STATEMENT. -/
theorem fracAnswers_holds : Rows.FracAnswersSaid := fracAnswers.over


end Go.Proofs.Ytobnnidlpbnbkaa
