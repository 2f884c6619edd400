/-
  For every list of bytes and every number the law CrcAnswers returns true: every Sum, Frame, Next and Split answers what the document says; the bytes are left as they were. No condition.
-/
import Derived.Test.YtkbfkdgdommngaaCAlive
import Derived.Test.YtkbfkdgdommngaaCSplit
import Derived.Test.YtkbfkdgdommngaaRSplit
import Derived.Test.YtkbfkdgdommngaaSameL
import Derived.ProofKit
import Derived.OpenShut
import Derived.ShutString
import Derived.ChangeOld
import Derived.Below
namespace Go.Proofs.Ytkbfkdgdommngaa
open Go.RowKit
set_option linter.unusedVariables false

/-- What stands at a place, whatever the place. -/
def aV (xs : List Int) (p : Int) : List Int := if 0 ≤ p ∧ p ≤ xs.length then nxV xs p.toNat else []
def aP (xs : List Int) (p : Int) : Int := if 0 ≤ p ∧ p ≤ xs.length then nxP xs p.toNat else 0
def aW (xs : List Int) (p : Int) : Int := if 0 ≤ p ∧ p ≤ xs.length then (C.wh (xs.drop p.toNat) : Nat) else 2

theorem next_all (v : Value) (xs : List Int) (p : Int) (w : World) (h : Bs w v xs) (hl : xs.length ≤ 140737488355328) :
    Calls Try.prog 12 #[v, .int .i64 p] w fun e w' => ∃ v', e = .returned (.tuple #[v', .int .i64 (aP xs p), .int .i64 (aW xs p)]) ∧ Bs w' v' (aV xs p) ∧ Below w.heap.size w w' := by
  by_cases hp : 0 ≤ p ∧ p ≤ xs.length
  · rw [aV, aP, aW, if_pos hp, if_pos hp, if_pos hp]
    obtain ⟨k, rfl⟩ := Int.eq_ofNat_of_zero_le hp.1
    exact (next_any v xs k w h (by omega) hl).mono fun _ _ ⟨v', he, hB, hb, _⟩ => ⟨v', he, hB, hb⟩
  · rw [aV, aP, aW, if_neg hp, if_neg hp, if_neg hp]
    exact (next_wrong v xs p w h (by omega)).mono fun _ _ ⟨he, hw⟩ => ⟨_, he, Bs.nil _, by rw [← hw]; exact Below.refl _ _⟩
theorem refnext_all (v : Value) (xs : List Int) (p : Int) (w : World) (h : Bs w v xs) (hl : xs.length ≤ 140737488355328) :
    Calls Try.prog 13 #[v, .int .i64 p] w fun e w' => ∃ v', e = .returned (.tuple #[v', .int .i64 (aP xs p), .int .i64 (aW xs p)]) ∧ Bs w' v' (aV xs p) ∧ Below w.heap.size w w' := by
  by_cases hp : 0 ≤ p ∧ p ≤ xs.length
  · rw [aV, aP, aW, if_pos hp, if_pos hp, if_pos hp]
    obtain ⟨k, rfl⟩ := Int.eq_ofNat_of_zero_le hp.1
    exact (refnext_any v xs k w h (by omega) hl).mono fun _ _ ⟨v', he, hB, hb, _⟩ => ⟨v', he, hB, hb⟩
  · rw [aV, aP, aW, if_neg hp, if_neg hp, if_neg hp]
    exact (refnext_wrong v xs p w h (by omega)).mono fun _ _ ⟨he, hw⟩ => ⟨_, he, Bs.nil _, by rw [← hw]; exact Below.refl _ _⟩

set_option maxRecDepth 100000 in
set_option maxHeartbeats 4000000 in
theorem answers_any (v : Value) (xs : List Int) (p : Int) (w : World) (h : Bs w v xs) (wp : (Lit.int .i64 p).wf = true) :
    Calls Try.prog 3 #[v, .int .i64 p] w fun e w' => e = .returned (.bool true) ∧ Below w.heap.size w w' := by
  clear wp
  have hl := h.len
  unfold maxLen at hl
  have hB := hid h
  obtain ⟨a, c, rfl⟩ := h.form
  clear h
  obtain ⟨n, hn⟩ : ∃ n, xs.length = n := ⟨_, rfl⟩
  have HN := hid hn
  rw [hn] at hl hB ⊢
  clear hn
  by_cases h5 : 5000 < n
  · have h5' : decide (5000 < (n : Int)) = true := by simp; omega
    by_cases h6 : n ≤ 65536
    · have h6' : (n : Int) ≤ 65536 := by omega
      go_enter Try.func3, Try.ntmps3
      go_wp2_with fail
      refine (alive_any _).mono ?_
      rintro e w1 ⟨rfl, b1⟩
      go_wp2
      go_ret
      exact ⟨rfl, b1⟩
    · have h6' : decide ((n : Int) ≤ 65536) = false := by simp; omega
      have h7 : (65536 : Int) < (n : Int) := by omega
      go_enter Try.func3, Try.ntmps3
      go_wp2_with fail
      refine (alive_any _).mono ?_
      rintro e w1 ⟨rfl, b1⟩
      go_wp2_with fail
      refine (frame_wrong _ xs _ (hB.out.below b1) (by rw [HN.out]; omega)).mono ?_
      rintro e w2 ⟨rfl, rfl⟩
      go_wp2
      go_ret
      exact ⟨rfl, b1⟩
  · have h5' : decide (5000 < (n : Int)) = false := by simp; omega
    have h7 : ¬ (65536 : Int) < (n : Int) := by omega
    go_enter Try.func3, Try.ntmps3
    go_wp2_with fail
    refine (alive_any _).mono ?_
    rintro e w1 ⟨rfl, b1⟩
    have hB1 := hid (hB.out.below b1)
    clear hB
    go_wp2_with fail
    refine (copy_any _ xs _ hB1.out (by rw [HN.out]; omega)).mono ?_
    rintro e w2 ⟨vo, rfl, ho, b2⟩
    obtain ⟨ao, co, rfl⟩ := ho.form
    rw [HN.out] at ho ⊢
    have HO := hid ho
    have hB2 := hid (hB1.out.below b2)
    have bel2 := bt b1 b2
    clear ho hB1 b1 b2
    go_wp2_with fail
    refine (frame_bs _ xs _ HO.out (by rw [HN.out]; omega)).mono ?_
    rintro e w3 ⟨vf, rfl, hf, b3⟩
    obtain ⟨af, cf, rfl⟩ := hf.form
    have HF := hid hf
    clear hf
    go_wp2_with fail
    refine (refframe_bs _ xs _ (hB2.out.below b3) (by rw [HN.out]; omega)).mono ?_
    rintro e w4 ⟨vg, rfl, hg, b4⟩
    obtain ⟨ag, cg, rfl⟩ := hg.form
    obtain ⟨F, hFe⟩ : ∃ F, C.frame xs = F := ⟨_, rfl⟩
    rw [hFe] at HF hg ⊢
    clear hFe
    have HG := hid hg
    have HF4 := hid (HF.out.below b4)
    have HO4 := hid (HO.out.below (bt b3 b4))
    have hB4 := hid (hB2.out.below (bt b3 b4))
    have bel4 := bt bel2 (bt b3 b4)
    clear hg b3 b4 HF HO hB2 bel2
    go_wp2_with fail
    refine (next_all _ xs p _ HO4.out (by rw [HN.out]; omega)).mono ?_
    rintro e w5 ⟨vx, rfl, hx, b5⟩
    obtain ⟨ax, cx, rfl⟩ := hx.form
    have HX := hid hx
    clear hx
    go_wp2_with fail
    refine (refnext_all _ xs p _ (hB4.out.below b5) (by rw [HN.out]; omega)).mono ?_
    rintro e w6 ⟨vy, rfl, hy, b6⟩
    obtain ⟨ay, cy, rfl⟩ := hy.form
    obtain ⟨X, hXe⟩ : ∃ X, aV xs p = X := ⟨_, rfl⟩
    obtain ⟨P, hPe⟩ : ∃ P, aP xs p = P := ⟨_, rfl⟩
    obtain ⟨T, hTe⟩ : ∃ T, aW xs p = T := ⟨_, rfl⟩
    rw [hXe] at HX hy ⊢
    rw [hPe, hTe]
    clear hXe hPe hTe
    have HY := hid hy
    have HX6 := hid (HX.out.below b6)
    have HG6 := hid (HG.out.below (bt b5 b6))
    have HF6 := hid (HF4.out.below (bt b5 b6))
    have HO6 := hid (HO4.out.below (bt b5 b6))
    have hB6 := hid (hB4.out.below (bt b5 b6))
    have bel6 := bt bel4 (bt b5 b6)
    clear hy b5 b6 HX HG HF4 HO4 hB4 bel4
    go_wp2_with fail
    refine (split_any _ xs _ HO6.out (by rw [HN.out]; omega)).mono ?_
    rintro e w7 ⟨vl, f7, p7, t7, rfl, hs7, hl7, b7⟩
    obtain ⟨al, cl, rfl⟩ := hl7.form
    have HL := hid hl7
    clear hl7
    go_wp2_with fail
    refine (refsplit_any _ xs _ (hB6.out.below b7) (by rw [HN.out]; omega)).mono ?_
    rintro e w8 ⟨vk, f8, p8, t8, rfl, hs8, hl8, b8⟩
    obtain ⟨ak, ck, rfl⟩ := hl8.form
    have HK := hid hl8
    obtain ⟨d1, d2, d3⟩ := C.Sp.det hs7 hs8
    subst d1 d2 d3
    have HL8 := hid (HL.out.below b8)
    have HY8 := hid (HY.out.below (bt b7 b8))
    have HX8 := hid (HX6.out.below (bt b7 b8))
    have HG8 := hid (HG6.out.below (bt b7 b8))
    have HF8 := hid (HF6.out.below (bt b7 b8))
    have HO8 := hid (HO6.out.below (bt b7 b8))
    have hB8 := hid (hB6.out.below (bt b7 b8))
    have bel8 := bt bel6 (bt b7 b8)
    clear hl8 b7 b8 HL HY HX6 HG6 HF6 HO6 hB6 bel6 hs7 hs8
    go_wp2_with fail
    refine (sum_any _ xs _ HO8.out).mono ?_
    rintro e w9 ⟨rfl, b9⟩
    go_wp2_with fail
    refine (refsum_any _ xs _ (hB8.out.below b9)).mono ?_
    rintro e w9' ⟨rfl, rfl⟩
    have bel9 := bt bel8 b9
    obtain ⟨S, hSe⟩ : ∃ S, C.sum xs = S := ⟨_, rfl⟩
    rw [hSe]
    clear hSe bel8
    have q1 : ((S : Int) == (S : Int)) = true := by simp
    have q2 : (P == P) = true := by simp
    have q3 : (T == T) = true := by simp
    have q4 : ((p7 : Int) == (p7 : Int)) = true := by simp
    have q5 : ((t7 : Int) == (t7 : Int)) = true := by simp
    go_wp2_with fail
    refine (same_b _ _ F F _ (HF8.out.below b9) (HG8.out.below b9)).mono ?_
    rintro e w10 ⟨rfl, b10⟩
    rw [decide_eq_true rfl]
    have b910 := bt b9 b10
    have bel10 := bt bel9 b10
    clear b9 b10 bel9 HF8 HG8
    go_wp2_with fail
    refine (same_b _ _ X X _ (HX8.out.below b910) (HY8.out.below b910)).mono ?_
    rintro e w11 ⟨rfl, b11⟩
    rw [decide_eq_true rfl]
    have b811 := bt b910 b11
    have bel11 := bt bel10 b11
    clear b910 b11 bel10 HX8 HY8
    go_wp2_with fail
    refine (samel_b _ _ f7 f7 _ (HL8.out.below b811) (HK.out.below b811)).mono ?_
    rintro e w12 ⟨rfl, b12⟩
    rw [decide_eq_true rfl]
    have b812 := bt b811 b12
    have bel12 := bt bel11 b12
    clear b811 b12 bel11 HL8 HK
    go_wp2_with fail
    refine (same_b _ _ xs xs _ (HO8.out.below b812) (hB8.out.below b812)).mono ?_
    rintro e w13 ⟨rfl, b13⟩
    rw [decide_eq_true rfl]
    go_wp2
    go_ret
    exact ⟨rfl, bt bel12 b13⟩


namespace crcAnswers
open Go.ChangeShapes Go.WideShapes Go.ChangeAt
open Go.ChangeMaps (open_string shut_string)

theorem own : ownKnob Try.prog.godebug = none := by kernel_rfl
theorem laidOut : laidOutB Try.prog = true := by kernel_rfl

set_option maxRecDepth 100000 in
theorem lifted (os : Os) (started : os.Started) (H : Type) (enc : TypeId × Value → H) :
    ReturnsInHanded {} Try.checked os 3 .any (Rows.crcAnswersSpec.pre6 enc Try.prog Try.f3 Rows.crcAnswersRow.domain false) (Rows.crcAnswersSpec.post enc Try.prog Try.f3 false true false false) := by
  refine returnsInHanded_of_change (C := Try.checked) own started (by kernel_rfl) Try.func3
    (ChangeSpec.witness6 (enc := enc) (C := Try.checked) false ⟨#[], #[.slice none 0 0, .int .i64 0], []⟩ 8 (by kernel_rfl) (by kernel_rfl) (by kernel_rfl) (by kernel_rfl)) ?_
  intro W base args ds gs before hval0 hW hcnd _
  have hval : ∀ (j : Nat) t v, Try.f3.params[j]? = some t → args[j]? = some v → Value.okWide Try.prog W .any base t v := hval0
  have hW' := hW
  obtain ⟨p, q, hA0, hV, rfl, hfz, hnd⟩ := hW
  have hA : DataW.TrodAll enc Try.prog W 0 (fun _ => true) true Try.f3.params.toList args.toList ds p := hA0
  rw [Try.params3] at hA hval
  obtain ⟨v0, vs0, d0, ds0, p0, q0, hargs, rfl, rfl, h0, r0⟩ := trodAll_cons hA
  obtain ⟨v1, vs1, d1, ds1, p1, q1, rfl, rfl, rfl, h1, r1⟩ := trodAll_cons r0
  obtain ⟨rfl, rfl, rfl⟩ := trodAll_nil r1
  obtain rfl : args = #[v0, v1] := by cases args; simp_all
  obtain ⟨rfl, rfl⟩ := trodVars_none hV
  obtain ⟨a0, len0, cap0, rfl⟩ := okWide_slice Try.underlying22 (hval 0 22 v0 rfl rfl)
  have k0 := h0
  have lt0 : ∀ x ∈ p0, x.block < W.heap.size := by obtain ⟨m, hm⟩ := k0; exact DataW.trod_lt m _ _ _ hm
  obtain ⟨z0, w0⟩ : ∃ xs, Bs W (.slice a0 len0 cap0) xs := by
    obtain ⟨fuel, hf⟩ := h0
    rcases open_ints Try.underlying22 Try.underlying5 (by kernel_rfl) hf with ⟨hcs, _⟩ | ⟨x, l, c, zs, hcs, _, hl, hm, hz, _, hcell, hwz⟩
    · simp [Value.cells] at hcs
      obtain ⟨rfl, rfl, rfl⟩ := hcs
      exact ⟨[], Bs.nil W⟩
    · simp [Value.cells] at hcs
      obtain ⟨rfl, rfl, rfl⟩ := hcs
      exact ⟨zs.take len0, Bs.of_row hl hm (by simpa using hz) hcell hwz⟩
  obtain ⟨a1, rfl, rfl, rfl, w1⟩ := open_int Try.underlying3 (hval 1 3 v1 rfl rfl) h1
  clear hA0 hval0
  refine (answers_any _ z0 a1 W w0 w1).mono fun e W' ⟨he, bel⟩ => ?_
  subst he
  exact ⟨_, rfl, _, _, _, [], _, [], hW', trodAll_mk1 (shut_bool Try.underlying4 _), (trodAll_cons_mk (Below.trod laidOut (by kernel_rfl) (of_decide_eq_true (by kernel_rfl)) k0 bel lt0) (trodAll_cons_mk (shut_int Try.underlying3 w1) trodAll_mk0)), rfl, bel.frame _, fun h => by cases h⟩

theorem over : Rows.crcAnswersRow.holds Try.pinned (OpenSpec.ofChange Rows.crcAnswersSpec) :=
  OpenClaim.holds_of_wide 3 Try.f3 rfl rfl rfl rfl rfl rfl rfl ⟨rfl, rfl, rfl, rfl, rfl⟩ rfl rfl rfl rfl rfl (by kernel_rfl) Try.func3 (by kernel_rfl)
    (of_decide_eq_true (by kernel_rfl)) (by unfold Func.isWrapper; first | (rw [if_pos (by decide +kernel)]; kernel_rfl) | (rw [if_neg (by decide +kernel)]; exact ⟨rfl, rfl⟩))
    (fun os started H enc _ => lifted os started H enc)
end crcAnswers

/-- THE STATEMENT. -/
theorem crcAnswers_holds : Rows.CrcAnswersSaid := crcAnswers.over

end Go.Proofs.Ytkbfkdgdommngaa
