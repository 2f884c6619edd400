/-
  For every list of bytes the law NumOne returns true: bytes that are a number are those that Put tells of it. No condition.
-/
import Derived.Test.YthlieokodljhkaaAlive
import Derived.Test.YthlieokodljhkaaCode
import Derived.ProofKit
import Derived.OpenShut
import Derived.ShutString
import Derived.ChangeOld
import Derived.Below
namespace Go.Proofs.Ythlieokodljhkaa
open Go.RowKit
set_option linter.unusedVariables false

theorem numOk_most {xs : List Int} (hx : ∀ x ∈ xs, 0 ≤ x ∧ x < 256) : M.numOk 562949953421311 xs = M.fo xs := by
  unfold M.numOk
  cases h : M.first xs with
  | none => simp [M.fo, h]
  | some p =>
    obtain ⟨n, k⟩ := p
    have := M.enc_first_eq hx h
    simp [M.fo, M.fn, h]
    omega

set_option maxHeartbeats 2000000 in
theorem one_any (v : Value) (xs : List Int) (w : World) (h : Bs w v xs) :
    Calls Try.prog 7 #[v] w fun e w' => e = .returned (.bool true) ∧ Below w.heap.size w w' := by
  have hr := h.range
  have hl := h.len
  unfold maxLen at hl
  have hlc : ∃ a c, v = .slice a xs.length c ∧ xs.length ≤ c := by
    obtain ⟨a, c, e, e2, _⟩ := h
    exact ⟨a, c, e, e2⟩
  obtain ⟨a, c, rfl, hlc⟩ := hlc
  have HB := hid h
  clear h
  have hok := numOk_most hr
  have HR := hid hr
  clear hr
  by_cases h50 : 50 < xs.length
  · go_enter Try.func7, Try.ntmps7
    go_wp2_with fail
    refine (alive_any _).mono ?_
    rintro e w1 ⟨rfl, b1⟩
    go_wp2
    go_ret
    exact ⟨rfl, b1⟩
  · go_enter Try.func7, Try.ntmps7
    go_wp2_with fail
    refine (alive_any _).mono ?_
    rintro e w1 ⟨rfl, b1⟩
    go_wp2_with fail
    refine (at_any _ xs _ (HB.out.below b1) (by omega)).mono ?_
    rintro e w2 ⟨bc, rfl, hbc, hcur, b2⟩
    go_wp2_with fail
    refine (num_any bc _ _ _ _ hcur).mono ?_
    rintro e w3 ⟨rfl, hcur3, g3⟩
    have hbc0 : w.heap.size ≤ bc := Nat.le_trans b1.size hbc
    have b03 := bg (bt b1 b2) g3 hbc0
    have hb3 := (HB.out.below (bt b1 b2)).keeps (hcur.keeps g3)
    clear b1 b2 g3 hbc hcur
    by_cases hfo : M.fo xs = true
    · have e1 : M.numOk 562949953421311 xs = true := by rw [hok]; exact hfo
      obtain ⟨n, k, hf⟩ : ∃ n k, M.first xs = some (n, k) := by
        unfold M.fo at hfo
        obtain ⟨p, hp⟩ := Option.isSome_iff_exists.1 hfo
        exact ⟨p.1, p.2, hp⟩
      have hE := M.enc_first_eq HR.out hf
      rw [show M.numV 562949953421311 xs = n by simp [M.numV, e1, M.fn, hf]]
      rw [show M.numS 562949953421311 xs = xs.drop k by simp [M.numS, e1, M.fc, hf], show M.numL 562949953421311 xs false = false by simp [M.numL, e1]] at hcur3
      clear e1 hok hfo hf
      go_wp2_with fail
      refine (lost_any bc _ _ _ hcur3).mono ?_
      rintro e w4 ⟨rfl, rfl⟩
      go_wp2_with fail
      refine (put_bs n _ hE.1 hE.2.1).mono ?_
      rintro e w5 ⟨v5, rfl, h5, b5⟩
      have h5' := h5
      obtain ⟨a5, c5, rfl, _⟩ := h5
      have hlen5 : (M.enc n).length = k := by rw [M.enc_length]; exact hE.2.2.1
      rw [hlen5]
      rw [hlen5] at h5'
      go_wp2_with fail
      refine (left_any bc _ _ _ (hcur3.below b5)).mono ?_
      rintro e w6 ⟨rfl, rfl⟩
      have hkl := hE.2.2.2.2
      have htk := Bs.take (hb3.below b5) k hkl
      have HE := hid hE
      have HT := hid htk
      have hdl : (((xs.drop k).length : Nat) : Int) = (xs.length : Int) - (k : Int) := by rw [List.length_drop]; omega
      have heq : ((k : Int) + ((xs.length : Int) - (k : Int)) == (xs.length : Int)) = true := by simp; omega
      have hkc : (k : Int) ≤ (c : Int) := by omega
      clear hE htk hlen5
      go_wp2_with fail
      refine (same_b _ _ _ _ _ h5' HT.out).mono ?_
      rintro e w7 ⟨rfl, b7⟩
      go_wp2
      go_ret
      exact ⟨by rw [decide_eq_true HE.out.2.2.2.1]; rfl, bt b03 (bt b5 b7)⟩
    · have e1 : M.numOk 562949953421311 xs = false := by rw [hok]; simpa using hfo
      rw [show M.numV 562949953421311 xs = 0 by simp [M.numV, e1]]
      rw [show M.numL 562949953421311 xs false = true by simp [M.numL, e1]] at hcur3
      clear e1 hok hfo
      go_wp2_with fail
      refine (lost_any bc _ _ _ hcur3).mono ?_
      rintro e w4 ⟨rfl, rfl⟩
      go_wp2
      go_ret
      exact ⟨rfl, b03⟩


namespace numOne
open Go.ChangeShapes Go.WideShapes Go.ChangeAt
open Go.ChangeMaps (open_string shut_string)

theorem own : ownKnob Try.prog.godebug = none := by kernel_rfl
theorem laidOut : laidOutB Try.prog = true := by kernel_rfl

set_option maxRecDepth 100000 in
theorem lifted (os : Os) (started : os.Started) (H : Type) (enc : TypeId × Value → H) :
    ReturnsInHanded {} Try.checked os 7 .any (Rows.numOneSpec.pre6 enc Try.prog Try.f7 Rows.numOneRow.domain false) (Rows.numOneSpec.post enc Try.prog Try.f7 false true false false) := by
  refine returnsInHanded_of_change (C := Try.checked) own started (by kernel_rfl) Try.func7
    (ChangeSpec.witness6 (enc := enc) (C := Try.checked) false ⟨#[], #[.slice none 0 0], []⟩ 8 (by kernel_rfl) (by kernel_rfl) (by kernel_rfl) (by kernel_rfl)) ?_
  intro W base args ds gs before hval0 hW hcnd _
  have hval : ∀ (j : Nat) t v, Try.f7.params[j]? = some t → args[j]? = some v → Value.okWide Try.prog W .any base t v := hval0
  have hW' := hW
  obtain ⟨p, q, hA0, hV, rfl, hfz, hnd⟩ := hW
  have hA : DataW.TrodAll enc Try.prog W 0 (fun _ => true) true Try.f7.params.toList args.toList ds p := hA0
  rw [Try.params7] at hA hval
  obtain ⟨v0, vs0, d0, ds0, p0, q0, hargs, rfl, rfl, h0, r0⟩ := trodAll_cons hA
  obtain ⟨rfl, rfl, rfl⟩ := trodAll_nil r0
  obtain rfl : args = #[v0] := by cases args; simp_all
  obtain ⟨rfl, rfl⟩ := trodVars_none hV
  obtain ⟨a0, len0, cap0, rfl⟩ := okWide_slice Try.underlying23 (hval 0 23 v0 rfl rfl)
  have k0 := h0
  have lt0 : ∀ x ∈ p0, x.block < W.heap.size := by obtain ⟨m, hm⟩ := k0; exact DataW.trod_lt m _ _ _ hm
  obtain ⟨z0, w0⟩ : ∃ xs, Bs W (.slice a0 len0 cap0) xs := by
    obtain ⟨fuel, hf⟩ := h0
    rcases open_ints Try.underlying23 Try.underlying5 (by kernel_rfl) hf with ⟨hcs, _⟩ | ⟨x, l, c, zs, hcs, _, hl, hm, hz, _, hcell, hwz⟩
    · simp [Value.cells] at hcs
      obtain ⟨rfl, rfl, rfl⟩ := hcs
      exact ⟨[], Bs.nil W⟩
    · simp [Value.cells] at hcs
      obtain ⟨rfl, rfl, rfl⟩ := hcs
      exact ⟨zs.take len0, Bs.of_row hl hm (by simpa using hz) hcell hwz⟩
  clear hA0 hval0
  refine (one_any _ z0 W w0).mono fun e W' ⟨he, bel⟩ => ?_
  subst he
  exact ⟨_, rfl, _, _, _, [], _, [], hW', trodAll_mk1 (shut_bool Try.underlying4 _), (trodAll_cons_mk (Below.trod laidOut (by kernel_rfl) (of_decide_eq_true (by kernel_rfl)) k0 bel lt0) trodAll_mk0), rfl, bel.frame _, fun h => by cases h⟩

theorem over : Rows.numOneRow.holds Try.pinned (OpenSpec.ofChange Rows.numOneSpec) :=
  OpenClaim.holds_of_wide 7 Try.f7 rfl rfl rfl rfl rfl rfl rfl ⟨rfl, rfl, rfl, rfl, rfl⟩ rfl rfl rfl rfl rfl (by kernel_rfl) Try.func7 (by kernel_rfl)
    (of_decide_eq_true (by kernel_rfl)) (by unfold Func.isWrapper; first | (rw [if_pos (by decide +kernel)]; kernel_rfl) | (rw [if_neg (by decide +kernel)]; exact ⟨rfl, rfl⟩))
    (fun os started H enc _ => lifted os started H enc)
end numOne

/-- THE STATEMENT. -/
theorem numOne_holds : Rows.NumOneSaid := numOne.over


end Go.Proofs.Ythlieokodljhkaa
