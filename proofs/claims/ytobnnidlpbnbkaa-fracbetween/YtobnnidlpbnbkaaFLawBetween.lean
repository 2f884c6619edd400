/-
  For all texts a and b the law FracBetween returns true: a key that is made is right and stands between its ends; where none is made the ends aren't fine, or one is long. No condition.
-/
import Derived.Test.YtobnnidlpbnbkaaFAlive
import Derived.ProofKit
import Derived.OpenShut
import Derived.ShutString
import Derived.ChangeOld
import Derived.Below
namespace Go.Proofs.Ytobnnidlpbnbkaa
open Go.RowKit
set_option linter.unusedVariables false

theorem between_long (a b : ByteArray) (w : World) (wa : a.size ≤ maxLen) (wb : b.size ≤ maxLen) (h : 1000 < a.size ∨ 1000 < b.size) :
    Calls Try.prog 4 #[.string a, .string b] w fun e w' => e = .returned (.bool true) ∧ Below w.heap.size w w' := by
  unfold maxLen at wa wb
  by_cases h1 : 1000 < a.size
  · clear h
    go_enter Try.func4, Try.ntmps4
    go_wp2_with fail
    refine (alive_any _).mono ?_
    rintro e w1 ⟨rfl, b1⟩
    go_wp2
    go_ret
    exact ⟨rfl, b1⟩
  · have h2 : 1000 < b.size := by omega
    clear h
    go_enter Try.func4, Try.ntmps4
    go_wp2_with fail
    refine (alive_any _).mono ?_
    rintro e w1 ⟨rfl, b1⟩
    go_wp2
    go_ret
    exact ⟨rfl, b1⟩

set_option maxHeartbeats 4000000 in
set_option maxRecDepth 100000 in
theorem between_some (a b : ByteArray) (k : List Int) (w : World) (ha : a.size ≤ 1000) (hb : b.size ≤ 1000) (hk : K.key (tx a) (tx b) = some k) :
    Calls Try.prog 4 #[.string a, .string b] w fun e w' => e = .returned (.bool true) ∧ Below w.heap.size w w' := by
  obtain ⟨k1, k2, k3, k4⟩ := K.key_some (tx_byt a) (tx_byt b) hk
  have HK := hid (fun W => between_any a b W (by omega) (by omega))
  rw [hk] at HK
  clear hk
  have hkl : k.length ≤ 32 := by
    simp [K.right] at k2
    omega
  obtain ⟨s, hs⟩ : ∃ s, M.str k = s := ⟨_, rfl⟩
  have hsx : tx s = k := by rw [← hs]; exact tx_str k1
  have hsl : s.size ≤ 1000 := by rw [← tx_length, hsx]; omega
  have HK' : Hid (∀ W, Calls Try.prog 8 #[.string a, .string b] W fun e w' => e = .returned (.tuple #[.string s, .int .i64 0]) ∧ Below W.heap.size W w') := by
    rw [← hs]
    exact HK.out
  have HS := hid (fun W => right_any s W (by omega))
  have HA := hid (fun W => order_any a s W)
  have HB := hid (fun W => order_any s b W)
  have oa := K.ord_neg (tx a) (tx s)
  have ob := K.ord_neg (tx s) (tx b)
  rw [hsx] at HS HA HB oa ob
  rw [k2] at HS
  rw [k3] at oa
  obtain ⟨x, hx⟩ : ∃ x, K.ord (tx a) k = x := ⟨_, rfl⟩
  obtain ⟨y, hy⟩ : ∃ y, K.ord k (tx b) = y := ⟨_, rfl⟩
  rw [hx] at HA oa
  rw [hy] at HB ob
  have n1 := nil_tx a
  have n2 := nil_tx b
  have hob : decide (tx b = []) = false → decide (y < 0) = true := by
    intro e
    simp at e
    rw [ob]
    exact k4.resolve_left e
  clear hx hy hsx hs k1 k2 k3 k4 ob HK hkl hsl
  have HOB := hid hob
  clear hob
  cases e1 : decide (tx a = []) <;> cases e2 : decide (tx b = [])
  all_goals
    rw [e1] at n1
    rw [e2] at n2
    have E2 := hid e2
    clear e1 e2
  · have ob := HOB.out E2.out
    clear HOB E2
    go_enter Try.func4, Try.ntmps4
    go_wp2_with fail
    refine (alive_any _).mono ?_
    rintro e w1 ⟨rfl, b1⟩
    go_wp2_with fail
    refine (HK'.out _).mono ?_
    rintro e w2 ⟨rfl, b2⟩
    go_wp2_with fail
    refine (HS.out _).mono ?_
    rintro e w3 ⟨rfl, rfl⟩
    go_wp2_with fail
    refine (HA.out _).mono ?_
    rintro e w3 ⟨rfl, rfl⟩
    go_wp2_with fail
    refine (HB.out _).mono ?_
    rintro e w3 ⟨rfl, rfl⟩
    go_wp2
    go_ret
    exact ⟨rfl, bt b1 b2⟩
  · clear HOB E2
    go_enter Try.func4, Try.ntmps4
    go_wp2_with fail
    refine (alive_any _).mono ?_
    rintro e w1 ⟨rfl, b1⟩
    go_wp2_with fail
    refine (HK'.out _).mono ?_
    rintro e w2 ⟨rfl, b2⟩
    go_wp2_with fail
    refine (HS.out _).mono ?_
    rintro e w3 ⟨rfl, rfl⟩
    go_wp2_with fail
    refine (HA.out _).mono ?_
    rintro e w3 ⟨rfl, rfl⟩
    go_wp2
    go_ret
    exact ⟨rfl, bt b1 b2⟩
  · have ob := HOB.out E2.out
    clear HOB E2
    go_enter Try.func4, Try.ntmps4
    go_wp2_with fail
    refine (alive_any _).mono ?_
    rintro e w1 ⟨rfl, b1⟩
    go_wp2_with fail
    refine (HK'.out _).mono ?_
    rintro e w2 ⟨rfl, b2⟩
    go_wp2_with fail
    refine (HS.out _).mono ?_
    rintro e w3 ⟨rfl, rfl⟩
    go_wp2_with fail
    refine (HB.out _).mono ?_
    rintro e w3 ⟨rfl, rfl⟩
    go_wp2
    go_ret
    exact ⟨rfl, bt b1 b2⟩
  · clear HOB E2
    go_enter Try.func4, Try.ntmps4
    go_wp2_with fail
    refine (alive_any _).mono ?_
    rintro e w1 ⟨rfl, b1⟩
    go_wp2_with fail
    refine (HK'.out _).mono ?_
    rintro e w2 ⟨rfl, b2⟩
    go_wp2_with fail
    refine (HS.out _).mono ?_
    rintro e w3 ⟨rfl, rfl⟩
    go_wp2
    go_ret
    exact ⟨rfl, bt b1 b2⟩

set_option maxHeartbeats 8000000 in
set_option maxRecDepth 100000 in
theorem between_none (a b : ByteArray) (w : World) (ha : a.size ≤ 1000) (hb : b.size ≤ 1000) (hk : K.key (tx a) (tx b) = none) :
    Calls Try.prog 4 #[.string a, .string b] w fun e w' => e = .returned (.bool true) ∧ Below w.heap.size w w' := by
  have kn := K.key_none (tx_byt a) (tx_byt b) hk
  rw [tx_length, tx_length] at kn
  have HK := hid (fun W => between_any a b W (by omega) (by omega))
  rw [hk, show kv none = .tuple #[.string ⟨#[]⟩, .int .i64 15] from rfl] at HK
  clear hk
  have HS := hid (fun W => right_any a W (by omega))
  have HT := hid (fun W => right_any b W (by omega))
  have HO := hid (fun W => order_any a b W)
  have ho := K.ord_neg (tx a) (tx b)
  obtain ⟨x, hx⟩ : ∃ x, K.ord (tx a) (tx b) = x := ⟨_, rfl⟩
  rw [hx] at HO ho
  clear hx
  have n1 := nil_tx a
  have n2 := nil_tx b
  have hF : ((decide (tx a = []) || K.right (tx a)) && (decide (tx b = []) || K.right (tx b)) && (decide (tx a = []) || decide (tx b = []) || K.lt (tx a) (tx b))) = true → 31 ≤ a.size ∨ 31 ≤ b.size := by
    intro h
    rcases kn with kn | kn
    · exfalso
      unfold K.fine at kn
      by_cases e1 : tx a = []
      · by_cases e2 : tx b = []
        · simp [e1, e2] at kn
        · have := K.lt_nil e2
          rw [e1] at kn h
          simp [e2, this] at kn h
          rw [h] at kn
          simp at kn
      · simp [e1] at h kn
        rcases h with ⟨⟨h1, h2⟩, h3⟩
        have := kn h1 h2
        rcases h3 with h3 | h3
        · exact this.1 h3
        · rw [h3] at this; simp at this
    · exact kn
  clear kn
  generalize K.right (tx a) = rs at HS hF
  generalize K.right (tx b) = rt at HT hF
  generalize K.lt (tx a) (tx b) = l at ho hF
  generalize decide (tx a = []) = e1 at n1 hF
  generalize decide (tx b = []) = e2 at n2 hF
  have HF := hid hF
  clear hF
  cases e1
  · cases rs
    · clear HF
      go_enter Try.func4, Try.ntmps4
      go_wp2_with fail
      refine (alive_any _).mono ?_
      rintro e w1 ⟨rfl, b1⟩
      go_wp2_with fail
      refine (HK.out _).mono ?_
      rintro e w2 ⟨rfl, b2⟩
      go_wp2_with fail
      refine (HS.out _).mono ?_
      rintro e w3 ⟨rfl, rfl⟩
      go_wp2
      go_ret
      exact ⟨rfl, bt b1 b2⟩
    · cases e2
      · cases rt
        · clear HF
          go_enter Try.func4, Try.ntmps4
          go_wp2_with fail
          refine (alive_any _).mono ?_
          rintro e w1 ⟨rfl, b1⟩
          go_wp2_with fail
          refine (HK.out _).mono ?_
          rintro e w2 ⟨rfl, b2⟩
          go_wp2_with fail
          refine (HS.out _).mono ?_
          rintro e w3 ⟨rfl, rfl⟩
          go_wp2_with fail
          refine (HT.out _).mono ?_
          rintro e w3 ⟨rfl, rfl⟩
          go_wp2
          go_ret
          exact ⟨rfl, bt b1 b2⟩
        · cases l
          · clear HF
            go_enter Try.func4, Try.ntmps4
            go_wp2_with fail
            refine (alive_any _).mono ?_
            rintro e w1 ⟨rfl, b1⟩
            go_wp2_with fail
            refine (HK.out _).mono ?_
            rintro e w2 ⟨rfl, b2⟩
            go_wp2_with fail
            refine (HS.out _).mono ?_
            rintro e w3 ⟨rfl, rfl⟩
            go_wp2_with fail
            refine (HT.out _).mono ?_
            rintro e w3 ⟨rfl, rfl⟩
            go_wp2_with fail
            refine (HO.out _).mono ?_
            rintro e w3 ⟨rfl, rfl⟩
            go_wp2
            go_ret
            exact ⟨rfl, bt b1 b2⟩
          · have hF := HF.out (by simp)
            clear HF
            by_cases hp : 31 ≤ a.size
            · clear hF
              go_enter Try.func4, Try.ntmps4
              go_wp2_with fail
              refine (alive_any _).mono ?_
              rintro e w1 ⟨rfl, b1⟩
              go_wp2_with fail
              refine (HK.out _).mono ?_
              rintro e w2 ⟨rfl, b2⟩
              go_wp2_with fail
              refine (HS.out _).mono ?_
              rintro e w3 ⟨rfl, rfl⟩
              go_wp2_with fail
              refine (HT.out _).mono ?_
              rintro e w3 ⟨rfl, rfl⟩
              go_wp2_with fail
              refine (HO.out _).mono ?_
              rintro e w3 ⟨rfl, rfl⟩
              go_wp2
              go_ret
              exact ⟨rfl, bt b1 b2⟩
            · have hq : 31 ≤ b.size := hF.resolve_left hp
              clear hF
              go_enter Try.func4, Try.ntmps4
              go_wp2_with fail
              refine (alive_any _).mono ?_
              rintro e w1 ⟨rfl, b1⟩
              go_wp2_with fail
              refine (HK.out _).mono ?_
              rintro e w2 ⟨rfl, b2⟩
              go_wp2_with fail
              refine (HS.out _).mono ?_
              rintro e w3 ⟨rfl, rfl⟩
              go_wp2_with fail
              refine (HT.out _).mono ?_
              rintro e w3 ⟨rfl, rfl⟩
              go_wp2_with fail
              refine (HO.out _).mono ?_
              rintro e w3 ⟨rfl, rfl⟩
              go_wp2
              go_ret
              exact ⟨retb (by simp; omega), bt b1 b2⟩
      · have hF := HF.out (by simp)
        clear HF
        by_cases hp : 31 ≤ a.size
        · clear hF
          go_enter Try.func4, Try.ntmps4
          go_wp2_with fail
          refine (alive_any _).mono ?_
          rintro e w1 ⟨rfl, b1⟩
          go_wp2_with fail
          refine (HK.out _).mono ?_
          rintro e w2 ⟨rfl, b2⟩
          go_wp2_with fail
          refine (HS.out _).mono ?_
          rintro e w3 ⟨rfl, rfl⟩
          go_wp2
          go_ret
          exact ⟨rfl, bt b1 b2⟩
        · have hq : 31 ≤ b.size := hF.resolve_left hp
          clear hF
          go_enter Try.func4, Try.ntmps4
          go_wp2_with fail
          refine (alive_any _).mono ?_
          rintro e w1 ⟨rfl, b1⟩
          go_wp2_with fail
          refine (HK.out _).mono ?_
          rintro e w2 ⟨rfl, b2⟩
          go_wp2_with fail
          refine (HS.out _).mono ?_
          rintro e w3 ⟨rfl, rfl⟩
          go_wp2
          go_ret
          exact ⟨retb (by simp; omega), bt b1 b2⟩
  · cases e2
    · cases rt
      · clear HF
        go_enter Try.func4, Try.ntmps4
        go_wp2_with fail
        refine (alive_any _).mono ?_
        rintro e w1 ⟨rfl, b1⟩
        go_wp2_with fail
        refine (HK.out _).mono ?_
        rintro e w2 ⟨rfl, b2⟩
        go_wp2_with fail
        refine (HT.out _).mono ?_
        rintro e w3 ⟨rfl, rfl⟩
        go_wp2
        go_ret
        exact ⟨rfl, bt b1 b2⟩
      · have hF := HF.out (by simp)
        clear HF
        by_cases hp : 31 ≤ a.size
        · clear hF
          go_enter Try.func4, Try.ntmps4
          go_wp2_with fail
          refine (alive_any _).mono ?_
          rintro e w1 ⟨rfl, b1⟩
          go_wp2_with fail
          refine (HK.out _).mono ?_
          rintro e w2 ⟨rfl, b2⟩
          go_wp2_with fail
          refine (HT.out _).mono ?_
          rintro e w3 ⟨rfl, rfl⟩
          go_wp2
          go_ret
          exact ⟨rfl, bt b1 b2⟩
        · have hq : 31 ≤ b.size := hF.resolve_left hp
          clear hF
          go_enter Try.func4, Try.ntmps4
          go_wp2_with fail
          refine (alive_any _).mono ?_
          rintro e w1 ⟨rfl, b1⟩
          go_wp2_with fail
          refine (HK.out _).mono ?_
          rintro e w2 ⟨rfl, b2⟩
          go_wp2_with fail
          refine (HT.out _).mono ?_
          rintro e w3 ⟨rfl, rfl⟩
          go_wp2
          go_ret
          exact ⟨retb (by simp; omega), bt b1 b2⟩
    · have hF := HF.out (by simp)
      clear HF
      by_cases hp : 31 ≤ a.size
      · clear hF
        go_enter Try.func4, Try.ntmps4
        go_wp2_with fail
        refine (alive_any _).mono ?_
        rintro e w1 ⟨rfl, b1⟩
        go_wp2_with fail
        refine (HK.out _).mono ?_
        rintro e w2 ⟨rfl, b2⟩
        go_wp2
        go_ret
        exact ⟨rfl, bt b1 b2⟩
      · have hq : 31 ≤ b.size := hF.resolve_left hp
        clear hF
        go_enter Try.func4, Try.ntmps4
        go_wp2_with fail
        refine (alive_any _).mono ?_
        rintro e w1 ⟨rfl, b1⟩
        go_wp2_with fail
        refine (HK.out _).mono ?_
        rintro e w2 ⟨rfl, b2⟩
        go_wp2
        go_ret
        exact ⟨retb (by simp; omega), bt b1 b2⟩

theorem between_law (a b : ByteArray) (w : World) (wa : a.size ≤ maxLen) (wb : b.size ≤ maxLen) :
    Calls Try.prog 4 #[.string a, .string b] w fun e w' => e = .returned (.bool true) ∧ Below w.heap.size w w' := by
  by_cases h : 1000 < a.size ∨ 1000 < b.size
  · exact between_long a b w wa wb h
  · cases hk : K.key (tx a) (tx b) with
    | none => exact between_none a b w (by omega) (by omega) hk
    | some k => exact between_some a b k w (by omega) (by omega) hk


namespace fracBetween
open Go.ChangeShapes Go.WideShapes Go.ChangeAt
open Go.ChangeMaps (open_string shut_string)

theorem own : ownKnob Try.prog.godebug = none := by kernel_rfl
theorem laidOut : laidOutB Try.prog = true := by kernel_rfl

set_option maxRecDepth 100000 in
theorem lifted (os : Os) (started : os.Started) (H : Type) (enc : TypeId × Value → H) :
    ReturnsInHanded {} Try.checked os 4 .any (Rows.fracBetweenSpec.pre6 enc Try.prog Try.f4 Rows.fracBetweenRow.domain false) (Rows.fracBetweenSpec.post enc Try.prog Try.f4 false true false false) := by
  refine returnsInHanded_of_change (C := Try.checked) own started (by kernel_rfl) Try.func4
    (ChangeSpec.witness6 (enc := enc) (C := Try.checked) false ⟨#[], #[.string ByteArray.empty, .string ByteArray.empty], []⟩ 8 (by kernel_rfl) (by kernel_rfl) (by kernel_rfl) (by kernel_rfl)) ?_
  intro W base args ds gs before hval0 hW hcnd _
  have hval : ∀ (j : Nat) t v, Try.f4.params[j]? = some t → args[j]? = some v → Value.okWide Try.prog W .any base t v := hval0
  have hW' := hW
  obtain ⟨p, q, hA0, hV, rfl, hfz, hnd⟩ := hW
  have hA : DataW.TrodAll enc Try.prog W 0 (fun _ => true) true Try.f4.params.toList args.toList ds p := hA0
  rw [Try.params4] at hA hval
  obtain ⟨v0, vs0, d0, ds0, p0, q0, hargs, rfl, rfl, h0, r0⟩ := trodAll_cons hA
  obtain ⟨v1, vs1, d1, ds1, p1, q1, rfl, rfl, rfl, h1, r1⟩ := trodAll_cons r0
  obtain ⟨rfl, rfl, rfl⟩ := trodAll_nil r1
  obtain rfl : args = #[v0, v1] := by cases args; simp_all
  obtain ⟨rfl, rfl⟩ := trodVars_none hV
  obtain ⟨a0, rfl, rfl, rfl, w0⟩ := open_string Try.underlying9 (hval 0 9 v0 rfl rfl) h0
  obtain ⟨a1, rfl, rfl, rfl, w1⟩ := open_string Try.underlying9 (hval 1 9 v1 rfl rfl) h1
  clear hA0 hval0
  simp only [List.append_nil] at hW'
  refine (between_law a0 a1 W w0 w1).mono fun e W' ⟨he, bel⟩ => ?_
  subst he
  exact ⟨_, rfl, _, _, _, [], [], [], hW', trodAll_mk1 (shut_bool Try.underlying4 _), (trodAll_cons_mk (shut_string Try.underlying9 w0) (trodAll_cons_mk (shut_string Try.underlying9 w1) trodAll_mk0)), rfl, bel.frame _, fun h => by cases h⟩

theorem over : Rows.fracBetweenRow.holds Try.pinned (OpenSpec.ofChange Rows.fracBetweenSpec) :=
  OpenClaim.holds_of_wide 4 Try.f4 rfl rfl rfl rfl rfl rfl rfl ⟨rfl, rfl, rfl, rfl, rfl⟩ rfl rfl rfl rfl rfl (by kernel_rfl) Try.func4 (by kernel_rfl)
    (of_decide_eq_true (by kernel_rfl)) (by unfold Func.isWrapper; first | (rw [if_pos (by decide +kernel)]; kernel_rfl) | (rw [if_neg (by decide +kernel)]; exact ⟨rfl, rfl⟩))
    (fun os started H enc _ => lifted os started H enc)
end fracBetween

/-- THE STATEMENT. -/
theorem fracBetween_holds : Rows.FracBetweenSaid := fracBetween.over


end Go.Proofs.Ytobnnidlpbnbkaa
