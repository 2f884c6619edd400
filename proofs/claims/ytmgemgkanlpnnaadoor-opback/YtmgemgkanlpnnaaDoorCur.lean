/-
  What the methods of num.Cursor return, and what the cursor is then over, is proved here, for every cursor.
-/
import Derived.Test.YtmgemgkanlpnnaaDoorAt
import Derived.Test.YtmgemgkanlpnnaaDoorConv
import Derived.Test.YtmgemgkanlpnnaaDoorFirst
import Derived.Laws.BytesString
namespace Go.Proofs.YtmgemgkanlpnnaaDoor
open Go.RowKit
set_option linter.unusedVariables false
set_option maxRecDepth 100000

set_option maxHeartbeats 400000 in
theorem lose_any (b : Nat) (xs : List Int) (lost : Bool) (w : World) (h : Cur 94 w b xs lost) :
    Calls Tryd.prog 56 #[.pointer (some ⟨b, 0, none⟩)] w fun e w' => e = .returned (.tuple #[]) ∧ Cur 94 w' b [] true ∧ w.grownBy w' (some b) := by
  obtain ⟨a, c, hB, hc0, hc1, hf0, hf1⟩ := h.cells
  have h1 := h.set0 (Bs.nil w)
  have h2 := h1.1.set1 (l' := true)
  have H1 := hid h1
  have H2 := hid h2
  clear h1 h2 hB h
  go_enter Tryd.func56, Tryd.ntmps56
  go_wp2
  go_end0
  exact ⟨rfl, H2.out.1, H1.out.2.trans H2.out.2⟩

set_option maxHeartbeats 1000000 in
theorem num_any (b : Nat) (xs : List Int) (lost : Bool) (most : Int) (w : World) (h : Cur 94 w b xs lost) :
    Calls Tryd.prog 28 #[.pointer (some ⟨b, 0, none⟩), .int .i64 most] w fun e w' =>
      e = .returned (.int .i64 (M.numV most xs)) ∧ Cur 94 w' b (M.numS most xs) (M.numL most xs lost) ∧ w.grownBy w' (some b) := by
  obtain ⟨a, c, hB, hc0, hc1, hf0, hf1⟩ := h.cells
  have HB := hid hB
  have HC := hid h
  have HF := fun w => first_any (.slice a xs.length c) xs w
  have HFH := hid HF
  clear hB h HF
  by_cases hok : M.numOk most xs = true
  · have hfo : M.fo xs = true := by unfold M.numOk at hok; simp at hok; exact hok.1
    have hle : M.fn xs ≤ most := by unfold M.numOk at hok; simp at hok; exact hok.2
    have hfc := M.fo_spec hfo
    have hfl := hfc.2.1
    have hf1 := hfc.1
    have e1 : M.numV most xs = M.fn xs := by simp [M.numV, hok]
    have e2 : M.numS most xs = xs.drop (M.fc xs) := by simp [M.numS, hok]
    have e3 : M.numL most xs lost = lost := by simp [M.numL, hok]
    rw [e1, e2, e3]
    clear e1 e2 e3 hfc hok
    have hD := Bs.drop HB.out (M.fc xs) hfl
    have hl := HB.out.len
    unfold maxLen at hl
    obtain ⟨bl, off, c', hv, hcc, _⟩ := HB.out.inv (by omega)
    simp only [Value.slice.injEq, true_and] at hv
    obtain ⟨rfl, rfl⟩ := hv
    have HD := hid hD
    clear hD
    by_cases hcf : c = M.fc xs
    · subst hcf
      go_enter Tryd.func28, Tryd.ntmps28
      go_wp2_with fail
      refine (HFH.out _ HB.out).mono ?_
      rintro e w1 ⟨rfl, nd, rfl⟩
      go_wp2
      go_ret
      have hs := (HC.out.drewN nd).set0 (v := _) (HD.out.drewN nd)
      simp only [if_pos] at hs
      rw [show xs.length - M.fc xs = 0 by omega, Nat.sub_self] at hs
      exact ⟨rfl, hs.1, World.grownBy.of_drewN hs.2⟩
    · skip
      go_enter Tryd.func28, Tryd.ntmps28
      go_wp2_with fail
      refine (HFH.out _ HB.out).mono ?_
      rintro e w1 ⟨rfl, nd, rfl⟩
      go_wp2
      go_ret
      have hs := (HC.out.drewN nd).set0 (v := _) (HD.out.drewN nd)
      simp only [if_neg hcf, Option.map_some, Addr.add_lit] at hs
      exact ⟨rfl, hs.1, World.grownBy.of_drewN hs.2⟩
  · have e1 : M.numV most xs = 0 := by simp [M.numV, hok]
    have e2 : M.numS most xs = [] := by simp [M.numS, hok]
    have e3 : M.numL most xs lost = true := by simp [M.numL, hok]
    rw [e1, e2, e3]
    clear e1 e2 e3
    have hl := HB.out.len
    unfold maxLen at hl
    by_cases hfo : M.fo xs = true
    · have hgt : most < M.fn xs := by unfold M.numOk at hok; simp [hfo] at hok; exact hok
      clear hok
      go_enter Tryd.func28, Tryd.ntmps28
      go_wp2_with fail
      refine (HFH.out _ HB.out).mono ?_
      rintro e w1 ⟨rfl, nd, rfl⟩
      go_wp2_with fail
      refine (lose_any b xs lost _ (HC.out.drewN nd)).mono ?_
      rintro e w1 ⟨rfl, hc, hg⟩
      go_wp2
      go_ret
      exact ⟨rfl, hc, World.grownBy.of_drewN hg⟩
    · have hfo' : M.fo xs = false := by simpa using hfo
      clear hok hfo
      go_enter Tryd.func28, Tryd.ntmps28
      go_wp2_with fail
      refine (HFH.out _ HB.out).mono ?_
      rintro e w1 ⟨rfl, nd, rfl⟩
      go_wp2_with fail
      refine (lose_any b xs lost _ (HC.out.drewN nd)).mono ?_
      rintro e w1 ⟨rfl, hc, hg⟩
      go_wp2
      go_ret
      exact ⟨rfl, hc, World.grownBy.of_drewN hg⟩


set_option maxHeartbeats 1000000 in
theorem take_any (b : Nat) (xs : List Int) (lost : Bool) (n : Int) (w : World) (h : Cur 94 w b xs lost) :
    Calls Tryd.prog 67 #[.pointer (some ⟨b, 0, none⟩), .int .i64 n] w fun e w' =>
      ∃ v, e = .returned v ∧ Bs w' v (M.takeV n xs) ∧ Cur 94 w' b (M.takeS n xs) (M.takeL n xs lost) ∧ w.grownBy w' (some b) := by
  obtain ⟨a, c, hB, hc0, hc1, hf0, hf1⟩ := h.cells
  have HB := hid hB
  have HC := hid h
  have hl := hB.len
  have hlc : xs.length ≤ c := by
    obtain ⟨a', c', hv, h2, _⟩ := hB
    simp only [Value.slice.injEq, true_and] at hv
    omega
  unfold maxLen at hl
  clear hB h
  by_cases hok : M.takeOk n xs = true
  · have hn : 0 ≤ n ∧ n ≤ xs.length := by unfold M.takeOk at hok; simpa using hok
    obtain ⟨h0, h1⟩ := hn
    rw [show M.takeV n xs = xs.take n.toNat by simp [M.takeV, hok], show M.takeS n xs = xs.drop n.toNat by simp [M.takeS, hok], show M.takeL n xs lost = lost by simp [M.takeL, hok]]
    clear hok
    obtain ⟨k, rfl⟩ := Int.eq_ofNat_of_zero_le h0
    rw [Int.toNat_natCast]
    have hk : k ≤ xs.length := by omega
    have hD := Bs.drop HB.out k hk
    have hT := Bs.take HB.out k hk
    have HD := hid hD
    have HT := hid hT
    clear hD hT h0
    by_cases hcf : c = k
    · subst hcf
      have hck : (c : Int) ≤ (c : Int) := by omega
      go_enter Tryd.func67, Tryd.ntmps67
      go_wp2
      go_ret
      have hs := HC.out.set0 HD.out
      simp only [if_pos] at hs
      rw [show xs.length - c = 0 by omega, Nat.sub_self] at hs
      exact ⟨_, rfl, HT.out.keeps (HC.out.keeps hs.2), hs.1, hs.2⟩
    · have hck : (k : Int) ≤ (c : Int) := by omega
      go_enter Tryd.func67, Tryd.ntmps67
      go_wp2
      go_ret
      have hs := HC.out.set0 HD.out
      simp only [if_neg hcf] at hs
      exact ⟨_, rfl, HT.out.keeps (HC.out.keeps hs.2), hs.1, hs.2⟩
  · have hn : ¬ (0 ≤ n ∧ n ≤ xs.length) := by unfold M.takeOk at hok; simpa using hok
    rw [show M.takeV n xs = [] by simp [M.takeV, hok], show M.takeS n xs = [] by simp [M.takeS, hok], show M.takeL n xs lost = true by simp [M.takeL, hok]]
    clear hok
    by_cases h0 : n < 0
    · clear hn
      go_enter Tryd.func67, Tryd.ntmps67
      go_wp2_with fail
      refine (lose_any b xs lost _ HC.out).mono ?_
      rintro e w1 ⟨rfl, hc, hg⟩
      go_wp2
      go_ret
      exact ⟨_, rfl, Bs.nil _, hc, hg⟩
    · have h1 : (xs.length : Int) < n := by omega
      clear hn
      go_enter Tryd.func67, Tryd.ntmps67
      go_wp2_with fail
      refine (lose_any b xs lost _ HC.out).mono ?_
      rintro e w1 ⟨rfl, hc, hg⟩
      go_wp2
      go_ret
      exact ⟨_, rfl, Bs.nil _, hc, hg⟩


/-- What a text of a cursor comes to. -/
def M.textV (most : Int) (xs : List Int) : List Int := M.takeV (M.numV most xs) (M.numS most xs)
def M.textS (most : Int) (xs : List Int) : List Int := M.takeS (M.numV most xs) (M.numS most xs)
def M.textL (most : Int) (xs : List Int) (lost : Bool) : Bool := M.takeL (M.numV most xs) (M.numS most xs) (M.numL most xs lost)

set_option maxHeartbeats 400000 in
theorem text_any (b : Nat) (xs : List Int) (lost : Bool) (most : Int) (w : World) (h : Cur 94 w b xs lost) :
    Calls Tryd.prog 38 #[.pointer (some ⟨b, 0, none⟩), .int .i64 most] w fun e w' =>
      e = .returned (.string (M.str (M.textV most xs))) ∧ Cur 94 w' b (M.textS most xs) (M.textL most xs lost) ∧ w.grownBy w' (some b) := by
  go_enter Tryd.func38, Tryd.ntmps38
  go_wp2_with fail
  refine (num_any b xs lost most _ h).mono ?_
  rintro e w1 ⟨rfl, hc1, hg1⟩
  go_wp2_with fail
  refine (take_any b _ _ _ _ hc1).mono ?_
  rintro e w2 ⟨v, rfl, hB, hc2, hg2⟩
  have hcv := conv_str hB
  go_wp2
  go_ret
  exact ⟨rfl, hc2, hg1.trans hg2⟩

set_option maxHeartbeats 400000 in
theorem left_any (b : Nat) (xs : List Int) (lost : Bool) (w : World) (h : Cur 94 w b xs lost) :
    Calls Tryd.prog 39 #[.pointer (some ⟨b, 0, none⟩)] w fun e w' => e = .returned (.int .i64 xs.length) ∧ w = w' := by
  obtain ⟨a, c, hB, hc0, hc1, hf0, hf1⟩ := h.cells
  clear hB h
  go_enter Tryd.func39, Tryd.ntmps39
  go_wp2
  go_ret
  exact ⟨rfl, rfl⟩

set_option maxHeartbeats 400000 in
theorem end_any (b : Nat) (xs : List Int) (lost : Bool) (w : World) (h : Cur 94 w b xs lost) :
    Calls Tryd.prog 32 #[.pointer (some ⟨b, 0, none⟩)] w fun e w' => e = .returned (.bool (!lost && xs.isEmpty)) ∧ w = w' := by
  obtain ⟨a, c, hB, hc0, hc1, hf0, hf1⟩ := h.cells
  clear hB h
  have he : ((xs.length : Int) == 0) = xs.isEmpty := by cases xs <;> simp; omega
  cases lost
  · go_enter Tryd.func32, Tryd.ntmps32
    go_wp2
    go_ret
    exact ⟨rfl, rfl⟩
  · go_enter Tryd.func32, Tryd.ntmps32
    go_wp2
    go_ret
    exact ⟨rfl, rfl⟩

end Go.Proofs.YtmgemgkanlpnnaaDoor
