/-
  What offshootref00.SameLists and Weigh return is proved here: whether two rows of bytes are one; a number that is too great, if the rows weigh too much (rows of at most 2^47 bytes each).
-/
import Derived.Test.YtkbfkdgdommngaaLists
import Derived.Test.YtkbfkdgdommngaaSame
namespace Go.Proofs.Ytkbfkdgdommngaa
open Go.RowKit
set_option linter.unusedVariables false

theorem takel_step {xs ys : List (List Int)} {k : Nat} (h1 : k < xs.length) (h2 : k < ys.length) (h : xs.take k = ys.take k) (he : xs.getD k [] = ys.getD k []) : xs.take (k + 1) = ys.take (k + 1) := by
  rw [List.take_succ_eq_append_getElem h1, List.take_succ_eq_append_getElem h2, h]
  simp [List.getD, h1, h2] at he
  rw [he]

set_option maxHeartbeats 1000000 in
theorem samel_any (a b : Value) (xs ys : List (List Int)) (w : World) (h1 : Ls w a xs) (h2 : Ls w b ys) :
    Calls Try.prog 19 #[a, b] w fun e w' => e = .returned (.bool (decide (xs = ys))) ∧ ∃ n, w' = w.drewN n := by
  have l1 := h1.len
  have l2 := h2.len
  unfold maxLen at l1 l2
  by_cases hl : xs.length = ys.length
  · by_cases hz : xs.length = 0
    · have e1 : xs = [] := List.eq_nil_of_length_eq_zero hz
      have e2 : ys = [] := List.eq_nil_of_length_eq_zero (by omega)
      subst e1 e2
      obtain ⟨a1, c1, rfl, _⟩ := h1.inv_nil
      obtain ⟨a2, c2, rfl, _⟩ := h2.inv_nil
      clear h1 h2 l1 l2 hl hz
      go_enter Try.func19, Try.ntmps19
      go_wp2
      refine wp_loop_rounds 1 ?_
      rw [rounds_succ]
      go_wp2
      go_ret
      exact ⟨rfl, 0, rfl⟩
    · obtain ⟨b1, o1, c1, rfl, _, _, hc1⟩ := h1.inv (by omega)
      obtain ⟨b2, o2, c2, rfl, _, _, hc2⟩ := h2.inv (by omega)
      rw [← hl]
      obtain ⟨n, hn⟩ : ∃ n, xs.length = n := ⟨_, rfl⟩
      have HL : Hid (ys.length = n) := by rw [← hl]; exact hn
      have HN : Hid (xs.length = n) := hn
      rw [hn]
      rw [hn] at hz l1
      clear hn hl h1 h2
      have hnn : ((n : Int) != (n : Int)) = false := by simp
      go_enter Try.func19, Try.ntmps19
      go_wp2
      go_loopw [5] (fun i wr => ∃ k m : Nat, k ≤ n ∧ i = .int .i64 k ∧ wr = w.drewN m ∧ xs.take k = ys.take k) (fun i _ => n - (intOf i).toNat)
      case atStart => exact ⟨0, 0, Nat.zero_le _, rfl, rfl, by simp⟩
      case round =>
        obtain ⟨k, m, hk, rfl, rfl, ht⟩ := hrel
        have HT := hid ht
        clear ht
        by_cases hlt : k < n
        · obtain ⟨u1, g1, s1⟩ := hc1 k (by have := HN.out; omega)
          obtain ⟨u2, g2, s2⟩ := hc2 k (by have := HL.out; omega)
          clear hc1 hc2
          have b1' : (k : Int) < (n : Int) := by omega
          have f1 : ∃ a c m, u1 = .slice a m c := by
            obtain ⟨a, c, e, _⟩ := s1
            exact ⟨a, c, _, e⟩
          have f2 : ∃ a c m, u2 = .slice a m c := by
            obtain ⟨a, c, e, _⟩ := s2
            exact ⟨a, c, _, e⟩
          obtain ⟨a1, d1, m1, rfl⟩ := f1
          obtain ⟨a2, d2, m2, rfl⟩ := f2
          obtain ⟨t, ht⟩ : ∃ t, decide (xs.getD k [] = ys.getD k []) = t := ⟨_, rfl⟩
          have HS : Hid (∀ q, Calls Try.prog 18 #[.slice a1 m1 d1, .slice a2 m2 d2] (w.drewN (m + q)) fun e w' => e = .returned (.bool t) ∧ ∃ n, w' = w.drewN (m + n)) := by
            intro q
            rw [← ht]
            exact (same_any _ _ _ _ (w.drewN (m + q)) (s1.drewN _) (s2.drewN _)).mono fun _ _ ⟨he, n, hn⟩ => ⟨he, q + n, by rw [hn, World.drewN_drewN, Nat.add_assoc]⟩
          clear s1 s2
          go_wp2
          go_quiet ((go_at_call 18; exact HS.out _))
          by_cases he : xs.getD k [] = ys.getD k []
          · rw [decide_eq_true he] at ht
            subst ht
            have HE := hid he
            clear he
            go_wp2
            go_roundw
            case rel => exact ⟨k + 1, _, by omega, by go_num, rfl, takel_step (by have := HN.out; omega) (by have := HL.out; omega) HT.out HE.out⟩
            case measure => simp [intOf]; omega
          · rw [decide_eq_false he] at ht
            subst ht
            have HE := hid he
            clear he
            go_wp2
            go_ret
            exact ⟨by rw [decide_eq_false (by intro e; exact HE.out (by rw [e]))]; rfl, _, World.drewN_drewN _ _ _⟩
        · clear hc1 hc2
          go_wp2
          go_ret
          refine ⟨?_, _, rfl⟩
          have e1 : k = n := by omega
          have h3 := HT.out
          rw [List.take_of_length_le (by have := HN.out; omega), List.take_of_length_le (by have := HL.out; omega)] at h3
          rw [decide_eq_true h3]; rfl
  · have hne : ((xs.length : Int) != (ys.length : Int)) = true := by simp; omega
    obtain ⟨a1, c1, rfl, _⟩ := h1
    obtain ⟨a2, c2, rfl, _⟩ := h2
    go_enter Try.func19, Try.ntmps19
    go_wp2
    go_ret
    exact ⟨by rw [decide_eq_false (by intro e; exact hl (by rw [e]))]; rfl, 0, rfl⟩

theorem samel_b (a b : Value) (xs ys : List (List Int)) (w : World) (h1 : Ls w a xs) (h2 : Ls w b ys) :
    Calls Try.prog 19 #[a, b] w fun e w' => e = .returned (.bool (decide (xs = ys))) ∧ Below w.heap.size w w' :=
  (samel_any a b xs ys w h1 h2).mono fun _ _ ⟨he, n, hw⟩ => ⟨he, by rw [hw]; exact bd w n⟩

/-- What rows weigh. -/
def wgt : List (List Int) → Nat
  | [] => 0
  | l :: r => 1 + l.length + wgt r
theorem wgt_append (a b : List (List Int)) : wgt (a ++ b) = wgt a + wgt b := by
  induction a with
  | nil => simp [wgt]
  | cons l r ih => simp only [List.cons_append, wgt, ih]; omega
theorem wgt_step {xs : List (List Int)} {k : Nat} (h : k < xs.length) : wgt (xs.take (k + 1)) = wgt (xs.take k) + 1 + (xs.getD k []).length := by
  rw [List.take_succ_eq_append_getElem h, wgt_append]
  simp [wgt, List.getD, h]
  omega
theorem wgt_mem {xs : List (List Int)} {l : List Int} (h : l ∈ xs) : l.length < wgt xs := by
  induction xs with
  | nil => cases h
  | cons a r ih =>
    rcases List.mem_cons.1 h with rfl | h
    · simp only [wgt]; omega
    · have := ih h; simp only [wgt]; omega
theorem wgt_len (xs : List (List Int)) : xs.length ≤ wgt xs := by
  induction xs with
  | nil => simp [wgt]
  | cons a r ih => simp only [wgt, List.length_cons]; omega

set_option maxHeartbeats 1000000 in
theorem weigh_any (a : Value) (xs : List (List Int)) (most : Nat) (w : World) (h : Ls w a xs) (hx : ∀ l ∈ xs, l.length ≤ 140737488355328) (hm : most ≤ 140737488355328) :
    Calls Try.prog 20 #[a, .int .i64 most] w fun e w' => ∃ r : Int, e = .returned (.int .i64 r) ∧ w = w' ∧ (r ≤ most → r = wgt xs) := by
  have l1 := h.len
  unfold maxLen at l1
  by_cases hb : most < xs.length
  · obtain ⟨a1, c1, rfl, _⟩ := h
    have hb' : (most : Int) < (xs.length : Int) := by omega
    go_enter Try.func20, Try.ntmps20
    go_wp2
    go_ret
    exact ⟨(most : Int) + 1, rfl, rfl, by omega⟩
  · have hb' : ¬ (most : Int) < (xs.length : Int) := by omega
    by_cases hz : xs.length = 0
    · have e1 : xs = [] := List.eq_nil_of_length_eq_zero hz
      subst e1
      obtain ⟨a1, c1, rfl, _⟩ := h.inv_nil
      clear h l1 hz
      go_enter Try.func20, Try.ntmps20
      go_wp2
      refine wp_loop_rounds 1 ?_
      rw [rounds_succ]
      go_wp2
      go_ret
      exact ⟨0, rfl, rfl, fun _ => rfl⟩
    · obtain ⟨b1, o1, c1, rfl, _, _, hc1⟩ := h.inv (by omega)
      obtain ⟨n, hn⟩ : ∃ n, xs.length = n := ⟨_, rfl⟩
      have HN : Hid (xs.length = n) := hn
      rw [hn]
      rw [hn] at hz l1 hb hb' hc1
      have HX := hid hx
      have HC := hid hc1
      clear hn h hx hc1
      go_enter Try.func20, Try.ntmps20
      go_wp2
      go_loop [5, 6] (fun s i => ∃ k : Nat, k ≤ n ∧ i = .int .i64 k ∧ s = .int .i64 (wgt (xs.take k) : Nat) ∧ (wgt (xs.take k) ≤ most + 1 + 140737488355328)) (fun _ i => n - (intOf i).toNat)
      case atStart => exact ⟨0, Nat.zero_le _, rfl, rfl, by rw [List.take_zero]; exact Nat.zero_le _⟩
      case round =>
        obtain ⟨k, hk, rfl, rfl, hs⟩ := hrel
        obtain ⟨s, hs'⟩ : ∃ s, wgt (xs.take k) = s := ⟨_, rfl⟩
        rw [hs'] at hs ⊢
        by_cases hlt : k < n
        · have hlt' : (k : Int) < (n : Int) := by omega
          have hst := wgt_step (xs := xs) (k := k) (by rw [HN.out]; exact hlt)
          by_cases hle : s ≤ most
          · have hle' : (s : Int) ≤ (most : Int) := by omega
            obtain ⟨u, g1, s1⟩ := HC.out k hlt
            have f1 : ∃ a c, u = .slice a (xs.getD k []).length c := by
              obtain ⟨a, c, e, _⟩ := s1
              exact ⟨a, c, e⟩
            obtain ⟨a1, d1, rfl⟩ := f1
            have hlm : (xs.getD k []).length ≤ 140737488355328 := by
              have hk' : k < xs.length := by rw [HN.out]; exact hlt
              rw [List.getD_eq_getElem?_getD, List.getElem?_eq_getElem hk', Option.getD_some]
              exact HX.out _ (List.getElem_mem hk')
            obtain ⟨m, hm'⟩ : ∃ m, (xs.getD k []).length = m := ⟨_, rfl⟩
            rw [hm'] at hlm hst g1
            rw [hs'] at hst
            have HST := hid hst
            clear hst hm' s1 hs'
            go_wp2
            go_round
            case rel => exact ⟨k + 1, by omega, by go_num, by rw [HST.out]; go_num, by rw [HST.out]; omega⟩
            case measure => simp [intOf]; omega
          · have hle' : ¬ (s : Int) ≤ (most : Int) := by omega
            clear hst hs'
            go_wp2
            go_ret
            exact ⟨(s : Int), rfl, rfl, by omega⟩
        · have hlt' : decide ((k : Int) < (n : Int)) = false := by simp; omega
          have e1 : k = n := by omega
          rw [List.take_of_length_le (by rw [HN.out]; omega)] at hs'
          have HS := hid hs'
          clear hs' e1
          go_wp2
          go_ret
          exact ⟨(s : Int), rfl, rfl, fun _ => by rw [HS.out]⟩

end Go.Proofs.Ytkbfkdgdommngaa
