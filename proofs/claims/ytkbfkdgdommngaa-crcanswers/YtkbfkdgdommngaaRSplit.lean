/-
  What the reference's Split returns is proved here, for all slices that read as bytes, of at most 2^40 of them: the frames, the place behind the last one, what stands there.
-/
import Derived.Test.YtkbfkdgdommngaaRNext
import Derived.Test.YtkbfkdgdommngaaOwnL
namespace Go.Proofs.Ytkbfkdgdommngaa
open Go.RowKit
set_option linter.unusedVariables false

set_option maxHeartbeats 2000000 in
theorem refsplit_any (v : Value) (xs : List Int) (w : World) (h : Bs w v xs) (hl : xs.length ≤ 1099511627776) :
    Calls Try.prog 15 #[v] w fun e w' => ∃ (v' : Value) (fs : List (List Int)) (p t : Nat), e = .returned (.tuple #[v', .int .i64 p, .int .i64 t]) ∧ C.Sp xs fs p t ∧ Ls w' v' fs ∧ Below w.heap.size w w' := by
  have hB := hid h
  have hv : ∃ a c, v = .slice a xs.length c := by
    obtain ⟨a, c, e, _⟩ := h
    exact ⟨a, c, e⟩
  obtain ⟨a, c, rfl⟩ := hv
  clear h
  obtain ⟨n, hn⟩ : ∃ n, xs.length = n := ⟨_, rfl⟩
  rw [hn] at hl hB ⊢
  have HN := hid hn
  clear hn
  obtain ⟨i0, hi, hz0, hz1, hz2⟩ := info_parts info_u8s
  go_enter Try.func15, Try.ntmps15
  go_wp2
  go_loopw [5, 6] (fun o i wr => ∃ (fs : List (List Int)) (p : Nat), p ≤ n ∧ i = .int .i64 p ∧ fs.length ≤ p ∧ OL wr w.heap.size o fs ∧ Below w.heap.size w wr ∧ ∀ gs m t, C.Sp (xs.drop p) gs m t → C.Sp xs (fs ++ gs) (p + m) t) (fun _ i _ => n - (intOf i).toNat)
  case atStart => exact ⟨[], 0, Nat.zero_le _, rfl, Nat.le_refl _, OL.made w w.heap.size (Nat.le_refl _), ba w _, fun gs m t h => by simpa using h⟩
  case round =>
    obtain ⟨fs, p, hp, rfl, hfl, hol, bel, hsp⟩ := hrel
    have HSP := hid hsp
    have HOL := hid hol
    obtain ⟨ao, co, rfl⟩ := hol.form
    clear hsp hol
    by_cases hlt : p < n
    · have hlt' : (p : Int) < (n : Int) := by omega
      go_wp2_with fail
      refine (refnext_any _ xs p _ (hB.out.below bel) (by rw [HN.out]; exact hp) (by rw [HN.out]; omega)).mono ?_
      rintro e w1 ⟨v1, rfl, hB1, b1, hf1⟩
      have hol1 := hid (HOL.out.below b1)
      have hlo := hid HOL.out.lt
      have bel1 := bt bel b1
      clear HOL
      have hne : xs.drop p ≠ [] := by
        intro e
        have := congrArg List.length e
        rw [List.length_drop, HN.out] at this
        simp at this
        omega
      by_cases h0 : C.wh (xs.drop p) = 0
      · have hw0 := wh_0 h0
        have e1 : nxP xs p = p + 8 + C.wd (xs.drop p) := by rw [nxP, if_pos h0]
        have e2 : nxV xs p = C.bd (xs.drop p) := by rw [nxV, if_pos h0]
        rw [e2] at hB1
        rw [e1, h0]
        rw [List.length_drop, HN.out] at hw0
        have HW := hid hw0
        have hwl : p + 8 + C.wd (xs.drop p) ≤ n := by omega
        have hnext : Hid (∀ gs m t, C.Sp (xs.drop (p + 8 + C.wd (xs.drop p))) gs m t → C.Sp xs (fs ++ [C.bd (xs.drop p)] ++ gs) (p + 8 + C.wd (xs.drop p) + m) t) := by
          intro gs m t hs
          have h1 : C.Sp ((xs.drop p).drop (8 + C.wd (xs.drop p))) gs m t := by
            rw [List.drop_drop, ← Nat.add_assoc]; exact hs
          have h2 := HSP.out _ _ _ (C.Sp.more h0 h1)
          rw [List.append_assoc, List.singleton_append]
          rw [show p + 8 + C.wd (xs.drop p) + m = p + (8 + C.wd (xs.drop p) + m) by omega]
          exact h2
        clear hw0 e1 e2 h0 HSP hne
        obtain ⟨q, hq⟩ : ∃ q, p + 8 + C.wd (xs.drop p) = q := ⟨_, rfl⟩
        have hqp : p + 8 ≤ q := by omega
        rw [hq] at hwl hnext ⊢
        clear hq HW
        obtain ⟨l, hl'⟩ : ∃ l, C.bd (xs.drop p) = l := ⟨_, rfl⟩
        rw [hl'] at hB1 hnext
        clear hl'
        obtain ⟨vs, hown, hel⟩ := hol1.out
        have hvs : vs.length = fs.length := by have := hown.1; omega
        have hfar : Far (Value.ownBlock (.slice ao fs.length co)) v1 l := by
          intro hl x m c e hx
          have h1 := hf1 x m c e
          have h2 := hlo.out x.block hx.symm
          omega
        have hv1 : ∃ a1 c1, v1 = .slice a1 l.length c1 := by
          obtain ⟨a1, c1, e, _⟩ := hB1
          exact ⟨a1, c1, e⟩
        obtain ⟨a1, c1, rfl⟩ := hv1
        have bA := ba w1 (.cells #[.slice a1 l.length c1] 22)
        have hown1 := hown.alloc (.cells #[.slice a1 l.length c1] 22)
        have hel1 := hid (fun i hi => (fun ⟨u, e1, e2, e3⟩ => ⟨u, e1, e2.below bA, e3⟩ : (∃ u, vs[i]? = some u ∧ Bs w1 u (fs.getD i []) ∧ Far (Value.ownBlock (.slice ao fs.length co)) u (fs.getD i [])) → ∃ u, vs[i]? = some u ∧ Bs (w1.alloc (.cells #[.slice a1 l.length c1] 22)) u (fs.getD i []) ∧ Far (Value.ownBlock (.slice ao fs.length co)) u (fs.getD i [])) (hel i hi))
        have hB2 := hid (hB1.below bA)
        have HB1 := hid hB1
        clear hel hB1 hol1
        go_wp2_with (at_builtin; refine wpList_append_own_at _ rfl (.tmp 27) (.tmp 29) 29 rfl w.heap.size 22 i0 (.slice none 0 0) 1 24 Try.underlying29 hi hz0 hz1 hz2 rfl (by decide) _ _ _ rfl hown1 ⟨w1.heap.size, 0, none⟩ 1 1 [.slice a1 l.length c1] rfl rfl (cell_one_new _ _ _) ?c2 ?c3 ?c4 ?c5 ?_)
        case c2 => intro u hu; simp at hu; subst hu; rfl
        case c3 => unfold maxLen; omega
        case c4 => omega
        case c5 => have := bel1.size; simp; omega
        intro v' w2 hown2 hgrow _ hat
        have b2 : Below w.heap.size w w2 := (bel1.alloc bel1.size _).grown hgrow (by have := bel1.size; simp; omega) (fun k hk => (hlo.out k hk).1)
        have hOL2 := hid (OL.snoc hel1.out hvs hB2.out hfar hown2 hgrow (by simpa using hat))
        obtain ⟨ao2, co2, rfl⟩ := hOL2.out.form
        clear hown2 hown hown1 hgrow hat bel1 bel b1 bA hel1 hB2 HB1 hfar hlo hf1
        go_wp2
        go_roundw
        case rel =>
          have R : ∃ (gs : List (List Int)) (p' : Nat), p' ≤ n ∧ Value.int .i64 (q : Int) = .int .i64 p' ∧ gs.length ≤ p' ∧ OL w2 w.heap.size (.slice ao2 (fs ++ [l]).length co2) gs ∧ Below w.heap.size w w2 ∧ ∀ hs m t, C.Sp (xs.drop p') hs m t → C.Sp xs (gs ++ hs) (p' + m) t :=
            ⟨fs ++ [l], q, hwl, rfl, by rw [List.length_append, List.length_singleton]; omega, hOL2.out, b2, hnext.out⟩
          first | exact R | (rw [List.length_append, List.length_singleton] at R; exact R) | ((repeat apply Exists.intro); exact ⟨R, rfl⟩)
        case measure => simp [intOf]; omega
      · have h0' : ((C.wh (xs.drop p) : Int) != 0) = true := by simp; omega
        have hs := hid (HSP.out _ _ _ (C.Sp.stop hne h0))
        have e1 : nxP xs p = p := by rw [nxP, if_neg h0]
        rw [e1]
        obtain ⟨a1, c1, rfl, _⟩ : ∃ a1 c1, v1 = .slice a1 0 c1 ∧ True := by
          obtain ⟨a1, c1, e, _⟩ := hB1
          rw [nxV, if_neg h0] at e
          exact ⟨a1, c1, e, trivial⟩
        obtain ⟨W, hW⟩ : ∃ W, C.wh (xs.drop p) = W := ⟨_, rfl⟩
        rw [hW] at hs h0' ⊢
        clear HSP hne h0 e1 hB1 hW hf1
        go_wp2
        go_ret3
        refine ⟨_, fs, p, W, rfl, ?_, hol1.out.ls, bel1⟩
        have := hs.out
        simpa using this
    · obtain rfl : p = n := by omega
      have hs := hid (HSP.out [] 0 0 (by rw [List.drop_of_length_le (by rw [HN.out]; exact Nat.le_refl _)]; exact C.Sp.done))
      clear HSP
      go_wp2
      go_ret3
      refine ⟨_, fs, p, 0, rfl, ?_, HOL.out.ls, bel⟩
      have := hs.out
      simpa using this

end Go.Proofs.Ytkbfkdgdommngaa
