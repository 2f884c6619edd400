/-
  What a clock's See does is proved here, for every clock whose lock is free, and every name and time.
-/
import Derived.Test.YtbcodkokacpioaaDoorSTick
import Derived.Laws.NewBlocks
namespace Go.Proofs.YtbcodkokacpioaaDoor
open Go.RowKit Go.MuLone
set_option linter.unusedVariables false

set_option maxHeartbeats 4000000 in
theorem see_any (b : Nat) (r t n i j u : Int) (w : World) (h : Ck w b r 0 (wd t n)) (hin : In t n) (hr : rr r = true) :
    Calls Tryd.prog 29 #[.pointer (some ⟨b, 0, none⟩), idv i j, .int .i64 u] w fun e w' =>
      e = .returned (.tuple #[]) ∧ Ck w' b r 0 (wd (seeT t u) (seeN r n i j)) ∧ w.grownBy w' (some b) := by
  have hb := h.lt
  have h1 := h.below (ba w (ido 23 i j))
  have hp := Pr.new 23 w i j
  have H1 := hid (lock_any b r _ _ h1)
  have G0 := hid (World.grownBy.of_below (row := some b) (ba w (ido 23 i j)))
  obtain ⟨s, hs⟩ : ∃ s, w.heap.size = s := ⟨_, rfl⟩
  rw [hs] at hp hb
  have HP := hid hp
  have hsb : ¬ b = s := by omega
  have hsb' : ¬ s = b := by omega
  clear h1 hp
  have HI := hid hin
  have HS := hid (see_in (r := r) (i := i) (j := j) (u := u) hin)
  obtain ⟨t', ht'⟩ : ∃ t', seeT t u = t' := ⟨_, rfl⟩
  obtain ⟨n', hn'⟩ : ∃ n', seeN r n i j = n' := ⟨_, rfl⟩
  rw [ht', hn'] at HS ⊢
  have HT := hid ht'
  have HN := hid hn'
  clear hin ht' hn'
  go_enter_defers Tryd.func29, Tryd.ntmps29
  go_wp2_with fail
  refine H1.out.mono ?_
  rintro e w1 ⟨rfl, hc1, g1⟩
  have hp1 := HP.out.other g1 hsb'
  go_wp2_with fail
  refine (both_any b r 1 t n w1 hc1 HI.out).mono ?_
  rintro e w2 ⟨rfl, rfl⟩
  have k0 := hp1.c0
  have k1 := hp1.c1
  have r0 := hc1.c0
  have HC1 := hid hc1
  have HP1 := hid hp1
  have G1 := hid g1
  clear hc1 g1 hp1
  have k1' := fun o => ((ba w1 o).cell (p := ⟨s, 1, none⟩) HP1.out.lt).trans k1
  have HU := hid (show (seeT t u = if u ≤ 1099511627776 then max t u else t) from rfl)
  have z1 := hid G1.out.size
  have z0 := hid G0.out.size
  have hG := hid (((Gb.refl _ b w).grown G0.out (Nat.le_refl _)).grown G1.out z0.out)
  cases hu : decide (u ≤ 1099511627776)
  · have et : t = t' := by
      have := HT.out
      simp at hu
      rw [HU.out, if_neg (by omega)] at this
      exact this
    subst et
    cases hi : (i == r)
    · have en : n = n' := by
        have := HN.out
        unfold seeN at this
        simp at hi
        rw [if_neg (fun h => hi h.1)] at this
        exact this
      subst en
      go_wp2_with fail
      go_quiet (fail)
      go_wp2_with fail
      refine (set_any b r 1 _ t n _ (HC1.out.drewN nq) HS.out).mono ?_
      rintro e w3 ⟨rfl, hc3, g3⟩
      go_wp2_with fail
      refine leaves_cons (f := 41) (args := #[.pointer (some ⟨b, 1, none⟩)]) (by simp) (by simp [go_sem]) ?_
      refine (unlock_any b r _ .returning _ hc3).mono ?_
      rintro e u' w4 ⟨rfl, rfl, hc5, g5⟩
      refine ⟨_, results_none rfl _ _ _, rfl, hc5, Gb.done ?_⟩
      have := z0.out
      have := z1.out
      have := g3.size
      exact ((hG.out.drewN nq).grown g3 (by simp; omega)).grown g5 (by simp at this; omega)
    · cases hro : ro i j
      · have en : n = n' := by
          have := HN.out
          unfold seeN at this
          rw [if_neg (fun h => by rw [hro] at h; simp at h)] at this
          exact this
        subst en
        go_wp2_with fail
        apply wp_norm
        · go_region_with ((go_at_call 10; refine (ro_any i j _).mono ?_; rintro e w2 ⟨rfl, rfl⟩; rw [hro]))
          all_goals exact ⟨rfl, rfl⟩
        · skip
          go_wp2_with fail
          refine (set_any b r 1 _ t n _ (HC1.out.below (ba _ _)).drew HS.out).mono ?_
          rintro e w3 ⟨rfl, hc3, g3⟩
          go_wp2_with fail
          refine leaves_cons (f := 41) (args := #[.pointer (some ⟨b, 1, none⟩)]) (by simp) (by simp [go_sem]) ?_
          refine (unlock_any b r _ .returning _ hc3).mono ?_
          rintro e u' w4 ⟨rfl, rfl, hc5, g5⟩
          refine ⟨_, results_none rfl _ _ _, rfl, hc5, Gb.done ?_⟩
          have := z0.out
          have := z1.out
          have := g3.size
          exact (((hG.out.alloc _ (by omega)).drew).grown g3 (by simp; omega)).grown g5 (by simp at this; omega)
      · rcases (by omega : ¬ n < j ∨ n < j) with hnj | hnj
        · have en : n = n' := by
            have := HN.out
            unfold seeN at this
            simp at hi
            rw [if_pos ⟨hi, hro⟩] at this
            omega
          subst en
          go_wp2_with fail
          apply wp_norm
          · go_region_with ((go_at_call 10; refine (ro_any i j _).mono ?_; rintro e w2 ⟨rfl, rfl⟩; rw [hro]))
            all_goals exact ⟨rfl, rfl⟩
          · skip
            go_wp2_with fail
            refine (set_any b r 1 _ t n _ (HC1.out.below (ba _ _)).drew HS.out).mono ?_
            rintro e w3 ⟨rfl, hc3, g3⟩
            go_wp2_with fail
            refine leaves_cons (f := 41) (args := #[.pointer (some ⟨b, 1, none⟩)]) (by simp) (by simp [go_sem]) ?_
            refine (unlock_any b r _ .returning _ hc3).mono ?_
            rintro e u' w4 ⟨rfl, rfl, hc5, g5⟩
            refine ⟨_, results_none rfl _ _ _, rfl, hc5, Gb.done ?_⟩
            have := z0.out
            have := z1.out
            have := g3.size
            exact (((hG.out.alloc _ (by omega)).drew).grown g3 (by simp; omega)).grown g5 (by simp at this; omega)
        · have en : j = n' := by
            have := HN.out
            unfold seeN at this
            simp at hi
            rw [if_pos ⟨hi, hro⟩] at this
            omega
          subst en
          go_wp2_with fail
          apply wp_norm
          · go_region_with ((go_at_call 10; refine (ro_any i j _).mono ?_; rintro e w2 ⟨rfl, rfl⟩; rw [hro]))
            all_goals exact ⟨rfl, rfl⟩
          · skip
            go_wp2_with fail
            refine (set_any b r 1 _ t j _ (HC1.out.below (ba _ _)).drew HS.out).mono ?_
            rintro e w3 ⟨rfl, hc3, g3⟩
            go_wp2_with fail
            refine leaves_cons (f := 41) (args := #[.pointer (some ⟨b, 1, none⟩)]) (by simp) (by simp [go_sem]) ?_
            refine (unlock_any b r _ .returning _ hc3).mono ?_
            rintro e u' w4 ⟨rfl, rfl, hc5, g5⟩
            refine ⟨_, results_none rfl _ _ _, rfl, hc5, Gb.done ?_⟩
            have := z0.out
            have := z1.out
            have := g3.size
            exact (((hG.out.alloc _ (by omega)).drew).grown g3 (by simp; omega)).grown g5 (by simp at this; omega)
  · rcases (by omega : ¬ t < u ∨ t < u) with htu | htu
    · have et : t = t' := by
        have := HT.out
        simp at hu
        rw [HU.out, if_pos (by omega)] at this
        omega
      subst et
      cases hi : (i == r)
      · have en : n = n' := by
          have := HN.out
          unfold seeN at this
          simp at hi
          rw [if_neg (fun h => hi h.1)] at this
          exact this
        subst en
        go_wp2_with fail
        go_quiet (fail)
        go_wp2_with fail
        refine (set_any b r 1 _ t n _ (HC1.out.drewN nq) HS.out).mono ?_
        rintro e w3 ⟨rfl, hc3, g3⟩
        go_wp2_with fail
        refine leaves_cons (f := 41) (args := #[.pointer (some ⟨b, 1, none⟩)]) (by simp) (by simp [go_sem]) ?_
        refine (unlock_any b r _ .returning _ hc3).mono ?_
        rintro e u' w4 ⟨rfl, rfl, hc5, g5⟩
        refine ⟨_, results_none rfl _ _ _, rfl, hc5, Gb.done ?_⟩
        have := z0.out
        have := z1.out
        have := g3.size
        exact ((hG.out.drewN nq).grown g3 (by simp; omega)).grown g5 (by simp at this; omega)
      · cases hro : ro i j
        · have en : n = n' := by
            have := HN.out
            unfold seeN at this
            rw [if_neg (fun h => by rw [hro] at h; simp at h)] at this
            exact this
          subst en
          go_wp2_with fail
          apply wp_norm
          · go_region_with ((go_at_call 10; refine (ro_any i j _).mono ?_; rintro e w2 ⟨rfl, rfl⟩; rw [hro]))
            all_goals exact ⟨rfl, rfl⟩
          · skip
            go_wp2_with fail
            refine (set_any b r 1 _ t n _ (HC1.out.below (ba _ _)).drew HS.out).mono ?_
            rintro e w3 ⟨rfl, hc3, g3⟩
            go_wp2_with fail
            refine leaves_cons (f := 41) (args := #[.pointer (some ⟨b, 1, none⟩)]) (by simp) (by simp [go_sem]) ?_
            refine (unlock_any b r _ .returning _ hc3).mono ?_
            rintro e u' w4 ⟨rfl, rfl, hc5, g5⟩
            refine ⟨_, results_none rfl _ _ _, rfl, hc5, Gb.done ?_⟩
            have := z0.out
            have := z1.out
            have := g3.size
            exact (((hG.out.alloc _ (by omega)).drew).grown g3 (by simp; omega)).grown g5 (by simp at this; omega)
        · rcases (by omega : ¬ n < j ∨ n < j) with hnj | hnj
          · have en : n = n' := by
              have := HN.out
              unfold seeN at this
              simp at hi
              rw [if_pos ⟨hi, hro⟩] at this
              omega
            subst en
            go_wp2_with fail
            apply wp_norm
            · go_region_with ((go_at_call 10; refine (ro_any i j _).mono ?_; rintro e w2 ⟨rfl, rfl⟩; rw [hro]))
              all_goals exact ⟨rfl, rfl⟩
            · skip
              go_wp2_with fail
              refine (set_any b r 1 _ t n _ (HC1.out.below (ba _ _)).drew HS.out).mono ?_
              rintro e w3 ⟨rfl, hc3, g3⟩
              go_wp2_with fail
              refine leaves_cons (f := 41) (args := #[.pointer (some ⟨b, 1, none⟩)]) (by simp) (by simp [go_sem]) ?_
              refine (unlock_any b r _ .returning _ hc3).mono ?_
              rintro e u' w4 ⟨rfl, rfl, hc5, g5⟩
              refine ⟨_, results_none rfl _ _ _, rfl, hc5, Gb.done ?_⟩
              have := z0.out
              have := z1.out
              have := g3.size
              exact (((hG.out.alloc _ (by omega)).drew).grown g3 (by simp; omega)).grown g5 (by simp at this; omega)
          · have en : j = n' := by
              have := HN.out
              unfold seeN at this
              simp at hi
              rw [if_pos ⟨hi, hro⟩] at this
              omega
            subst en
            go_wp2_with fail
            apply wp_norm
            · go_region_with ((go_at_call 10; refine (ro_any i j _).mono ?_; rintro e w2 ⟨rfl, rfl⟩; rw [hro]))
              all_goals exact ⟨rfl, rfl⟩
            · skip
              go_wp2_with fail
              refine (set_any b r 1 _ t j _ (HC1.out.below (ba _ _)).drew HS.out).mono ?_
              rintro e w3 ⟨rfl, hc3, g3⟩
              go_wp2_with fail
              refine leaves_cons (f := 41) (args := #[.pointer (some ⟨b, 1, none⟩)]) (by simp) (by simp [go_sem]) ?_
              refine (unlock_any b r _ .returning _ hc3).mono ?_
              rintro e u' w4 ⟨rfl, rfl, hc5, g5⟩
              refine ⟨_, results_none rfl _ _ _, rfl, hc5, Gb.done ?_⟩
              have := z0.out
              have := z1.out
              have := g3.size
              exact (((hG.out.alloc _ (by omega)).drew).grown g3 (by simp; omega)).grown g5 (by simp at this; omega)
    · have et : u = t' := by
        have := HT.out
        simp at hu
        rw [HU.out, if_pos (by omega)] at this
        omega
      subst et
      cases hi : (i == r)
      · have en : n = n' := by
          have := HN.out
          unfold seeN at this
          simp at hi
          rw [if_neg (fun h => hi h.1)] at this
          exact this
        subst en
        go_wp2_with fail
        go_quiet (fail)
        go_wp2_with fail
        refine (set_any b r 1 _ u n _ (HC1.out.drewN nq) HS.out).mono ?_
        rintro e w3 ⟨rfl, hc3, g3⟩
        go_wp2_with fail
        refine leaves_cons (f := 41) (args := #[.pointer (some ⟨b, 1, none⟩)]) (by simp) (by simp [go_sem]) ?_
        refine (unlock_any b r _ .returning _ hc3).mono ?_
        rintro e u' w4 ⟨rfl, rfl, hc5, g5⟩
        refine ⟨_, results_none rfl _ _ _, rfl, hc5, Gb.done ?_⟩
        have := z0.out
        have := z1.out
        have := g3.size
        exact ((hG.out.drewN nq).grown g3 (by simp; omega)).grown g5 (by simp at this; omega)
      · cases hro : ro i j
        · have en : n = n' := by
            have := HN.out
            unfold seeN at this
            rw [if_neg (fun h => by rw [hro] at h; simp at h)] at this
            exact this
          subst en
          go_wp2_with fail
          apply wp_norm
          · go_region_with ((go_at_call 10; refine (ro_any i j _).mono ?_; rintro e w2 ⟨rfl, rfl⟩; rw [hro]))
            all_goals exact ⟨rfl, rfl⟩
          · skip
            go_wp2_with fail
            refine (set_any b r 1 _ u n _ (HC1.out.below (ba _ _)).drew HS.out).mono ?_
            rintro e w3 ⟨rfl, hc3, g3⟩
            go_wp2_with fail
            refine leaves_cons (f := 41) (args := #[.pointer (some ⟨b, 1, none⟩)]) (by simp) (by simp [go_sem]) ?_
            refine (unlock_any b r _ .returning _ hc3).mono ?_
            rintro e u' w4 ⟨rfl, rfl, hc5, g5⟩
            refine ⟨_, results_none rfl _ _ _, rfl, hc5, Gb.done ?_⟩
            have := z0.out
            have := z1.out
            have := g3.size
            exact (((hG.out.alloc _ (by omega)).drew).grown g3 (by simp; omega)).grown g5 (by simp at this; omega)
        · rcases (by omega : ¬ n < j ∨ n < j) with hnj | hnj
          · have en : n = n' := by
              have := HN.out
              unfold seeN at this
              simp at hi
              rw [if_pos ⟨hi, hro⟩] at this
              omega
            subst en
            go_wp2_with fail
            apply wp_norm
            · go_region_with ((go_at_call 10; refine (ro_any i j _).mono ?_; rintro e w2 ⟨rfl, rfl⟩; rw [hro]))
              all_goals exact ⟨rfl, rfl⟩
            · skip
              go_wp2_with fail
              refine (set_any b r 1 _ u n _ (HC1.out.below (ba _ _)).drew HS.out).mono ?_
              rintro e w3 ⟨rfl, hc3, g3⟩
              go_wp2_with fail
              refine leaves_cons (f := 41) (args := #[.pointer (some ⟨b, 1, none⟩)]) (by simp) (by simp [go_sem]) ?_
              refine (unlock_any b r _ .returning _ hc3).mono ?_
              rintro e u' w4 ⟨rfl, rfl, hc5, g5⟩
              refine ⟨_, results_none rfl _ _ _, rfl, hc5, Gb.done ?_⟩
              have := z0.out
              have := z1.out
              have := g3.size
              exact (((hG.out.alloc _ (by omega)).drew).grown g3 (by simp; omega)).grown g5 (by simp at this; omega)
          · have en : j = n' := by
              have := HN.out
              unfold seeN at this
              simp at hi
              rw [if_pos ⟨hi, hro⟩] at this
              omega
            subst en
            go_wp2_with fail
            apply wp_norm
            · go_region_with ((go_at_call 10; refine (ro_any i j _).mono ?_; rintro e w2 ⟨rfl, rfl⟩; rw [hro]))
              all_goals exact ⟨rfl, rfl⟩
            · skip
              go_wp2_with fail
              refine (set_any b r 1 _ u j _ (HC1.out.below (ba _ _)).drew HS.out).mono ?_
              rintro e w3 ⟨rfl, hc3, g3⟩
              go_wp2_with fail
              refine leaves_cons (f := 41) (args := #[.pointer (some ⟨b, 1, none⟩)]) (by simp) (by simp [go_sem]) ?_
              refine (unlock_any b r _ .returning _ hc3).mono ?_
              rintro e u' w4 ⟨rfl, rfl, hc5, g5⟩
              refine ⟨_, results_none rfl _ _ _, rfl, hc5, Gb.done ?_⟩
              have := z0.out
              have := z1.out
              have := g3.size
              exact (((hG.out.alloc _ (by omega)).drew).grown g3 (by simp; omega)).grown g5 (by simp at this; omega)

end Go.Proofs.YtbcodkokacpioaaDoor
