/-
  What a reader's method char reads is proved here, for every cursor.
-/
import Derived.Test.YtmgemgkanlpnnaaDoorORead
import Derived.Deep.RegionLaw
namespace Go.Proofs.YtmgemgkanlpnnaaDoor
open Go.RowKit
set_option linter.unusedVariables false
set_option maxRecDepth 100000

abbrev cho (r n i : Int) : Obj := .cells #[.int .i64 r, .int .i64 n, .int .i64 i] 27
abbrev chw (r n i : Int) : Value := .agg #[.int .i64 r, .int .i64 n, .int .i64 i]

set_option maxHeartbeats 2000000 in
theorem char_r (c : Nat) (s : St) (w : World) (h : Cu w c s) :
    Calls Tryd.prog 57 #[rdv c] w fun e w' =>
      e = .returned (chw (rn 15 s).1 (rn 1048576 (rn 15 s).2).1 (rn 63 (rn 1048576 (rn 15 s).2).2).1) ∧ Cu w' c (rn 63 (rn 1048576 (rn 15 s).2).2).2 ∧ Fr (fun k => k = c) w w' := by
  have hlt := h.lt
  have HA := hid (bt (ba w (rdo c)) (ba _ (cho 0 0 0)))
  have HC := hid (h.below HA.out)
  have R1 := hid (heap_alloc2_old w (rdo c) (cho 0 0 0))
  have R2 := hid (heap_alloc2_new w (rdo c) (cho 0 0 0))
  have N1 := hid (fun W => name_r c s W)
  obtain ⟨p1, hp1⟩ : ∃ p1, rn 15 s = p1 := ⟨_, rfl⟩
  rw [hp1] at N1 ⊢
  obtain ⟨p2, hp2⟩ : ∃ p2, rn 1048576 p1.2 = p2 := ⟨_, rfl⟩
  rw [hp2] at N1 ⊢
  have N2 := hid (fun W => num_s c p2.2 63 W)
  obtain ⟨p3, hp3⟩ : ∃ p3, rn 63 p2.2 = p3 := ⟨_, rfl⟩
  rw [hp3] at N2 ⊢
  clear h hp1 hp2 hp3
  go_enter Tryd.func57, Tryd.ntmps57
  go_wp2_with fail
  refine (N1.out _ HC.out).mono ?_
  rintro e w1 ⟨rfl, hc1, hf1⟩
  have H1 := hid (hf1.rows R1.out (by omega))
  have H2 := hid (hf1.rows R2.out (by omega))
  have HF1 := hid ((Fr.of_below HA.out).trans hf1 (fun _ _ h => h))
  have hs1 : w.heap.size + 1 < w1.heap.size := (Array.getElem?_eq_some_iff.1 H2.out).1
  have HA2 := hid (ba w1 (ido 25 p1.1 p2.1))
  have HC1 := hid (hc1.below HA2.out)
  have H3 := hid (((Fr.of_below HA2.out : Fr (fun k => k = c) _ _)).rows H1.out (by omega))
  have H4 := hid (((Fr.of_below HA2.out : Fr (fun k => k = c) _ _)).rows H2.out (by omega))
  have H5 := hid (heap_alloc_new w1 (ido 25 p1.1 p2.1))
  have q1 := cell_of_row _ _ 0 _ _ _ H3.out
  simp at q1
  clear hc1 hf1
  go_wp2_with fail
  go_region_law (go_simp; go_at_call 28; refine (N2.out (w1.alloc (ido 25 p1.1 p2.1)).drew HC1.out).mono ?_; rintro e w2 ⟨rfl, hc2, hg2⟩; have HG2 := hid hg2; have HC2 := hid hc2; have H6 := hid (grown_row hg2 H4.out (by omega)); have H7 := hid (grown_row hg2 H5.out (by omega)); have t0 := cell_of_row w2 _ 0 _ _ _ H6.out; have t1 := cell_of_row w2 _ 1 _ _ _ H6.out; have t2 := cell_of_row w2 _ 2 _ _ _ H6.out; have g0 := frozen_of_row w2 _ 0 _ _ H6.out; have g1 := frozen_of_row w2 _ 1 _ _ H6.out; have g2 := frozen_of_row w2 _ 2 _ _ H6.out; have u0 := cell_of_row w2 _ 0 _ _ _ H7.out; have u1 := cell_of_row w2 _ 1 _ _ _ H7.out; simp at t0 t1 t2 u0 u1)
  all_goals
    go_wp2
    have K1 := set_row (i := 0) H6.out (.int .i64 p1.1)
    have K2 := set_row (i := 1) K1 (.int .i64 p2.1)
    have K3 := set_row (i := 2) K2 (.int .i64 p3.1)
    refine bodyPost_ret (results_cell_row rfl _ _ (w.heap.size + 1) 27 #[.int .i64 p1.1, .int .i64 p2.1, .int .i64 p3.1] (0, 0) _ rfl K3 Tryd.underlying27 rfl (by kernel_rfl)) rfl ?_
    refine ⟨rfl, ?_, ?_⟩
    · exact ((HC2.out.set_row H6.out (by omega) ⟨_, rfl, fun x => by simp⟩ _).set_row K1 (by omega) ⟨_, rfl, fun x => by simp⟩ _).set_row K2 (by omega) ⟨_, rfl, fun x => by simp⟩ _
    · have h0 : Fr (fun k => k = c) w w2 := (HF1.out.trans (Fr.of_below ((HA2.out).drew) : Fr (fun k => k = c) _ _) (fun _ _ h => h)).trans (Fr.grown HG2.out) (fun _ _ h => h)
      exact ((h0.set 0 _ (.inl (by omega))).set 1 _ (.inl (by omega))).set 2 _ (.inl (by omega))

end Go.Proofs.YtmgemgkanlpnnaaDoor
