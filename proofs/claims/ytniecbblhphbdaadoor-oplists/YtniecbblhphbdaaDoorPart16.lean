/-
  What the reference's kept answers is proved here, for every op.
-/
import Derived.Test.YtniecbblhphbdaaDoorPart13
namespace Go.Proofs.YtniecbblhphbdaaDoor
open Go.RowKit
set_option linter.unusedVariables false
set_option maxRecDepth 100000

/-- An op with the fields that its kind tells, alone. -/
def keptO (o : Opn) : Opn :=
  if o.k = 1 then { headO o with pr := o.pr, pm := o.pm, key := o.key }
  else if o.k = 2 then { headO o with br := o.br, bm := o.bm, pr := o.pr, pm := o.pm, key := o.key }
  else if o.k = 3 then { headO o with sr := o.sr, sm := o.sm, lr := o.lr, lm := o.lm, li := o.li, gr := o.gr, gm := o.gm, gi := o.gi, text := o.text }
  else if o.k = 4 then { headO o with cuts := o.cuts }
  else if o.k = 5 then { headO o with sr := o.sr, sm := o.sm, lr := o.lr, lm := o.lm, li := o.li, gr := o.gr, gm := o.gm, gi := o.gi, pr := o.pr, pm := o.pm, key := o.key }
  else if o.k = 6 then { headO o with br := o.br, bm := o.bm, flag := o.flag }
  else headO o

def KV (o : Opn) (v u : Value) : Prop := (o.k = 4 → u = v) ∧ (o.k ≠ 4 → u = .slice none 0 0)

set_option maxHeartbeats 8000000 in
theorem kept_box (A : Value) (o : Opn) (v : Value) (hA : A = opv o v) (w : World) (hC : Cs w v o.cuts) :
    Calls Tryd.prog 63 #[A] w fun e w' => ∃ u, e = .returned (opv (keptO o) u) ∧ Cs w' u (keptO o).cuts ∧ Below w.heap.size w w' ∧ KV o v u := by
  obtain ⟨va, vc, rfl, _, _⟩ := hC.form
  have HAA := hid hA
  have HC := hid hC
  clear hA hC
  have HCN := hid (Cs.nil w)
  obtain ⟨X, hX⟩ : ∃ X, keptO o = X := ⟨_, rfl⟩
  rw [hX]
  have HX := hid hX
  clear hX
  go_enter Tryd.func63, Tryd.ntmps63
  go_upto_region 1 with (first
    | (refine wpList_box_op rfl (.tmp 0) rfl A rfl o _ HAA.out ?_; intro w1 hob hb1 hlt1; have HO := hid hob; have BB := hid hb1; have hlt1' := hlt1; clear hob hb1 hlt1)
    | (refine wpList_al_op rfl rfl ?_; intro w2 hz hb2 hlt2; replace HO := hid (HO.out.below hb2); replace BB := hid (bt BB.out hb2); have HZ := hid hz; obtain ⟨r, hr⟩ : ∃ r, w1.heap.size = r := ⟨_, rfl⟩; rw [hr] at HZ hlt1' hlt2; rw [hr]; clear hz hb2 hr))
  go_upto_region 2 with (first
    | (refine wpList_ld_kind rfl rfl rfl HO.out ?_) | (refine wpList_ld_id rfl rfl rfl HO.out ?_) | (refine wpList_ld_t rfl rfl rfl HO.out ?_)
    | (refine wpList_build_head rfl _ _ _ rfl o rfl rfl rfl ?_)
    | (refine wpList_al_op rfl rfl ?_; intro w3 hz hb3 hlt3; replace HO := hid (HO.out.below hb3); replace HZ := hid (HZ.out.below hb3); replace BB := hid (bt BB.out hb3); have HK := hid hz; obtain ⟨kb, hkb⟩ : ∃ r, w2.heap.size = r := ⟨_, rfl⟩; rw [hkb] at HK hlt2; rw [hkb]; clear hz hb3 hkb)
    | (refine wpList_st_op rfl rfl rfl rfl ⟨_, _, _, rfl⟩ HK.out ?_; have hbk : ¬ w.heap.size = kb := Nat.ne_of_lt (Nat.lt_trans hlt1' hlt2); have hrk : ¬ r = kb := Nat.ne_of_lt hlt2; have hkB : w.heap.size ≤ kb := Nat.le_of_lt (Nat.lt_trans hlt1' hlt2); have hrB : w.heap.size ≤ r := Nat.le_of_lt hlt1'; intro W' hk' hf'; replace HO := hid (HO.out.fr hf' hbk); replace HZ := hid (HZ.out.fr hf' hrk); replace HK := hid hk'; replace BB := hid (below_fr BB.out hf' hkB); clear hk' hf')
    | fail)
  by_cases h1 : o.k = 1
  · go_wp2_with (first | (refine wpList_ld_kind rfl rfl rfl HO.out ?_) | (refine wpList_ld_parent rfl rfl rfl HO.out ?_) | (refine wpList_ld_key rfl rfl rfl HO.out ?_) | (refine wpList_st_parent rfl rfl rfl rfl HK.out ?_; intro W' hk' hf'; replace HO := hid (HO.out.fr hf' hbk); replace HZ := hid (HZ.out.fr hf' hrk); replace HK := hid hk'; replace BB := hid (below_fr BB.out hf' hkB); clear hk' hf') | (refine wpList_st_key rfl rfl rfl rfl HK.out ?_; intro W' hk' hf'; replace HO := hid (HO.out.fr hf' hbk); replace HZ := hid (HZ.out.fr hf' hrk); replace HK := hid hk'; replace BB := hid (below_fr BB.out hf' hkB); clear hk' hf') | (refine wpList_load_op rfl (.tmp 3) rfl kb rfl _ _ HK.out ?_) | (refine wpList_st_op rfl rfl rfl rfl ⟨_, _, _, rfl⟩ HZ.out ?_; intro W' hk' hf'; replace HZ := hid hk'; replace BB := hid (below_fr BB.out hf' hrB); clear hk' hf') | fail)
    refine bodyPost_ret (results_cell_row rfl _ _ r 30 _ (0, 0) _ rfl HZ.out Tryd.underlying30 rfl (by kernel_rfl)) rfl ?_
    have hx := HX.out
    unfold keptO at hx
    rw [if_pos h1] at hx
    subst hx
    exact ⟨_, rfl, HCN.out.below BB.out, BB.out, ⟨fun e => absurd (h1.symm.trans e) (by decide), fun _ => rfl⟩⟩
  by_cases h2 : o.k = 2
  · go_wp2_with (first | (refine wpList_ld_kind rfl rfl rfl HO.out ?_) | (refine wpList_ld_block rfl rfl rfl HO.out ?_) | (refine wpList_ld_parent rfl rfl rfl HO.out ?_) | (refine wpList_ld_key rfl rfl rfl HO.out ?_) | (refine wpList_st_block rfl rfl rfl rfl HK.out ?_; intro W' hk' hf'; replace HO := hid (HO.out.fr hf' hbk); replace HZ := hid (HZ.out.fr hf' hrk); replace HK := hid hk'; replace BB := hid (below_fr BB.out hf' hkB); clear hk' hf') | (refine wpList_st_parent rfl rfl rfl rfl HK.out ?_; intro W' hk' hf'; replace HO := hid (HO.out.fr hf' hbk); replace HZ := hid (HZ.out.fr hf' hrk); replace HK := hid hk'; replace BB := hid (below_fr BB.out hf' hkB); clear hk' hf') | (refine wpList_st_key rfl rfl rfl rfl HK.out ?_; intro W' hk' hf'; replace HO := hid (HO.out.fr hf' hbk); replace HZ := hid (HZ.out.fr hf' hrk); replace HK := hid hk'; replace BB := hid (below_fr BB.out hf' hkB); clear hk' hf') | (refine wpList_load_op rfl (.tmp 3) rfl kb rfl _ _ HK.out ?_) | (refine wpList_st_op rfl rfl rfl rfl ⟨_, _, _, rfl⟩ HZ.out ?_; intro W' hk' hf'; replace HZ := hid hk'; replace BB := hid (below_fr BB.out hf' hrB); clear hk' hf') | fail)
    refine bodyPost_ret (results_cell_row rfl _ _ r 30 _ (0, 0) _ rfl HZ.out Tryd.underlying30 rfl (by kernel_rfl)) rfl ?_
    have hx := HX.out
    unfold keptO at hx
    rw [if_neg h1, if_pos h2] at hx
    subst hx
    exact ⟨_, rfl, HCN.out.below BB.out, BB.out, ⟨fun e => absurd (h2.symm.trans e) (by decide), fun _ => rfl⟩⟩
  by_cases h3 : o.k = 3
  · go_wp2_with (first | (refine wpList_ld_kind rfl rfl rfl HO.out ?_) | (refine wpList_ld_seg rfl rfl rfl HO.out ?_) | (refine wpList_ld_left rfl rfl rfl HO.out ?_) | (refine wpList_ld_right rfl rfl rfl HO.out ?_) | (refine wpList_ld_text rfl rfl rfl HO.out ?_) | (refine wpList_st_seg rfl rfl rfl rfl HK.out ?_; intro W' hk' hf'; replace HO := hid (HO.out.fr hf' hbk); replace HZ := hid (HZ.out.fr hf' hrk); replace HK := hid hk'; replace BB := hid (below_fr BB.out hf' hkB); clear hk' hf') | (refine wpList_st_left rfl rfl rfl rfl HK.out ?_; intro W' hk' hf'; replace HO := hid (HO.out.fr hf' hbk); replace HZ := hid (HZ.out.fr hf' hrk); replace HK := hid hk'; replace BB := hid (below_fr BB.out hf' hkB); clear hk' hf') | (refine wpList_st_right rfl rfl rfl rfl HK.out ?_; intro W' hk' hf'; replace HO := hid (HO.out.fr hf' hbk); replace HZ := hid (HZ.out.fr hf' hrk); replace HK := hid hk'; replace BB := hid (below_fr BB.out hf' hkB); clear hk' hf') | (refine wpList_st_text rfl rfl rfl rfl HK.out ?_; intro W' hk' hf'; replace HO := hid (HO.out.fr hf' hbk); replace HZ := hid (HZ.out.fr hf' hrk); replace HK := hid hk'; replace BB := hid (below_fr BB.out hf' hkB); clear hk' hf') | (refine wpList_load_op rfl (.tmp 3) rfl kb rfl _ _ HK.out ?_) | (refine wpList_st_op rfl rfl rfl rfl ⟨_, _, _, rfl⟩ HZ.out ?_; intro W' hk' hf'; replace HZ := hid hk'; replace BB := hid (below_fr BB.out hf' hrB); clear hk' hf') | fail)
    refine bodyPost_ret (results_cell_row rfl _ _ r 30 _ (0, 0) _ rfl HZ.out Tryd.underlying30 rfl (by kernel_rfl)) rfl ?_
    have hx := HX.out
    unfold keptO at hx
    rw [if_neg h1, if_neg h2, if_pos h3] at hx
    subst hx
    exact ⟨_, rfl, HCN.out.below BB.out, BB.out, ⟨fun e => absurd (h3.symm.trans e) (by decide), fun _ => rfl⟩⟩
  by_cases h4 : o.k = 4
  · go_wp2_with (first | (refine wpList_ld_kind rfl rfl rfl HO.out ?_) | (refine wpList_ld_cuts rfl rfl rfl HO.out ?_) | (refine wpList_st_cuts o.cuts rfl rfl rfl rfl HK.out ?_; intro W' hk' hf'; replace HO := hid (HO.out.fr hf' hbk); replace HZ := hid (HZ.out.fr hf' hrk); replace HK := hid hk'; replace BB := hid (below_fr BB.out hf' hkB); clear hk' hf') | (refine wpList_load_op rfl (.tmp 3) rfl kb rfl _ _ HK.out ?_) | (refine wpList_st_op rfl rfl rfl rfl ⟨_, _, _, rfl⟩ HZ.out ?_; intro W' hk' hf'; replace HZ := hid hk'; replace BB := hid (below_fr BB.out hf' hrB); clear hk' hf') | fail)
    refine bodyPost_ret (results_cell_row rfl _ _ r 30 _ (0, 0) _ rfl HZ.out Tryd.underlying30 rfl (by kernel_rfl)) rfl ?_
    have hx := HX.out
    unfold keptO at hx
    rw [if_neg h1, if_neg h2, if_neg h3, if_pos h4] at hx
    subst hx
    exact ⟨_, rfl, HC.out.below BB.out, BB.out, ⟨fun _ => rfl, fun e => absurd h4 e⟩⟩
  by_cases h5 : o.k = 5
  · go_wp2_with (first | (refine wpList_ld_kind rfl rfl rfl HO.out ?_) | (refine wpList_ld_seg rfl rfl rfl HO.out ?_) | (refine wpList_ld_left rfl rfl rfl HO.out ?_) | (refine wpList_ld_right rfl rfl rfl HO.out ?_) | (refine wpList_ld_parent rfl rfl rfl HO.out ?_) | (refine wpList_ld_key rfl rfl rfl HO.out ?_) | (refine wpList_st_seg rfl rfl rfl rfl HK.out ?_; intro W' hk' hf'; replace HO := hid (HO.out.fr hf' hbk); replace HZ := hid (HZ.out.fr hf' hrk); replace HK := hid hk'; replace BB := hid (below_fr BB.out hf' hkB); clear hk' hf') | (refine wpList_st_left rfl rfl rfl rfl HK.out ?_; intro W' hk' hf'; replace HO := hid (HO.out.fr hf' hbk); replace HZ := hid (HZ.out.fr hf' hrk); replace HK := hid hk'; replace BB := hid (below_fr BB.out hf' hkB); clear hk' hf') | (refine wpList_st_right rfl rfl rfl rfl HK.out ?_; intro W' hk' hf'; replace HO := hid (HO.out.fr hf' hbk); replace HZ := hid (HZ.out.fr hf' hrk); replace HK := hid hk'; replace BB := hid (below_fr BB.out hf' hkB); clear hk' hf') | (refine wpList_st_parent rfl rfl rfl rfl HK.out ?_; intro W' hk' hf'; replace HO := hid (HO.out.fr hf' hbk); replace HZ := hid (HZ.out.fr hf' hrk); replace HK := hid hk'; replace BB := hid (below_fr BB.out hf' hkB); clear hk' hf') | (refine wpList_st_key rfl rfl rfl rfl HK.out ?_; intro W' hk' hf'; replace HO := hid (HO.out.fr hf' hbk); replace HZ := hid (HZ.out.fr hf' hrk); replace HK := hid hk'; replace BB := hid (below_fr BB.out hf' hkB); clear hk' hf') | (refine wpList_load_op rfl (.tmp 3) rfl kb rfl _ _ HK.out ?_) | (refine wpList_st_op rfl rfl rfl rfl ⟨_, _, _, rfl⟩ HZ.out ?_; intro W' hk' hf'; replace HZ := hid hk'; replace BB := hid (below_fr BB.out hf' hrB); clear hk' hf') | fail)
    refine bodyPost_ret (results_cell_row rfl _ _ r 30 _ (0, 0) _ rfl HZ.out Tryd.underlying30 rfl (by kernel_rfl)) rfl ?_
    have hx := HX.out
    unfold keptO at hx
    rw [if_neg h1, if_neg h2, if_neg h3, if_neg h4, if_pos h5] at hx
    subst hx
    exact ⟨_, rfl, HCN.out.below BB.out, BB.out, ⟨fun e => absurd (h5.symm.trans e) (by decide), fun _ => rfl⟩⟩
  by_cases h6 : o.k = 6
  · go_wp2_with (first | (refine wpList_ld_kind rfl rfl rfl HO.out ?_) | (refine wpList_ld_block rfl rfl rfl HO.out ?_) | (refine wpList_ld_flag rfl rfl rfl HO.out ?_) | (refine wpList_st_block rfl rfl rfl rfl HK.out ?_; intro W' hk' hf'; replace HO := hid (HO.out.fr hf' hbk); replace HZ := hid (HZ.out.fr hf' hrk); replace HK := hid hk'; replace BB := hid (below_fr BB.out hf' hkB); clear hk' hf') | (refine wpList_st_flag rfl rfl rfl rfl HK.out ?_; intro W' hk' hf'; replace HO := hid (HO.out.fr hf' hbk); replace HZ := hid (HZ.out.fr hf' hrk); replace HK := hid hk'; replace BB := hid (below_fr BB.out hf' hkB); clear hk' hf') | (refine wpList_load_op rfl (.tmp 3) rfl kb rfl _ _ HK.out ?_) | (refine wpList_st_op rfl rfl rfl rfl ⟨_, _, _, rfl⟩ HZ.out ?_; intro W' hk' hf'; replace HZ := hid hk'; replace BB := hid (below_fr BB.out hf' hrB); clear hk' hf') | fail)
    refine bodyPost_ret (results_cell_row rfl _ _ r 30 _ (0, 0) _ rfl HZ.out Tryd.underlying30 rfl (by kernel_rfl)) rfl ?_
    have hx := HX.out
    unfold keptO at hx
    rw [if_neg h1, if_neg h2, if_neg h3, if_neg h4, if_neg h5, if_pos h6] at hx
    subst hx
    exact ⟨_, rfl, HCN.out.below BB.out, BB.out, ⟨fun e => absurd (h6.symm.trans e) (by decide), fun _ => rfl⟩⟩
  go_wp2_with (first | (refine wpList_ld_kind rfl rfl rfl HO.out ?_) | (refine wpList_load_op rfl (.tmp 3) rfl kb rfl _ _ HK.out ?_) | (refine wpList_st_op rfl rfl rfl rfl ⟨_, _, _, rfl⟩ HZ.out ?_; intro W' hk' hf'; replace HZ := hid hk'; replace BB := hid (below_fr BB.out hf' hrB); clear hk' hf') | fail)
  refine bodyPost_ret (results_cell_row rfl _ _ r 30 _ (0, 0) _ rfl HZ.out Tryd.underlying30 rfl (by kernel_rfl)) rfl ?_
  have hx := HX.out
  unfold keptO at hx
  rw [if_neg h1, if_neg h2, if_neg h3, if_neg h4, if_neg h5, if_neg h6] at hx
  subst hx
  exact ⟨_, rfl, HCN.out.below BB.out, BB.out, ⟨fun e => absurd e h4, fun _ => rfl⟩⟩
/-- The slice of its cuts. -/
def keptV (o : Opn) (v : Value) : Value := if o.k = 4 then v else .slice none 0 0
theorem kept_cs {w : World} {o : Opn} {v : Value} (h : Cs w v o.cuts) : Cs w (keptV o v) (keptO o).cuts := by
  unfold keptV
  by_cases h4 : o.k = 4
  · rw [if_pos h4]
    have e : (keptO o).cuts = o.cuts := by unfold keptO; simp [h4]
    rw [e]; exact h
  · rw [if_neg h4]
    have e : (keptO o).cuts = [] := by unfold keptO headO; simp only [if_neg h4]; repeat' split
                                       all_goals rfl
    rw [e]; exact Cs.nil w
theorem kept_any (o : Opn) (v : Value) (w : World) (hC : Cs w v o.cuts) : Calls Tryd.prog 63 #[opv o v] w fun e w' => e = .returned (opv (keptO o) (keptV o v)) ∧ Below w.heap.size w w' :=
  (kept_box _ o v rfl w hC).mono fun _ _ ⟨u, h1, _, h3, h4, h5⟩ => by
    refine ⟨?_, h3⟩
    rw [h1]
    unfold keptV
    by_cases h : o.k = 4
    · rw [if_pos h, h4 h]
    · rw [if_neg h, h5 h]

end Go.Proofs.YtniecbblhphbdaaDoor
