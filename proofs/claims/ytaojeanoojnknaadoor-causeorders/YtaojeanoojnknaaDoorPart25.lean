/-
  Parts of the proof, one behind the other; what each proves stands at its head.
-/
import Derived.Test.YtaojeanoojnknaaDoorPart23
import Derived.Test.YtaojeanoojnknaaDoorPart22
import Derived.Deep.MidRow
import Derived.Test.YtaojeanoojnknaaDoorPart20

/-
  What oplog's clones returns is proved here: new ops, the same ones, whose cuts are new memory, too.
-/
namespace Go.Proofs.YtaojeanoojnknaaDoor
open Go.RowKit
set_option linter.unusedVariables false
set_option maxRecDepth 100000

theorem Fr.of_setCells (g : Nat) : ∀ (vs : List Value) (o : Nat) (w : World), Fr (fun k => k = g) w (w.setCells g o vs)
  | [], _, w => Fr.refl _ w
  | v :: r, o, w => (Fr.of_set w g o v).trans (Fr.of_setCells g r (o + 1) _) (fun _ _ h => h)
theorem opc_len (p : Opn × Value) : (opc p).length = 20 := rfl
end Go.Proofs.YtaojeanoojnknaaDoor

/-
  What the reference's CopyCuts, CopyOp and CopyOps return is proved here.
-/
namespace Go.Proofs.YtaojeanoojnknaaDoor
open Go.RowKit
set_option linter.unusedVariables false
set_option maxRecDepth 100000

set_option maxHeartbeats 2000000 in
theorem copycuts_any (v : Value) (l : List Ct) (w : World) (hC : Cs w v l) (hl : l.length ≤ 100000) :
    Calls Tryd.prog 37 #[v] w fun e w' => ∃ u, e = .returned u ∧ w'.ownsRow w.heap.size 86 4 u l.length (l.flatMap cutc) ∧ Below w.heap.size w w' := by
  obtain ⟨a, c, rfl, _, _⟩ := hC.form
  have HA := hid (ba w (.cells #[] 86))
  have HC := hid (hC.below HA.out)
  have HO : Hid ((w.alloc (.cells #[] 86)).ownsRow w.heap.size 86 4 (.slice (some ⟨w.heap.size, 0, none⟩) 0 0) 0 []) := hid (World.ownsRow_made w #[] 0 (Nat.le_refl _) (Nat.zero_le _) rfl)
  have H1C : Hid (∀ x ∈ l.flatMap cutc, x.oneCell' = true) := hid (fun x hx => by
    obtain ⟨c, _, hx⟩ := List.mem_flatMap.1 hx
    simp at hx
    rcases hx with rfl | rfl | rfl | rfl <;> rfl)
  obtain ⟨n, hn⟩ : ∃ n, l.length = n := ⟨_, rfl⟩
  have hb : (0 + n) * 32 ≤ 140737488355328 := by omega
  have hm : 0 + n ≤ maxLen := by unfold maxLen; omega
  have hSl : Hid (Sl 4 (w.alloc (.cells #[] 86)) (.slice a n c) n (l.flatMap cutc)) := hid (by have := HC.out; unfold Cs at this; rwa [hn] at this)
  have HS := hid HA.out.size
  rw [hn]
  clear hC hl hn HC
  go_enter Tryd.func37, Tryd.ntmps37
  go_wp2_with (first | (at_builtin; refine wpList_append_sl 41 86 4 32 _ Tryd.underlying41 info_cut rfl (Nat.succ_pos 3) rfl _ _ rfl w.heap.size (.slice (some ⟨w.heap.size,0,none⟩) 0 0) _ [] rfl HO.out _ n (l.flatMap cutc) rfl hSl.out H1C.out hb hm HS.out ?_; intro v5 w5 hown5 hg5 hv5; rw [Nat.zero_add,List.nil_append] at hown5; obtain ⟨a5,c5,rfl⟩ := own_shape hown5; have HO5 := hid hown5; have HG5 := hid hg5; clear hown5 hg5 hv5) | fail)
  have B5 : Hid (Below w.heap.size w w5) := hid (HA.out.trans ((Fr.of_grown (S := fun k => w.heap.size ≤ k) HG5.out (fun k e => by simp [Value.ownBlock] at e; omega)).below (fun k hk e => by omega) HS.out))
  go_ret
  exact ⟨_, rfl, HO5.out, B5.out⟩

set_option maxHeartbeats 2000000 in
theorem copyop_any (A : Value) (o : Opn) (v : Value) (hA : A = opv o v) (w : World) (hC : Cs w v o.cuts) (hl : o.cuts.length ≤ 100000) :
    Calls Tryd.prog 11 #[A] w fun e w' => ∃ u, e = .returned (opv o u) ∧ Cs w' u o.cuts ∧ Below w.heap.size w w' ∧ ∀ k, u.ownBlock = some k → w.heap.size ≤ k := by
  subst hA
  obtain ⟨va, vc, hv, _⟩ := hC.form
  have HV : Hid (∃ va n vc, v = .slice va n vc) := hid ⟨_, _, _, hv⟩
  have HA := hid (ba w (opo o v))
  have HO := hid (Ob.new w o v)
  have HC := hid (hC.below HA.out)
  clear hC hv
  go_enter Tryd.func11, Tryd.ntmps11
  have hrb : (w.alloc (opo o v)).heap.size = w.heap.size + 1 := by simp
  have HRB := hid hrb
  clear hrb
  go_wp2_with (first
    | (have hh2 := HR2.out; refine wpList_al_op rfl rfl ?_; intro w3 ho3 hb3 hlt3; clear hh2; have HL3 := hid ho3; have HR3 := hid (HR2.out.below hb3); have HO3 := hid (HO2.out.below hb3); have HC3 := hid (HC2.out.below hb3); have B3 := hid (bt B2.out hb3); have LT3 := hid hlt3; clear ho3 hb3 hlt3)
    | (refine wpList_al_op rfl rfl ?_; intro w2 ho2 hb2 hlt2; rw [HRB.out] at ho2 hlt2; have HR2 := hid ho2; have HO2 := hid (HO.out.below hb2); have HC2 := hid (HC.out.below hb2); have B2 := hid (bt HA.out hb2); have LT2 := hid hlt2; clear ho2 hb2 hlt2)
    | (refine wpList_load_op rfl _ rfl w.heap.size rfl o v HO2.out ?_)
    | (refine wpList_st_op rfl rfl rfl rfl HV.out HL3.out ?_; intro w4 ho4 hf4; have HL4 := hid ho4; have HF4 := hid hf4; have HO4 := hid (HO3.out.fr hf4 (fun e => by have h2 := LT2.out; omega)); clear ho4 hf4)
    | (refine wpList_ld_cuts rfl rfl rfl HO4.out ?_)
    | fail)
  have B4 := hid (below_fr B3.out HF4.out (by have h2 := LT2.out; omega))
  have hq : w.heap.size + 1 < w2.heap.size := LT2.out
  have HR4 := hid (HR3.out.fr HF4.out (fun e => by omega))
  obtain ⟨ua, uc, rfl, _⟩ := HC3.out.form
  have HC4 : Hid (Cs w4 (.slice ua o.cuts.length uc) o.cuts) := hid (by
    by_cases h0 : o.cuts = []
    · have := HC3.out
      rw [h0] at this ⊢
      exact this.none
    · refine Sl.kept HC3.out (fun k hk hlt => HF4.out.block k hlt (fun e => ?_))
      have h1 := HC2.out.blk h0 hk
      omega)
  obtain ⟨q, hqq⟩ : ∃ q, w2.heap.size = q := ⟨_, rfl⟩
  rw [hqq] at HL4 hq ⊢
  clear hqq HF4 HL3 HR3 HC3 HC2 HO2 HR2 HO3 HO HC
  refine (copycuts_any _ o.cuts w4 HC4.out hl).mono ?_
  rintro e w5 ⟨u5, rfl, ho5, b5⟩
  have HU5 := hid ho5
  have HL5 := hid (HL4.out.below b5)
  have HR5 := hid (HR4.out.below b5)
  have B5 := hid (bt B4.out b5)
  have H45 := hid B4.out.size
  obtain ⟨a5, c5, rfl⟩ := own_shape ho5
  clear ho5 b5 HL4 HR4 HO4
  go_wp2_with (first
    | (refine wpList_st_cuts o.cuts rfl rfl rfl rfl HL5.out ?_; intro w6 ho6 hf6; have HL6 : Hid (Ob w6 q o (.slice a5 o.cuts.length c5)) := hid ho6; have HR6 := hid (HR5.out.fr hf6 (fun e => by omega)); have HF6 := hid hf6; clear ho6 hf6)
    | (refine wpList_load_op rfl _ rfl q rfl o (.slice a5 o.cuts.length c5) HL6.out ?_)
    | (refine wpList_st_op rfl rfl rfl rfl ⟨_, _, _, rfl⟩ HR6.out ?_; intro w7 ho7 hf7; have HR7 := hid ho7; have HF7 := hid hf7; clear ho7 hf7)
    | fail)
  have B7 := hid (below_fr (below_fr B5.out HF6.out (by omega)) HF7.out (by omega))
  refine bodyPost_ret (results_cell_row rfl _ _ (w.heap.size + 1) 43 (opl o (.slice a5 o.cuts.length c5)) (0, 0) _ rfl HR7.out Tryd.underlying43 rfl (by kernel_rfl)) rfl ?_
  have hu6 := own_fr HU5.out HF6.out (fun k hk e => own_far HU5.out HL5.out (by decide) (e ▸ hk))
  have hu7 := own_fr hu6 HF7.out (fun k hk e => own_far hu6 HR6.out (by decide) (e ▸ hk))
  exact ⟨_, rfl, Sl.of_own hu7, B7.out, fun k hk => Nat.le_trans H45.out (HU5.out.lt k hk).1⟩

/-- What CopyOps answers. -/
def YX (w : World) (l : List (Opn × Value)) (v' : Value) (w' : World) : Prop := ∃ l', Rw w.heap.size w' v' l' ∧ fsts l' = fsts l ∧ Nw w.heap.size l' ∧ Below w.heap.size w w'

set_option maxHeartbeats 4000000 in
theorem copyops_any (v : Value) (l : List (Opn × Value)) (w : World) (hO : Os w v l) (hf : ∀ p ∈ l, p.1.cuts.length ≤ 100000) (hn : l.length ≤ 1048576) :
    Calls Tryd.prog 28 #[v] w fun e w' => ∃ v', e = .returned v' ∧ YX w l v' w' := by
  obtain ⟨a, c, rfl, _, _⟩ := Sl.form hO.1
  obtain ⟨n, hnn⟩ : ∃ n, l.length = n := ⟨_, rfl⟩
  have HN := hid hnn
  have HO := hid hO
  have HF := hid hf
  rw [hnn] at hn HO ⊢
  have HR := hid (Rw.made (B := w.heap.size) (w := w) (Nat.le_refl _))
  have HA := hid (ba w (.cells #[] 43))
  clear hO hf hnn
  go_enter Tryd.func28, Tryd.ntmps28
  go_wp2
  go_loopw [3, 4] (fun o i wr => ∃ (k : Nat) (l' : List (Opn × Value)), i = .int .i64 k ∧ k ≤ n ∧ Rw w.heap.size wr o l' ∧ l'.length = k ∧ fsts l' = fsts (l.take k) ∧ Nw w.heap.size l' ∧ Below w.heap.size w wr) (fun _ i _ => n - (intOf i).toNat)
  case atStart => exact ⟨0, [], rfl, Nat.zero_le _, HR.out, rfl, rfl, Nw.nil _, HA.out⟩
  case round =>
    obtain ⟨k, l', rfl, hk, hr, hl', hfs, hnw, hb⟩ := hrel
    have R0 := hid hr
    obtain ⟨ao, co, rfl⟩ := hr.form
    have HL' := hid hl'
    have HFS := hid hfs
    have HNW := hid hnw
    have B0 := hid hb
    rw [hl'] at R0
    rw [hl']
    clear hr hl' hfs hnw hb HR HA
    by_cases hlt : k < n
    · have hlt' : (k : Int) < (n : Int) := by omega
      have hx : k < l.length := by rw [HN.out]; exact hlt
      obtain ⟨b, off, c', e1, _, _, hbl, hc⟩ := HO.out.inv (by rw [HN.out]; omega)
      rw [HN.out] at e1
      simp only [Value.slice.injEq] at e1
      obtain ⟨rfl, -, rfl⟩ := e1
      have hc := hc k hx
      obtain ⟨⟨o, u⟩, hp⟩ : ∃ p, l[k] = p := ⟨_, rfl⟩
      have hcs := HO.out.2 _ (List.getElem_mem hx)
      have hcl := HF.out _ (List.getElem_mem hx)
      rw [hp] at hc hcs hcl
      dsimp only at hc hcs hcl
      have HP := hid hp
      have HC : Hid (∀ j, j < 20 → wr.cell? ⟨b, off + k * 20 + j, none⟩ = (opl o u)[j]?) := hid (fun j hj => (B0.out.cell hbl).trans (hc j hj))
      have HCP := hid (copyop_any (opv o u) o u rfl wr (hcs.below B0.out) hcl)
      clear hp hc hcs hcl
      go_wp2_with (first | (refine wpList_val _ rfl (run_load_opat rfl rfl HC.out) ?_) | fail)
      refine HCP.out.mono ?_
      rintro e w6 ⟨u6, rfl, hcs6, b6, hu6⟩
      have hA := ba w6 (opo o u6)
      have O7 := hid (Os.one w6 o u6 hcs6)
      have R7 := hid ((R0.out.below b6).below hA)
      have B7 := hid (bt (bt B0.out b6) hA)
      have S7 := hid B7.out.size
      have AW7 : Hid (Aw (.slice ao k co) (o, u6)) := hid (.inr (fun j hj e => by
        have h1 := hu6 j e
        have h2 := (R0.out.1.lt j hj).2
        omega))
      have HU6 : Hid (∀ j, u6.ownBlock = some j → w.heap.size ≤ j) := hid (fun j hj => Nat.le_trans B0.out.size (hu6 j hj))
      have hlen : l'.length ≤ 1048576 := by have := HL'.out; omega
      clear HCP hcs6 b6 hu6 hA
      go_wp2_with (first
        | (refine wpList_ops1 rfl _ rfl o u6 rfl ?_)
        | (at_builtin; refine wpList_append_op rfl _ _ rfl w.heap.size (.slice ao k co) l' rfl R7.out _ (o, u6) rfl O7.out AW7.out hlen S7.out ?_; intro v9 w9 hR9 hf9 hv9; have R9 := hid hR9; have HF9 := hid hf9; obtain ⟨a9, c9, rfl⟩ := hR9.form; clear hR9 hf9 hv9)
        | fail)
      have B9 : Hid (Below w.heap.size w w9) := hid (B7.out.trans (HF9.out.below (fun j hj e => by have := (R7.out.1.lt j e).1; omega) S7.out))
      go_roundw
      case rel =>
        refine ⟨k + 1, l' ++ [(o, u6)], by go_num, hlt, by have h9 := R9.out; rw [List.length_append] at h9; exact h9, by rw [List.length_append, HL'.out]; rfl, ?_, HNW.out.snoc HU6.out, B9.out⟩
        have htk : fsts (l.take (k + 1)) = fsts (l.take k) ++ [o] := by
          unfold fsts
          rw [List.take_succ_eq_append_getElem hx, List.map_append, HP.out]
          rfl
        rw [htk, ← HFS.out]
        simp [fsts]
      case measure => simp [intOf]; omega
    · have hlt' : ¬ (k : Int) < (n : Int) := by omega
      have htk : l.take k = l := List.take_of_length_le (by rw [HN.out]; omega)
      go_wp2
      go_ret
      exact ⟨_, rfl, l', R0.out, by rw [HFS.out, htk], HNW.out, B0.out⟩
end Go.Proofs.YtaojeanoojnknaaDoor
