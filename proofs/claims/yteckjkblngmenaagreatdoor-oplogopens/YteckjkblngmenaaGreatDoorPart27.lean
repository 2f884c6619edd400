/-
  Parts of the proof, one behind the other; what each proves stands at its head.
-/
import Derived.Test.YteckjkblngmenaaGreatDoorPart8
import Derived.Test.YteckjkblngmenaaGreatDoorPart10
import Derived.Test.YteckjkblngmenaaGreatDoorPart15
import Derived.Test.YteckjkblngmenaaGreatDoorPart17
import Derived.Test.YteckjkblngmenaaGreatDoorPart18
import Derived.Test.YteckjkblngmenaaGreatDoorPart26
import Derived.Test.YteckjkblngmenaaGreatDoorPart16
import Derived.Test.YteckjkblngmenaaGreatDoorPart7
import Derived.Test.YteckjkblngmenaaGreatDoorCards
import Derived.Test.YteckjkblngmenaaGreatDoorTie
import Derived.Test.YteckjkblngmenaaGreatDoorPart4
import Derived.Deep.SlicePairs
import Derived.LaidMore
import Derived.Deep.DeepWitnessRowRef
import Derived.SevenTiedAt

/-
  What the reference's CopyCuts, CopyOp and CopyOps return is proved here.
-/
namespace Go.Proofs.YteckjkblngmenaaGreatDoor
open Go.RowKit
set_option linter.unusedVariables false
set_option maxRecDepth 100000

set_option maxHeartbeats 2000000 in
theorem copycuts_any (v : Value) (l : List Ct) (w : World) (hC : Cs w v l) (hl : l.length ≤ 100000) :
    Calls Tryz.prog 76 #[v] w fun e w' => ∃ u, e = .returned u ∧ w'.ownsRow w.heap.size 113 4 u l.length (l.flatMap cutc) ∧ Below w.heap.size w w' := by
  obtain ⟨a, c, rfl, _, _⟩ := hC.form
  have HA := hid (ba w (.cells #[] 113))
  have HC := hid (hC.below HA.out)
  have HO : Hid ((w.alloc (.cells #[] 113)).ownsRow w.heap.size 113 4 (.slice (some ⟨w.heap.size, 0, none⟩) 0 0) 0 []) := hid (World.ownsRow_made w #[] 0 (Nat.le_refl _) (Nat.zero_le _) rfl)
  have H1C : Hid (∀ x ∈ l.flatMap cutc, x.oneCell' = true) := hid (fun x hx => by
    obtain ⟨c, _, hx⟩ := List.mem_flatMap.1 hx
    simp at hx
    rcases hx with rfl | rfl | rfl | rfl <;> rfl)
  obtain ⟨n, hn⟩ : ∃ n, l.length = n := ⟨_, rfl⟩
  have hb : (0 + n) * 32 ≤ 140737488355328 := by omega
  have hm : 0 + n ≤ maxLen := by unfold maxLen; omega
  have hSl : Hid (Sl 4 (w.alloc (.cells #[] 113)) (.slice a n c) n (l.flatMap cutc)) := hid (by have := HC.out; unfold Cs at this; rwa [hn] at this)
  have HS := hid HA.out.size
  rw [hn]
  clear hC hl hn HC
  go_enter Tryz.func76, Tryz.ntmps76
  go_wp2_with (first | (at_builtin; refine wpList_append_sl 75 113 4 32 _ Tryz.underlying75 info_cut rfl (Nat.succ_pos 3) rfl _ _ rfl w.heap.size (.slice (some ⟨w.heap.size,0,none⟩) 0 0) _ [] rfl HO.out _ n (l.flatMap cutc) rfl hSl.out H1C.out hb hm HS.out ?_; intro v5 w5 hown5 hg5 hv5; rw [Nat.zero_add,List.nil_append] at hown5; obtain ⟨a5,c5,rfl⟩ := own_shape hown5; have HO5 := hid hown5; have HG5 := hid hg5; clear hown5 hg5 hv5) | fail)
  have B5 : Hid (Below w.heap.size w w5) := hid (HA.out.trans ((Fr.of_grown (S := fun k => w.heap.size ≤ k) HG5.out (fun k e => by simp [Value.ownBlock] at e; omega)).below (fun k hk e => by omega) HS.out))
  go_ret
  exact ⟨_, rfl, HO5.out, B5.out⟩

set_option maxHeartbeats 2000000 in
theorem copyop_any (A : Value) (o : Opn) (v : Value) (hA : A = opv o v) (w : World) (hC : Cs w v o.cuts) (hl : o.cuts.length ≤ 100000) :
    Calls Tryz.prog 47 #[A] w fun e w' => ∃ u, e = .returned (opv o u) ∧ Cs w' u o.cuts ∧ Below w.heap.size w w' ∧ ∀ k, u.ownBlock = some k → w.heap.size ≤ k := by
  subst hA
  obtain ⟨va, vc, hv, _⟩ := hC.form
  have HV : Hid (∃ va n vc, v = .slice va n vc) := hid ⟨_, _, _, hv⟩
  have HA := hid (ba w (opo o v))
  have HO := hid (Ob.new w o v)
  have HC := hid (hC.below HA.out)
  clear hC hv
  go_enter Tryz.func47, Tryz.ntmps47
  have hrb : (w.alloc (opo o v)).heap.size = w.heap.size + 1 := by simp
  have HRB := hid hrb
  clear hrb
  go_wp2_with (first
    | (have hh2 := HR2.out; refine wpList_al_op rfl rfl ?_; intro w3 ho3 hb3 hlt3; clear hh2; have HL3 := hid ho3; have HR3 := hid (HR2.out.below hb3); have HO3 := hid (HO2.out.below hb3); have HC3 := hid (HC2.out.below hb3); have B3 := hid (bt B2.out hb3); have LT3 := hid hlt3; clear ho3 hb3 hlt3)
    | (refine wpList_al_op rfl rfl ?_; intro w2 ho2 hb2 hlt2; rw [HRB.out] at ho2 hlt2; have HR2 := hid ho2; have HO2 := hid (HO.out.below hb2); have HC2 := hid (HC.out.below hb2); have B2 := hid (bt HA.out hb2); have LT2 := hid hlt2; clear ho2 hb2 hlt2)
    | (refine wpList_load_op rfl _ rfl w.heap.size rfl o v HO2.out ?_)
    | (refine wpList_st_op rfl rfl rfl rfl HV.out HL3.out ?_; intro w4 ho4 hf4; have HL4 := hid ho4; have HF4 := hid hf4; have HO4 := hid (HO3.out.fr hf4 (fun e => by have h2 := LT2.out; omega)); clear ho4 hf4)
    | (refine wpList_ld_cuts rfl rfl rfl HO4.out ?_)
    | fail)
  have B4 := hid (below_fr B3.out HF4.out (by have h2 := LT2.out; omega))
  have hq : w.heap.size + 1 < w2.heap.size := LT2.out
  have HR4 := hid (HR3.out.fr HF4.out (fun e => by omega))
  obtain ⟨ua, uc, rfl, _⟩ := HC3.out.form
  have HC4 : Hid (Cs w4 (.slice ua o.cuts.length uc) o.cuts) := hid (by
    by_cases h0 : o.cuts = []
    · have := HC3.out
      rw [h0] at this ⊢
      exact this.none
    · refine Sl.kept HC3.out (fun k hk hlt => HF4.out.block k hlt (fun e => ?_))
      have h1 := HC2.out.blk h0 hk
      omega)
  obtain ⟨q, hqq⟩ : ∃ q, w2.heap.size = q := ⟨_, rfl⟩
  rw [hqq] at HL4 hq ⊢
  clear hqq HF4 HL3 HR3 HC3 HC2 HO2 HR2 HO3 HO HC
  refine (copycuts_any _ o.cuts w4 HC4.out hl).mono ?_
  rintro e w5 ⟨u5, rfl, ho5, b5⟩
  have HU5 := hid ho5
  have HL5 := hid (HL4.out.below b5)
  have HR5 := hid (HR4.out.below b5)
  have B5 := hid (bt B4.out b5)
  have H45 := hid B4.out.size
  obtain ⟨a5, c5, rfl⟩ := own_shape ho5
  clear ho5 b5 HL4 HR4 HO4
  go_wp2_with (first
    | (refine wpList_st_cuts o.cuts rfl rfl rfl rfl HL5.out ?_; intro w6 ho6 hf6; have HL6 : Hid (Ob w6 q o (.slice a5 o.cuts.length c5)) := hid ho6; have HR6 := hid (HR5.out.fr hf6 (fun e => by omega)); have HF6 := hid hf6; clear ho6 hf6)
    | (refine wpList_load_op rfl _ rfl q rfl o (.slice a5 o.cuts.length c5) HL6.out ?_)
    | (refine wpList_st_op rfl rfl rfl rfl ⟨_, _, _, rfl⟩ HR6.out ?_; intro w7 ho7 hf7; have HR7 := hid ho7; have HF7 := hid hf7; clear ho7 hf7)
    | fail)
  have B7 := hid (below_fr (below_fr B5.out HF6.out (by omega)) HF7.out (by omega))
  refine bodyPost_ret (results_cell_row rfl _ _ (w.heap.size + 1) 77 (opl o (.slice a5 o.cuts.length c5)) (0, 0) _ rfl HR7.out Tryz.underlying77 rfl (by kernel_rfl)) rfl ?_
  have hu6 := own_fr HU5.out HF6.out (fun k hk e => own_far HU5.out HL5.out (by decide) (e ▸ hk))
  have hu7 := own_fr hu6 HF7.out (fun k hk e => own_far hu6 HR6.out (by decide) (e ▸ hk))
  exact ⟨_, rfl, Sl.of_own hu7, B7.out, fun k hk => Nat.le_trans H45.out (HU5.out.lt k hk).1⟩

/-- What CopyOps answers. -/
def YX (w : World) (l : List (Opn × Value)) (v' : Value) (w' : World) : Prop := ∃ l', Rw w.heap.size w' v' l' ∧ fsts l' = fsts l ∧ Nw w.heap.size l' ∧ Below w.heap.size w w'

set_option maxHeartbeats 4000000 in
theorem copyops_any (v : Value) (l : List (Opn × Value)) (w : World) (hO : Os w v l) (hf : ∀ p ∈ l, p.1.cuts.length ≤ 100000) (hn : l.length ≤ 1048576) :
    Calls Tryz.prog 12 #[v] w fun e w' => ∃ v', e = .returned v' ∧ YX w l v' w' := by
  obtain ⟨a, c, rfl, _, _⟩ := Sl.form hO.1
  obtain ⟨n, hnn⟩ : ∃ n, l.length = n := ⟨_, rfl⟩
  have HN := hid hnn
  have HO := hid hO
  have HF := hid hf
  rw [hnn] at hn HO ⊢
  have HR := hid (Rw.made (B := w.heap.size) (w := w) (Nat.le_refl _))
  have HA := hid (ba w (.cells #[] 77))
  clear hO hf hnn
  go_enter Tryz.func12, Tryz.ntmps12
  go_wp2
  go_loopw [3, 4] (fun o i wr => ∃ (k : Nat) (l' : List (Opn × Value)), i = .int .i64 k ∧ k ≤ n ∧ Rw w.heap.size wr o l' ∧ l'.length = k ∧ fsts l' = fsts (l.take k) ∧ Nw w.heap.size l' ∧ Below w.heap.size w wr) (fun _ i _ => n - (intOf i).toNat)
  case atStart => exact ⟨0, [], rfl, Nat.zero_le _, HR.out, rfl, rfl, Nw.nil _, HA.out⟩
  case round =>
    obtain ⟨k, l', rfl, hk, hr, hl', hfs, hnw, hb⟩ := hrel
    have R0 := hid hr
    obtain ⟨ao, co, rfl⟩ := hr.form
    have HL' := hid hl'
    have HFS := hid hfs
    have HNW := hid hnw
    have B0 := hid hb
    rw [hl'] at R0
    rw [hl']
    clear hr hl' hfs hnw hb HR HA
    by_cases hlt : k < n
    · have hlt' : (k : Int) < (n : Int) := by omega
      have hx : k < l.length := by rw [HN.out]; exact hlt
      obtain ⟨b, off, c', e1, _, _, hbl, hc⟩ := HO.out.inv (by rw [HN.out]; omega)
      rw [HN.out] at e1
      simp only [Value.slice.injEq] at e1
      obtain ⟨rfl, -, rfl⟩ := e1
      have hc := hc k hx
      obtain ⟨⟨o, u⟩, hp⟩ : ∃ p, l[k] = p := ⟨_, rfl⟩
      have hcs := HO.out.2 _ (List.getElem_mem hx)
      have hcl := HF.out _ (List.getElem_mem hx)
      rw [hp] at hc hcs hcl
      dsimp only at hc hcs hcl
      have HP := hid hp
      have HC : Hid (∀ j, j < 20 → wr.cell? ⟨b, off + k * 20 + j, none⟩ = (opl o u)[j]?) := hid (fun j hj => (B0.out.cell hbl).trans (hc j hj))
      have HCP := hid (copyop_any (opv o u) o u rfl wr (hcs.below B0.out) hcl)
      clear hp hc hcs hcl
      go_wp2_with (first | (refine wpList_val _ rfl (run_load_opat rfl rfl HC.out) ?_) | fail)
      refine HCP.out.mono ?_
      rintro e w6 ⟨u6, rfl, hcs6, b6, hu6⟩
      have hA := ba w6 (opo o u6)
      have O7 := hid (Os.one w6 o u6 hcs6)
      have R7 := hid ((R0.out.below b6).below hA)
      have B7 := hid (bt (bt B0.out b6) hA)
      have S7 := hid B7.out.size
      have AW7 : Hid (Aw (.slice ao k co) (o, u6)) := hid (.inr (fun j hj e => by
        have h1 := hu6 j e
        have h2 := (R0.out.1.lt j hj).2
        omega))
      have HU6 : Hid (∀ j, u6.ownBlock = some j → w.heap.size ≤ j) := hid (fun j hj => Nat.le_trans B0.out.size (hu6 j hj))
      have hlen : l'.length ≤ 1048576 := by have := HL'.out; omega
      clear HCP hcs6 b6 hu6 hA
      go_wp2_with (first
        | (refine wpList_ops1 rfl _ rfl o u6 rfl ?_)
        | (at_builtin; refine wpList_append_op rfl _ _ rfl w.heap.size (.slice ao k co) l' rfl R7.out _ (o, u6) rfl O7.out AW7.out hlen S7.out ?_; intro v9 w9 hR9 hf9 hv9; have R9 := hid hR9; have HF9 := hid hf9; obtain ⟨a9, c9, rfl⟩ := hR9.form; clear hR9 hf9 hv9)
        | fail)
      have B9 : Hid (Below w.heap.size w w9) := hid (B7.out.trans (HF9.out.below (fun j hj e => by have := (R7.out.1.lt j e).1; omega) S7.out))
      go_roundw
      case rel =>
        refine ⟨k + 1, l' ++ [(o, u6)], by go_num, hlt, by have h9 := R9.out; rw [List.length_append] at h9; exact h9, by rw [List.length_append, HL'.out]; rfl, ?_, HNW.out.snoc HU6.out, B9.out⟩
        have htk : fsts (l.take (k + 1)) = fsts (l.take k) ++ [o] := by
          unfold fsts
          rw [List.take_succ_eq_append_getElem hx, List.map_append, HP.out]
          rfl
        rw [htk, ← HFS.out]
        simp [fsts]
      case measure => simp [intOf]; omega
    · have hlt' : ¬ (k : Int) < (n : Int) := by omega
      have htk : l.take k = l := List.take_of_length_le (by rw [HN.out]; omega)
      go_wp2
      go_ret
      exact ⟨_, rfl, l', R0.out, by rw [HFS.out, htk], HNW.out, B0.out⟩
end Go.Proofs.YteckjkblngmenaaGreatDoor

/-
  What the reference's Told.Ops returns is proved here.
-/
namespace Go.Proofs.YteckjkblngmenaaGreatDoor
open Go.RowKit
set_option linter.unusedVariables false
set_option maxRecDepth 100000

/-- A row of ops of the call's own, each with its cuts elsewhere. -/
def Ry (B : Nat) (w : World) (v : Value) (l : List (Opn × Value)) : Prop := w.ownsRow B 77 20 v l.length (l.flatMap opc) ∧ ∀ p ∈ l, Cs w p.2 p.1.cuts ∧ Aw v p
theorem Ry.of {B : Nat} {w : World} {v : Value} {l : List (Opn × Value)} (h : Rw B w v l) : Ry B w v l := ⟨h.1, h.2.2⟩
theorem Ry.below {B : Nat} {w w' : World} {v : Value} {l : List (Opn × Value)} (h : Ry B w v l) (hb : Below w.heap.size w w') : Ry B w' v l :=
  ⟨own_fr h.1 (Fr.of_below (S := fun _ => False) hb) (fun _ _ e => e), fun p hp => ⟨(h.2 p hp).1.below hb, (h.2 p hp).2⟩⟩
theorem Ry.os {B : Nat} {w : World} {v : Value} {l : List (Opn × Value)} (h : Ry B w v l) : Os w v l := ⟨Sl.of_own h.1, fun p hp => (h.2 p hp).1⟩
/-- Ops whose cuts are newer than the row are appended. -/
theorem Ry.app {B C m : Nat} {w w' : World} {v v' : Value} {l q : List (Opn × Value)} (h : Ry B w v l) (hm : q.length = m) (hown : w'.ownsRow B 77 20 v' (l.length + m) (l.flatMap opc ++ q.flatMap opc)) (hg : w.grownBy w' v.ownBlock) (hv : v'.ownBlock = v.ownBlock ∨ v'.ownBlock = some w.heap.size)
    (hc : ∀ p ∈ q, Cs w p.2 p.1.cuts) (hn : Nw C q) (hC : ∀ k, v.ownBlock = some k → k < C) : Ry B w' v' (l ++ q) := by
  subst hm
  have hf : Fr (fun k => v.ownBlock = some k) w w' := Fr.of_grown hg (fun k e => e)
  refine ⟨by rw [List.length_append, List.flatMap_append]; exact hown, fun p hp => ?_⟩
  have hpp : Cs w p.2 p.1.cuts ∧ Aw v p := by
    rcases List.mem_append.1 hp with hp | hp
    · exact h.2 p hp
    · exact ⟨hc p hp, .inr (fun k hk e => by have h1 := hn p hp k e; have h2 := hC k hk; omega)⟩
  exact ⟨hpp.2.kept hpp.1 hf, hpp.2.moved hpp.1 hv⟩

def TX (w : World) (lls : List (List (Opn × Value))) (v' : Value) (w' : World) : Prop := ∃ l', Ry w.heap.size w' v' l' ∧ fsts l' = fsts lls.flatten ∧ Nw w.heap.size l' ∧ Below w.heap.size w w'
set_option maxHeartbeats 4000000 in
theorem tops_any (r : Int) (vf ve : Value) (lls : List (List (Opn × Value))) (w : World) (hF : Oss w vf lls) (hve : ∃ a n c, ve = .slice a n c) (hf : ∀ l ∈ lls, ∀ p ∈ l, p.1.cuts.length ≤ 100000) (hn : lls.flatten.length ≤ 1048576) :
    Calls Tryz.prog 26 #[.agg #[.int .i64 r, vf, ve]] w fun e w' => ∃ v', e = .returned v' ∧ TX w lls v' w' := by
  obtain ⟨a, c, rfl, hlc, hcm⟩ := hF.form
  unfold maxLen at hcm
  obtain ⟨ea, en, ec, rfl⟩ := hve
  obtain ⟨n, hnn⟩ : ∃ n, lls.length = n := ⟨_, rfl⟩
  have HN := hid hnn
  have HF := hid hF
  have HFF := hid hf
  have hnm : n ≤ 9223372036854775807 := by omega
  rw [hnn] at HF ⊢
  clear hlc hcm
  have hct := cell_of_row (w.alloc (.cells #[.int .i64 r, .slice a n c, .slice ea en ec] 55)) w.heap.size 1 _ _ _ (heap_alloc_new w (.cells #[.int .i64 r, .slice a n c, .slice ea en ec] 55))
  simp only [List.getElem?_toArray, List.getElem?_cons_zero, List.getElem?_cons_succ] at hct
  have HCT := hid hct
  obtain ⟨w1, hw1⟩ : ∃ w1, w.alloc (.cells #[.int .i64 r, .slice a n c, .slice ea en ec] 55) = w1 := ⟨_, rfl⟩
  have hs1 : w1.heap.size = w.heap.size + 1 := by rw [← hw1]; simp
  have HA1 := hid (ba w (.cells #[.int .i64 r, .slice a n c, .slice ea en ec] 55))
  rw [hw1] at HCT HA1
  have HW1 := hid hw1
  have HS1 := hid hs1
  have HR := hid (Ry.of (Rw.made (B := w.heap.size + 1) (w := w1) (by omega)))
  have HA2 := hid (ba w1 (.cells #[] 77))
  rw [hs1] at HA2 HR
  clear hF hf hnn hct hw1 hs1
  go_enter Tryz.func26, Tryz.ntmps26
  go_wp2
  rw [HW1.out]
  go_loopw [3, 4] (fun o i wr => ∃ (k : Nat) (l' : List (Opn × Value)), i = .int .i64 k ∧ k ≤ n ∧ Ry (w.heap.size + 1) wr o l' ∧ fsts l' = fsts (lls.take k).flatten ∧ Nw (w.heap.size + 1) l' ∧ Below (w.heap.size + 1) w1 wr) (fun _ i _ => n - (intOf i).toNat)
  case atStart => exact ⟨0, [], rfl, Nat.zero_le _, HR.out, rfl, Nw.nil _, HA2.out⟩
  case round =>
    obtain ⟨k, l', rfl, hk, hr, hfs, hnw, hb⟩ := hrel
    have R0 := hid hr
    obtain ⟨ao, co, rfl, _⟩ := own_cap2 hr.1
    have HFS := hid hfs
    have HNW := hid hnw
    have B0 := hid hb
    have BW : Hid (Below w.heap.size w wr) := hid (HA1.out.trans (hb.mono (Nat.le_succ _)))
    have ct : wr.cell? ⟨w.heap.size, 1, none⟩ = some (.slice a n c) := (hb.cell (p := ⟨w.heap.size, 1, none⟩) (Nat.lt_succ_self _)).trans HCT.out
    clear hr hfs hnw hb HR HA2
    by_cases hlt : k < n
    · have hlt' : (k : Int) < (n : Int) := by omega
      have hx : k < lls.length := by rw [HN.out]; exact hlt
      obtain ⟨b, off, c', u, e1, hbl, hc, ho⟩ := HF.out.at hx
      rw [HN.out] at e1
      simp only [Value.slice.injEq] at e1
      obtain ⟨rfl, -, rfl⟩ := e1
      obtain ⟨ql, hql⟩ : ∃ ql, lls[k] = ql := ⟨_, rfl⟩
      rw [hql] at ho
      have hc6 : wr.cell? ⟨b, off + k, none⟩ = some u := (BW.out.cell hbl).trans hc
      have hst : lls.take (k + 1) = lls.take k ++ [ql] := by rw [List.take_succ_eq_append_getElem hx, hql]
      have hff : (lls.take (k + 1)).flatten = (lls.take k).flatten ++ ql := by rw [hst, List.flatten_append]; simp
      have hlen : (lls.take k).flatten.length + ql.length ≤ 1048576 := by
        have e := congrArg List.length (congrArg List.flatten (List.take_append_drop (k + 1) lls))
        rw [List.flatten_append, List.length_append, hff, List.length_append] at e
        omega
      have hL : l'.length = (lls.take k).flatten.length := by
        have h := congrArg List.length HFS.out
        simp only [fsts, List.length_map] at h
        exact h
      have HCP := hid (copyops_any u ql wr (ho.later BW.out) (fun p hp => HFF.out ql (by rw [← hql]; exact List.getElem_mem hx) p hp) (by omega))
      obtain ⟨L, hLL⟩ : ∃ L, l'.length = L := ⟨_, rfl⟩
      obtain ⟨m, hm⟩ : ∃ m, ql.length = m := ⟨_, rfl⟩
      have hLm : L + m ≤ 1048576 := by omega
      have HLL := hid hLL
      have HM := hid hm
      have HFL := hid hff
      obtain ⟨ua, uc, rfl, _, _⟩ := Sl.form ho.1
      rw [hm] at HCP hc6
      rw [hLL]
      clear hc ho hst hff hlen hL hLL hm hql
      go_wp2_with fail
      refine HCP.out.mono ?_
      rintro e w2 ⟨v2, rfl, l2, hR2, hf2, hn2, b2⟩
      have R2 := hid (R0.out.below b2)
      have O2 := hid hR2.os
      have HF2 := hid hf2
      have HN2 := hid hn2
      have hl2 : l2.length = m := by have := congrArg List.length hf2; rw [← HM.out]; simpa [fsts] using this
      have HL2 := hid hl2
      have RO2 : Hid (w2.ownsRow (w.heap.size + 1) 77 20 (.slice ao L co) L (l'.flatMap opc)) := hid (by have := R2.out.1; rw [HLL.out] at this; exact this)
      have SL2 : Hid (Sl 20 w2 v2 m (l2.flatMap opc)) := hid (by have := hR2.os.1; rw [hl2] at this; exact this)
      have hbo : (L + m) * 192 ≤ 140737488355328 := by omega
      have hmo : L + m ≤ maxLen := by unfold maxLen; omega
      have B2 := hid (B0.out.trans (b2.mono (by have := HS1.out; have := B0.out.size; omega)))
      have S2 : Hid (w.heap.size + 1 ≤ w2.heap.size) := hid (by have h1 := HS1.out; have h2 := B2.out.size; omega)
      have HV2 : Hid (∃ x n c, v2 = .slice x n c) := hid (by obtain ⟨x, c, e⟩ := hR2.form; exact ⟨x, _, c, e⟩)
      clear hR2 hf2 hn2 b2 hl2 HCP
      go_wp2_with (first | (at_builtin; refine wpList_append_sl 38 77 20 192 _ Tryz.underlying38 info_op rfl (Nat.succ_pos 19) rfl _ _ rfl (w.heap.size + 1) (.slice ao L co) _ _ rfl RO2.out _ m (l2.flatMap opc) rfl SL2.out (one_ops O2.out) hbo hmo S2.out ?_; intro v9 w9 hown9 hg9 hv9; have HO9 := hid hown9; have HG9 := hid hg9; have HV9 := hid hv9; obtain ⟨a9,c9,rfl⟩ := own_shape hown9; clear hown9 hg9 hv9) | fail)
      have R9 := hid (R2.out.app (C := wr.heap.size) HL2.out (by rw [HLL.out]; exact HO9.out) (by rw [HLL.out]; exact HG9.out) (by rw [HLL.out]; exact HV9.out) (fun p hp => O2.out.2 p hp) HN2.out (fun j hj => (R0.out.1.lt j hj).2))
      have B9 : Hid (Below (w.heap.size + 1) w1 w9) := hid (B2.out.trans ((Fr.of_grown (S := fun j => Value.ownBlock (.slice ao L co) = some j) HG9.out (fun j e => e)).below (fun j hj e => by have := (RO2.out.lt j e).1; omega) S2.out))
      go_roundw
      case rel =>
        refine ⟨k + 1, l' ++ l2, by go_num, hlt, R9.out, ?_, fun p hp => ?_, B9.out⟩
        · rw [HFL.out]
          have h1 := HFS.out
          have h2 := HF2.out
          unfold fsts at h1 h2 ⊢
          rw [List.map_append, List.map_append, h1, h2]
        · rcases List.mem_append.1 hp with hp | hp
          · exact HNW.out p hp
          · intro j hj
            have h1 := HN2.out p hp j hj
            have h2 := HS1.out
            have h3 := B0.out.size
            omega
      case measure => simp [intOf]; omega
    · have hlt' : ¬ (k : Int) < (n : Int) := by omega
      have htk : lls.take k = lls := List.take_of_length_le (by rw [HN.out]; omega)
      go_wp2
      go_ret
      exact ⟨_, rfl, l', ⟨own_base R0.out.1 (Nat.le_succ _), R0.out.2⟩, by rw [HFS.out, htk], fun p hp j hj => Nat.le_of_succ_le (HNW.out p hp j hj), BW.out⟩
end Go.Proofs.YteckjkblngmenaaGreatDoor

/-
  What is told of a log's ops, asked (Told.Ops), by what is told.
-/
namespace Go.Proofs.YteckjkblngmenaaGreatDoor
open Go.RowKit
set_option linter.unusedVariables false
set_option maxRecDepth 100000

theorem flat_len (lls : List (List (Opn × Value))) : lls.flatten.length = (lls.map fsts).flatten.length := by
  induction lls with
  | nil => rfl
  | cons l lls ih => simp only [List.flatten_cons, List.map_cons, List.length_append, ih, fsts, List.length_map]
theorem flat_fsts (lls : List (List (Opn × Value))) : fsts lls.flatten = (lls.map fsts).flatten := by
  induction lls with
  | nil => rfl
  | cons l lls ih =>
    simp only [fsts] at ih ⊢
    simp only [List.flatten_cons, List.map_cons, List.map_append, ih]
theorem good_cuts {lls : List (List (Opn × Value))} (h : Good (lls.map fsts)) : ∀ l ∈ lls, ∀ p ∈ l, p.1.cuts.length ≤ 100000 := fun l hl p hp =>
  (fine_right ((h _ (List.mem_map_of_mem (f := fsts) hl)).2.1 p.1 (List.mem_map_of_mem (f := Prod.fst) hp))).2
/-- What is told of a log's ops, asked. -/
theorem told_ops {B : Nat} {w : World} {r : Int} {vf ve : Value} {Fs : List (List Opn)} {lls : List (List (Opn × Value))} (h : To B w vf ve Fs lls) (hg : Good Fs) (hn : szF Fs ≤ 1048576) :
    Calls Tryz.prog 26 #[tdv r vf ve] w fun e w' => ∃ v', e = .returned v' ∧ ∃ l', Os w' v' l' ∧ fsts l' = Fs.flatten ∧ Below w.heap.size w w' := by
  have hfl := h.fl
  refine (tops_any r vf ve lls w h.oss (by obtain ⟨a, c, e, _⟩ := h.ends.form; exact ⟨a, _, c, e⟩) (good_cuts (by rw [hfl]; exact hg)) (by rw [flat_len, hfl]; have := szF_pos Fs; omega)).mono ?_
  rintro e w' ⟨v', rfl, l', h1, h2, _, h3⟩
  exact ⟨v', rfl, l', h1.os, by rw [h2, flat_fsts, hfl], h3⟩
theorem To.none (B : Nat) (w : World) : To B w (.slice none 0 0) (.slice none 0 0) [] [] :=
  ⟨⟨[], rfl, Sl.nil 1 w, fun i h => absurd h (Nat.not_lt_zero _)⟩, (fun k hk => by cases hk), Sl.nil 1 w, (fun k hk => by cases hk), rfl⟩

end Go.Proofs.YteckjkblngmenaaGreatDoor

/-
  The law OplogOpens returns true for all bytes and every room: Open answers what the document's reading of the bytes tells, and the file is trimmed alike, or left.
-/
namespace Go.Proofs.YteckjkblngmenaaGreatDoor
open Go.RowKit
set_option linter.unusedVariables false
set_option maxRecDepth 100000

set_option maxHeartbeats 4000000 in
theorem opens_walk (v : Value) (xs : List Int) (room : Int) (w : World) (h0 : Bs w v xs) (hL : Lay w) :
    Calls Tryz.prog 4 #[v, .int .i64 room] w fun e w' => e = .returned (.bool true) ∧ Below w.heap.size w w' := by
  have l1 := h0.len
  unfold maxLen at l1
  have HV := hid h0
  have HL := hid hL
  have H2 := hid hL.two
  have HBY := hid h0.range
  obtain ⟨va, vc, rfl⟩ := h0.form
  obtain ⟨N, hN⟩ : ∃ N, xs.length = N := ⟨_, rfl⟩
  have HN := hid hN
  rw [hN] at HV l1 ⊢
  clear h0 hL hN
  go_enter Tryz.func4, Tryz.ntmps4
  go_wp2_with fail
  refine (galive_any w HL.out).mono ?_
  rintro e w1 ⟨rfl, b1⟩
  have B1 := hid b1
  clear b1
  by_cases hg : (5000 : Int) < N
  · go_wp2
    go_ret
    exact ⟨rfl, B1.out⟩
  · have hg' : ¬ (5000 : Int) < N := hg
    have HV1 := hid (HV.out.below B1.out)
    go_wp2_with fail
    by_cases hr : room < 0 ∨ 1048576 < room
    · refine (load_bad _ room hr).mono ?_
      rintro e w3 ⟨rfl, rfl⟩
      go_wp2_with fail
      refine (rload_bad _ room hr).mono ?_
      rintro e w3 ⟨rfl, rfl⟩
      clear hr
      go_wp2
      go_ret
      exact ⟨rfl, B1.out⟩
    · obtain ⟨R, rfl⟩ : ∃ R : Nat, room = R := ⟨room.toNat, by omega⟩
      have hR : R ≤ 1048576 := by omega
      by_cases hf : R < N
      · refine (load_full _ xs R hR HV1.out (by rw [HN.out]; exact hf)).mono ?_
        rintro e w3 ⟨rfl, b3⟩
        have B3 := hid (bt B1.out b3)
        clear b3
        go_wp2_with fail
        refine (rload_full _ xs R hR (HV.out.below B3.out) (by rw [HN.out]; exact hf)).mono ?_
        rintro e w4 ⟨rfl, b4⟩
        have B4 := hid (bt B3.out b4)
        clear b4 hr
        go_wp2
        go_ret
        exact ⟨rfl, B4.out⟩
      · refine (load_ok _ xs R hR HV1.out (by rw [HN.out]; omega)).mono ?_
        rintro e w3 ⟨rfl, b3, fv, f3⟩
        obtain ⟨fb, hfb⟩ : ∃ b, w1.heap.size = b := ⟨_, rfl⟩
        have HFB : Hid (w.heap.size ≤ fb ∧ 2 ≤ fb) := hid ⟨by rw [← hfb]; exact B1.out.size, by rw [← hfb]; exact Nat.le_trans H2.out B1.out.size⟩
        have B3 := hid (bt B1.out b3)
        rw [hfb] at f3 b3 ⊢
        rw [HN.out] at f3
        have F3 := hid f3
        have S3 : Hid (fb ≤ w3.heap.size) := hid (by rw [← hfb]; exact b3.size)
        clear b3 f3 hfb
        go_wp2_with fail
        refine (rload_re _ xs R w3 hR (HV.out.below B3.out) (by rw [HN.out]; omega)).mono ?_
        rintro e w4 ⟨rfl, b4, s, m4⟩
        obtain ⟨mb, hmb⟩ : ∃ b, w3.heap.size = b := ⟨_, rfl⟩
        have HIN : Hid (∀ k, Fb fb fv k → fb ≤ k ∧ k < mb) := hid (fun k hk => by
          rw [← hmb]
          rcases hk with rfl | hk
          · exact ⟨F3.out.2.1, F3.out.lt⟩
          · exact F3.out.own.lt k hk)
        have HMB : Hid (w.heap.size ≤ mb ∧ fb ≤ mb) := hid ⟨by rw [← hmb]; exact B3.out.size, by rw [← hmb]; exact S3.out⟩
        have F4 := hid (F3.out.below b4)
        have B4 := hid (bt B3.out b4)
        have S4 : Hid (mb ≤ w4.heap.size) := hid (by rw [← hmb]; exact b4.size)
        rw [hmb] at m4 b4 ⊢
        have M4 := hid m4
        clear b4 m4 hmb hr F3
        go_wp2_with fail
        refine (open_any F4.out (HL.out.below B4.out) (Nat.le_trans HMB.out.2 S4.out) HFB.out.2).mono ?_
        rintro e w5 h5
        have hM5 : ∀ {S' : Nat → Prop}, Lx (Fb fb fv) S' w4 w5 → Re mb w5 mb s (.slice none 0 0) xs [] R := fun x => M4.out.of_block (fun k hk => x.fr.block k (M4.out.inside hk).2 (fun e => by
          have h1 := HIN.out k e
          have h2 := (M4.out.inside hk).1
          omega))
        have hB5 : ∀ {S' : Nat → Prop}, Lx (Fb fb fv) S' w4 w5 → Below w.heap.size w w5 := fun x => B4.out.trans ((x.below (fun k hk => (HIN.out k hk).1) (Nat.le_trans HMB.out.2 S4.out)).mono HFB.out.1)
        rcases h5 with ⟨htl, rfl, f5, x5⟩ | ⟨r, Fs, lb, vo, ve, fv5, l5, v5, q5, htl, rfl, lo5, oq5, hf5, hn5, x5⟩
        · have HT := hid htl
          have M5 := hid (hM5 x5)
          have B5 := hid (hB5 x5)
          have F5 := hid f5
          clear htl f5 x5 hM5 hB5
          go_wp2_with fail
          refine (xopen_any M5.out).mono ?_
          rintro e w6 (⟨htl, rfl, b6⟩ | ⟨r, Fs, vf, ve, lls, htl, _⟩)
          · have B6 := hid (bt B5.out b6)
            have F6 := hid (F5.out.below b6)
            have M6 := hid (M5.out.below b6)
            clear b6 htl
            go_upto_region 11 with (first
              | (refine wpList_al_td rfl rfl ?_; intro w7 hr7 hb7 hlt7; have HK := hid hr7; have HB7 := hid hb7; clear hr7 hb7 hlt7)
              | (refine wpList_st_td rfl rfl rfl rfl ⟨⟨_, _, _, rfl⟩, ⟨_, _, _, rfl⟩⟩ HK.out ?_; intro w8 hr8 hf8; have K8 := hid hr8; have HB8 := hid (below_fr HB7.out hf8 (Nat.le_refl _)); clear hr8 hf8 HK HB7)
              | fail)
            have F8 := hid (F6.out.below HB8.out)
            have M8 := hid (M6.out.below HB8.out)
            have B8 := hid (bt B6.out HB8.out)
            obtain ⟨tc0, tc1, tc2⟩ := K8.out.cells
            go_wp2_with fail
            refine (told_ops (To.none 0 _) Good.nil (Nat.zero_le _)).mono ?_
            rintro e w9 ⟨v9, rfl, l9, ho9, hf9, b9⟩
            have O9 := hid ho9
            have E9 := hid hf9
            have B9 := hid (bt B8.out b9)
            have F9 := hid (F8.out.below b9)
            have M9 := hid (M8.out.below b9)
            obtain ⟨a9, c9, rfl, _, _⟩ := ho9.1.form
            clear ho9 hf9 b9 tc0 tc1 tc2 K8
            go_wp2_with fail
            refine (sameops_any _ _ [] l9 w9 ⟨Sl.nil 20 w9, fun p hp => by cases hp⟩ O9.out).mono ?_
            rintro e w10 ⟨rr, rfl, hrr, b10⟩
            obtain rfl : rr = true := hrr.2 (by rw [E9.out]; rfl)
            have B10 := hid (bt B9.out b10)
            have F10 := hid (F9.out.below b10)
            have M10 := hid (M9.out.below b10)
            clear b10 hrr O9 F9 M9
            go_wp2_with fail
            refine (bytes_any F10.out).mono ?_
            rintro e w11 ⟨v11, rfl, ho11, b11⟩
            have V11 := hid (ho11.bs F10.out.byt)
            have M11 := hid (M10.out.below b11)
            have B11 := hid (bt B10.out b11)
            clear ho11 b11 F10 M10
            go_wp2_with fail
            refine (rbytes_any M11.out).mono ?_
            rintro e w12 ⟨v12, rfl, ho12, b12⟩
            have V12 := hid (ho12.bs (M11.out.bs.append M11.out.bl))
            have U12 := hid (V11.out.below b12)
            have B12 := hid (bt B11.out b12)
            clear ho12 b12 V11 M11
            go_wp2_with fail
            refine (same_b _ _ _ _ w12 U12.out V12.out).mono ?_
            rintro e w13 ⟨rfl, b13⟩
            rw [decide_eq_true (by rw [List.append_nil])]
            have B13 := hid (bt B12.out b13)
            clear b13
            go_wp2
            go_ret
            exact ⟨rfl, B13.out⟩
          · rw [List.append_nil] at htl
            have := Tl.det HT.out htl
            cases this
        · have HT := hid htl
          have M5 := hid (hM5 x5)
          have B5 := hid (hB5 x5)
          have F5 := hid lo5.lg.fi
          have Q5 := hid oq5.os
          have QF := hid hf5
          have QN := hid hn5
          have HSZ : Hid (szF Fs ≤ 1048576) := hid (by have := lo5.room; omega)
          have HGD := hid lo5.good
          have HTB : Hid (xs.take (10 + szF Fs) = lby r Fs) := hid (tl_bytes HBY.out htl)
          have HLB : Hid (10 + szF Fs ≤ xs.length) := hid (by
            have h1 := congrArg List.length (tl_bytes HBY.out htl)
            rw [lby_len lo5.r0 lo5.r1, List.length_take] at h1
            omega)
          have HFI : Hid (∀ k, k = fb ∨ fv5.ownBlock = some k → k < mb ∨ w4.heap.size ≤ k) := hid (fun k hk => by
            have h1 := x5.new k (hk.elim (fun e => .inr (.inl e)) (fun e => .inr (.inr (.inl e))))
            exact h1.imp (fun e => (HIN.out k e).2) id)
          obtain ⟨a5, c5, rfl, _, _⟩ := oq5.os.1.form
          have HMI : Hid (∀ k, (k = mb ∨ s.ownBlock = some k ∨ (Value.slice none 0 0).ownBlock = some k) → mb ≤ k ∧ k < w4.heap.size) := hid (fun k hk => M4.out.inside hk)
          have S45 : Hid (w4.heap.size ≤ w5.heap.size) := hid x5.size
          clear htl lo5 oq5 hf5 hn5 x5 hM5 hB5
          go_wp2_with fail
          refine (xopen_any M5.out).mono ?_
          rintro e w6 (⟨htl, _⟩ | ⟨r', Gs, vf, ve, lls, htl, hgd, hr0, hr1, hsz, rfl, hto, s', l', m6, x6⟩)
          · rw [List.append_nil] at htl
            have := Tl.det HT.out htl
            cases this
          · rw [List.append_nil] at htl
            have hdt := Tl.det HT.out htl
            simp only [Option.some.injEq, Prod.mk.injEq] at hdt
            obtain ⟨rfl, rfl⟩ := hdt
            have hrt : rtrim ((10 + szF Fs : Nat) : Int) xs [] = (0, lby r Fs, []) := by
              unfold rtrim
              rw [if_pos (by have := HLB.out; simp; omega), if_pos (by have := HLB.out; omega), Int.toNat_natCast, HTB.out]
            rw [hrt] at m6
            have M6 := hid m6
            have TO6 := hid hto
            have HSF : Hid ((∃ va n vc, vf = .slice va n vc) ∧ ∃ va n vc, ve = .slice va n vc) := hid (by
              obtain ⟨us, _, h2, _⟩ := hto.us
              obtain ⟨va, vc, e, _⟩ := h2.form
              obtain ⟨va2, vc2, e2, _⟩ := hto.ends.form
              exact ⟨⟨_, _, _, e⟩, ⟨_, _, _, e2⟩⟩)
            have F6 : Hid (Fi fb w6 fb fv5 (lby r Fs) (min N (10 + szF Fs)) R) := hid (F5.out.of_block (fun k hk => x6.fr.block k (by
              rcases hk with rfl | hk
              · exact F5.out.lt
              · exact (F5.out.own.lt k hk).2) (fun e => by
              have h1 := HFI.out k hk
              have h2 := HMI.out k e
              omega)))
            have Q6 := hid (Q5.out.kept QN.out x6.fr (fun k e => (HMI.out k e).2))
            have B6 : Hid (Below w.heap.size w w6) := hid (B5.out.trans (x6.fr.below (fun k hk e => by have h1 := HMI.out k e; have h2 := HMB.out; omega) B5.out.size))
            clear htl hgd hr0 hr1 hsz hto m6 x6 hrt F5 M5 B5 Q5 QN
            go_upto_region 11 with (first
              | (refine wpList_al_td rfl rfl ?_; intro w7 hr7 hb7 hlt7; have HK := hid hr7; have HB7 := hid hb7; clear hr7 hb7 hlt7)
              | (refine wpList_st_td rfl rfl rfl rfl HSF.out HK.out ?_; intro w8 hr8 hf8; have K8 := hid hr8; have HB8 := hid (below_fr HB7.out hf8 (Nat.le_refl _)); clear hr8 hf8 HK HB7)
              | fail)
            have F8 := hid (F6.out.below HB8.out)
            have M8 := hid (M6.out.below HB8.out)
            have B8 := hid (bt B6.out HB8.out)
            have TO8 := hid (TO6.out.below HB8.out)
            have Q8 := hid (Q6.out.later HB8.out)
            obtain ⟨tc0, tc1, tc2⟩ := K8.out.cells
            clear F6 M6 B6 TO6 Q6
            go_wp2_with fail
            refine (told_ops TO8.out HGD.out HSZ.out).mono ?_
            rintro e w9 ⟨v9, rfl, l9, ho9, hf9, b9⟩
            have O9 := hid ho9
            have E9 := hid hf9
            have B9 := hid (bt B8.out b9)
            have F9 := hid (F8.out.below b9)
            have M9 := hid (M8.out.below b9)
            have O5Q := hid (Q8.out.later b9)
            have HEQ : Hid (lby r Fs = lby r Fs ++ []) := hid (by rw [List.append_nil])
            obtain ⟨a9, c9, rfl, _, _⟩ := ho9.1.form
            clear ho9 hf9 b9 tc0 tc1 tc2 K8
            go_wp2_with fail
            refine (sameops_any _ _ q5 l9 w9 O5Q.out O9.out).mono ?_
            rintro e w10 ⟨rr, rfl, hrr, b10⟩
            obtain rfl : rr = true := hrr.2 (by rw [E9.out]; exact QF.out)
            have B10 := hid (bt B9.out b10)
            have F10 := hid (F9.out.below b10)
            have M10 := hid (M9.out.below b10)
            clear b10 hrr O9 F9 M9
            go_wp2_with fail
            refine (bytes_any F10.out).mono ?_
            rintro e w11 ⟨v11, rfl, ho11, b11⟩
            have V11 := hid (ho11.bs F10.out.byt)
            have M11 := hid (M10.out.below b11)
            have B11 := hid (bt B10.out b11)
            clear ho11 b11 F10 M10
            go_wp2_with fail
            refine (rbytes_any M11.out).mono ?_
            rintro e w12 ⟨v12, rfl, ho12, b12⟩
            have V12 := hid (ho12.bs (M11.out.bs.append M11.out.bl))
            have U12 := hid (V11.out.below b12)
            have B12 := hid (bt B11.out b12)
            clear ho12 b12 V11 M11
            go_wp2_with fail
            refine (same_b _ _ _ _ w12 U12.out V12.out).mono ?_
            rintro e w13 ⟨rfl, b13⟩
            rw [decide_eq_true HEQ.out]
            have B13 := hid (bt B12.out b13)
            clear b13
            go_wp2
            go_ret
            exact ⟨rfl, B13.out⟩
end Go.Proofs.YteckjkblngmenaaGreatDoor

/-
  From a walk to the given statement: what the arguments' readings give (ops, rows of ops, bytes), and a world for the witness.
-/
namespace Go.Proofs.YteckjkblngmenaaGreatDoor
open Go.RowKit Go.ChangeShapes Go.WideShapes Go.ChangeAt
set_option linter.unusedVariables false
set_option maxRecDepth 100000

theorem own : ownKnob Tryz.prog.godebug = none := by kernel_rfl
theorem laidOut : laidOutB Tryz.prog = true := by kernel_rfl

section
variable {H : Type} {enc : TypeId × Value → H} {W : World} {held : Bool}
theorem open_u8s {b0 : Nat} {v : Value} {d : DataW H} {p : List MemPlace} (hv : Value.okWide Tryz.prog W .any b0 36 v) (h : DataW.Trod enc Tryz.prog W 0 (fun _ => true) held 36 v d p) : ∃ xs, Bs W v xs := by
  obtain ⟨a, len, cap, rfl⟩ := okWide_slice Tryz.underlying36 hv
  obtain ⟨fuel, hf⟩ := h
  rcases open_ints Tryz.underlying36 Tryz.underlying5 (by kernel_rfl) hf with ⟨hcs, _⟩ | ⟨x, l, c, zs, hcs, _, hl, hm, hz, _, hcell, hwz⟩
  · simp [Value.cells] at hcs
    obtain ⟨rfl, rfl, rfl⟩ := hcs
    exact ⟨[], Bs.nil W⟩
  · simp [Value.cells] at hcs
    obtain ⟨rfl, rfl, rfl⟩ := hcs
    exact ⟨zs.take len, Bs.of_row hl hm (by simpa using hz) hcell hwz⟩
end

/-- The heap that the program's own text lays meets the list. -/
theorem door_met (os : Go.Os) (args : Array Value) : laidMetH Tryz.prog Rows.oplogCallsRow.laid ((World.doorLaid Tryz.prog 72 os).forCall (fun _ _ => 0) ⟨#[], args, []⟩).memory := by
  rw [MakeChecks.laidMetH_plain _ _ _ (by kernel_rfl)]
  exact laidMet_of_run' 8 (by kernel_rfl) (by kernel_rfl)

end Go.Proofs.YteckjkblngmenaaGreatDoor

/-
  From a walk to the given statement: what the readings of lists of lists of ops give.
-/
namespace Go.Proofs.YteckjkblngmenaaGreatDoor
open Go.RowKit Go.ChangeShapes Go.WideShapes Go.ChangeAt
set_option linter.unusedVariables false
set_option maxRecDepth 100000

section
variable {H : Type} {enc : TypeId × Value → H} {W : World} {held : Bool}
end
end Go.Proofs.YteckjkblngmenaaGreatDoor
