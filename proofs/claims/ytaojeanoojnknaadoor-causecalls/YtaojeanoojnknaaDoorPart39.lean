/-
  Parts of the proof, one behind the other; what each proves stands at its head.
-/
import Derived.Test.YtaojeanoojnknaaDoorPart32
import Derived.Test.YtaojeanoojnknaaDoorPart38
import Derived.Test.YtaojeanoojnknaaDoorPart35
import Derived.Test.YtaojeanoojnknaaDoorPart30
import Derived.Test.YtaojeanoojnknaaDoorPart36

/-
  What the reference's Take answers, and leaves, is proved here.
-/
namespace Go.Proofs.YtaojeanoojnknaaDoor
open Go.RowKit
set_option linter.unusedVariables false
set_option maxRecDepth 100000

theorem fsts_erase (l : List (Opn × Value)) (k : Nat) : fsts (l.eraseIdx k) = (fsts l).eraseIdx k := by
  unfold fsts
  rw [List.eraseIdx_eq_take_drop_succ, List.eraseIdx_eq_take_drop_succ, List.map_append, List.map_take, List.map_drop]
theorem fsts_at {l : List (Opn × Value)} {k : Nat} (h : k < l.length) : k < (fsts l).length ∧ ∀ g, (fsts l)[k]'(g) = l[k].1 := ⟨by unfold fsts; rwa [List.length_map], fun g => by unfold fsts; rw [List.getElem_map]⟩
theorem tak_idx {V : List Int} {l : List Opn} {k : Nat} (hk : k < l.length) (hn : ∀ o ∈ l.take k, readyO V o = false) (hr : readyO V l[k] = true) : takO V l = some l[k] ∧ takL V l = l.eraseIdx k := by
  have e : l = l.take k ++ l[k] :: l.drop (k + 1) := by rw [← List.drop_eq_getElem_cons hk, List.take_append_drop]
  refine ⟨?_, ?_⟩
  · unfold takO
    rw [List.find?_eq_some_iff_append]
    exact ⟨hr, _, _, e, fun a ha => by simp [hn a ha]⟩
  · obtain ⟨x, hx⟩ : ∃ x, l[k] = x := ⟨_, rfl⟩
    rw [List.eraseIdx_eq_take_drop_succ]
    unfold takL
    rw [hx] at e hr
    conv => lhs; rw [e]
    rw [List.eraseP_append_right _ (fun a ha => by simp [hn a ha]), List.eraseP_cons_of_pos hr]
/-- What Take comes to. -/
def XtX (N r : Nat) (w : World) (V : List Int) (l : List (Opn × Value)) (e : Ending) (w' : World) : Prop :=
  ∃ q u b, e = .returned (.tuple #[opv q u, .bool b]) ∧ Cs w' u q.cuts ∧ (∀ k, u.ownBlock = some k → N ≤ k) ∧ (takO V (fsts l) = if b then some q else none) ∧ (b = false → q = Opn.zero ∧ u = .slice none 0 0) ∧
    (∃ v' l', fsts l' = takL V (fsts l) ∧ Xr N w' r v' l') ∧ Fr (fun k => k = r) w w'

set_option maxHeartbeats 4000000 in
theorem xtake_any {N r vb : Nat} {V : List Int} {v : Value} {l : List (Opn × Value)} (w : World) (h : Xr N w r v l) (hV : Vc w vb V) (hvb : vb ≠ r) (hl : l.length ≤ 1000) (hr : ∀ o ∈ fsts l, rightO o = true) :
    Calls Tryd.prog 18 #[.pointer (some ⟨r, 0, none⟩), .pointer (some ⟨vb, 0, none⟩)] w fun e w' => XtX N r w V l e w' := by
  obtain ⟨n, hn⟩ : ∃ n, l.length = n := ⟨_, rfl⟩
  obtain ⟨A, c, hv, hc0, hc1⟩ := Sl.form h.os.1
  rw [hn] at hv hl hc0
  subst hv
  have HX := hid h
  have HN := hid hn
  have HV := hid hV
  have HRT := hid hr
  have HNE := hid hvb
  have Z1 := hid (Ob.new w Opn.zero (.slice none 0 0))
  have HA := hid (ba w (opo Opn.zero (.slice none 0 0)))
  clear h hn hV hr hvb
  go_enter Tryd.func18, Tryd.ntmps18
  go_wp2_with (first | (refine wpList_al_op rfl rfl ?_; intro w1 ho1 hb1 hl1; have HO1 := hid ho1; have B1 := hid hb1; clear ho1 hb1 hl1) | fail)
  go_loopw [6] (fun i wr => ∃ k : Nat, i = .int .i64 k ∧ k ≤ n ∧ (∀ o ∈ (fsts l).take k, readyO V o = false) ∧ Below w1.heap.size w1 wr) (fun i _ => n - (intOf i).toNat)
  case atStart => exact ⟨0, rfl, Nat.zero_le _, fun o ho => by simp at ho, Below.refl _ _⟩
  case round =>
    obtain ⟨k, rfl, hk, hno, hb⟩ := hrel
    have HNO := hid hno
    have BR1 := hid hb
    have BR := hid (bt B1.out hb)
    have HXR := hid (HX.out.below BR.out)
    have HVR := hid (HV.out.below BR.out)
    have z1 := HXR.out.cell
    clear hno hb
    have HZR := hid (HO1.out.below BR1.out)
    by_cases hlt : k < n
    · have hlt' : (k : Int) < (n : Int) := by omega
      have hx : k < l.length := by rw [HN.out]; exact hlt
      obtain ⟨b, off, c', e1, _, _, hbl, hcc⟩ := HXR.out.os.inv (by omega)
      rw [HN.out] at e1
      simp only [Value.slice.injEq] at e1
      obtain ⟨rfl, -, rfl⟩ := e1
      have hc := hcc k hx
      obtain ⟨⟨q, u⟩, hp⟩ : ∃ p, l[k] = p := ⟨_, rfl⟩
      have hcs := HXR.out.os.2 _ (List.getElem_mem hx)
      have hrt := HRT.out l[k].1 (List.mem_map_of_mem (List.getElem_mem hx))
      have hcut := HX.out.cut _ (List.getElem_mem hx)
      obtain ⟨hfl, hfi⟩ := fsts_at hx
      have hfi9 := hfi hfl
      rw [hp] at hc hcs hrt hcut hfi9
      dsimp only at hc hcs hrt hcut hfi9
      obtain ⟨va, vc, hu, _⟩ := hcs.form
      have HU : Hid (∃ va n vc, u = .slice va n vc) := hid ⟨_, _, _, hu⟩
      have HC : Hid (∀ W, Below wr.heap.size wr W → ∀ j, j < 20 → W.cell? ⟨b, off + k * 20 + j, none⟩ = (opl q u)[j]?) := hid (fun W hW j hj => (hW.cell (p := ⟨b, off + k * 20 + j, none⟩) hbl).trans (hc j hj))
      have HCS := hid hcs
      have HCT := hid hcut
      have HR := hid (right_small hrt)
      have HFI := hid hfi9
      have HCW : Hid (Cs w u q.cuts) := hid (by have := HX.out.os.2 _ (List.getElem_mem hx); rw [hp] at this; exact this)
      have HFL := hid hfl
      clear hcc hc hp hcs hrt hcut hfi hfi9 hu
      cases hr : readyO V q
      · have HRD := hid hr
        clear hr
        go_wp2_with (first | (refine wpList_val _ rfl (run_load_opat rfl rfl (HC.out _ (Below.refl _ _))) ?_) | fail)
        refine (xcready_any vb V q u wr HVR.out HCS.out HR.out.1 (by have := HR.out.2; omega)).mono ?_
        rintro e w6 ⟨rfl, b6⟩
        rw [HRD.out]
        have B6 := hid (BR1.out.trans (b6.mono BR1.out.size))
        clear b6
        go_wp2_with fail
        go_roundw
        case rel =>
          refine ⟨k + 1, by go_num, hlt, ?_, B6.out⟩
          intro y hy
          rw [List.take_succ_eq_append_getElem HFL.out, List.mem_append, List.mem_singleton, HFI.out] at hy
          rcases hy with hy | rfl
          · exact HNO.out y hy
          · exact HRD.out
        case measure => simp [intOf]; omega
      · have HRD := hid hr
        clear hr
        go_wp2_with (first | (refine wpList_val _ rfl (run_load_opat rfl rfl (HC.out _ (Below.refl _ _))) ?_) | fail)
        refine (xcready_any vb V q u wr HVR.out HCS.out HR.out.1 (by have := HR.out.2; omega)).mono ?_
        rintro e w6 ⟨rfl, b6⟩
        rw [HRD.out]
        have B6 := hid b6
        have HX6 := hid (HXR.out.below b6)
        have z6 := HX6.out.cell
        clear b6
        go_upto_region 6 with (first | (refine wpList_val _ rfl (run_load_opat rfl rfl (HC.out _ B6.out)) ?_) | (refine wpList_al_op rfl rfl ?_; intro w7 ho7 hb7 hl7; have HO7 := hid ho7; have B7 := hid hb7; clear ho7 hb7 hl7) | (refine wpList_st_op rfl rfl rfl rfl HU.out HO7.out ?_; intro w8 ho8 hf8; have HO8 := hid ho8; have HF8 := hid hf8; clear ho8 hf8) | fail)
        have B8 := hid (below_fr B7.out HF8.out (Nat.le_refl _))
        have HX8 := hid (HX6.out.below B8.out)
        have HZ8 := hid ((HZR.out.below B6.out).below B8.out)
        have hs8 : w6.heap.size < w8.heap.size := HO8.out.lt
        have hs6 : w.heap.size < w6.heap.size := Nat.lt_of_lt_of_le HZR.out.lt B6.out.size
        have HS := hid (And.intro hs6 hs8)
        have HB8 := hid (bt BR.out (bt B6.out B8.out))
        clear hs8 hs6
        go_wp2_with fail
        refine (without_any k w8 HX8.out hx (by have := HN.out; omega)).mono ?_
        rintro e w9 ⟨rfl, v9, hx9, hv9, hf9⟩
        have hrn := HX.out.lt
        have hnw := HX.out.le
        have HO9 := hid (HO8.out.fr hf9 (by have := HS.out; omega))
        have HZ9 := hid (HZ8.out.fr hf9 (by omega))
        have HX9 := hid hx9
        have HV9 := hid hv9
        have F9 := hid ((Fr.of_below HB8.out : Fr (fun k => k = r) _ _).trans hf9 (fun _ _ e => e))
        clear hx9 hv9 hf9 hrn hnw
        go_wp2_with (first | (refine wpList_load_op rfl _ rfl w6.heap.size rfl q u HO9.out ?_) | (refine wpList_store_op rfl _ _ rfl _ rfl q u HU.out rfl _ _ HZ9.out ?_) | fail)
        refine bodyPost_ret (results_op2 rfl _ _ rfl (b := w.heap.size) (o := q) (v := u) (by obtain ⟨va, vn, vc, hv⟩ := HU.out; subst hv; exact setRow_heap _ _ _ _ _ _ HZ9.out)) rfl ?_
        have hf10 := Fr.of_row w9 w.heap.size (opl q u)
        have F10 : Fr (fun k => k = r) w (w9.setRow w.heap.size (opl q u)) := F9.out.trans hf10 (fun i hi e => by omega)
        have hx10 := HX9.out.fr2 hf10 (by have h1 := HX.out.lt; have h2 := HX.out.le; omega) (fun j hj => by have h1 := HV9.out j hj; have h2 := HS.out; omega) (fun p hp hne j hj => by
          have h1 := (HX.out.os.2 p (List.mem_of_mem_eraseIdx hp)).blk hne hj
          omega)
        have htk := tak_idx HFL.out HNO.out (by rw [HFI.out]; exact HRD.out)
        rw [HFI.out] at htk
        refine ⟨q, u, true, rfl, ?_, HCT.out, by rw [htk.1]; rfl, (fun e => by cases e), ⟨v9, _, by rw [fsts_erase, htk.2], hx10⟩, F10⟩
        exact HCW.out.frm F10 (fun j hj e => by have h1 := HCT.out j hj; have h2 := HX.out.lt; omega)
    · obtain rfl : k = n := by omega
      have hnlt : ¬ (k : Int) < (k : Int) := by omega
      go_wp2_with (first | (refine wpList_build_zero rfl rfl ?_) | (refine wpList_store_op rfl _ _ rfl _ rfl Opn.zero (.slice none 0 0) ⟨_, _, _, rfl⟩ rfl _ _ HZR.out ?_))
      refine bodyPost_ret (results_op2 rfl _ _ rfl (b := w.heap.size) (o := Opn.zero) (v := .slice none 0 0) (setRow_heap _ _ _ _ _ _ HZR.out)) rfl ?_
      have hf8 := Fr.of_row wr w.heap.size (opl Opn.zero (.slice none 0 0))
      have hfl : (fsts l).length = k := by unfold fsts; rw [List.length_map]; exact HN.out
      have htk := tak_none (V := V) (l := fsts l) (fun o ho => HNO.out o (by rw [List.take_of_length_le (by rw [hfl]; exact Nat.le_refl _)]; exact ho))
      have hb9 := below_fr BR.out hf8 (Nat.le_refl _)
      exact ⟨Opn.zero, .slice none 0 0, false, rfl, Cs.nil _, (fun k hk => by cases hk), by rw [htk.1]; rfl, (fun _ => ⟨rfl, rfl⟩), ⟨_, l, htk.2.symm, HX.out.below hb9⟩, Fr.of_below hb9⟩

end Go.Proofs.YtaojeanoojnknaaDoor

/-
  What the reference's Drop answers, and leaves, is proved here.
-/
namespace Go.Proofs.YtaojeanoojnknaaDoor
open Go.RowKit
set_option linter.unusedVariables false
set_option maxRecDepth 100000

theorem erase_len {α : Type} {l : List α} {k : Nat} (h : k < l.length) : (l.eraseIdx k).length + 1 = l.length := by
  rw [List.length_eraseIdx_of_lt h]; omega
/-- A Drop of the reference under way. -/
structure Dx (V : List Int) (N r : Nat) (w : World) (l : List (Opn × Value)) (n : Nat) (wr : World) (v' : Value) (l' : List (Opn × Value)) (k c : Nat) : Prop where
  xr : Xr N wr r v' l'
  fil : l'.filter (fun p => keepV V p.1) = l.filter (fun p => keepV V p.1)
  kept : ∀ p ∈ l'.take k, keepV V p.1 = true
  num : c + l'.length = n
  le : k ≤ l'.length
  fr : Fr (fun j => j = r) w wr

set_option maxHeartbeats 4000000 in
theorem xdrop_any {N r vb : Nat} {V : List Int} {v : Value} {l : List (Opn × Value)} (w : World) (h : Xr N w r v l) (hV : Vc w vb V) (hvb : vb ≠ r) (hl : l.length ≤ 1000) :
    Calls Tryd.prog 22 #[.pointer (some ⟨r, 0, none⟩), .pointer (some ⟨vb, 0, none⟩)] w fun e w' =>
      e = .returned (.int .i64 ((l.length : Int) - ((drpL V (fsts l)).length : Int))) ∧ ∃ v' l', fsts l' = drpL V (fsts l) ∧ Xr N w' r v' l' ∧ Fr (fun k => k = r) w w' := by
  obtain ⟨n, hn⟩ : ∃ n, l.length = n := ⟨_, rfl⟩
  rw [hn] at hl ⊢
  have HN := hid hn
  have HV := hid hV
  have HNE := hid hvb
  have HD := hid (show Dx V N r w l n w v l 0 0 from ⟨h, rfl, fun p hp => by simp at hp, by omega, Nat.zero_le _, Fr.refl _ _⟩)
  clear h hn hV hvb
  go_enter Tryd.func22, Tryd.ntmps22
  go_wp2
  go_loopw [5, 6] (fun c i wr => ∃ (k c0 : Nat) (v' : Value) (l' : List (Opn × Value)), c = .int .i64 c0 ∧ i = .int .i64 k ∧ Dx V N r w l n wr v' l' k c0) (fun c i _ => n - (intOf c).toNat - (intOf i).toNat)
  case atStart => exact ⟨0, 0, v, l, rfl, rfl, HD.out⟩
  case round =>
    obtain ⟨k, c0, v', l', rfl, rfl, hd⟩ := hrel
    have HDX := hid hd
    obtain ⟨m, hm⟩ : ∃ m, l'.length = m := ⟨_, rfl⟩
    obtain ⟨A, c, hv, hc0, hc1⟩ := Sl.form hd.xr.os.1
    rw [hm] at hv hc0
    subst hv
    have HM := hid hm
    have hcm : c0 + m = n := by have := hd.num; omega
    have hkm : k ≤ m := by have := hd.le; omega
    have z1 := hd.xr.cell
    have HVR := hid (HV.out.fr hd.fr HNE.out)
    clear hd hm
    by_cases hlt : k < m
    · have hlt' : (k : Int) < (m : Int) := by omega
      have hx : k < l'.length := by rw [HM.out]; exact hlt
      obtain ⟨b, off, c', e1, _, _, hbl, hcc⟩ := HDX.out.xr.os.inv (by omega)
      rw [HM.out] at e1
      simp only [Value.slice.injEq] at e1
      obtain ⟨rfl, -, rfl⟩ := e1
      have hc := hcc k hx
      obtain ⟨⟨q, u⟩, hp⟩ : ∃ p, l'[k] = p := ⟨_, rfl⟩
      rw [hp] at hc
      have z2 : wr.cell? ⟨b, off + k * 20 + 1, none⟩ = some (.int .i64 q.ir) := hc 1 (by decide)
      have z3 : wr.cell? ⟨b, off + k * 20 + 2, none⟩ = some (.int .i64 q.im) := hc 2 (by decide)
      have HP := hid hp
      have HHS := hid (xhas_any vb V q.ir q.im wr HVR.out)
      clear hcc hc hp
      cases hh : hasV V q.ir q.im
      · rw [hh] at HHS
        have HH := hid hh
        clear hh
        go_wp2_with fail
        refine HHS.out.mono ?_
        rintro e w6 ⟨rfl, b6⟩
        have HX6 := hid (HDX.out.xr.below b6)
        have F6 := hid (HDX.out.fr.trans (Fr.of_below (S := fun _ => False) b6) (fun _ _ e => e.elim))
        clear b6
        go_wp2_with fail
        go_roundw
        case rel =>
          refine ⟨k + 1, c0, _, l', rfl, by go_num, HX6.out, HDX.out.fil, fun p hp => ?_, HDX.out.num, hx, F6.out⟩
          rw [List.take_succ_eq_append_getElem hx, List.mem_append, List.mem_singleton, HP.out] at hp
          rcases hp with hp | rfl
          · exact HDX.out.kept p hp
          · unfold keepV; rw [HH.out]; rfl
        case measure => simp [intOf]; omega
      · rw [hh] at HHS
        have HH := hid hh
        clear hh
        go_wp2_with fail
        refine HHS.out.mono ?_
        rintro e w6 ⟨rfl, b6⟩
        have HX6 := hid (HDX.out.xr.below b6)
        have F6 := hid (HDX.out.fr.trans (Fr.of_below (S := fun _ => False) b6) (fun _ _ e => e.elim))
        clear b6
        go_wp2_with fail
        refine (without_any k w6 HX6.out hx (by have := HM.out; omega)).mono ?_
        rintro e w9 ⟨rfl, v9, hx9, _, hf9⟩
        have HX9 := hid hx9
        have F9 := hid (F6.out.trans hf9 (fun _ _ e => e))
        clear hx9 hf9
        go_wp2_with fail
        go_roundw
        case rel =>
          have hel := erase_len hx
          refine ⟨k, c0 + 1, v9, l'.eraseIdx k, by go_num, rfl, HX9.out, ?_, fun p hp => ?_, by have := HDX.out.num; omega, by have := HM.out; omega, F9.out⟩
          · rw [filter_erase _ _ _ hx (by rw [HP.out]; unfold keepV; rw [HH.out]; rfl)]
            exact HDX.out.fil
          · refine HDX.out.kept p ?_
            rw [List.eraseIdx_eq_take_drop_succ, List.take_append_of_le_length (by rw [List.length_take]; omega), List.take_take, Nat.min_self] at hp
            exact hp
        case measure => simp [intOf]; omega
    · obtain rfl : k = m := by omega
      have hnl : ¬ (k : Int) < (k : Int) := by omega
      have hall : l' = l.filter (fun p => keepV V p.1) := by
        rw [← HDX.out.fil, eq_comm, List.filter_eq_self]
        intro p hp
        exact HDX.out.kept p (by rw [List.take_of_length_le (by rw [HM.out]; exact Nat.le_refl _)]; exact hp)
      have hfs : fsts l' = drpL V (fsts l) := by
        rw [hall]
        unfold fsts drpL
        rw [List.filter_map]
        rfl
      have hlen : (drpL V (fsts l)).length = k := by rw [← hfs]; unfold fsts; rw [List.length_map]; exact HM.out
      have hc9 : (c0 : Int) = (n : Int) - (k : Int) := by omega
      have HFS := hid hfs
      have HLE : Hid ((n : Int) - ((drpL V (fsts l)).length : Int) = (c0 : Int)) := hid (by rw [hlen]; omega)
      clear hall hfs hlen hc9
      go_wp2
      go_ret
      exact ⟨by rw [HLE.out]; rfl, _, l', HFS.out, HDX.out.xr, HDX.out.fr⟩

end Go.Proofs.YtaojeanoojnknaaDoor

/-
  The swap of two ops in a row, whose order is drawn, is walked here.
-/
namespace Go.Proofs.YtaojeanoojnknaaDoor
open Go.RowKit
set_option linter.unusedVariables false
set_option maxRecDepth 100000

end Go.Proofs.YtaojeanoojnknaaDoor

/-
  The row of ops that CauseOrders mixes: what a swap makes of it; two buffers side by side.
-/
namespace Go.Proofs.YtaojeanoojnknaaDoor
open Go.RowKit
set_option linter.unusedVariables false
set_option maxRecDepth 100000

theorem lay_frS {S : Nat → Prop} {w w' : World} (h : Lay w) (hf : Fr S w w') (hb : ∀ k, S k → 2 ≤ k) : Lay w' := by
  have h2 := lay_two h
  have k : Below 2 w w' := ⟨hf.os, hf.tape, hf.output, hf.size, fun i hi => hf.block i (by omega) (fun hs => by have := hb i hs; omega)⟩
  have c : ∀ (b : Nat) (off : Nat) (v : Value), b < 2 → w.cell? ⟨b, off, none⟩ = some v → w'.cell? ⟨b, off, none⟩ = some v := fun b off v hb hc => (k.cell (p := ⟨b, off, none⟩) hb).trans hc
  exact ⟨c _ _ _ (by decide) h.r0, c _ _ _ (by decide) h.r1, c _ _ _ (by decide) h.t0, c _ _ _ (by decide) h.t1⟩
/-- What is done beside it. -/
theorem Sx.apart {S : Nat → Prop} {w0 : World} {N bb mb vb : Nat} {W W' : World} {V : List Int} {l : List Opn} (h : Sx w0 N bb mb vb W V l) (hf : Fr S W W') (h1 : ¬ S bb ∧ ¬ S mb ∧ ¬ S vb) (h2 : ∀ k, S k → k < N ∧ w0.heap.size ≤ k ∧ 2 ≤ k) : Sx w0 N bb mb vb W' V l := by
  refine ⟨lay_frS h.lay hf (fun k hk => (h2 k hk).2.2), h.bu.fr hf h1.1 h1.2.1 (fun k hk hs => by have := (h2 k hs).1; omega), h.vc.fr hf h1.2.2, h.ne, Nat.le_trans h.le hf.size, ?_, h.lo⟩
  have hb := h.bw
  exact ⟨hf.os.trans hb.os, hf.tape.trans hb.tape, hf.output.trans hb.output, Nat.le_trans hb.size hf.size, fun k hk => (hf.block k (Nat.lt_of_lt_of_le hk hb.size) (fun hs => by have := (h2 k hs).2.1; omega)).trans (hb.block k hk)⟩
end Go.Proofs.YtaojeanoojnknaaDoor

/-
  The program's buffer and vector and the reference's, side by side ('Ks'); an op of the law's own beside what came in ('Kw').
-/
namespace Go.Proofs.YtaojeanoojnknaaDoor
open Go.RowKit
set_option linter.unusedVariables false
set_option maxRecDepth 100000

structure Ks (w0 : World) (N bb mb vb r xm : Nat) (W : World) (V : List Int) (l : List Opn) (V2 : List Int) (l2 : List Opn) : Prop where
  sx : Sx w0 N bb mb vb W V l
  xr : ∃ v m, fsts m = l2 ∧ Xr N W r v m
  xv : Vc W xm V2
  ne : r ≠ mb ∧ r ≠ bb ∧ r ≠ vb ∧ xm ≠ mb ∧ xm ≠ bb ∧ xm ≠ vb ∧ r ≠ xm
  lt : r < N ∧ xm < N ∧ w0.heap.size ≤ r ∧ w0.heap.size ≤ xm ∧ 2 ≤ r ∧ 2 ≤ xm
section
variable {w0 : World} {N bb mb vb r xm : Nat} {W W' : World} {V V2 : List Int} {l l2 : List Opn}
theorem Ks.below (h : Ks w0 N bb mb vb r xm W V l V2 l2) (hb : Below W.heap.size W W') : Ks w0 N bb mb vb r xm W' V l V2 l2 := by
  obtain ⟨v, m, e, hx⟩ := h.xr
  exact ⟨h.sx.below hb, ⟨v, m, e, hx.below hb⟩, h.xv.below hb, h.ne, h.lt⟩
theorem Ks.onm {l' : List Opn} (h : Ks w0 N bb mb vb r xm W V l V2 l2) (hu : Bu N W' bb mb l') (hf : Fr (fun k => k = mb) W W') : Ks w0 N bb mb vb r xm W' V l' V2 l2 := by
  obtain ⟨v, m, e, hx⟩ := h.xr
  have hn := h.ne
  have hl := h.sx.bu.lt
  exact ⟨h.sx.mfr hu hf, ⟨v, m, e, hx.fr hf (fun i hi => by subst hi; exact ⟨hl.2.2.2.1, fun e => hn.1 e.symm⟩)⟩, h.xv.fr hf hn.2.2.2.1, h.ne, h.lt⟩
theorem Ks.onv {V' : List Int} (h : Ks w0 N bb mb vb r xm W V l V2 l2) (hv : Vc W' vb V') (hf : Fr (fun k => k = vb) W W') : Ks w0 N bb mb vb r xm W' V' l V2 l2 := by
  obtain ⟨v, m, e, hx⟩ := h.xr
  have hn := h.ne
  exact ⟨h.sx.vfr hv hf, ⟨v, m, e, hx.fr hf (fun i hi => by subst hi; exact ⟨h.sx.ne.2.2.1, fun e => hn.2.2.1 e.symm⟩)⟩, h.xv.fr hf hn.2.2.2.2.2.1, h.ne, h.lt⟩
theorem Ks.onr {l' : List Opn} (h : Ks w0 N bb mb vb r xm W V l V2 l2) (hx : ∃ v' m', fsts m' = l' ∧ Xr N W' r v' m') (hf : Fr (fun k => k = r) W W') : Ks w0 N bb mb vb r xm W' V l V2 l' := by
  have hn := h.ne
  exact ⟨h.sx.apart hf ⟨fun e => hn.2.1 e.symm, fun e => hn.1 e.symm, fun e => hn.2.2.1 e.symm⟩ (fun k hk => by subst hk; exact ⟨h.lt.1, h.lt.2.2.1, h.lt.2.2.2.2.1⟩), hx, h.xv.fr hf (fun e => hn.2.2.2.2.2.2 e.symm), h.ne, h.lt⟩
theorem Ks.onx {V' : List Int} (h : Ks w0 N bb mb vb r xm W V l V2 l2) (hv : Vc W' xm V') (hf : Fr (fun k => k = xm) W W') : Ks w0 N bb mb vb r xm W' V l V' l2 := by
  obtain ⟨v, m, e, hx⟩ := h.xr
  have hn := h.ne
  exact ⟨h.sx.apart hf ⟨fun e => hn.2.2.2.2.1 e.symm, fun e => hn.2.2.2.1 e.symm, fun e => hn.2.2.2.2.2.1 e.symm⟩ (fun k hk => by subst hk; exact ⟨h.lt.2.1, h.lt.2.2.2.1, h.lt.2.2.2.2.2⟩),
    ⟨v, m, e, hx.fr hf (fun i hi => by subst hi; exact ⟨h.lt.2.1, fun e => hn.2.2.2.2.2.2 e.symm⟩)⟩, hv, h.ne, h.lt⟩
end
/-- An op of the law's own. -/
structure Kw (w0 : World) (N p : Nat) (o : Opn) (u1 : Value) (W : World) : Prop where
  bw : Below w0.heap.size w0 W
  ob : Ob W p o u1
  cs : Cs W u1 o.cuts
  hp : N ≤ p
  hu : ∀ k, u1.ownBlock = some k → N ≤ k
section
variable {w0 : World} {N p : Nat} {o : Opn} {u1 : Value} {W W' : World}
theorem Kw.below (h : Kw w0 N p o u1 W) (hb : Below W.heap.size W W') : Kw w0 N p o u1 W' := ⟨bt h.bw hb, h.ob.below hb, h.cs.below hb, h.hp, h.hu⟩
theorem Kw.fr {x : Nat} (h : Kw w0 N p o u1 W) (hf : Fr (fun k => k = x) W W') (hS : x < N ∧ w0.heap.size ≤ x) : Kw w0 N p o u1 W' :=
  ⟨below_fr h.bw hf hS.2, h.ob.fr hf (fun e => by have := h.hp; omega), h.cs.frm hf (fun k hk e => by have := h.hu k hk; omega), h.hp, h.hu⟩
end

end Go.Proofs.YtaojeanoojnknaaDoor
