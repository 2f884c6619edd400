/-
  Parts of the proof, one behind the other; what each proves stands at its head.
-/
import Derived.Test.YtkaphlpohhaacaaPart11

/-
  What slices.Replace does to a row of runs of the call's own is proved here. Printed by genurep2.py.
-/
namespace Go.Proofs.Ytkaphlpohhaacaa
open Go.RowKit
set_option linter.unusedVariables false
set_option linter.unusedSimpArgs false
set_option maxRecDepth 100000

theorem Us.addr {w : World} {h m mc : Nat} {fs : List Un} (hu : Us w (.slice (some ⟨h, 0, none⟩) m mc) fs) (hm : fs.length = m) : ∀ j v, (fs.flatMap unc)[j]? = some v → w.cell? ((⟨h, 0, none⟩ : Addr).add j) = some v := by
  subst hm
  exact Sl.cells_at hu
/-- What a way of Replace leaves. -/
def RqX (g : Nat) (l : List Value) (k cap : Nat) (cs : List Value) (w : World) (e : Ending) (w' : World) : Prop :=
  ∃ l', e = .returned (.slice (some ⟨g, 0, none⟩) k cap) ∧ Rb w' g l' ∧ l'.length = l.length ∧ l'.take (k * 13) = cs ∧ Fr (fun j => j = g) w w'

set_option maxHeartbeats 8000000 in
theorem rep_end0 {g n cap i j h m mc : Nat} {l : List Value} {fs : List Un} {w : World} (hg : Rb w g l) (hl : l.length = cap * 13) (hij : i < j) (hjn : j ≤ n) (hnc : n ≤ cap) (hu : Us w (.slice (some ⟨h,0,none⟩) m mc) fs) (hm : fs.length = m) (hm0 : 0 < m) (hmc : m ≤ mc) (hgh : g ≠ h) (hbig : n + m ≤ 1000000) (hje : j = n) (hroom : i + m ≤ cap) (hlt : ¬ i + m < n) :
    Calls Try.prog 44 #[.slice (some ⟨g, 0, none⟩) n cap, .int .i64 (i : Nat), .int .i64 (j : Nat), .slice (some ⟨h, 0, none⟩) m mc] w fun e w' => RqX g l (i + m) cap (l.take (i * 13) ++ fs.flatMap unc) w e w' := by
  have hfl : (fs.flatMap unc).length = m * 13 := by rw [flat_length unc 13 unc_len, hm]
  have k1 : ((i : Int) == (j : Int)) = false := by simp; omega
  have k2 : ((j : Int) == (n : Int)) = true := by simp; omega
  have k3 : ¬ ((i : Int) + (m : Int) < (n : Int)) := by omega
  have k4 : (i : Int) + (m : Int) ≤ 2000000 := by omega
  have HG := hid hg
  have HU := hid hu
  have HM := hid hm
  have HFL := hid hfl
  have HL := hid hl
  clear hg hu hm hfl hl
  go_enter Try.func44, Try.ntmps44
  go_wp2_with (first
    | (refine wl_val' _ _ rfl (runU_sl (f := i) (e := j) rfl rfl rfl rfl (by omega) (by omega) (by simp)) ?_)
    | (refine wl_val' _ _ rfl (runU_slt (e := i) rfl rfl rfl (by omega)) ?_)
    | (refine wl_call2 (b := .append) (.inl rfl) rfl rfl rfl rfl (run_appU _ _ HG.out HL.out HM.out HU.out hroom hm0) ?_; obtain ⟨W2,hW2⟩ : ∃ W,w.setRow g (over l (i * 13) (fs.flatMap unc)).toArray = W := ⟨_,rfl⟩; rw [hW2]; have HG2 : Hid (Rb W2 g (over l (i * 13) (fs.flatMap unc))) := hid (by rw [← hW2]; exact HG.out.set _); have HF2 : Hid (Fr (fun j => j = g) w W2) := hid (by rw [← hW2]; exact Fr.of_rowU w g _); clear hW2)
    | fail)
  go_ret
  exact ⟨_, rfl, HG2.out, over_len (by have := HL.out; have := HFL.out; omega), by have := over_mid (l := l) (o := i * 13) (cs := fs.flatMap unc) (by have := HL.out; omega); rw [HFL.out, ← Nat.add_mul] at this; exact this, HF2.out⟩

set_option maxHeartbeats 8000000 in
theorem rep_end1 {g n cap i j h m mc : Nat} {l : List Value} {fs : List Un} {w : World} (hg : Rb w g l) (hl : l.length = cap * 13) (hij : i < j) (hjn : j ≤ n) (hnc : n ≤ cap) (hu : Us w (.slice (some ⟨h,0,none⟩) m mc) fs) (hm : fs.length = m) (hm0 : 0 < m) (hmc : m ≤ mc) (hgh : g ≠ h) (hbig : n + m ≤ 1000000) (hje : j = n) (hroom : i + m ≤ cap) (hlt : i + m < n) :
    Calls Try.prog 44 #[.slice (some ⟨g, 0, none⟩) n cap, .int .i64 (i : Nat), .int .i64 (j : Nat), .slice (some ⟨h, 0, none⟩) m mc] w fun e w' => RqX g l (i + m) cap (l.take (i * 13) ++ fs.flatMap unc) w e w' := by
  have hfl : (fs.flatMap unc).length = m * 13 := by rw [flat_length unc 13 unc_len, hm]
  have k1 : ((i : Int) == (j : Int)) = false := by simp; omega
  have k2 : ((j : Int) == (n : Int)) = true := by simp; omega
  have k3 : (i : Int) + (m : Int) < (n : Int) := by omega
  have k4 : (i : Int) + (m : Int) ≤ 2000000 := by omega
  have hol : (over l (i * 13) (fs.flatMap unc)).length = l.length := over_len (by rw [hfl]; omega)
  have hom := over_mid (l := l) (o := i * 13) (cs := fs.flatMap unc) (by omega)
  rw [hfl, ← Nat.add_mul] at hom
  have HOM := hid hom
  have HOL := hid hol
  clear hom hol
  have HG := hid hg
  have HU := hid hu
  have HM := hid hm
  have HFL := hid hfl
  have HL := hid hl
  clear hg hu hm hfl hl
  go_enter Try.func44, Try.ntmps44
  go_wp2_with (first
    | (refine wl_val' _ _ rfl (runU_sl (f := i) (e := j) rfl rfl rfl rfl (by omega) (by omega) (by simp)) ?_)
    | (refine wl_val' _ _ rfl (runU_slt (e := i) rfl rfl rfl (by omega)) ?_)
    | (refine wl_call2 (b := .append) (.inl rfl) rfl rfl rfl rfl (run_appU _ _ HG.out HL.out HM.out HU.out hroom hm0) ?_; obtain ⟨W2,hW2⟩ : ∃ W,w.setRow g (over l (i * 13) (fs.flatMap unc)).toArray = W := ⟨_,rfl⟩; rw [hW2]; have HG2 : Hid (Rb W2 g (over l (i * 13) (fs.flatMap unc))) := hid (by rw [← hW2]; exact HG.out.set _); have HF2 : Hid (Fr (fun j => j = g) w W2) := hid (by rw [← hW2]; exact Fr.of_rowU w g _); clear hW2)
    | (refine wl_val' _ _ rfl (runU_sldp (f := i + m) rfl rfl rfl (by omega) (by omega) (by omega)) ?_)
    | (obtain ⟨zs,hzs,hcl⟩ := run_clearU W2 0 (g := g) (o := 0 + (i + m) * 13) (n := n - (i + m)) (c := cap - (i + m)) HG2.out (by omega) (by rw [HOL.out,HL.out]; omega); refine wl_clear rfl rfl rfl hcl ?_; obtain ⟨W3,hW3⟩ : ∃ W,W2.setRow g (over (over l (i * 13) (fs.flatMap unc)) (0 + (i + m) * 13) zs).toArray = W := ⟨_,rfl⟩; rw [hW3]; have HG3 : Hid (Rb W3 g (over (over l (i * 13) (fs.flatMap unc)) (0 + (i + m) * 13) zs)) := hid (by rw [← hW3]; exact HG2.out.set _); have HF3 : Hid (Fr (fun j => j = g) w W3) := hid (by rw [← hW3]; exact HF2.out.trans' (Fr.of_rowU W2 g _)); have HZ := hid hzs; clear hW3 hcl hzs)
    | fail)
  go_ret
  have hsz := HZ.out
  have hol := HOL.out
  have hll := HL.out
  refine ⟨_, rfl, HG3.out, ?_, ?_, HF3.out⟩
  · rw [over_len (by rw [hol]; omega)]; exact hol
  · rw [over_low (by omega) (by rw [hol]; omega)]; exact HOM.out

theorem over_after {l fs cs : List Value} {q p : Nat} (h : q + fs.length = p) (h1 : p + cs.length ≤ l.length) : (over (over l q fs) p cs).take (p + cs.length) = l.take q ++ fs ++ cs := by
  have hl : (over l q fs).length = l.length := over_len (by omega)
  rw [over_mid (by omega), ← h, over_mid (by omega)]
theorem over_before {l fs cs : List Value} {q p : Nat} (h : q + fs.length = p) (h1 : p + cs.length ≤ l.length) : (over (over l p cs) q fs).take (p + cs.length) = l.take q ++ fs ++ cs := by
  have hl : (over l p cs).length = l.length := over_len (by omega)
  have e1 : (over l p cs).take q = l.take q := over_low (by omega) (by omega)
  have e2 : (over l p cs).drop p = cs ++ l.drop (p + cs.length) := by
    unfold over
    rw [List.append_assoc]
    have : (l.take p).length = p := by rw [List.length_take]; omega
    have key : ∀ (a b : List Value), a.length = p → (a ++ b).drop p = b := fun a b h => by rw [← h, List.drop_left]
    exact key _ _ this
  have e4 : over (over l p cs) q fs = (over l p cs).take q ++ fs ++ (over l p cs).drop (q + fs.length) := rfl
  rw [e4, e1, h, e2]
  have e3 : (l.take q ++ fs).length = p := by rw [List.length_append, List.length_take]; omega
  rw [← List.append_assoc, List.take_append_of_le_length (by rw [List.length_append, e3]; omega), List.take_of_length_le (by rw [List.length_append, e3]; omega)]

end Go.Proofs.Ytkaphlpohhaacaa

/-
  What slices.Replace does to a row of runs of the call's own is proved here. Printed by genurep2.py.
-/
namespace Go.Proofs.Ytkaphlpohhaacaa
open Go.RowKit
set_option linter.unusedVariables false
set_option linter.unusedSimpArgs false
set_option maxRecDepth 100000

set_option maxHeartbeats 8000000 in
theorem rep_end2 {g n cap i j h m mc : Nat} {l : List Value} {fs : List Un} {w : World} (hg : Rb w g l) (hl : l.length = cap * 13) (hij : i < j) (hjn : j ≤ n) (hnc : n ≤ cap) (hu : Us w (.slice (some ⟨h,0,none⟩) m mc) fs) (hm : fs.length = m) (hm0 : 0 < m) (hmc : m ≤ mc) (hgh : g ≠ h) (hbig : n + m ≤ 1000000) (hje : j = n) (hroom : cap < i + m) {B : Nat} {xs : List Un} (hR : Ur RU B w (.slice (some ⟨g,0,none⟩) i cap) xs) (hxs : xs.length = i) (hB : B ≤ w.heap.size) :
    Calls Try.prog 44 #[.slice (some ⟨g, 0, none⟩) n cap, .int .i64 (i : Nat), .int .i64 (j : Nat), .slice (some ⟨h, 0, none⟩) m mc] w fun e w' => ∃ v', e = .returned v' ∧ Ur RU B w' v' (xs ++ fs) ∧ Fr (fun j => j = g) w w' ∧ ∀ k, v'.ownBlock = some k → k = g ∨ w.heap.size ≤ k := by
  have hfl : (fs.flatMap unc).length = m * 13 := by rw [flat_length unc 13 unc_len, hm]
  have k1 : ((i : Int) == (j : Int)) = false := by simp; omega
  have k2 : ((j : Int) == (n : Int)) = true := by simp; omega
  have k3 : ¬ ((i : Int) + (m : Int) < (n : Int)) := by omega
  have k4 : (i : Int) + (m : Int) ≤ 2000000 := by omega
  have HR := hid hR
  have HXS := hid hxs
  clear hR hxs
  have HG := hid hg
  have HU := hid hu
  have HM := hid hm
  have HFL := hid hfl
  have HL := hid hl
  clear hg hu hm hfl hl
  go_enter Try.func44, Try.ntmps44
  go_wp2_with (first
    | (refine wl_val' _ _ rfl (runU_sl (f := i) (e := j) rfl rfl rfl rfl (by omega) (by omega) (by simp)) ?_)
    | (refine wl_val' _ _ rfl (runU_slt (e := i) rfl rfl rfl (by omega)) ?_)
    | (refine wl_appR rfl _ _ rfl B _ xs fs rfl HR.out _ rfl HU.out (by have := HXS.out; have := HM.out; omega) hB ?_; intro v8 W8 hu8 hf8 ho8; obtain ⟨va8,vc8,hv8,_⟩ := hu8.us.form; have hm8 : (xs ++ fs).length = i + m := List.length_append.trans (congr (congrArg HAdd.hAdd HXS.out) HM.out); rw [hm8] at hv8; subst hv8; have UR8 := hid hu8; have HF8 := hid hf8; have HO8 := hid ho8; clear hu8 hf8 ho8 hm8)
    | fail)
  go_ret
  exact ⟨_, rfl, UR8.out, HF8.out.mono (fun k hk => (Option.some.inj hk).symm), fun k hk => HO8.out.elim (fun e => .inl (Option.some.inj (e.symm.trans hk)).symm) (fun e => .inr (Nat.le_of_eq (Option.some.inj (e.symm.trans hk))))⟩


end Go.Proofs.Ytkaphlpohhaacaa

/-
  What slices.Replace does to a row of runs of the call's own is proved here. Printed by genurep2.py.
-/
namespace Go.Proofs.Ytkaphlpohhaacaa
open Go.RowKit
set_option linter.unusedVariables false
set_option linter.unusedSimpArgs false
set_option maxRecDepth 100000

set_option maxHeartbeats 8000000 in
theorem rep_shrink0 {g n cap i j h m mc : Nat} {l : List Value} {fs : List Un} {w : World} (hg : Rb w g l) (hl : l.length = cap * 13) (hij : i < j) (hjn : j ≤ n) (hnc : n ≤ cap) (hu : Us w (.slice (some ⟨h,0,none⟩) m mc) fs) (hm : fs.length = m) (hm0 : 0 < m) (hmc : m ≤ mc) (hgh : g ≠ h) (hbig : n + m ≤ 1000000) {d tot : Nat} {cs : List Value} (hjl : j < n) (hd : n - j = d) (htot : i + m + d = tot) (hcs : cs = (l.drop (j * 13)).take (d * 13)) (h1c0 : ∀ v ∈ cs,v.oneCell' = true) (hroom : tot ≤ cap) (him : i + m = j) :
    Calls Try.prog 44 #[.slice (some ⟨g, 0, none⟩) n cap, .int .i64 (i : Nat), .int .i64 (j : Nat), .slice (some ⟨h, 0, none⟩) m mc] w fun e w' => RqX g l tot cap (l.take (i * 13) ++ fs.flatMap unc ++ cs) w e w' := by
  have hfl : (fs.flatMap unc).length = m * 13 := by rw [flat_length unc 13 unc_len, hm]
  have k1 : ((i : Int) == (j : Int)) = false := by simp; omega
  have hcl0 : cs.length = d * 13 := by rw [hcs, List.length_take, List.length_drop, hl]; omega
  have k3 : ¬ ((cap : Int) < (tot : Int)) := by omega
  have k5 : (i : Int) + (m : Int) ≤ (j : Int) := by omega
  have HL1 : Hid ((over l (i * 13) (fs.flatMap unc)).length = l.length) := hid (over_len (by rw [hfl]; omega))
  have HS1 : Hid (((over l (i * 13) (fs.flatMap unc)).drop (j * 13)).take cs.length = cs) := hid (by rw [over_drop (by rw [hfl]; omega) (by rw [hfl]; omega), hcl0, hcs]) 
  have k2 : ((j : Int) == (n : Int)) = false := by simp; omega
  have hcl : cs.length = d * 13 := by rw [hcs, List.length_take, List.length_drop, hl]; omega
  have h1c : ∀ v ∈ cs, v.oneCell' = true := h1c0
  have HCS := hid hcs
  have HCL := hid hcl
  have H1C := hid h1c
  have HSRC : Hid ((l.drop (j * 13)).take cs.length = cs) := hid (by rw [hcl, hcs])
  clear hcs hcl h1c
  have HG := hid hg
  have HU := hid hu
  have HM := hid hm
  have HFL := hid hfl
  have HL := hid hl
  clear hg hu hm hfl hl
  go_enter Try.func44, Try.ntmps44
  go_upto_region 9 with (refine wl_val' _ _ rfl (runU_sl (f := i) (e := j) rfl rfl rfl rfl (by omega) (by omega) (by simp)) ?_)
  refine rep_r9 (g := g) (n := n) (cap := cap) (i := i) (j := j) (h := h) (m := m) (mc := mc) (d := d) (tot := tot) (by omega) hjn hnc hmc hbig hd htot (fun _ _ _ _ _ h => h) ?_
  intro W0 hb0
  have HB0 := hid hb0
  have HG0 : Hid (Rb W0 g l) := hid (HG.out.fr (Fr.of_below hb0 : Fr (fun _ => False) _ _) (fun h => h))
  have HA0 : Hid (∀ j v, (fs.flatMap unc)[j]? = some v → W0.cell? ((⟨h, 0, none⟩ : Addr).add j) = some v) := hid (Us.addr (HU.out.below hb0) HM.out)
  clear hb0
  go_upto_region 18 with (first
    | (refine wl_val' _ _ rfl (runU_slt (e := tot) rfl rfl rfl (by omega)) ?_)
    | (refine wl_val' _ _ rfl (runU_sldp (f := i) rfl rfl rfl (by omega) (by omega) (by omega)) ?_)
    | (refine wl_call2 (b := .copy) (.inr rfl) rfl rfl rfl rfl (run_copyU W0 _ HG0.out (by rw [HFL.out,show Nat.min m (tot - i) = m from Nat.min_eq_left (by omega)]) HA0.out (by have := HFL.out; have := HL.out; omega) (flat_one fs)) ?_; obtain ⟨W1,hW1⟩ : ∃ W,W0.setRow g (over l (i * 13) (fs.flatMap unc)).toArray = W := ⟨_,rfl⟩; rw [hW1]; have HG1 : Hid (Rb W1 g (over l (i * 13) (fs.flatMap unc))) := hid (by rw [← hW1]; exact Rb.set HG0.out _); have HF1 : Hid (Fr (fun j => j = g) W0 W1) := hid (by rw [← hW1]; exact Fr.of_rowU W0 g _); clear hW1))
  refine rep_r18 (g := g) (n := n) (cap := cap) (i := i) (j := j) (h := h) (m := m) (mc := mc) (tot := tot) (l := over l (i * 13) (fs.flatMap unc)) (cs := cs) (d := d) (by omega) hjn hnc hmc hbig HG1.out hd (by omega) HCL.out HS1.out H1C.out (by omega) (by omega) (by omega) (by rw [HCL.out,HL1.out,HL.out]; omega) (fun _ _ _ _ _ h => h) ?_
  intro W2 hg2 hf2
  have HG2 := hid hg2
  have HF2 := hid (((Fr.of_below HB0.out : Fr (fun j => j = g) w W0).trans' HF1.out).trans' hf2)
  clear hg2 hf2
  have htn : tot = n := by omega
  subst htn
  go_wp2_with (first
    | (refine wl_val' _ _ rfl (runU_sldz rfl rfl rfl (by omega) (by simp)) ?_)
    | (refine wl_clear rfl rfl rfl (run_clear0 W2 _ _ _) ?_)
    | fail)
  go_ret
  have e1 := over_after (l := l) (fs := fs.flatMap unc) (cs := cs) (q := i * 13) (p := (i + m) * 13) (by rw [HFL.out]; omega) (by rw [HCL.out, HL.out]; omega)
  rw [show (i + m) * 13 + cs.length = tot * 13 by rw [HCL.out]; omega] at e1
  have e2 : (over (over l (i * 13) (fs.flatMap unc)) ((i + m) * 13) cs).length = l.length := by rw [over_len (by rw [HCL.out, HL1.out, HL.out]; omega), HL1.out]
  exact ⟨_, rfl, HG2.out, e2, (by first | exact e1 | (rw [← List.append_assoc]; exact e1)), HF2.out⟩


end Go.Proofs.Ytkaphlpohhaacaa

/-
  What slices.Replace does to a row of runs of the call's own is proved here. Printed by genurep2.py.
-/
namespace Go.Proofs.Ytkaphlpohhaacaa
open Go.RowKit
set_option linter.unusedVariables false
set_option linter.unusedSimpArgs false
set_option maxRecDepth 100000

set_option maxHeartbeats 8000000 in
theorem rep_shrink1 {g n cap i j h m mc : Nat} {l : List Value} {fs : List Un} {w : World} (hg : Rb w g l) (hl : l.length = cap * 13) (hij : i < j) (hjn : j ≤ n) (hnc : n ≤ cap) (hu : Us w (.slice (some ⟨h,0,none⟩) m mc) fs) (hm : fs.length = m) (hm0 : 0 < m) (hmc : m ≤ mc) (hgh : g ≠ h) (hbig : n + m ≤ 1000000) {d tot : Nat} {cs : List Value} (hjl : j < n) (hd : n - j = d) (htot : i + m + d = tot) (hcs : cs = (l.drop (j * 13)).take (d * 13)) (h1c0 : ∀ v ∈ cs,v.oneCell' = true) (hroom : tot ≤ cap) (him : i + m < j) :
    Calls Try.prog 44 #[.slice (some ⟨g, 0, none⟩) n cap, .int .i64 (i : Nat), .int .i64 (j : Nat), .slice (some ⟨h, 0, none⟩) m mc] w fun e w' => RqX g l tot cap (l.take (i * 13) ++ fs.flatMap unc ++ cs) w e w' := by
  have hfl : (fs.flatMap unc).length = m * 13 := by rw [flat_length unc 13 unc_len, hm]
  have k1 : ((i : Int) == (j : Int)) = false := by simp; omega
  have hcl0 : cs.length = d * 13 := by rw [hcs, List.length_take, List.length_drop, hl]; omega
  have k3 : ¬ ((cap : Int) < (tot : Int)) := by omega
  have k5 : (i : Int) + (m : Int) ≤ (j : Int) := by omega
  have HL1 : Hid ((over l (i * 13) (fs.flatMap unc)).length = l.length) := hid (over_len (by rw [hfl]; omega))
  have HS1 : Hid (((over l (i * 13) (fs.flatMap unc)).drop (j * 13)).take cs.length = cs) := hid (by rw [over_drop (by rw [hfl]; omega) (by rw [hfl]; omega), hcl0, hcs]) 
  have k2 : ((j : Int) == (n : Int)) = false := by simp; omega
  have hcl : cs.length = d * 13 := by rw [hcs, List.length_take, List.length_drop, hl]; omega
  have h1c : ∀ v ∈ cs, v.oneCell' = true := h1c0
  have HCS := hid hcs
  have HCL := hid hcl
  have H1C := hid h1c
  have HSRC : Hid ((l.drop (j * 13)).take cs.length = cs) := hid (by rw [hcl, hcs])
  clear hcs hcl h1c
  have HG := hid hg
  have HU := hid hu
  have HM := hid hm
  have HFL := hid hfl
  have HL := hid hl
  clear hg hu hm hfl hl
  go_enter Try.func44, Try.ntmps44
  go_upto_region 9 with (refine wl_val' _ _ rfl (runU_sl (f := i) (e := j) rfl rfl rfl rfl (by omega) (by omega) (by simp)) ?_)
  refine rep_r9 (g := g) (n := n) (cap := cap) (i := i) (j := j) (h := h) (m := m) (mc := mc) (d := d) (tot := tot) (by omega) hjn hnc hmc hbig hd htot (fun _ _ _ _ _ h => h) ?_
  intro W0 hb0
  have HB0 := hid hb0
  have HG0 : Hid (Rb W0 g l) := hid (HG.out.fr (Fr.of_below hb0 : Fr (fun _ => False) _ _) (fun h => h))
  have HA0 : Hid (∀ j v, (fs.flatMap unc)[j]? = some v → W0.cell? ((⟨h, 0, none⟩ : Addr).add j) = some v) := hid (Us.addr (HU.out.below hb0) HM.out)
  clear hb0
  go_upto_region 18 with (first
    | (refine wl_val' _ _ rfl (runU_slt (e := tot) rfl rfl rfl (by omega)) ?_)
    | (refine wl_val' _ _ rfl (runU_sldp (f := i) rfl rfl rfl (by omega) (by omega) (by omega)) ?_)
    | (refine wl_call2 (b := .copy) (.inr rfl) rfl rfl rfl rfl (run_copyU W0 _ HG0.out (by rw [HFL.out,show Nat.min m (tot - i) = m from Nat.min_eq_left (by omega)]) HA0.out (by have := HFL.out; have := HL.out; omega) (flat_one fs)) ?_; obtain ⟨W1,hW1⟩ : ∃ W,W0.setRow g (over l (i * 13) (fs.flatMap unc)).toArray = W := ⟨_,rfl⟩; rw [hW1]; have HG1 : Hid (Rb W1 g (over l (i * 13) (fs.flatMap unc))) := hid (by rw [← hW1]; exact Rb.set HG0.out _); have HF1 : Hid (Fr (fun j => j = g) W0 W1) := hid (by rw [← hW1]; exact Fr.of_rowU W0 g _); clear hW1))
  refine rep_r18 (g := g) (n := n) (cap := cap) (i := i) (j := j) (h := h) (m := m) (mc := mc) (tot := tot) (l := over l (i * 13) (fs.flatMap unc)) (cs := cs) (d := d) (by omega) hjn hnc hmc hbig HG1.out hd (by omega) HCL.out HS1.out H1C.out (by omega) (by omega) (by omega) (by rw [HCL.out,HL1.out,HL.out]; omega) (fun _ _ _ _ _ h => h) ?_
  intro W2 hg2 hf2
  have HG2 := hid hg2
  have HF2 := hid (((Fr.of_below HB0.out : Fr (fun j => j = g) w W0).trans' HF1.out).trans' hf2)
  clear hg2 hf2
  have htn : tot < n := by omega
  have HL2 : Hid ((over (over l (i * 13) (fs.flatMap unc)) ((i + m) * 13) cs).length = l.length) := hid (by rw [over_len (by rw [HCL.out, HL1.out, HL.out]; omega), HL1.out])
  go_wp2_with (first
    | (refine wl_val' _ _ rfl (runU_sldp (f := tot) rfl rfl rfl (by omega) (by omega) (by omega)) ?_)
    | (obtain ⟨zs,hzs,hcl⟩ := run_clearU W2 0 (g := g) (o := 0 + tot * 13) (n := n - tot) (c := cap - tot) HG2.out (by omega) (by rw [HL2.out,HL.out]; omega); refine wl_clear rfl rfl rfl hcl ?_; obtain ⟨W3,hW3⟩ : ∃ W,W2.setRow g (over (over (over l (i * 13) (fs.flatMap unc)) ((i + m) * 13) cs) (0 + tot * 13) zs).toArray = W := ⟨_,rfl⟩; rw [hW3]; have HG3 : Hid (Rb W3 g (over (over (over l (i * 13) (fs.flatMap unc)) ((i + m) * 13) cs) (0 + tot * 13) zs)) := hid (by rw [← hW3]; exact HG2.out.set _); have HF3 : Hid (Fr (fun j => j = g) w W3) := hid (by rw [← hW3]; exact HF2.out.trans' (Fr.of_rowU W2 g _)); have HZ := hid hzs; clear hW3 hcl hzs)
    | fail)
  go_ret
  have e1 := over_after (l := l) (fs := fs.flatMap unc) (cs := cs) (q := i * 13) (p := (i + m) * 13) (by rw [HFL.out]; omega) (by rw [HCL.out, HL.out]; omega)
  rw [show (i + m) * 13 + cs.length = tot * 13 by rw [HCL.out]; omega] at e1
  have e2 : (over (over l (i * 13) (fs.flatMap unc)) ((i + m) * 13) cs).length = l.length := by rw [over_len (by rw [HCL.out, HL1.out, HL.out]; omega), HL1.out]
  have hsz := HZ.out
  have hll := HL.out
  refine ⟨_, rfl, HG3.out, ?_, ?_, HF3.out⟩
  · rw [over_len (by rw [e2]; omega)]; exact e2
  · rw [over_low (by omega) (by rw [e2]; omega)]; first | exact e1 | (rw [← List.append_assoc]; exact e1)


end Go.Proofs.Ytkaphlpohhaacaa

/-
  What slices.Replace does to a row of runs of the call's own is proved here. Printed by genurep2.py.
-/
namespace Go.Proofs.Ytkaphlpohhaacaa
open Go.RowKit
set_option linter.unusedVariables false
set_option linter.unusedSimpArgs false
set_option maxRecDepth 100000

set_option maxHeartbeats 8000000 in
theorem rep_expand {g n cap i j h m mc : Nat} {l : List Value} {fs : List Un} {w : World} (hg : Rb w g l) (hl : l.length = cap * 13) (hij : i < j) (hjn : j ≤ n) (hnc : n ≤ cap) (hu : Us w (.slice (some ⟨h,0,none⟩) m mc) fs) (hm : fs.length = m) (hm0 : 0 < m) (hmc : m ≤ mc) (hgh : g ≠ h) (hbig : n + m ≤ 1000000) {d tot : Nat} {cs : List Value} (hjl : j < n) (hd : n - j = d) (htot : i + m + d = tot) (hcs : cs = (l.drop (j * 13)).take (d * 13)) (h1c0 : ∀ v ∈ cs,v.oneCell' = true) {l0 : List Value} (h0 : Rb w h l0) (hroom : tot ≤ cap) (him : j < i + m) :
    Calls Try.prog 44 #[.slice (some ⟨g, 0, none⟩) n cap, .int .i64 (i : Nat), .int .i64 (j : Nat), .slice (some ⟨h, 0, none⟩) m mc] w fun e w' => RqX g l tot cap (l.take (i * 13) ++ fs.flatMap unc ++ cs) w e w' := by
  have hfl : (fs.flatMap unc).length = m * 13 := by rw [flat_length unc 13 unc_len, hm]
  have k1 : ((i : Int) == (j : Int)) = false := by simp; omega
  have k3 : ¬ ((cap : Int) < (tot : Int)) := by omega
  have k5 : ¬ ((i : Int) + (m : Int) ≤ (j : Int)) := by omega
  have H0 := hid h0
  clear h0
  have k2 : ((j : Int) == (n : Int)) = false := by simp; omega
  have hcl : cs.length = d * 13 := by rw [hcs, List.length_take, List.length_drop, hl]; omega
  have h1c : ∀ v ∈ cs, v.oneCell' = true := h1c0
  have HCS := hid hcs
  have HCL := hid hcl
  have H1C := hid h1c
  have HSRC : Hid ((l.drop (j * 13)).take cs.length = cs) := hid (by rw [hcl, hcs])
  clear hcs hcl h1c
  have HG := hid hg
  have HU := hid hu
  have HM := hid hm
  have HFL := hid hfl
  have HL := hid hl
  clear hg hu hm hfl hl
  go_enter Try.func44, Try.ntmps44
  go_upto_region 9 with (refine wl_val' _ _ rfl (runU_sl (f := i) (e := j) rfl rfl rfl rfl (by omega) (by omega) (by simp)) ?_)
  refine rep_r9 (g := g) (n := n) (cap := cap) (i := i) (j := j) (h := h) (m := m) (mc := mc) (d := d) (tot := tot) (by omega) hjn hnc hmc hbig hd htot (fun _ _ _ _ _ h => h) ?_
  intro W0 hb0
  have HB0 := hid hb0
  have HG0 : Hid (Rb W0 g l) := hid (HG.out.fr (Fr.of_below hb0 : Fr (fun _ => False) _ _) (fun h => h))
  have HA0 : Hid (∀ j v, (fs.flatMap unc)[j]? = some v → W0.cell? ((⟨h, 0, none⟩ : Addr).add j) = some v) := hid (Us.addr (HU.out.below hb0) HM.out)
  clear hb0
  have HOV : Hid ((callFunc 51 #[.slice (some ⟨g, (i + m) * 13, none⟩) (tot - (i + m)) (cap - (i + m)), .slice (some ⟨h, 0, none⟩) m mc]).run Try.prog W0 = .ok (.value (.bool false)) W0) := hid (by
    have h1 := HG0.out
    have h2 : Rb W0 h l0 := H0.out.fr (Fr.of_below HB0.out : Fr (fun _ => False) _ _) (fun h => h)
    have hz : l0.length ≠ 0 := by
      intro hz
      have := HA0.out 0 _ (List.getElem?_eq_getElem (by rw [HFL.out]; omega))
      rw [Addr.add_lit, h2.cell, List.getElem?_eq_none (by omega)] at this
      cases this
    rw [run_callFunc_extern Try.func51 (by kernel_rfl) (by kernel_rfl) (by kernel_rfl) (e := Extern.SlicesOverlaps.overlaps #[55, 55] #[4]) (by kernel_rfl),
      Lib.run_overlaps_apart W0 55 4 RU undRU 13 (fun w => Try.sizeOf59 w) ⟨g,(i + m) * 13,none⟩ ⟨h,0,none⟩ _ _ _ _ hgh RU RU l.length l0.length (by unfold Rb at h1; simp [World.shape?,h1]) (by unfold Rb at h2; simp [World.shape?,h2]) hz (frozen_of_row W0 g _ _ _ h1) (frozen_of_row W0 g _ _ _ h1)]
    rfl)
  go_upto_region 22 with (first
    | (refine wl_val' _ _ rfl (runU_slt (e := tot) rfl rfl rfl (by omega)) ?_)
    | (refine wl_val' _ _ rfl (runU_sldp (f := i + m) rfl rfl rfl (by omega) (by omega) (by omega)) ?_)
    | (simp only [HOV.out]))
  refine rep_r22 (g := g) (n := n) (cap := cap) (i := i) (j := j) (h := h) (m := m) (mc := mc) (tot := tot) (l := l) (cs := cs) (d := d) (by omega) hjn hnc hmc hbig HG0.out hd (by omega) HCL.out HSRC.out H1C.out (by omega) (by omega) (by omega) (by rw [HCL.out,HL.out]; omega) (fun _ _ _ _ _ h => h) ?_
  intro W2 hg2 hf2
  have HG2 := hid hg2
  have HF2 := hid hf2
  have HA2 : Hid (∀ j v, (fs.flatMap unc)[j]? = some v → W2.cell? ((⟨h, 0, none⟩ : Addr).add j) = some v) := hid (fun k v hk => by
    have := HA0.out k v hk
    rw [← this]
    rw [Addr.add_lit] at this ⊢
    exact World.cell?_of_block (HF2.out.block h (World.block_lt_of_cell? _ _ this) (fun e => hgh e.symm)))
  have HL2 : Hid ((over l ((i + m) * 13) cs).length = l.length) := hid (over_len (by rw [HCL.out, HL.out]; omega))
  clear hg2 hf2 HOV
  go_wp2_with (first
    | (refine wl_val' _ _ rfl (runU_sldp (f := i) rfl rfl rfl (by omega) (by omega) (by omega)) ?_)
    | (refine wl_call2 (b := .copy) (.inr rfl) rfl rfl rfl rfl (run_copyU W2 _ HG2.out (by rw [HFL.out,show Nat.min m (tot - i) = m from Nat.min_eq_left (by omega)]) HA2.out (by have := HFL.out; have := HL.out; rw [HL2.out]; omega) (flat_one fs)) ?_; obtain ⟨W1,hW1⟩ : ∃ W,W2.setRow g (over (over l ((i + m) * 13) cs) (i * 13) (fs.flatMap unc)).toArray = W := ⟨_,rfl⟩; rw [hW1]; have HG1 : Hid (Rb W1 g (over (over l ((i + m) * 13) cs) (i * 13) (fs.flatMap unc))) := hid (by rw [← hW1]; exact Rb.set HG2.out _); have HF1 : Hid (Fr (fun j => j = g) W2 W1) := hid (by rw [← hW1]; exact Fr.of_rowU W2 g _); clear hW1)
    | fail)
  go_ret
  have e1 := over_before (l := l) (fs := fs.flatMap unc) (cs := cs) (q := i * 13) (p := (i + m) * 13) (by rw [HFL.out]; omega) (by rw [HCL.out, HL.out]; omega)
  rw [show (i + m) * 13 + cs.length = tot * 13 by rw [HCL.out]; omega] at e1
  have e2 : (over (over l ((i + m) * 13) cs) (i * 13) (fs.flatMap unc)).length = l.length := by rw [over_len (by rw [HFL.out, HL2.out, HL.out]; omega), HL2.out]
  exact ⟨_, rfl, HG1.out, e2, (by first | exact e1 | (rw [← List.append_assoc]; exact e1)), ((Fr.of_below HB0.out : Fr (fun j => j = g) w W0).trans' HF2.out).trans' HF1.out⟩


end Go.Proofs.Ytkaphlpohhaacaa

/-
  What slices.Replace does to a row of runs of the call's own is proved here. Printed by genurep2.py.
-/
namespace Go.Proofs.Ytkaphlpohhaacaa
open Go.RowKit
set_option linter.unusedVariables false
set_option linter.unusedSimpArgs false
set_option maxRecDepth 100000

set_option maxHeartbeats 8000000 in
theorem rep_grow {g n cap i j h m mc : Nat} {l : List Value} {fs : List Un} {w : World} (hg : Rb w g l) (hl : l.length = cap * 13) (hij : i < j) (hjn : j ≤ n) (hnc : n ≤ cap) (hu : Us w (.slice (some ⟨h,0,none⟩) m mc) fs) (hm : fs.length = m) (hm0 : 0 < m) (hmc : m ≤ mc) (hgh : g ≠ h) (hbig : n + m ≤ 1000000) {d tot : Nat} {cs : List Value} (hjl : j < n) (hd : n - j = d) (htot : i + m + d = tot) (hcs : cs = (l.drop (j * 13)).take (d * 13)) (h1c0 : ∀ v ∈ cs,v.oneCell' = true) (hroom : cap < tot) :
    Calls Try.prog 44 #[.slice (some ⟨g,0,none⟩) n cap,.int .i64 (i : Nat),.int .i64 (j : Nat),.slice (some ⟨h,0,none⟩) m mc] w fun e w' => ∃ g2 nc l',e = .returned (.slice (some ⟨g2,0,none⟩) tot nc) ∧ w.heap.size ≤ g2 ∧ Rb w' g2 l' ∧ tot ≤ nc ∧ nc ≤ maxLen ∧ l'.length = nc * 13 ∧ l'.take (tot * 13) = l.take (i * 13) ++ fs.flatMap unc ++ cs ∧ Below w.heap.size w w' := by
  have hfl : (fs.flatMap unc).length = m * 13 := by rw [flat_length unc 13 unc_len, hm]
  have k1 : ((i : Int) == (j : Int)) = false := by simp; omega
  have k3 : (cap : Int) < (tot : Int) := by omega
  have k2 : ((j : Int) == (n : Int)) = false := by simp; omega
  have hcl : cs.length = d * 13 := by rw [hcs, List.length_take, List.length_drop, hl]; omega
  have h1c : ∀ v ∈ cs, v.oneCell' = true := h1c0
  have HCS := hid hcs
  have HCL := hid hcl
  have H1C := hid h1c
  have HSRC : Hid ((l.drop (j * 13)).take cs.length = cs) := hid (by rw [hcl, hcs])
  clear hcs hcl h1c
  have HG := hid hg
  have HU := hid hu
  have HM := hid hm
  have HFL := hid hfl
  have HL := hid hl
  clear hg hu hm hfl hl
  go_enter Try.func44, Try.ntmps44
  go_upto_region 9 with (refine wl_val' _ _ rfl (runU_sl (f := i) (e := j) rfl rfl rfl rfl (by omega) (by omega) (by simp)) ?_)
  refine rep_r9 (g := g) (n := n) (cap := cap) (i := i) (j := j) (h := h) (m := m) (mc := mc) (d := d) (tot := tot) (by omega) hjn hnc hmc hbig hd htot (fun _ _ _ _ _ h => h) ?_
  intro W0 hb0
  have HB0 := hid hb0
  have HG0 : Hid (Rb W0 g l) := hid (HG.out.fr (Fr.of_below hb0 : Fr (fun _ => False) _ _) (fun h => h))
  have HA0 : Hid (∀ j v, (fs.flatMap unc)[j]? = some v → W0.cell? ((⟨h, 0, none⟩ : Addr).add j) = some v) := hid (Us.addr (HU.out.below hb0) HM.out)
  clear hb0
  obtain ⟨nc, l2, hap, hn1, hn2, hn3, hn4⟩ := run_growU W0 55 (g := g) (i := i) (m := tot - i) (cap := cap) HG0.out HL.out (by omega) (by omega) (by omega)
  rw [show i + (tot - i) = tot by omega] at hap hn1
  obtain ⟨g2, hg2⟩ : ∃ k, W0.heap.size = k := ⟨_, rfl⟩
  obtain ⟨W1, hW1⟩ : ∃ W, W0.drew.alloc (.cells l2.toArray RU) = W := ⟨_, rfl⟩
  have hr2 : Rb W1 g2 l2 := by rw [← hW1, ← hg2]; exact heap_alloc_new W0.drew _
  have hb1 : Below W0.heap.size W0 W1 := by rw [← hW1]; exact (Below.refl _ _).drew.alloc (Nat.le_refl _) _
  rw [hg2, hW1] at hap
  have HAP := hid hap
  have HR2 := hid hr2
  have HB1 := hid hb1
  have HN4 := hid hn4
  have HN3 := hid hn3
  have HG2L : Hid (w.heap.size ≤ g2) := hid (by have := HB0.out.size; omega)
  have HNE : Hid (g2 ≠ g) := hid (by have := HG0.out.lt; omega)
  have HNH : Hid (Below w.heap.size w W1) := hid (bt HB0.out hb1)
  have HA1 : Hid (∀ j v, (fs.flatMap unc)[j]? = some v → W1.cell? ((⟨h, 0, none⟩ : Addr).add j) = some v) := hid (Us.addr (HU.out.below (bt HB0.out hb1)) HM.out)
  have HGS : Hid (Rb W1 g l) := hid (HG0.out.fr (Fr.of_below hb1 : Fr (fun _ => False) _ _) (fun h => h))
  have HN2 := hid hn2
  have HN1 := hid hn1
  have hnc1 : i < nc := by omega
  clear hap hr2 hb1 hW1 hg2 hn3 hn4 hn2
  have HE1 : Hid (i ≤ cap) := hid (by omega)
  have HE2 : Hid ((tot : Int) - (i : Int) = ((tot - i : Nat) : Int) ∧ tot - i ≤ 1000000000) := hid (by omega)
  have HE3 : Hid (i ≤ tot ∧ tot ≤ nc ∧ i < nc) := hid (by omega)
  have HE4 : Hid (Nat.min m (tot - i) = m) := hid (Nat.min_eq_left (by omega))
  have HE5 : Hid (i * 13 + (fs.flatMap unc).length ≤ l2.length) := hid (by rw [HFL.out, HN3.out]; omega)
  go_upto_region 12 with (first
    | (refine wl_val' _ _ rfl (runU_slt (e := i) rfl rfl rfl HE1.out) ?_)
    | (refine wl_val' _ _ rfl (runU_subq (q := tot - i) rfl rfl rfl HE2.out.1 HE2.out.2) ?_)
    | (refine wl_call2 (b := .append) (.inl rfl) rfl rfl rfl rfl HAP.out ?_))
  go_upto_region 13 with (first
    | (refine wl_val' _ _ rfl (runU_sldp (f := i) rfl rfl rfl HE3.out.1 HE3.out.2.1 HE3.out.2.2) ?_)
    | (refine wl_call2 (b := .copy) (.inr rfl) rfl rfl rfl rfl (run_copyU W1 _ HR2.out (by rw [HFL.out,HE4.out]) HA1.out HE5.out (flat_one fs)) ?_; obtain ⟨W2,hW2⟩ : ∃ W,W1.setRow g2 (over l2 (i * 13) (fs.flatMap unc)).toArray = W := ⟨_,rfl⟩; rw [hW2]; have HG2 : Hid (Rb W2 g2 (over l2 (i * 13) (fs.flatMap unc))) := hid (by rw [← hW2]; exact HR2.out.set _); have HF2 : Hid (Fr (fun j => j = g2) W1 W2) := hid (by rw [← hW2]; exact Fr.of_rowU W1 g2 _); clear hW2))
  have HL3 : Hid ((over l2 (i * 13) (fs.flatMap unc)).length = l2.length) := hid (over_len (by rw [HFL.out, HN3.out]; omega))
  refine rep_r13 (g := g) (n := n) (cap := cap) (i := i) (j := j) (h := h) (m := m) (mc := mc) (g2 := g2) (tot := tot) (nc := nc) (l2 := over l2 (i * 13) (fs.flatMap unc)) (l := l) (cs := cs) (d := d) (by omega) hjn hnc hmc hbig (HGS.out.fr HF2.out (fun e => HNE.out e.symm)) hd (by omega) HCL.out HSRC.out H1C.out HG2.out (by omega) (by omega) (by omega) (by rw [HCL.out,HL3.out,HN3.out]; omega) (fun _ _ _ _ _ h => h) ?_
  intro W3 hg3 hf3
  have HG3 := hid hg3
  have HF3 := hid (HF2.out.trans' hf3)
  clear hg3 hf3
  go_wp2_with fail
  go_ret
  have e1 := over_after (l := l2) (fs := fs.flatMap unc) (cs := cs) (q := i * 13) (p := (i + m) * 13) (by rw [HFL.out]; omega) (by rw [HCL.out, HN3.out]; omega)
  rw [show (i + m) * 13 + cs.length = tot * 13 by rw [HCL.out]; omega, HN4.out] at e1
  refine ⟨g2, nc, _, rfl, HG2L.out, HG3.out, HN1.out, HN2.out, by rw [over_len (by rw [HCL.out, HL3.out, HN3.out]; omega), HL3.out]; exact HN3.out, (by first | exact e1 | (rw [← List.append_assoc]; exact e1)), below_fr HNH.out HF3.out HG2L.out⟩


end Go.Proofs.Ytkaphlpohhaacaa
