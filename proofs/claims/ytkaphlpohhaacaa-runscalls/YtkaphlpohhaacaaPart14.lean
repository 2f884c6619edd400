/-
  Parts of the proof, one behind the other; what each proves stands at its head.
-/
import Derived.Test.YtkaphlpohhaacaaPart13
import Derived.Test.YtkaphlpohhaacaaPart12

/-
  What joined answers is proved here: the fewest runs of the same characters ('J').
-/
namespace Go.Proofs.Ytkaphlpohhaacaa
open Go.RowKit
set_option linter.unusedVariables false
set_option linter.unusedSimpArgs false
set_option maxRecDepth 100000

def glueU (y x : Un) : Un := { y with l := y.l + x.l, t := y.t ++ x.t }
def stepJ (acc : List Un) (x : Un) : List Un :=
  if x.l = 0 then acc else
    match acc.getLast? with
    | some y => if joinsB y x = true then acc.dropLast ++ [glueU y x] else acc ++ [x]
    | none => acc ++ [x]
def J (l : List Un) : List Un := l.foldl stepJ []
theorem stepJ_zero {acc : List Un} {x : Un} (h : x.l = 0) : stepJ acc x = acc := by unfold stepJ; rw [if_pos h]
theorem stepJ_nil {x : Un} (h : ¬ x.l = 0) : stepJ [] x = [x] := by unfold stepJ; rw [if_neg h]; rfl
theorem stepJ_glue {acc : List Un} {x y : Un} (h : ¬ x.l = 0) (hj : joinsB y x = true) : stepJ (acc ++ [y]) x = acc ++ [glueU y x] := by unfold stepJ; rw [if_neg h]; simp [hj]
theorem stepJ_add {acc : List Un} {x y : Un} (h : ¬ x.l = 0) (hj : joinsB y x = false) : stepJ (acc ++ [y]) x = acc ++ [y] ++ [x] := by unfold stepJ; rw [if_neg h]; simp [hj]
theorem joinsB_at {y x : Un} (h : joinsB y x = true) : y.r = x.r ∧ y.n = x.n ∧ y.f + y.l = x.f ∧ y.g = x.g ∧ y.m = false ∧ x.m = false := by
  unfold joinsB sameI at h
  simp at h
  exact ⟨h.1.1, h.1.2, h.2.1, h.2.2.1, h.2.2.2.1, h.2.2.2.2⟩
theorem glueU_fi {y x : Un} (hy : Fi y) (hx : Fi x) (h : joinsB y x = true) : Fi (glueU y x) := by
  obtain ⟨_, _, h1, _⟩ := joinsB_at h
  have a1 := hy.f
  have a2 := hy.l
  have a3 := hx.l
  have a4 := hx.s
  have a5 := hy.t
  have a6 := hx.t
  refine ⟨a1, by show 0 ≤ y.l + x.l; omega, by show y.f + (y.l + x.l) ≤ 64; omega, ?_⟩
  show ((y.t ++ x.t).size : Int) = y.l + x.l
  rw [ByteArray.size_append]
  omega
theorem stepJ_fis {acc : List Un} {x : Un} (ha : Fis acc) (hx : Fi x) : Fis (stepJ acc x) := by
  by_cases h : x.l = 0
  · rw [stepJ_zero h]; exact ha
  · rcases List.eq_nil_or_concat acc with rfl | ⟨ac, y, rfl⟩
    · rw [stepJ_nil h]; intro z hz; rw [List.mem_singleton.1 hz]; exact hx
    · rw [List.concat_eq_append] at ha ⊢
      cases hj : joinsB y x
      · rw [stepJ_add h hj]; exact ha.app (fun z hz => by rw [List.mem_singleton.1 hz]; exact hx)
      · rw [stepJ_glue h hj]
        intro z hz
        rcases List.mem_append.1 hz with hz | hz
        · exact ha z (List.mem_append_left _ hz)
        · rw [List.mem_singleton.1 hz]; exact glueU_fi (ha y (by simp)) hx hj
theorem stepJ_len (acc : List Un) (x : Un) : (stepJ acc x).length ≤ acc.length + 1 := by
  by_cases h : x.l = 0
  · rw [stepJ_zero h]; omega
  · rcases List.eq_nil_or_concat acc with rfl | ⟨ac, y, rfl⟩
    · rw [stepJ_nil h]; simp
    · rw [List.concat_eq_append]
      cases hj : joinsB y x
      · rw [stepJ_add h hj]; simp
      · rw [stepJ_glue h hj]; simp
theorem J_take {l : List Un} {k : Nat} (hk : k < l.length) : J (l.take (k + 1)) = stepJ (J (l.take k)) (l[k]) := by
  unfold J
  rw [List.take_succ_eq_append_getElem hk, List.foldl_append]
  rfl
theorem J_fis_len {l : List Un} (hl : Fis l) : ∀ k, k ≤ l.length → Fis (J (l.take k)) ∧ (J (l.take k)).length ≤ k := by
  intro k
  induction k with
  | zero => intro _; exact ⟨fun x hx => by simp [J] at hx, by simp [J]⟩
  | succ k ih =>
    intro hk
    obtain ⟨i1, i2⟩ := ih (by omega)
    rw [J_take (by omega)]
    exact ⟨stepJ_fis i1 (hl _ (List.getElem_mem _)), Nat.le_trans (stepJ_len _ _) (by omega)⟩

/-- The last element of a row, changed in one cell. -/
theorem set_flat {l : List Value} {ac : List Un} {y y' : Un} {k i : Nat} {v : Value} (hk : ac.length = k) (ht : l.take ((k + 1) * 13) = (ac ++ [y]).flatMap unc) (hi : i < 13) (hy : (unc y).set i v = unc y') : (l.set (0 + k * 13 + i) v).take ((k + 1) * 13) = (ac ++ [y']).flatMap unc := by
  rw [List.take_set, ht, List.flatMap_append, List.flatMap_append, Nat.zero_add]
  have hl : (ac.flatMap unc).length = k * 13 := by rw [flat_length unc 13 unc_len, hk]
  rw [List.set_append_right _ _ (by omega), hl, Nat.add_sub_cancel_left]
  congr 1

theorem Rb.uc {w : World} {g q : Nat} {l : List Value} {ac : List Un} {y : Un} (h : Rb w g l) (hq : ac.length = q) (ht : l.take ((q + 1) * 13) = (ac ++ [y]).flatMap unc) : Uc w g (0 + q * 13) y := by
  refine Uc.of (fun j hj => ?_)
  have hl : (ac.flatMap unc).length = q * 13 := by rw [flat_length unc 13 unc_len, hq]
  have e : (l.take ((q + 1) * 13))[q * 13 + j]? = (unc y)[j]? := by
    rw [ht, List.flatMap_append, List.getElem?_append_right (by omega), hl, Nat.add_sub_cancel_left]
    simp
  rw [List.getElem?_take_of_lt (by omega)] at e
  rw [h.cell, Nat.zero_add]
  exact e

set_option maxHeartbeats 8000000 in
theorem joined_any (v : Value) (xs : List Un) (w : World) (h : Us w v xs) (hf : Fis xs) (hn : xs.length ≤ 100000) :
    Calls Try.prog 45 #[v] w fun e w' => ∃ u, e = .returned u ∧ Ur RU w.heap.size w' u (J xs) ∧ Below w.heap.size w w' := by
  obtain ⟨a, c, rfl, hc0, hc1⟩ := h.form
  obtain ⟨n, hln⟩ : ∃ n, xs.length = n := ⟨_, rfl⟩
  have HN := hid hln
  have HX := hid h
  have HF := hid hf
  rw [hln] at hn hc0 HX
  clear h hf hln
  go_enter Try.func45, Try.ntmps45
  rw [HN.out]
  go_wp2_with fail
  go_loopw [3, 9] (fun s i wr => ∃ (k m : Nat) (sa : Option Addr) (sc : Nat), k ≤ n ∧ i = .int .i64 k ∧ s = .slice sa m sc ∧ (J (xs.take k)).length = m ∧ Ur RU w.heap.size wr (.slice sa m sc) (J (xs.take k)) ∧ Below w.heap.size w wr) (fun s i _ => n - (intOf i).toNat)
  case atStart => exact ⟨0, 0, none, 0, Nat.zero_le _, rfl, rfl, rfl, Ur.nil _ _ _, Below.refl _ _⟩
  case round =>
    obtain ⟨k, m, sa, sc, hk, rfl, rfl, hm, hu, hb⟩ := hrel
    have B := hid hb
    have UR := hid hu
    have HM := hid hm
    clear hb hu hm
    by_cases hlt : k < n
    · have hlt' : (k : Int) < (n : Int) := by omega
      have hx : k < xs.length := by rw [HN.out]; exact hlt
      obtain ⟨b, off, c', e1, _, _, hbl, hcc⟩ := HX.out.inv (by rw [HN.out]; omega)
      rw [HN.out] at e1
      simp only [Value.slice.injEq] at e1
      obtain ⟨rfl, -, rfl⟩ := e1
      have HC := hid ((hcc k hx).below B.out)
      obtain ⟨x, hxx⟩ : ∃ x, xs[k] = x := ⟨_, rfl⟩
      have hfx := HF.out x (by rw [← hxx]; exact List.getElem_mem hx)
      rw [hxx] at HC
      obtain ⟨hja, hjl⟩ := J_fis_len HF.out k (by omega)
      have hjt := J_take hx
      rw [hxx] at hjt
      obtain ⟨acc, hacc⟩ : ∃ acc, J (xs.take k) = acc := ⟨_, rfl⟩
      rw [hacc] at UR HM hja hjl hjt
      have HJT := hid hjt
      have HJA := hid hja
      have hmn : m ≤ 100000 := by have := HM.out; omega
      have HFX := hid hfx
      clear hcc hfx hxx hjt hja hjl hacc
      by_cases hz : x.l = 0
      · have hz' : (x.l == 0) = true := by simpa using hz
        have HJ : Hid (J (xs.take (k + 1)) = acc) := hid (by rw [HJT.out, stepJ_zero hz])
        clear HJT
        go_wp2_with (first
          | (refine wl_ldR rfl rfl rfl HC.out ?_)
          | (refine wl_alR rfl rfl ?_; intro W2 b2 e2 hub2 hb2; have HV2 := hid hub2; have HK2 := hid hb2; have HG2 := hid (by omega : wr.heap.size ≤ b2); clear e2 hub2 hb2)
          | (refine wl_stR rfl rfl rfl rfl HV2.out ?_; intro W3 hu3 hf3; have d3 : W3.cell? ⟨b2, 3, none⟩ = some (.int .i64 x.l) := hu3.cells.c3; have HK3 := hid (below_fr HK2.out hf3 HG2.out); clear hu3 hf3)
          | fail)
        go_roundw
        case rel => exact ⟨k + 1, m, sa, sc, hlt, by go_num, rfl, by rw [HJ.out]; exact HM.out, by rw [HJ.out]; exact UR.out.below HK3.out, bt B.out HK3.out⟩
        case measure => simp [intOf]; omega
      · have hz' : (x.l == 0) = false := by simpa using hz
        rcases List.eq_nil_or_concat acc with rfl | ⟨ac, y, rfl⟩
        · have HJ : Hid (J (xs.take (k + 1)) = [] ++ [x]) := hid (by rw [HJT.out, stepJ_nil hz]; rfl)
          obtain rfl : m = 0 := by have := HM.out; simpa using this.symm
          clear HJT hz
          go_upto_region 8 with (first
            | (refine wl_ldR rfl rfl rfl HC.out ?_)
            | (refine wl_alR rfl rfl ?_; intro W2 b2 e2 hub2 hb2; have HV2 := hid hub2; have HK2 := hid hb2; have HG2 := hid (by omega : wr.heap.size ≤ b2); clear e2 hub2 hb2)
            | (refine wl_stR rfl rfl rfl rfl HV2.out ?_; intro W3 hu3 hf3; have d3 : W3.cell? ⟨b2, 3, none⟩ = some (.int .i64 x.l) := hu3.cells.c3; have HU3 := hid hu3; have HK3 := hid (below_fr HK2.out hf3 HG2.out); clear hu3 hf3))
          refine join_r8n (sa := sa) (n := 0) (c := sc) (fun _ _ _ _ _ h => h) ?_
          intro W4 hb4
          have HU4 := hid (HU3.out.below hb4)
          have HK4 := hid (bt HK3.out hb4)
          clear hb4 d3
          have UR4 := hid (UR.out.below HK4.out)
          have HB4 := hid (bt B.out HK4.out)
          go_wp2_with (first
            | (refine wl_ldR rfl rfl rfl HU4.out.cells ?_)
            | (refine wl_oneR (u := x) rfl rfl rfl ?_; intro W5 v5 hu5 ho5 hb5; have HB5 := hid (bt HB4.out hb5); have UR5 := hid (UR4.out.below hb5); have HU5 := hid hu5; obtain ⟨va, vc, hv5, _⟩ := hu5.form; have HV5 := hid hv5; clear hu5 ho5 hb5 hv5)
            | (refine wl_appR rfl _ _ rfl w.heap.size _ [] [x] rfl UR5.out _ rfl HU5.out (by simp) HB5.out.size ?_; intro v6 W6 hu6 hf6 ho6; obtain ⟨va6,vc6,hv6,_⟩ := hu6.us.form; obtain ⟨m6,hm6⟩ : ∃ m,([] ++ [x] : List Un).length = m := ⟨_,rfl⟩; rw [hm6] at hv6; have HM6 := hid hm6; clear hm6; subst hv6; have UR6 := hid hu6; have HB6 := hid ((Fr.of_below HB5.out : Fr (fun k => (Value.slice sa 0 sc).ownBlock = some k) _ _).trans' hf6); clear hu6 hf6 ho6)
            | fail)
          go_roundw
          case rel => exact ⟨k + 1, m6, _, _, hlt, by go_num, rfl, by rw [HJ.out]; exact HM6.out, by rw [HJ.out]; exact UR6.out, HB6.out.below (fun j hj e => Nat.lt_irrefl _ (Nat.lt_of_lt_of_le hj (UR.out.lt j e).1)) (Nat.le_refl _)⟩
          case measure => simp [intOf]; omega
        · rw [List.concat_eq_append] at HM UR HJT HJA
          obtain ⟨q, hq⟩ : ∃ q, ac.length = q := ⟨_, rfl⟩
          have HQ := hid hq
          obtain rfl : m = q + 1 := by have := HM.out; rw [List.length_append] at this; simp at this; omega
          have hml : (ac ++ [y]).length = q + 1 := HM.out
          obtain ⟨g, cap, l, ho1, ho2, ho3, ho4, ho5, ho6, ho7⟩ := UR.out.open (by rw [hml]; omega)
          rw [hml] at ho1 ho4 ho7
          simp only [Value.slice.injEq, true_and] at ho1
          obtain ⟨rfl, rfl⟩ := ho1
          have HR := hid ho3
          have HT := hid ho7
          have HLL := hid ho6
          have HGB := hid ho2
          have HCP := hid ho5
          have HC4 := hid ho4
          have HFY := hid (HJA.out y (by simp))
          have HYC : Hid (Uc wr g (0 + q * 13) y) := hid (Rb.uc ho3 HQ.out ho7)
          have hq5 : q ≤ 100000 := by omega
          clear hq hml ho2 ho3 ho4 ho5 ho6 ho7 HM HJA
          cases hj : joinsB y x
          · have HJ : Hid (J (xs.take (k + 1)) = ac ++ [y] ++ [x]) := hid (by rw [HJT.out, stepJ_add hz hj])
            have HJJ := hid hj
            clear HJT hz hj
            go_upto_region 8 with (first
              | (refine wl_ldR rfl rfl rfl HC.out ?_)
              | (refine wl_alR rfl rfl ?_; intro W2 b2 e2 hub2 hb2; have HV2 := hid hub2; have HK2 := hid hb2; have HG2 := hid (by omega : wr.heap.size ≤ b2); clear e2 hub2 hb2)
              | (refine wl_stR rfl rfl rfl rfl HV2.out ?_; intro W3 hu3 hf3; have d3 : W3.cell? ⟨b2, 3, none⟩ = some (.int .i64 x.l) := hu3.cells.c3; have HU3 := hid hu3; have HK3 := hid (below_fr HK2.out hf3 HG2.out); clear hu3 hf3))
            have HRG := hid (show Rg W3 b2 g q l y x from ⟨HR.out.fr (Fr.of_below HK3.out : Fr (fun _ => False) _ _) (fun h => h), HYC.out.below HK3.out, HU3.out⟩)
            refine join_r8 (p := b2) (g := g) (n := q + 1) (c := sc) (k := q) (l := l) (y := y) (x := x) (b := false) HRG.out (Nat.lt_succ_self _) HFY.out HJJ.out (fun _ _ _ _ _ h => h) ?_
            intro W4 hb4
            have HU4 := hid (HU3.out.below hb4)
            have HK4 := hid (bt HK3.out hb4)
            clear hb4 d3
            have UR4 := hid (UR.out.below HK4.out)
            have HB4 := hid (bt B.out HK4.out)
            go_wp2_with (first
              | (refine wl_ldR rfl rfl rfl HU4.out.cells ?_)
              | (refine wl_oneR (u := x) rfl rfl rfl ?_; intro W5 v5 hu5 ho5 hb5; have HB5 := hid (bt HB4.out hb5); have UR5 := hid (UR4.out.below hb5); have HU5 := hid hu5; obtain ⟨va, vc, hv5, _⟩ := hu5.form; have HV5 := hid hv5; clear hu5 ho5 hb5 hv5)
              | (refine wl_appR rfl _ _ rfl w.heap.size _ (ac ++ [y]) [x] rfl UR5.out _ rfl HU5.out (by have := HQ.out; simp; omega) HB5.out.size ?_; intro v6 W6 hu6 hf6 ho6; obtain ⟨va6,vc6,hv6,_⟩ := hu6.us.form; obtain ⟨m6,hm6⟩ : ∃ m,(ac ++ [y] ++ [x] : List Un).length = m := ⟨_,rfl⟩; rw [hm6] at hv6; have HM6 := hid hm6; clear hm6; subst hv6; have UR6 := hid hu6; have HB6 := hid ((Fr.of_below HB5.out : Fr (fun k => (Value.slice (some ⟨g,0,none⟩) (q + 1) sc).ownBlock = some k) _ _).trans' hf6); clear hu6 hf6 ho6)
              | fail)
            go_roundw
            case rel => exact ⟨k + 1, m6, _, _, hlt, by go_num, rfl, by rw [HJ.out]; exact HM6.out, by rw [HJ.out]; exact UR6.out, HB6.out.below (fun j hj e => Nat.lt_irrefl _ (Nat.lt_of_lt_of_le hj (UR.out.lt j e).1)) (Nat.le_refl _)⟩
            case measure => simp [intOf]; omega
          · have HJ : Hid (J (xs.take (k + 1)) = ac ++ [glueU y x]) := hid (by rw [HJT.out, stepJ_glue hz hj])
            have HJJ := hid hj
            have hyl : y.t.size ≤ 64 := by have a1 := HFY.out.t; have a2 := HFY.out.s; have a3 := HFY.out.f; omega
            have hxl : x.t.size ≤ 64 := by have a1 := HFX.out.t; have a2 := HFX.out.s; have a3 := HFX.out.f; omega
            have HSZ : Hid (y.t.size + x.t.size ≤ 1000000 ∧ -9223372036854775808 ≤ y.l + x.l ∧ y.l + x.l ≤ 9223372036854775807) := hid (by
              have a1 := HFY.out.s
              have a2 := HFY.out.f
              have a3 := HFX.out.s
              have a4 := HFX.out.f
              have a5 := HFX.out.l
              have a6 := HFY.out.l
              omega)
            clear HJT hz hj hyl hxl
            go_upto_region 8 with (first
              | (refine wl_ldR rfl rfl rfl HC.out ?_)
              | (refine wl_alR rfl rfl ?_; intro W2 b2 e2 hub2 hb2; have HV2 := hid hub2; have HK2 := hid hb2; have HG2 := hid (by omega : wr.heap.size ≤ b2); clear e2 hub2 hb2)
              | (refine wl_stR rfl rfl rfl rfl HV2.out ?_; intro W3 hu3 hf3; have d3 : W3.cell? ⟨b2, 3, none⟩ = some (.int .i64 x.l) := hu3.cells.c3; have HU3 := hid hu3; have HK3 := hid (below_fr HK2.out hf3 HG2.out); clear hu3 hf3))
            have HRG := hid (show Rg W3 b2 g q l y x from ⟨HR.out.fr (Fr.of_below HK3.out : Fr (fun _ => False) _ _) (fun h => h), HYC.out.below HK3.out, HU3.out⟩)
            refine join_r8 (p := b2) (g := g) (n := q + 1) (c := sc) (k := q) (l := l) (y := y) (x := x) (b := true) HRG.out (Nat.lt_succ_self _) HFY.out HJJ.out (fun _ _ _ _ _ h => h) ?_
            intro W4 hb4
            have HRG4 := hid (HRG.out.below hb4)
            have HK4 := hid (bt HK3.out hb4)
            have HNE : Hid (b2 ≠ g) := hid (by have := HR.out.lt; have := HG2.out; omega)
            clear hb4 d3
            go_upto_region 9 with fail
            refine join_r9 (p := b2) (g := g) (n := q + 1) (c := sc) (k := q) (l := l) (y := y) (x := x) HRG4.out (Nat.lt_succ_self _) (by rw [HLL.out]; have := HC4.out; omega) HSZ.out.1 HSZ.out.2.1 HSZ.out.2.2 ?_
            intro W5 hr5 hf5
            have HT5 : Hid ((l.set (0 + q * 13 + 12) (.string (y.t ++ x.t))).take ((q + 1) * 13) = (ac ++ [{ y with t := y.t ++ x.t }]).flatMap unc) := hid (set_flat HQ.out HT.out (by decide) rfl)
            have HRG5 := hid (show Rg W5 b2 g q (l.set (0 + q * 13 + 12) (.string (y.t ++ x.t))) { y with t := y.t ++ x.t } x from ⟨hr5, Rb.uc hr5 HQ.out HT5.out, HRG4.out.x.fr hf5 HNE.out⟩)
            have HF5 := hid ((Fr.of_below HK4.out : Fr (fun j => j = g) _ _).trans' hf5)
            clear hr5 hf5
            go_upto_region 10 with fail
            refine join_r10 (p := b2) (g := g) (n := q + 1) (c := sc) (k := q) (l := l.set (0 + q * 13 + 12) (.string (y.t ++ x.t))) (y := { y with t := y.t ++ x.t }) (x := x) HRG5.out (Nat.lt_succ_self _) (by rw [List.length_set,HLL.out]; have := HC4.out; omega) (by have a1 := HFX.out.t; have a2 := HFX.out.s; have a3 := HFX.out.f; have a4 := HFY.out.t; have a5 := HFY.out.s; have a6 := HFY.out.f; show (y.t ++ x.t).size + x.t.size ≤ 1000000; rw [ByteArray.size_append]; omega) HSZ.out.2.1 HSZ.out.2.2 ?_
            intro W6 hr6 hf6
            have HT6 : Hid (((l.set (0 + q * 13 + 12) (.string (y.t ++ x.t))).set (0 + q * 13 + 3) (.int .i64 (y.l + x.l))).take ((q + 1) * 13) = (ac ++ [glueU y x]).flatMap unc) := hid (set_flat HQ.out HT5.out (by decide) rfl)
            have HR6 := hid hr6
            have HF6 := hid ((Fr.of_below B.out : Fr (fun j => j = g) _ _).trans' (HF5.out.trans' hf6))
            have HM6 : Hid ((ac ++ [glueU y x]).length = q + 1) := hid (by rw [List.length_append, HQ.out]; rfl)
            clear hr6 hf6
            go_wp2_with fail
            go_roundw
            case rel => exact ⟨k + 1,q + 1,_,_,hlt,by go_num,rfl,by rw [HJ.out]; exact HM6.out,by rw [HJ.out]; exact Ur.close HGB.out HR6.out HM6.out.symm HC4.out HCP.out (by rw [List.length_set,List.length_set]; exact HLL.out) HT6.out,HF6.out.below (fun j hj e => by have := HGB.out; omega) (Nat.le_refl _)⟩
            case measure => simp [intOf]; omega
    · obtain rfl : k = n := by omega
      have hnl : ¬ (k : Int) < (k : Int) := by omega
      have e : xs.take k = xs := List.take_of_length_le (by rw [HN.out]; exact Nat.le_refl _)
      rw [e] at UR
      go_wp2
      go_ret
      exact ⟨_, rfl, UR.out, B.out⟩

end Go.Proofs.Ytkaphlpohhaacaa

/-
  What slices.Replace does to a row of runs of the call's own, whatever room it has, is proved here.
-/
namespace Go.Proofs.Ytkaphlpohhaacaa
open Go.RowKit
set_option linter.unusedVariables false
set_option linter.unusedSimpArgs false
set_option maxRecDepth 100000

set_option maxHeartbeats 2000000 in
theorem replace_none (B : Nat) (v u : Value) (fs : List Un) (w : World) (h : Ur RU B w v []) (hu : Us w u fs) (hm : 0 < fs.length) (hn : fs.length ≤ 100000) (hB : B ≤ w.heap.size) :
    Calls Try.prog 44 #[v, .int .i64 0, .int .i64 0, u] w fun e w' => RpX B v fs w e w' := by
  have HI := hid (insert_none B v u fs w h hu hm hn hB)
  obtain ⟨a, c, rfl, hc0, hc1⟩ := h.us.form
  obtain ⟨b, d, rfl, hd0, hd1⟩ := hu.form
  clear h hu
  obtain ⟨m, hm'⟩ : ∃ m, fs.length = m := ⟨_, rfl⟩
  rw [hm'] at HI hd0 ⊢
  have HI2 : Hid (Calls Try.prog 50 #[.slice a 0 c, .int .i64 0, .slice b m d] w fun e w' => RpX B (.slice a 0 c) fs w e w') := HI
  clear HI
  change Calls _ _ #[.slice a 0 c, _, _, _] w fun e w' => RpX B (.slice a 0 c) fs w e w'
  go_enter Try.func44, Try.ntmps44
  go_wp2_with fail
  all_goals
    refine HI2.out.mono ?_
    rintro e w2 ⟨v', rfl, h1, h2, h3⟩
    obtain ⟨va, vc, hvv, _⟩ := h1.us.form
    rw [hm'] at hvv
    subst hvv
    have HR : Hid (Ur RU B w2 (.slice va m vc) fs ∧ Fr (fun k => (Value.slice a 0 c).ownBlock = some k) w w2 ∧ ∀ k, (Value.slice va m vc).ownBlock = some k → (Value.slice a 0 c).ownBlock = some k ∨ w.heap.size ≤ k) := hid ⟨h1, h2, h3⟩
    clear h1 h2 h3
    go_wp2_with fail
    go_ret
    exact ⟨_, rfl, HR.out.1, HR.out.2.1, HR.out.2.2⟩

theorem replace_any (B B' : Nat) (v u : Value) (xs fs : List Un) (i j : Nat) (w : World) (h : Ur RU B w v xs) (hu : Ur RU B' w u fs) (hne : ∀ k,v.ownBlock = some k → u.ownBlock ≠ some k) (hij : i < j ∨ (xs = [] ∧ i = 0 ∧ j = 0)) (hjn : j ≤ xs.length) (hm : 0 < fs.length) (hbig : xs.length + fs.length ≤ 100000) (hB : B ≤ w.heap.size) :
    Calls Try.prog 44 #[v, .int .i64 (i : Nat), .int .i64 (j : Nat), u] w fun e w' => RpX B v (xs.take i ++ fs ++ xs.drop j) w e w' := by
  rcases hij with hij | ⟨rfl, rfl, rfl⟩
  · obtain ⟨g, cap, l, rfl, hg, hr, hnc, hcm, hl, ht⟩ := h.open (by omega)
    obtain ⟨h', mc, l2, rfl, _, hr2, hmc, _, _, _⟩ := hu.open hm
    have hgh : g ≠ h' := fun e => hne g rfl (by simp [Value.ownBlock, e])
    have hus := hu.us
    obtain ⟨n, hn⟩ : ∃ n, xs.length = n := ⟨_, rfl⟩
    obtain ⟨m, hm'⟩ : ∃ m, fs.length = m := ⟨_, rfl⟩
    rw [hn] at hnc ht hjn hbig h ⊢
    rw [hm'] at hm hmc hbig hus hu ⊢
    have hti : l.take (i * 13) = (xs.take i).flatMap unc := by
      rw [flat_takeU xs i (by omega), ← ht, List.take_take, Nat.min_eq_left (by omega)]
    have own : ∀ k, (Value.slice (some (⟨g, 0, none⟩ : Addr)) n cap).ownBlock = some k → g = k := fun k e => Option.some.inj e
    have frg : ∀ {w w' : World}, Fr (fun j => j = g) w w' → Fr (fun k => (Value.slice (some (⟨g, 0, none⟩ : Addr)) n cap).ownBlock = some k) w w' := fun hf => hf.mono (fun k e => by subst e; rfl)
    by_cases hje : j = n
    · have hd : xs.drop j = [] := List.drop_eq_nil_of_le (by omega)
      have hlen : (xs.take i ++ fs).length = i + m := by rw [List.length_append, List.length_take, hm']; omega
      rw [hd, List.append_nil]
      by_cases hroom : i + m ≤ cap
      · have fin : ∀ e w', RqX g l (i + m) cap (l.take (i * 13) ++ fs.flatMap unc) w e w' → RpX B (.slice (some ⟨g, 0, none⟩) n cap) (xs.take i ++ fs) w e w' := by
          rintro e w' ⟨l', rfl, h1, h2, h3, h4⟩
          exact ⟨_, rfl, Ur.close hg h1 hlen.symm hroom hcm (by rw [h2]; exact hl) (by rw [h3, hti, List.flatMap_append]), frg h4, fun k hk => .inl hk⟩
        by_cases hlt : i + m < n
        · exact (rep_end1 hr hl hij hjn hnc hus hm' hm hmc hgh (by omega) hje hroom hlt).mono fin
        · exact (rep_end0 hr hl hij hjn hnc hus hm' hm hmc hgh (by omega) hje hroom hlt).mono fin
      · refine (rep_end2 hr hl hij hjn hnc hus hm' hm hmc hgh (by omega) hje (by omega) (h.take hn.symm i (by omega)) (by rw [List.length_take]; omega) hB).mono ?_
        rintro e w' ⟨v', rfl, h1, h2, h3⟩
        exact ⟨v', rfl, h1, frg h2, fun k hk => (h3 k hk).imp (fun e => by rw [e]; rfl) id⟩
    · obtain ⟨d, hd⟩ : ∃ d, n - j = d := ⟨_, rfl⟩
      obtain ⟨tot, htot⟩ : ∃ t, i + m + d = t := ⟨_, rfl⟩
      have hcs : (xs.drop j).flatMap unc = (l.drop (j * 13)).take (d * 13) := by
        rw [flat_dropU xs j (by omega), ← ht, List.drop_take, show n * 13 - j * 13 = d * 13 by omega]
      have h1c := flat_one (xs.drop j)
      have hlen : (xs.take i ++ fs ++ xs.drop j).length = tot := by rw [List.length_append, List.length_append, List.length_take, List.length_drop, hm']; omega
      by_cases hroom : tot ≤ cap
      · have fin : ∀ e w', RqX g l tot cap (l.take (i * 13) ++ fs.flatMap unc ++ (xs.drop j).flatMap unc) w e w' → RpX B (.slice (some ⟨g, 0, none⟩) n cap) (xs.take i ++ fs ++ xs.drop j) w e w' := by
          rintro e w' ⟨l', rfl, h1, h2, h3, h4⟩
          exact ⟨_, rfl, Ur.close hg h1 hlen.symm hroom hcm (by rw [h2]; exact hl) (by rw [h3, hti, List.flatMap_append, List.flatMap_append]), frg h4, fun k hk => .inl hk⟩
        rcases Nat.lt_trichotomy (i + m) j with hlt | heq | hgt
        · exact (rep_shrink1 hr hl hij hjn hnc hus hm' hm hmc hgh (by omega) (by omega) hd htot hcs h1c hroom hlt).mono fin
        · exact (rep_shrink0 hr hl hij hjn hnc hus hm' hm hmc hgh (by omega) (by omega) hd htot hcs h1c hroom heq).mono fin
        · exact (rep_expand hr hl hij hjn hnc hus hm' hm hmc hgh (by omega) (by omega) hd htot hcs h1c hr2 hroom hgt).mono fin
      · refine (rep_grow hr hl hij hjn hnc hus hm' hm hmc hgh (by omega) (by omega) hd htot hcs h1c (by omega)).mono ?_
        rintro e w' ⟨g2, nc, l', rfl, h1, h2, h3, h4, h5, h6, h7⟩
        exact ⟨_, rfl, Ur.close (Nat.le_trans hB h1) h2 hlen.symm h3 h4 h5 (by rw [h6, hti, List.flatMap_append, List.flatMap_append]), Fr.of_below h7, fun k hk => .inr (by have : g2 = k := Option.some.inj hk; omega)⟩
  · have := replace_none B v u fs w h hu.us hm (by simpa using hbig) hB
    simpa using this

end Go.Proofs.Ytkaphlpohhaacaa
