/-
  Parts of the proof, one behind the other; what each proves stands at its head.
-/
import Derived.Test.YtkaphlpohhaacaaPart15

/-
  What change does to a row is proved here.
-/
namespace Go.Proofs.Ytkaphlpohhaacaa
open Go.RowKit
set_option linter.unusedVariables false
set_option linter.unusedSimpArgs false
set_option maxRecDepth 100000

/-- A row: its block, its runs of its own. -/
structure Rw (N : Nat) (w : World) (r : Nat) (v : Value) (xs : List Un) : Prop where
  b : Wb w r v
  u : Ur RU N w v xs
  ne : v.ownBlock ≠ some r
  le : N ≤ w.heap.size
  lo : N ≤ r
theorem Rw.below {N : Nat} {w w' : World} {r : Nat} {v : Value} {xs : List Un} (h : Rw N w r v xs) (hb : Below w.heap.size w w') : Rw N w' r v xs := ⟨h.b.below hb, h.u.below hb, h.ne, Nat.le_trans h.le hb.size, h.lo⟩
/-- What of the world may turn. -/
def Sr (r : Nat) (v : Value) (k : Nat) : Prop := k = r ∨ v.ownBlock = some k
theorem Rw.fr {S : Nat → Prop} {N : Nat} {w w' : World} {r : Nat} {v : Value} {xs : List Un} (h : Rw N w r v xs) (hf : Fr S w w') (h1 : ¬ S r) (h2 : ∀ k, v.ownBlock = some k → ¬ S k) : Rw N w' r v xs := ⟨h.b.fr hf h1, h.u.fr hf h2, h.ne, Nat.le_trans h.le hf.size, h.lo⟩
/-- What a call leaves of a row: its runs are others. -/
def ChX (N : Nat) (r : Nat) (v : Value) (ys : List Un) (w w' : World) : Prop :=
  ∃ v', Rw N w' r v' ys ∧ Fr (Sr r v) w w' ∧ ∀ k, v'.ownBlock = some k → v.ownBlock = some k ∨ w.heap.size ≤ k
def spliceU (xs : List Un) (k e : Nat) (fs : List Un) : List Un :=
  xs.take (k - 1) ++ J (((xs.take k).drop (k - 1)) ++ fs ++ ((xs.take (min (e + 1) xs.length)).drop e)) ++ xs.drop (min (e + 1) xs.length)

section
variable {o : Oper} {a : Act} {W : World} {ops : Array Oper} {rest : List Oper} {Q : Exit → Act → World → Prop} {x y : Operand} {r : Nat}
end

set_option maxHeartbeats 8000000 in
theorem change_any (N r : Nat) (v vf : Value) (xs fs : List Un) (k e : Nat) (w : World) (h : Rw N w r v xs) (hvf : Us w vf fs) (hke : k ≤ e) (hen : e ≤ xs.length) (hf : Fis xs) (hff : Fis fs) (hm : 0 < fs.length) (hb : xs.length + fs.length ≤ 50000) (hJ : 0 < (J (((xs.take k).drop (k - 1)) ++ fs ++ ((xs.take (min (e + 1) xs.length)).drop e))).length) :
    Calls Try.prog 30 #[.pointer (some ⟨r, 0, none⟩), .int .i64 (k : Nat), .int .i64 (e : Nat), vf] w fun en w' => en = .returned (.tuple #[]) ∧ ChX N r v (spliceU xs k e fs) w w' := by
  obtain ⟨A, c, rfl, hc0, hc1⟩ := h.u.us.form
  obtain ⟨fa, fc, rfl, _, _⟩ := hvf.form
  have hA : A = none → c = 0 := by
    rcases h.u.2 with ⟨e1, _⟩ | ⟨g, cap, cur, e1, _⟩
    · simp only [Value.slice.injEq] at e1; intro _; exact e1.2.2
    · simp only [Value.slice.injEq] at e1; intro e2; rw [e2] at e1; cases e1.1
  obtain ⟨n, hn⟩ : ∃ n, xs.length = n := ⟨_, rfl⟩
  obtain ⟨m, hm'⟩ : ∃ m, fs.length = m := ⟨_, rfl⟩
  obtain ⟨z, hz⟩ : ∃ z, min (e + 1) n = z := ⟨_, rfl⟩
  obtain ⟨f, hfk⟩ : ∃ f, k - 1 = f := ⟨_, rfl⟩
  obtain ⟨ar, har⟩ : ∃ ar, ((xs.take k).drop f) ++ fs ++ ((xs.take z).drop e) = ar := ⟨_, rfl⟩
  have hsp : spliceU xs k e fs = xs.take f ++ J ar ++ xs.drop z := by unfold spliceU; rw [hn, hz, hfk, har]
  rw [hsp]
  rw [hn, hz, hfk, har] at hJ
  have hfa : Fis ar := by rw [← har]; exact ((hf.take k).drop f).app hff |>.app ((hf.take z).drop e)
  have hal : ar.length ≤ 100000 := by rw [← har]; simp only [List.length_append, List.length_drop, List.length_take]; omega
  have hjl : (J ar).length ≤ ar.length := by
    have := (J_fis_len hfa ar.length (Nat.le_refl _)).2
    rwa [List.take_length] at this
  have hal2 : ar.length ≤ xs.length + fs.length := by rw [← har]; simp only [List.length_append, List.length_drop, List.length_take]; omega
  have HN := hid hn
  have HM := hid hm'
  have HFA := hid hfa
  have HAR := hid har
  have HRW : Hid (Rw N w r (.slice A n c) xs) := hid (by rw [← hn]; exact h)
  have HVF : Hid (Us w (.slice fa m fc) fs) := hid (by rw [← hm']; exact hvf)
  have hgood : (f < z ∨ (xs = [] ∧ f = 0 ∧ z = 0)) ∧ f ≤ k ∧ e ≤ z ∧ z ≤ n ∧ k ≤ 1000000 ∧ e ≤ 1000000 := by
    refine ⟨?_, by omega, by omega, by omega, by omega, by omega⟩
    by_cases h0 : n = 0
    · exact .inr ⟨List.eq_nil_of_length_eq_zero (by omega), by omega, by omega⟩
    · exact .inl (by omega)
  obtain ⟨hg1, hg2, hg3, hg4, hg5, hg6⟩ := hgood
  have HG1 := hid hg1
  have HB2 : Hid (n + (J ar).length ≤ 100000) := hid (by omega)
  have HJ := hid hJ
  have HAL := hid hal
  have HB := hid hb
  have HMM := hid hm
  have HA := hid hA
  have HC0 := hid hc0
  rw [hn] at hc0
  clear h hvf hf hff hm hb hJ hsp hal hjl hal2 hfa hg1 hA hn hm' har
  change Calls _ _ #[_, _, _, .slice fa _ fc] w fun en w' => en = .returned (.tuple #[]) ∧ ChX N r (.slice A _ c) _ w w'
  rw [HN.out, HM.out]
  have hcn : n ≤ c := hc0
  go_enter Try.func30, Try.ntmps30
  go_upto_region 0 with fail
  refine chg_r0 (r := r) (n := n) (c := c) (k := k) (e := e) (z := z) (f := f) (A := A) HRW.out.b hg5 hg6 hz hfk (fun _ _ _ _ _ h => h) ?_
  intro W1 hb1
  have HW1 := hid (HRW.out.below hb1)
  have HV1 := hid (HVF.out.below hb1)
  have HB1 := hid hb1
  clear hb1
  go_upto_region 1 with fail
  refine chg_r1 (r := r) (n := n) (c := c) (k := k) (e := e) (z := z) (f := f) (A := A) (xs := xs) (fs := fs) (fa := fa) (m := m) (fc := fc) ⟨HW1.out.b,by have := HW1.out.u.us; exact this,HV1.out⟩ HN.out HA.out hcn hg2 hke hg3 hg4 HMM.out (by have := HB.out; have := HN.out; omega) (fun _ _ _ _ _ h => h) ?_
  intro W2 ua hua hb2
  rw [HAR.out] at hua
  have HW2 := hid (HW1.out.below hb2)
  have HU2 := hid hua
  have HB2' := hid (bt HB1.out hb2)
  obtain ⟨aa, ac, rfl, _⟩ := hua.us.form
  obtain ⟨al, hal⟩ : ∃ al, ar.length = al := ⟨_, rfl⟩
  have HAL2 := hid hal
  rw [hal] at HU2 ⊢
  clear hua hb2 hal
  go_upto_region 2 with fail
  refine chg_r2 (N := N) (r := r) (n := n) (c := c) (z := z) (f := f) (al := al) (ac := ac) (A := A) (aa := aa) (xs := xs) (ar := ar) HW2.out.b HW2.out.u HW2.out.ne HW2.out.le HU2.out.us HFA.out HAL.out HG1.out (by have := HN.out; omega) HJ.out (by have := HB2.out; have := HN.out; omega) (fun _ _ _ _ _ h => h) ?_
  intro W6 y1 a5 l5 c5 hw6 hu6 hn6 hf6 ho6
  have HX : Hid (Rw N W6 r (.slice a5 l5 c5) (xs.take f ++ J ar ++ xs.drop z) ∧ Fr (Sr r (.slice A n c)) w W6 ∧ ∀ j, (Value.slice a5 l5 c5).ownBlock = some j → (Value.slice A n c).ownBlock = some j ∨ w.heap.size ≤ j) := hid (by
    have hfr : Fr (Sr r (.slice A n c)) w W6 := (Fr.of_below HB2'.out : Fr (Sr r (.slice A n c)) w W2).trans' hf6
    exact ⟨⟨hw6, hu6, hn6, Nat.le_trans HRW.out.le hfr.size, HRW.out.lo⟩, hfr, fun j hj => (ho6 j hj).imp id (fun h1 => Nat.le_trans HB2'.out.size h1)⟩)
  clear hw6 hu6 hn6 hf6 ho6
  go_wp2_with fail
  go_end0
  refine ⟨rfl, .slice a5 l5 c5, ?_, HX.out.2.1, HX.out.2.2⟩
  first | exact HX.out.1 | (rw [← List.append_assoc]; exact HX.out.1)

end Go.Proofs.Ytkaphlpohhaacaa

/-
  The characters of runs, one by one ('flat'); that J and splice keep them, and leave the fewest runs: as lists alone.
-/
namespace Go.Proofs.Ytkaphlpohhaacaa
open Go.RowKit
set_option linter.unusedVariables false
set_option linter.unusedSimpArgs false
set_option maxRecDepth 100000

/-- A run's k-th character; all of them. -/
def chU (x : Un) (k : Nat) : Un := { x with f := x.f + k, l := 1, t := x.t.extract k (k + 1) }
def chs (x : Un) : List Un := (List.range x.l.toNat).map (chU x)
def flat (xs : List Un) : List Un := xs.flatMap chs
theorem flat_nil : flat [] = [] := rfl
theorem flat_cons (x : Un) (xs : List Un) : flat (x :: xs) = chs x ++ flat xs := by simp [flat]
theorem flat_app (xs ys : List Un) : flat (xs ++ ys) = flat xs ++ flat ys := by simp [flat]
theorem chs_len (x : Un) : (chs x).length = x.l.toNat := by simp [chs]
theorem chs_at {x : Un} {k : Nat} (h : k < (chs x).length) : (chs x)[k] = chU x k := by simp [chs]
theorem flat_len {xs : List Un} (h : Fis xs) : ((flat xs).length : Int) = cntU xs := by
  induction xs with
  | nil => rfl
  | cons x xs ih =>
    rw [flat_cons, List.length_append, chs_len, cntU_cons]
    have := ih (fun y hy => h y (List.mem_cons_of_mem _ hy))
    have := (h x (List.mem_cons_self ..)).l
    omega
theorem cutU_one (x : Un) (k : Nat) : cutU x (x.f + k) (x.f + k + 1) = chU x k := by
  unfold cutU chU
  congr 1
  · omega
  · congr 1 <;> omega
theorem chs_empty {x : Un} (h : x.l = 0) : chs x = [] := by simp [chs, h]
/-- The characters of a part. -/
theorem chs_cutU {x : Un} {i j : Int} (hi : x.f ≤ i) (hij : i ≤ j) (hj : j ≤ x.f + x.l) : chs (cutU x i j) = ((chs x).drop (i - x.f).toNat).take (j - i).toNat := by
  apply List.ext_getElem
  · rw [chs_len, List.length_take, List.length_drop, chs_len]
    show (j - i).toNat = _
    omega
  · intro k h1 h2
    rw [List.getElem_take, List.getElem_drop, chs_at, chs_at]
    rw [chs_len] at h1
    have h1' : k < (j - i).toNat := h1
    unfold chU cutU
    simp only [Un.mk.injEq, and_true, true_and]
    refine ⟨by omega, ?_⟩
    rw [ba_cut_cut _ (by omega)]
    congr 1 <;> omega
theorem chs_split {x : Un} {i : Int} (hi : x.f ≤ i) (hj : i ≤ x.f + x.l) : chs (cutU x x.f i) ++ chs (cutU x i (x.f + x.l)) = chs x := by
  rw [chs_cutU (Int.le_refl _) hi hj, chs_cutU hi hj (Int.le_refl _)]
  have e : (i - x.f).toNat + (x.f + x.l - i).toNat = x.l.toNat := by omega
  rw [Int.sub_self, show (0 : Int).toNat = 0 from rfl, List.drop_zero]
  rw [List.take_of_length_le (l := (chs x).drop _) (by rw [List.length_drop, chs_len]; omega), List.take_append_drop]
theorem cutU_cutU {x : Un} {i j a b : Int} (hi : x.f ≤ i) (ha : i ≤ a) (hab : a ≤ b) (hb : b ≤ j) : cutU (cutU x i j) a b = cutU x a b := by
  unfold cutU
  simp only [Un.mk.injEq, and_true, true_and]
  rw [ba_cut_cut _ (by omega)]
  congr 1 <;> omega

/-- A part of a run; a run. -/
structure G0 (x : Un) : Prop where
  fi : Fi x
  ro : ro x.r x.n = true
  z : x.a = 0 ∧ x.b = 0 ∧ x.c = 0 ∧ x.d = 0 ∧ x.e = 0 ∧ x.h = 0
  m : x.m = true → x.l ≤ 1
structure Gd (x : Un) : Prop where
  g : G0 x
  l : ¬ x.l = 0
theorem Gd.pos {x : Un} (h : Gd x) : 1 ≤ x.l := by have := h.g.fi.l; have := h.l; omega
theorem chs_glue {y x : Un} (hy : G0 y) (hx : G0 x) (hj : joinsB y x = true) : chs (glueU y x) = chs y ++ chs x := by
  obtain ⟨h1, h2, h3, h4, h5, h6⟩ := joinsB_at hj
  have ly := hy.fi.l
  have lx := hx.fi.l
  have ty := hy.fi.t
  have tx := hx.fi.t
  apply List.ext_getElem
  · rw [List.length_append, chs_len, chs_len, chs_len]
    show (y.l + x.l).toNat = _
    omega
  · intro k g1 g2
    rw [chs_at]
    rw [chs_len] at g1
    have g1' : k < (y.l + x.l).toNat := g1
    rw [List.getElem_append]
    obtain ⟨z1, z2, z3, z4, z5, z6⟩ := hy.z
    obtain ⟨u1, u2, u3, u4, u5, u6⟩ := hx.z
    split
    · rename_i hk
      rw [chs_at]
      rw [chs_len] at hk
      unfold chU glueU
      simp only [Un.mk.injEq, and_true, true_and]
      exact ba_app_l _ _ (by omega)
    · rename_i hk
      rw [chs_at]
      rw [chs_len] at hk
      unfold chU glueU
      simp only [Un.mk.injEq, true_and]
      refine ⟨h1, h2, by rw [chs_len]; omega, by rw [z1, u1], by rw [z2, u2], by rw [z3, u3], by rw [z4, u4], by rw [z5, u5], by rw [z6, u6], h4, by rw [h5, h6], ?_⟩
      have e1 : k = y.t.size + (k - y.l.toNat) := by omega
      rw [chs_len]
      conv => lhs; rw [e1, Nat.add_assoc]
      exact ba_app_r _ _
theorem glueU_g0 {y x : Un} (hy : G0 y) (hx : G0 x) (hj : joinsB y x = true) : G0 (glueU y x) :=
  ⟨glueU_fi hy.fi hx.fi hj, hy.ro, hy.z, fun hm => by have := (joinsB_at hj).2.2.2.2.1; have hm' : y.m = true := hm; rw [this] at hm'; cases hm'⟩
theorem stepJ_gd {acc : List Un} {x : Un} (ha : ∀ y ∈ acc, Gd y) (hx : G0 x) : (∀ y ∈ stepJ acc x, Gd y) ∧ flat (stepJ acc x) = flat acc ++ chs x := by
  by_cases h : x.l = 0
  · rw [stepJ_zero h, chs_empty h]; exact ⟨ha, by simp⟩
  · rcases List.eq_nil_or_concat acc with rfl | ⟨ac, y, rfl⟩
    · rw [stepJ_nil h]; exact ⟨fun y hy => by rw [List.mem_singleton.1 hy]; exact ⟨hx, h⟩, by simp [flat]⟩
    · rw [List.concat_eq_append] at ha ⊢
      cases hj : joinsB y x
      · rw [stepJ_add h hj]
        exact ⟨fun z hz => (List.mem_append.1 hz).elim (ha z) (fun hz => by rw [List.mem_singleton.1 hz]; exact ⟨hx, h⟩), by rw [flat_app]; simp [flat]⟩
      · rw [stepJ_glue h hj]
        have hy := ha y (by simp)
        refine ⟨fun z hz => (List.mem_append.1 hz).elim (fun hz => ha z (List.mem_append_left _ hz)) (fun hz => ?_), ?_⟩
        · rw [List.mem_singleton.1 hz]
          exact ⟨glueU_g0 hy.g hx hj, by show ¬ y.l + x.l = 0; have := hy.pos; have := hx.fi.l; omega⟩
        · rw [flat_app, flat_app, flat_cons, flat_cons, chs_glue hy.g hx hj, flat_nil]
          simp
theorem J_gd_go {l : List Un} : ∀ {acc : List Un}, (∀ y ∈ acc, Gd y) → (∀ x ∈ l, G0 x) → (∀ y ∈ l.foldl stepJ acc, Gd y) ∧ flat (l.foldl stepJ acc) = flat acc ++ flat l := by
  induction l with
  | nil => intro acc ha _; exact ⟨ha, by simp [flat_nil]⟩
  | cons x l ih =>
    intro acc ha hl
    obtain ⟨h1, h2⟩ := stepJ_gd ha (hl x (List.mem_cons_self ..))
    obtain ⟨h3, h4⟩ := ih h1 (fun y hy => hl y (List.mem_cons_of_mem _ hy))
    rw [List.foldl_cons]
    exact ⟨h3, by rw [h4, h2, flat_cons, List.append_assoc]⟩
theorem J_gd {l : List Un} (hl : ∀ x ∈ l, G0 x) : (∀ y ∈ J l, Gd y) ∧ flat (J l) = flat l := by
  have := J_gd_go (l := l) (acc := []) (fun y hy => by cases hy) hl
  unfold J
  simpa [flat_nil] using this

/-- No two neighbours could be one. -/
def Few (xs : List Un) : Prop := ∀ i (h : i + 1 < xs.length), joinsB (xs[i]'(by omega)) (xs[i + 1]) = false
theorem Few.nil : Few [] := fun i h => by simp at h
theorem Few.app {xs ys : List Un} (h1 : Few xs) (h2 : Few ys) (h3 : ∀ a as' b bs', xs = as' ++ [a] → ys = b :: bs' → joinsB a b = false) : Few (xs ++ ys) := by
  intro i h
  rw [List.length_append] at h
  by_cases hi : i + 1 < xs.length
  · rw [List.getElem_append_left (by omega), List.getElem_append_left hi]
    exact h1 i hi
  · by_cases hi2 : i + 1 = xs.length
    · rcases List.eq_nil_or_concat xs with rfl | ⟨as', a, hc⟩
      · simp at hi2
      · rw [List.concat_eq_append] at hc
        subst hc
        cases ys with
        | nil => simp at h hi2; omega
        | cons b bs' =>
          have hla : as'.length = i := by rw [List.length_append] at hi2; simpa using hi2.symm
          have e1 : (as' ++ [a] ++ b :: bs')[i]'(by simp; omega) = a := by
            rw [List.getElem_append_left (by simp; omega), List.getElem_append_right (by omega)]
            simp [hla]
          have e2 : (as' ++ [a] ++ b :: bs')[i + 1]'(by simp; omega) = b := by
            rw [List.getElem_append_right (by simp; omega)]
            simp [hla]
          rw [e1, e2]
          exact h3 a as' b bs' rfl rfl
    · rw [List.getElem_append_right (by omega), List.getElem_append_right (by omega)]
      have e : i + 1 - xs.length = (i - xs.length) + 1 := by omega
      have := h2 (i - xs.length) (by omega)
      simp only [e]
      exact this
theorem Few.front {xs ys : List Un} (h : Few (xs ++ ys)) : Few xs := fun i hi => by
  have := h i (by rw [List.length_append]; omega)
  rwa [List.getElem_append_left (by omega), List.getElem_append_left hi] at this
theorem Few.back {xs ys : List Un} (h : Few (xs ++ ys)) : Few ys := fun i hi => by
  have := h (xs.length + i) (by rw [List.length_append]; omega)
  rw [List.getElem_append_right (by omega), List.getElem_append_right (by omega)] at this
  have e1 : xs.length + i - xs.length = i := by omega
  have e2 : xs.length + i + 1 - xs.length = i + 1 := by omega
  simp only [e1, e2] at this
  exact this
theorem Few.mid {xs ys : List Un} {a b : Un} (h : Few (xs ++ [a] ++ b :: ys)) : joinsB a b = false := by
  have := h xs.length (by simp)
  have e1 : (xs ++ [a] ++ b :: ys)[xs.length]'(by simp) = a := by
    rw [List.getElem_append_left (by simp), List.getElem_append_right (by omega)]
    simp
  have e2 : (xs ++ [a] ++ b :: ys)[xs.length + 1]'(by simp) = b := by
    rw [List.getElem_append_right (by simp)]
    simp
  rwa [e1, e2] at this
theorem joinsB_right {a y x : Un} : joinsB a (glueU y x) = joinsB a y := rfl
theorem stepJ_few {acc : List Un} {x : Un} (h : Few acc) : Few (stepJ acc x) := by
  by_cases hx : x.l = 0
  · rw [stepJ_zero hx]; exact h
  · rcases List.eq_nil_or_concat acc with rfl | ⟨ac, y, rfl⟩
    · rw [stepJ_nil hx]; exact fun i h => by simp at h
    · rw [List.concat_eq_append] at h ⊢
      have one : ∀ z : Un, Few [z] := fun z i h => by simp at h
      cases hj : joinsB y x
      · rw [stepJ_add hx hj]
        refine h.app (one x) (fun a as' b bs' e1 e2 => ?_)
        have h1 := (List.append_inj' e1 rfl).2
        simp only [List.cons.injEq, and_true] at h1 e2
        rw [← h1, ← e2.1]
        exact hj
      · rw [stepJ_glue hx hj]
        refine h.front.app (one _) (fun a as' b bs' e1 e2 => ?_)
        simp only [List.cons.injEq] at e2
        rw [← e2.1, joinsB_right]
        subst e1
        exact Few.mid (ys := []) h
theorem J_few_go (l : List Un) : ∀ acc, Few acc → Few (l.foldl stepJ acc) := by
  induction l with
  | nil => intro acc h; exact h
  | cons x l ih => intro acc h; exact ih _ (stepJ_few h)
theorem J_few (l : List Un) : Few (J l) := J_few_go l [] Few.nil

/-- What a run's extension keeps at its head, at its end. -/
structure Hd (y y' : Un) : Prop where
  e : y'.r = y.r ∧ y'.n = y.n ∧ y'.f = y.f ∧ y'.g = y.g ∧ y'.m = y.m
  p : ∃ t, chs y' = chs y ++ t
theorem J_head_go {y : Un} (l : List Un) : ∀ acc, (∀ z ∈ acc, Gd z) → (∀ x ∈ l, G0 x) → (∃ y' acc', acc = y' :: acc' ∧ Hd y y') → ∃ y' acc', l.foldl stepJ acc = y' :: acc' ∧ Hd y y' := by
  induction l with
  | nil => intro acc _ _ h; exact h
  | cons x l ih =>
    intro acc hg hl h
    rw [List.foldl_cons]
    refine ih _ (stepJ_gd hg (hl x (List.mem_cons_self ..))).1 (fun z hz => hl z (List.mem_cons_of_mem _ hz)) ?_
    by_cases hx : x.l = 0
    · rw [stepJ_zero hx]; exact h
    · obtain ⟨y', acc', rfl, h1⟩ := h
      rcases List.eq_nil_or_concat acc' with rfl | ⟨ac, z, rfl⟩
      · cases hj : joinsB y' x
        · have := stepJ_add (acc := []) hx hj
          exact ⟨y', [x], by simpa using this, h1⟩
        · have := stepJ_glue (acc := []) hx hj
          refine ⟨glueU y' x, [], by simpa using this, ⟨h1.e, ?_⟩⟩
          obtain ⟨t, ht⟩ := h1.p
          exact ⟨t ++ chs x, by rw [chs_glue (hg y' (by simp)).g (hl x (List.mem_cons_self ..)) hj, ht, List.append_assoc]⟩
      · rw [List.concat_eq_append]
        have e : y' :: (ac ++ [z]) = (y' :: ac) ++ [z] := rfl
        rw [e]
        cases hj : joinsB z x
        · rw [stepJ_add hx hj]; exact ⟨y', ac ++ [z] ++ [x], by simp, h1⟩
        · rw [stepJ_glue hx hj]; exact ⟨y', ac ++ [glueU z x], by simp, h1⟩
theorem J_head {y : Un} {l : List Un} (hy : Gd y) (hl : ∀ x ∈ l, G0 x) : ∃ y' acc', J (y :: l) = y' :: acc' ∧ Hd y y' := by
  unfold J
  rw [List.foldl_cons, stepJ_nil hy.l]
  exact J_head_go l [y] (fun z hz => by rw [List.mem_singleton.1 hz]; exact hy) hl ⟨y, [], rfl, ⟨⟨rfl, rfl, rfl, rfl, rfl⟩, [], by simp⟩⟩
theorem J_last {y : Un} {l : List Un} (hy : ¬ y.l = 0) : ∃ y' acc', J (l ++ [y]) = acc' ++ [y'] ∧ (y'.r = y.r ∧ y'.n = y.n ∧ y'.f + y'.l = y.f + y.l ∧ y'.g = y.g ∧ y'.m = y.m) := by
  unfold J
  rw [List.foldl_append]
  show ∃ y' acc', stepJ (l.foldl stepJ []) y = _ ∧ _
  rcases List.eq_nil_or_concat (l.foldl stepJ []) with h | ⟨ac, z, h⟩
  · rw [h, stepJ_nil hy]; exact ⟨y, [], rfl, rfl, rfl, rfl, rfl, rfl⟩
  · rw [h, List.concat_eq_append]
    cases hj : joinsB z y
    · rw [stepJ_add hy hj]; exact ⟨y, _, rfl, rfl, rfl, rfl, rfl, rfl⟩
    · rw [stepJ_glue hy hj]
      obtain ⟨h1, h2, h3, h4, h5, h6⟩ := joinsB_at hj
      exact ⟨glueU z y, ac, rfl, h1, h2, by show z.f + (z.l + y.l) = _; omega, h4, by show z.m = _; rw [h5, h6]⟩
theorem joinsB_congr {a a' b b' : Un} (h1 : a'.r = a.r ∧ a'.n = a.n ∧ a'.f + a'.l = a.f + a.l ∧ a'.g = a.g ∧ a'.m = a.m) (h2 : b'.r = b.r ∧ b'.n = b.n ∧ b'.f = b.f ∧ b'.g = b.g ∧ b'.m = b.m) : joinsB a' b' = joinsB a b := by
  obtain ⟨a1, a2, a3, a4, a5⟩ := h1
  obtain ⟨b1, b2, b3, b4, b5⟩ := h2
  unfold joinsB
  rw [a1, a2, a3, a4, a5, b1, b2, b3, b4, b5]

/-- A row's runs are right, and the fewest. -/
structure Good (xs : List Un) : Prop where
  gd : ∀ x ∈ xs, Gd x
  few : Few xs
theorem Good.fis {xs : List Un} (h : Good xs) : Fis xs := fun x hx => (h.gd x hx).g.fi
theorem Good.nil : Good [] := ⟨fun x hx => (by cases hx), Few.nil⟩
theorem ar_pre {xs : List Un} {k : Nat} (hk : k ≤ xs.length) (h0 : 0 < k) : ∃ y, xs.take k = xs.take (k - 1) ++ [y] ∧ (xs.take k).drop (k - 1) = [y] ∧ y ∈ xs := by
  obtain ⟨j, rfl⟩ : ∃ j, k = j + 1 := ⟨k - 1, by omega⟩
  refine ⟨xs[j], ?_, ?_, List.getElem_mem (by omega)⟩
  · rw [Nat.add_sub_cancel, List.take_succ_eq_append_getElem (by omega)]
  · rw [Nat.add_sub_cancel, List.take_succ_eq_append_getElem (by omega), List.drop_append_of_le_length (by rw [List.length_take]; omega), List.drop_eq_nil_of_le (by rw [List.length_take]; omega), List.nil_append]
theorem ar_post {xs : List Un} {e : Nat} (he : e < xs.length) : (xs.take (min (e + 1) xs.length)).drop e = [xs[e]] ∧ xs.drop e = xs[e] :: xs.drop (min (e + 1) xs.length) := by
  rw [Nat.min_eq_left (by omega)]
  refine ⟨?_, List.drop_eq_getElem_cons he⟩
  rw [List.take_succ_eq_append_getElem he, List.drop_append_of_le_length (by rw [List.length_take]; omega), List.drop_eq_nil_of_le (by rw [List.length_take]; omega), List.nil_append]
/-- What splice leaves. -/
theorem splice_good {xs fs : List Un} {k e : Nat} (h : Good xs) (hke : k ≤ e) (hen : e ≤ xs.length) (hf : ∀ x ∈ fs, G0 x) : Good (spliceU xs k e fs) ∧ flat (spliceU xs k e fs) = flat (xs.take k) ++ flat fs ++ flat (xs.drop e) ∧
    (∀ (h0 : 0 < k), ∃ t, flat ((spliceU xs k e fs).take k) = flat (xs.take k) ++ t) ∧ k ≤ (spliceU xs k e fs).length := by
  obtain ⟨ar, har⟩ : ∃ ar, ((xs.take k).drop (k - 1)) ++ fs ++ ((xs.take (min (e + 1) xs.length)).drop e) = ar := ⟨_, rfl⟩
  have hsp : spliceU xs k e fs = xs.take (k - 1) ++ J ar ++ xs.drop (min (e + 1) xs.length) := by unfold spliceU; rw [har]
  have har0 : ∀ x ∈ ar, G0 x := by
    rw [← har]
    intro x hx
    rcases List.mem_append.1 hx with hx | hx
    · rcases List.mem_append.1 hx with hx | hx
      · exact (h.gd x (List.mem_of_mem_take (List.mem_of_mem_drop hx))).g
      · exact hf x hx
    · exact (h.gd x (List.mem_of_mem_take (List.mem_of_mem_drop hx))).g
  obtain ⟨hj1, hj2⟩ := J_gd har0
  have hflat : flat (spliceU xs k e fs) = flat (xs.take k) ++ flat fs ++ flat (xs.drop e) := by
    rw [hsp, flat_app, flat_app, hj2, ← har, flat_app, flat_app]
    have e1 : flat (xs.take (k - 1)) ++ flat ((xs.take k).drop (k - 1)) = flat (xs.take k) := by
      rw [← flat_app]
      congr 1
      have : xs.take (k - 1) = (xs.take k).take (k - 1) := by rw [List.take_take, Nat.min_eq_left (by omega)]
      rw [this, List.take_append_drop]
    have e2 : flat ((xs.take (min (e + 1) xs.length)).drop e) ++ flat (xs.drop (min (e + 1) xs.length)) = flat (xs.drop e) := by
      rw [← flat_app]
      congr 1
      conv => rhs; rw [← List.take_append_drop (min (e + 1) xs.length) xs]
      rw [List.drop_append_of_le_length (by rw [List.length_take]; omega)]
    rw [← e1, ← e2]
    simp only [List.append_assoc]
  have hhead : ∀ (h0 : 0 < k), ∃ y y' acc', xs.take k = xs.take (k - 1) ++ [y] ∧ J ar = y' :: acc' ∧ Hd y y' := by
    intro h0
    obtain ⟨y, p1, p2, p3⟩ := ar_pre (by omega : k ≤ xs.length) h0
    rw [p2] at har
    have : J ar = J (y :: (fs ++ (xs.take (min (e + 1) xs.length)).drop e)) := by rw [← har]; simp
    obtain ⟨y', acc', q1, q2⟩ := J_head (l := fs ++ (xs.take (min (e + 1) xs.length)).drop e) (h.gd y p3) (fun x hx => har0 x (by rw [← har]; simp only [List.cons_append, List.nil_append]; exact List.mem_cons_of_mem _ hx))
    exact ⟨y, y', acc', p1, this.trans q1, q2⟩
  refine ⟨⟨fun x hx => ?_, ?_⟩, hflat, fun h0 => ?_, ?_⟩
  · rw [hsp] at hx
    rcases List.mem_append.1 hx with hx | hx
    · rcases List.mem_append.1 hx with hx | hx
      · exact h.gd x (List.mem_of_mem_take hx)
      · exact hj1 x hx
    · exact h.gd x (List.mem_of_mem_drop hx)
  · rw [hsp]
    have f1 : Few (xs.take (k - 1)) := Few.front (ys := xs.drop (k - 1)) (by rw [List.take_append_drop]; exact h.few)
    have f2 : Few (xs.drop (min (e + 1) xs.length)) := Few.back (xs := xs.take (min (e + 1) xs.length)) (by rw [List.take_append_drop]; exact h.few)
    refine (f1.app (J_few ar) (fun a as' b bs' e1 e2 => ?_)).app f2 (fun a as' b bs' e1 e2 => ?_)
    · have h0 : 0 < k := by
        rcases Nat.eq_zero_or_pos k with h0 | h0
        · subst h0; simp at e1
        · exact h0
      obtain ⟨y, y', acc', p1, p2, p3⟩ := hhead h0
      rw [p2] at e2
      simp only [List.cons.injEq] at e2
      rw [← e2.1, joinsB_congr (a := a) (b := y) ⟨rfl, rfl, rfl, rfl, rfl⟩ p3.e]
      have hx : Few (as' ++ [a] ++ y :: xs.drop k) := by
        have e9 : as' ++ [a] ++ y :: xs.drop k = xs := by
          rw [← e1]
          have : xs.take (k - 1) ++ y :: xs.drop k = (xs.take (k - 1) ++ [y]) ++ xs.drop k := by simp
          rw [this, ← p1, List.take_append_drop]
        rw [e9]; exact h.few
      exact hx.mid
    · by_cases he : e < xs.length
      · obtain ⟨p1, p2⟩ := ar_post he
        rw [p1] at har
        obtain ⟨y', acc', q1, q2⟩ := J_last (y := xs[e]) (l := (xs.take k).drop (k - 1) ++ fs) (h.gd _ (List.getElem_mem he)).l
        rw [har] at q1
        rw [q1, ← List.append_assoc] at e1
        have := (List.append_inj' e1 rfl).2
        simp only [List.cons.injEq, and_true] at this
        rw [← this, joinsB_congr (a := xs[e]) (b := b) q2 ⟨rfl, rfl, rfl, rfl, rfl⟩]
        rw [e2] at p2
        have hx : Few (xs.take e ++ [xs[e]] ++ b :: bs') := by
          have : xs.take e ++ [xs[e]] ++ b :: bs' = xs := by
            have e8 : xs.take e ++ [xs[e]] ++ b :: bs' = xs.take e ++ (xs[e] :: b :: bs') := List.append_assoc _ _ _
            exact e8.trans ((congrArg (xs.take e ++ ·) p2.symm).trans (List.take_append_drop e xs))
          rw [this]; exact h.few
        exact hx.mid
      · rw [List.drop_eq_nil_of_le (by omega)] at e2
        cases e2
  · obtain ⟨y, y', acc', p1, p2, p3⟩ := hhead h0
    obtain ⟨t, ht⟩ := p3.p
    have hl : (xs.take (k - 1)).length = k - 1 := by rw [List.length_take]; omega
    have e1 : (spliceU xs k e fs).take k = xs.take (k - 1) ++ [y'] := by
      rw [hsp, p2, List.append_assoc, List.take_append, hl, List.take_of_length_le (by omega), show k - (k - 1) = 1 by omega]
      simp
    exact ⟨t, by rw [e1, p1, flat_app, flat_app, flat_cons, flat_cons, ht]; simp [flat_nil]⟩
  · rcases Nat.eq_zero_or_pos k with h0 | h0
    · omega
    · obtain ⟨y, y', acc', p1, p2, p3⟩ := hhead h0
      rw [hsp, p2]
      simp only [List.length_append, List.length_take, List.length_cons]
      omega

end Go.Proofs.Ytkaphlpohhaacaa

/-
  What Cut does to the characters of a row, run by run, as lists alone.
-/
namespace Go.Proofs.Ytkaphlpohhaacaa
open Go.RowKit
set_option linter.unusedVariables false
set_option linter.unusedSimpArgs false
set_option maxRecDepth 100000

/-- Is a character among those that are cut; a character behind the cut; how many weren't gone. -/
def hitC (cr cn cf ct : Int) (x : Un) : Bool := sameI x.r x.n cr cn && (decide (cf ≤ x.f) && decide (x.f < ct))
def cutC (cr cn cf ct : Int) (x : Un) : Un := if hitC cr cn cf ct x = true then { x with g := true } else x
def cntC (cr cn cf ct : Int) (l : List Un) : Int := (l.countP fun x => hitC cr cn cf ct x && !x.g : Nat)
section
variable {cr cn cf ct : Int}
theorem cntC_app (a b : List Un) : cntC cr cn cf ct (a ++ b) = cntC cr cn cf ct a + cntC cr cn cf ct b := by unfold cntC; rw [List.countP_append]; omega
theorem hitC_ch {x : Un} {k : Nat} : hitC cr cn cf ct (chU x k) = (sameI x.r x.n cr cn && (decide (cf ≤ x.f + k) && decide (x.f + k < ct))) := rfl
theorem mem_chs {x y : Un} (h : y ∈ chs x) : ∃ k : Nat, (k : Int) < x.l ∧ y = chU x k := by
  unfold chs at h
  obtain ⟨k, hk, rfl⟩ := List.mem_map.1 h
  rw [List.mem_range] at hk
  exact ⟨k, by omega, rfl⟩
/-- What Cut's loop keeps. -/
structure CutI (cr cn cf ct : Int) (T : List Un) (j : Nat) (g : Int) (ys : List Un) : Prop where
  good : Good ys
  m : (flat ys).map (cutC cr cn cf ct) = T.map (cutC cr cn cf ct)
  n : cntC cr cn cf ct (flat ys) + g = cntC cr cn cf ct T
  d : ∀ x ∈ flat (ys.drop j), hitC cr cn cf ct x = true → x.g = true
  le : j ≤ ys.length
theorem cutC_done {l : List Un} (h : ∀ x ∈ l, hitC cr cn cf ct x = true → x.g = true) : l.map (cutC cr cn cf ct) = l ∧ cntC cr cn cf ct l = 0 := by
  constructor
  · conv => rhs; rw [← List.map_id l]
    refine List.map_congr_left (fun x hx => ?_)
    unfold cutC
    split
    · rename_i hh
      have := h x hx hh
      cases x
      simp at this
      simp [this]
    · rfl
  · unfold cntC
    have : l.countP (fun x => hitC cr cn cf ct x && !x.g) = 0 := by
      rw [List.countP_eq_zero]
      intro x hx
      simp
      exact fun hh => h x hx hh
    omega
theorem good_len {ys : List Un} (h : Good ys) : ys.length ≤ (flat ys).length := by
  have : ∀ l : List Un, (∀ x ∈ l, Gd x) → l.length ≤ (flat l).length := by
    intro l
    induction l with
    | nil => intro _; simp
    | cons x l ih =>
      intro hl
      rw [flat_cons, List.length_append, chs_len, List.length_cons]
      have h1 := (hl x (List.mem_cons_self ..)).pos
      have h2 := ih (fun y hy => hl y (List.mem_cons_of_mem _ hy))
      omega
  exact this ys h.gd
theorem cut_start {T xs : List Un} (h : Good xs) (hT : flat xs = T) : CutI cr cn cf ct T xs.length 0 xs :=
  ⟨h, by rw [hT], by rw [hT]; omega, fun x hx => (by rw [List.drop_length] at hx; cases hx), Nat.le_refl _⟩
theorem cut_end {T ys : List Un} {g : Int} (h : CutI cr cn cf ct T 0 g ys) : flat ys = T.map (cutC cr cn cf ct) ∧ g = cntC cr cn cf ct T := by
  obtain ⟨h1, h2⟩ := cutC_done (l := flat ys) h.d
  have hm := h.m
  have hn := h.n
  rw [h1] at hm
  rw [h2] at hn
  exact ⟨hm, by omega⟩
theorem cut_skip {T ys : List Un} {g : Int} {i : Nat} (hi : i < ys.length) (h : CutI cr cn cf ct T (i + 1) g ys) (hs : (ys[i]).g = true ∨ meetsB (ys[i]) cr cn cf ct = false) : CutI cr cn cf ct T i g ys := by
  refine ⟨h.good, h.m, h.n, fun x hx hh => ?_, by omega⟩
  rw [List.drop_eq_getElem_cons hi, flat_cons] at hx
  rcases List.mem_append.1 hx with hx | hx
  · obtain ⟨k, hk, rfl⟩ := mem_chs hx
    rcases hs with hs | hs
    · exact hs
    · rw [hitC_ch] at hh
      unfold meetsB at hs
      simp at hh hs
      have := hs hh.1
      omega
  · exact h.d x hx hh
theorem cut_cut {T ys : List Un} {g : Int} {i : Nat} {x : Un} (hi : i < ys.length) (hx : ys[i] = x) (h : CutI cr cn cf ct T (i + 1) g ys) (hg : x.g = false) (hm : meetsB x cr cn cf ct = true) :
    CutI cr cn cf ct T i (g + (min (x.f + x.l) ct - max x.f cf)) (spliceU ys i (i + 1) [cutU x x.f (max x.f cf), { cutU x (max x.f cf) (min (x.f + x.l) ct) with g := true }, cutU x (min (x.f + x.l) ct) (x.f + x.l)]) := by
  have hgx : Gd x := by rw [← hx]; exact h.good.gd _ (List.getElem_mem hi)
  have hfi := hgx.g.fi
  have h0 := hfi.f
  have h1 := hfi.l
  obtain ⟨a, ha⟩ : ∃ a, max x.f cf = a := ⟨_, rfl⟩
  obtain ⟨b, hb⟩ : ∃ b, min (x.f + x.l) ct = b := ⟨_, rfl⟩
  rw [ha, hb]
  have hsame : sameI x.r x.n cr cn = true := by unfold meetsB at hm; simp at hm; exact hm.1
  have hab : a < b := by unfold meetsB at hm; rw [ha, hb] at hm; simp at hm; exact hm.2
  have ha0 : x.f ≤ a := by omega
  have ha1 : cf ≤ a := by omega
  have hb0 : b ≤ x.f + x.l := by omega
  have hb1 : b ≤ ct := by omega
  have hml : x.m = true → x.l ≤ 1 := hgx.g.m
  have hps : ∀ y ∈ [cutU x x.f a, { cutU x a b with g := true }, cutU x b (x.f + x.l)], G0 y := by
    intro y hy
    simp only [List.mem_cons, List.not_mem_nil, or_false] at hy
    rcases hy with rfl | rfl | rfl
    · exact ⟨cutU_fi hfi (Int.le_refl _) ha0 (by omega), hgx.g.ro, hgx.g.z, fun hm2 => by have := hml hm2; show a - x.f ≤ 1; omega⟩
    · have := cutU_fi hfi ha0 (Int.le_of_lt hab) hb0
      exact ⟨⟨this.f, this.l, this.s, this.t⟩, hgx.g.ro, hgx.g.z, fun hm2 => by have := hml hm2; show b - a ≤ 1; omega⟩
    · exact ⟨cutU_fi hfi (by omega) hb0 (Int.le_refl _), hgx.g.ro, hgx.g.z, fun hm2 => by have := hml hm2; show x.f + x.l - b ≤ 1; omega⟩
  obtain ⟨s1, s2, s3, s4⟩ := splice_good (k := i) (e := i + 1) h.good (Nat.le_succ _) hi hps
  obtain ⟨zs, hzs⟩ : ∃ zs, spliceU ys i (i + 1) [cutU x x.f a, { cutU x a b with g := true }, cutU x b (x.f + x.l)] = zs := ⟨_, rfl⟩
  rw [hzs] at s1 s2 s3 s4 ⊢
  have hflat : flat ys = flat (ys.take i) ++ chs x ++ flat (ys.drop (i + 1)) := by
    conv => lhs; rw [← List.take_append_drop i ys, List.drop_eq_getElem_cons hi, hx]
    rw [flat_app, flat_cons, List.append_assoc]
  have hp3 : chs x = chs (cutU x x.f a) ++ (chs (cutU x a b) ++ chs (cutU x b (x.f + x.l))) := by
    have e1 := chs_split (x := x) (i := a) ha0 (by omega)
    have e2 : chs (cutU x a (x.f + x.l)) = chs (cutU x a b) ++ chs (cutU x b (x.f + x.l)) := by
      have := chs_split (x := cutU x a (x.f + x.l)) (i := b) (by show a ≤ b; omega) (by show b ≤ a + (x.f + x.l - a); omega)
      rw [← this]
      congr 1
      · have : (cutU x a (x.f + x.l)).f = a := rfl
        rw [this, cutU_cutU ha0 (Int.le_refl _) (Int.le_of_lt hab) hb0]
      · have : (cutU x a (x.f + x.l)).f + (cutU x a (x.f + x.l)).l = x.f + x.l := by show a + (x.f + x.l - a) = _; omega
        rw [this, cutU_cutU ha0 (Int.le_of_lt hab) hb0 (Int.le_refl _)]
    rw [← e1, e2]
  obtain ⟨A, hA⟩ : ∃ A, chs (cutU x x.f a) = A := ⟨_, rfl⟩
  obtain ⟨B, hB⟩ : ∃ B, chs (cutU x a b) = B := ⟨_, rfl⟩
  obtain ⟨C, hC⟩ : ∃ C, chs (cutU x b (x.f + x.l)) = C := ⟨_, rfl⟩
  have hB' : chs { cutU x a b with g := true } = B.map (cutC cr cn cf ct) := by
    rw [← hB]
    unfold chs
    rw [List.map_map]
    refine List.map_congr_left (fun k hk => ?_)
    rw [List.mem_range] at hk
    have hk' : (k : Int) < b - a := by have : k < (b - a).toNat := hk; omega
    have hh : hitC cr cn cf ct (chU (cutU x a b) k) = true := by
      rw [hitC_ch]
      show (sameI x.r x.n cr cn && (decide (cf ≤ a + k) && decide (a + k < ct))) = true
      rw [hsame]
      simp
      omega
    show _ = cutC cr cn cf ct (chU (cutU x a b) k)
    unfold cutC
    rw [if_pos hh]
    rfl
  have hAd : ∀ y ∈ A, hitC cr cn cf ct y = true → y.g = true := by
    intro y hy hh
    rw [← hA] at hy
    obtain ⟨k, hk, rfl⟩ := mem_chs hy
    rw [hitC_ch] at hh
    have hk' : (k : Int) < a - x.f := hk
    simp at hh
    have h2 : cf ≤ x.f + k := hh.2.1
    omega
  have hCd : ∀ y ∈ C, hitC cr cn cf ct y = true → y.g = true := by
    intro y hy hh
    rw [← hC] at hy
    obtain ⟨k, hk, rfl⟩ := mem_chs hy
    rw [hitC_ch] at hh
    have hk' : (k : Int) < x.f + x.l - b := hk
    simp at hh
    have h2 : b + k < ct := hh.2.2
    omega
  have hBd : ∀ y ∈ B.map (cutC cr cn cf ct), hitC cr cn cf ct y = true → y.g = true := by
    intro y hy _
    rw [← hB'] at hy
    obtain ⟨k, hk, rfl⟩ := mem_chs hy
    rfl
  have hBn : cntC cr cn cf ct B = b - a := by
    unfold cntC
    have e : B.countP (fun x => hitC cr cn cf ct x && !x.g) = B.length := by
      rw [List.countP_eq_length]
      intro y hy
      rw [← hB] at hy
      obtain ⟨k, hk, rfl⟩ := mem_chs hy
      have hk' : (k : Int) < b - a := hk
      have hh : hitC cr cn cf ct (chU (cutU x a b) k) = true := by
        rw [hitC_ch]
        show (sameI x.r x.n cr cn && (decide (cf ≤ a + k) && decide (a + k < ct))) = true
        rw [hsame]
        simp
        omega
      rw [hh]
      show (true && !x.g) = true
      rw [hg]
      rfl
    rw [e, ← hB, chs_len]
    show (((b - a).toNat : Nat) : Int) = b - a
    omega
  have hmm : (B.map (cutC cr cn cf ct)).map (cutC cr cn cf ct) = B.map (cutC cr cn cf ct) := (cutC_done hBd).1
  have hf3 : flat [cutU x x.f a, { cutU x a b with g := true }, cutU x b (x.f + x.l)] = A ++ (B.map (cutC cr cn cf ct) ++ C) := by
    rw [flat_cons, flat_cons, flat_cons, flat_nil, hA, hB', hC, List.append_nil]
  rw [hf3] at s2
  rw [hA, hB, hC] at hp3
  rw [hp3] at hflat
  have hm1 := h.m
  have hn1 := h.n
  rw [hflat] at hm1 hn1
  refine ⟨s1, ?_, ?_, ?_, s4⟩
  · rw [s2, ← hm1]
    simp only [List.map_append, hmm]
  · rw [s2, ← hn1]
    simp only [cntC_app, (cutC_done hBd).2, hBn]
    omega
  · have hall : ∀ y ∈ A ++ (B.map (cutC cr cn cf ct) ++ C) ++ flat (ys.drop (i + 1)), hitC cr cn cf ct y = true → y.g = true := by
      intro y hy
      rcases List.mem_append.1 hy with hy | hy
      · rcases List.mem_append.1 hy with hy | hy
        · exact hAd y hy
        · rcases List.mem_append.1 hy with hy | hy
          · exact hBd y hy
          · exact hCd y hy
      · exact h.d y hy
    rcases Nat.eq_zero_or_pos i with h9 | h9
    · subst h9
      rw [List.drop_zero, s2]
      simpa [flat_nil] using hall
    · obtain ⟨t, ht⟩ := s3 h9
      have e1 : flat zs = flat (ys.take i) ++ (t ++ flat (zs.drop i)) := by
        conv => lhs; rw [← List.take_append_drop i zs]
        rw [flat_app, ht, List.append_assoc]
      rw [s2, List.append_assoc] at e1
      have e2 := List.append_cancel_left e1
      intro y hy
      exact hall y (by rw [e2]; exact List.mem_append_right _ hy)
end

end Go.Proofs.Ytkaphlpohhaacaa

/-
  There is one row of fewest runs of given characters: J of these.
-/
namespace Go.Proofs.Ytkaphlpohhaacaa
open Go.RowKit
set_option linter.unusedVariables false
set_option linter.unusedSimpArgs false
set_option maxRecDepth 100000

theorem cutU_whole {x : Un} (h : Fi x) : cutU x x.f (x.f + x.l) = x := by
  have ht := h.t
  have hl := h.l
  have e : x.t.extract 0 x.t.size = x.t := ba_whole _
  unfold cutU
  cases x
  simp only [Un.mk.injEq, true_and, and_true] at *
  refine ⟨by omega, ?_⟩
  rw [Int.sub_self]
  rename_i t
  have e2 : ∀ n : Nat, n = t.size → t.extract (0 : Int).toNat n = t := fun n hn => by subst hn; exact e
  exact e2 _ (by omega)
theorem joins_ch0 {y x : Un} : joinsB y (chU x 0) = joinsB y x := by
  unfold joinsB chU
  simp
theorem fold_run {x : Un} (h : Gd x) (acc : List Un) (hj : ∀ y as', acc = as' ++ [y] → joinsB y x = false) : ∀ k : Nat, (k : Int) + 1 ≤ x.l → ((chs x).take (k + 1)).foldl stepJ acc = acc ++ [cutU x x.f (x.f + k + 1)] := by
  intro k
  induction k with
  | zero =>
    intro hk
    have h1 : (chs x).take 1 = [chU x 0] := by
      have hl : 0 < (chs x).length := by rw [chs_len]; omega
      rw [List.take_one, List.head?_eq_getElem?, List.getElem?_eq_getElem hl, chs_at]
      rfl
    rw [h1]
    have e1 : cutU x x.f (x.f + (0 : Nat) + 1) = chU x 0 := by
      have := cutU_one x 0
      simpa using this
    rw [e1]
    show stepJ acc (chU x 0) = _
    have hne : ¬ (chU x 0).l = 0 := by show ¬ (1 : Int) = 0; decide
    rcases List.eq_nil_or_concat acc with rfl | ⟨ac, y, hc⟩
    · rw [stepJ_nil hne]; rfl
    · rw [List.concat_eq_append] at hc
      subst hc
      rw [stepJ_add hne (by rw [joins_ch0]; exact hj y ac rfl)]
  | succ k ih =>
    intro hk
    have hk' : ((k : Nat) : Int) + 1 + 1 ≤ x.l := by omega
    have hl : k + 1 < (chs x).length := by rw [chs_len]; omega
    rw [List.take_succ_eq_append_getElem hl, chs_at, List.foldl_append, ih (by omega), List.foldl_cons, List.foldl_nil]
    have hm : x.m = false := by
      cases hm : x.m
      · rfl
      · have := h.g.m hm; omega
    have hne : ¬ (chU x (k + 1)).l = 0 := by show ¬ (1 : Int) = 0; decide
    have hjj : joinsB (cutU x x.f (x.f + k + 1)) (chU x (k + 1)) = true := by
      unfold joinsB sameI cutU chU
      simp [hm]
      omega
    rw [stepJ_glue hne hjj]
    congr 2
    unfold glueU cutU chU
    simp only [Un.mk.injEq, true_and, and_true]
    refine ⟨by omega, ?_⟩
    have e1 : (x.f - x.f).toNat = 0 := by omega
    have e2 : (x.f + (k : Int) + 1 - x.f).toNat = k + 1 := by omega
    have e3 : (x.f + ((k + 1 : Nat) : Int) + 1 - x.f).toNat = k + 1 + 1 := by omega
    rw [e1, e2, e3]
    exact ba_cut_app _ (Nat.zero_le _) (by omega)
theorem fold_flat {xs : List Un} : ∀ {acc : List Un}, (∀ x ∈ xs, Gd x) → Few (acc ++ xs) → (flat xs).foldl stepJ acc = acc ++ xs := by
  induction xs with
  | nil => intro acc _ _; simp [flat_nil]
  | cons x xs ih =>
    intro acc hg hf
    have hx := hg x (List.mem_cons_self ..)
    have hp := hx.pos
    have h1 := fold_run hx acc (fun y as' hc => by subst hc; exact Few.mid hf) (x.l.toNat - 1) (by omega)
    have e1 : x.l.toNat - 1 + 1 = (chs x).length := by rw [chs_len]; omega
    rw [e1, List.take_length, show x.f + ((x.l.toNat - 1 : Nat) : Int) + 1 = x.f + x.l by omega, cutU_whole hx.g.fi] at h1
    rw [flat_cons, List.foldl_append, h1, ih (fun y hy => hg y (List.mem_cons_of_mem _ hy)) (by simpa using hf)]
    simp
theorem J_flat {xs : List Un} (h : Good xs) : J (flat xs) = xs := by
  have := fold_flat (xs := xs) (acc := []) h.gd (by simpa using h.few)
  simpa [J] using this
end Go.Proofs.Ytkaphlpohhaacaa
