/-
  Parts of the proof, one behind the other; what each proves stands at its head.
-/
import Derived.Test.YtkaphlpohhaacaaPart17
import Derived.Test.YtkaphlpohhaacaaPart16

/-
  What New and Put do is proved here, way by way. Printed by genuput2.py.
-/
namespace Go.Proofs.Ytkaphlpohhaacaa
open Go.RowKit
set_option linter.unusedVariables false
set_option linter.unusedSimpArgs false
set_option maxRecDepth 100000

theorem stepJ_grow (acc : List Un) (x : Un) : acc.length ≤ (stepJ acc x).length ∧ (¬ x.l = 0 → 0 < (stepJ acc x).length) := by
  by_cases h : x.l = 0
  · rw [stepJ_zero h]; exact ⟨Nat.le_refl _, fun h2 => absurd h h2⟩
  · rcases List.eq_nil_or_concat acc with rfl | ⟨ac, y, rfl⟩
    · rw [stepJ_nil h]; simp
    · rw [List.concat_eq_append]
      cases hj : joinsB y x
      · rw [stepJ_add h hj]; simp
      · rw [stepJ_glue h hj]; simp
theorem J_pos_go (l : List Un) : ∀ acc : List Un, (0 < acc.length ∨ ∃ x ∈ l, ¬ x.l = 0) → 0 < (l.foldl stepJ acc).length := by
  induction l with
  | nil => intro acc h; exact h.elim id (fun ⟨x, hx, _⟩ => by cases hx)
  | cons y ys ih =>
    intro acc h
    rw [List.foldl_cons]
    refine ih _ ?_
    rcases h with h | ⟨x, hx, hl⟩
    · exact .inl (Nat.lt_of_lt_of_le h (stepJ_grow acc y).1)
    · rcases List.mem_cons.1 hx with rfl | hx
      · exact .inl ((stepJ_grow acc x).2 hl)
      · exact .inr ⟨x, hx, hl⟩
theorem J_pos {l : List Un} {x : Un} (hx : x ∈ l) (hl : ¬ x.l = 0) : 0 < (J l).length := J_pos_go l [] (.inr ⟨x, hx, hl⟩)

theorem rightB_at {z : Un} (h : rightB z = true) : ro z.r z.n = true ∧ 1 ≤ z.l ∧ z.l ≤ 64 ∧ 0 ≤ z.f ∧ z.f + z.l ≤ 64 ∧ (z.t.size : Int) = z.l ∧ (z.m = true → z.l = 1) := by
  unfold rightB at h
  simp at h
  refine ⟨h.1, h.2.1, h.2.2.1, h.2.2.2.1, by omega, h.2.2.2.2.2.1, fun hm => ?_⟩
  rcases h.2.2.2.2.2.2 with h1 | h1
  · rw [hm] at h1; cases h1
  · exact h1
theorem ownU_fi {z : Un} (h : rightB z = true) : Fi (ownU z) := by
  obtain ⟨_, h1, h2, h3, h4, h5, _⟩ := rightB_at h
  exact ⟨h3, by show 0 ≤ z.l; omega, h4, h5⟩

theorem new_any (w : World) : Calls Try.prog 9 #[] w fun e w' => e = .returned (.pointer (some ⟨w.heap.size, 0, none⟩)) ∧ Rw w.heap.size w' w.heap.size (.slice none 0 0) [] ∧ Below w.heap.size w w' := by
  have HB := hid (ba w (.cells #[.slice none 0 0] 57))
  have HW : Hid (Wb (w.alloc (.cells #[.slice none 0 0] 57)) w.heap.size (.slice none 0 0)) := hid (heap_alloc_new w _)
  go_enter Try.func9, Try.ntmps9
  go_wp2
  go_ret
  exact ⟨rfl, ⟨HW.out, Ur.nil _ _ _, by simp [Value.ownBlock], HB.out.size, Nat.le_refl _⟩, HB.out⟩

set_option maxHeartbeats 8000000 in
theorem put_form (N r : Nat) (v : Value) (xs : List Un) (at' : Int) (z : Un) (w : World) (hR : Rw N w r v xs) (hxs : Fis xs) (hb : xs.length ≤ 20000) (hz : rightB z = false) :
    Calls Try.prog 10 #[.pointer (some ⟨r, 0, none⟩), .int .i64 at', unv z] w fun e w' => e = .returned (.int .i64 10) ∧ Below w.heap.size w w' := by
  have HRT : Hid (∀ W, Calls Try.prog 27 #[unv z] W fun e w' => e = .returned (.bool false) ∧ Below W.heap.size W w') := hid (fun W => by have := right_any z W; rw [hz] at this; exact this)
  clear hR hxs hz
  go_enter Try.func10, Try.ntmps10
  go_wp2_with (first
    | (refine wl_boxI (u := z) rfl rfl rfl ?_; intro W1 b1 e1 hub hb1; have HU1 := hid hub; have HB1 := hid hb1; have HE1 := hid e1; clear e1 hub hb1)
    | (refine wl_ldI rfl rfl rfl HU1.out.cells ?_)
    | fail)
  refine (HRT.out _).mono ?_
  rintro e W2 ⟨rfl, b2⟩
  have HU2 := hid (HU1.out.below b2)
  have HB2 := hid (bt HB1.out b2)
  clear b2
  go_wp2_with fail
  go_ret
  exact ⟨rfl, HB2.out⟩

set_option maxHeartbeats 8000000 in
theorem put_low (N r : Nat) (v : Value) (xs : List Un) (at' : Int) (z : Un) (w : World) (hR : Rw N w r v xs) (hxs : Fis xs) (hb : xs.length ≤ 20000) (hz : rightB z = true) (ha : at' < 0) :
    Calls Try.prog 10 #[.pointer (some ⟨r, 0, none⟩), .int .i64 at', unv z] w fun e w' => e = .returned (.int .i64 11) ∧ Below w.heap.size w w' := by
  have HRT : Hid (∀ W, Calls Try.prog 27 #[unv z] W fun e w' => e = .returned (.bool true) ∧ Below W.heap.size W w') := hid (fun W => by have := right_any z W; rw [hz] at this; exact this)
  clear hR hxs hz
  go_enter Try.func10, Try.ntmps10
  go_wp2_with (first
    | (refine wl_boxI (u := z) rfl rfl rfl ?_; intro W1 b1 e1 hub hb1; have HU1 := hid hub; have HB1 := hid hb1; have HE1 := hid e1; clear e1 hub hb1)
    | (refine wl_ldI rfl rfl rfl HU1.out.cells ?_)
    | fail)
  refine (HRT.out _).mono ?_
  rintro e W2 ⟨rfl, b2⟩
  have HU2 := hid (HU1.out.below b2)
  have HB2 := hid (bt HB1.out b2)
  clear b2
  go_wp2_with fail
  go_ret
  exact ⟨rfl, HB2.out⟩

set_option maxHeartbeats 8000000 in
theorem put_high (N r : Nat) (v : Value) (xs : List Un) (at' : Int) (z : Un) (w : World) (hR : Rw N w r v xs) (hxs : Fis xs) (hb : xs.length ≤ 20000) (hz : rightB z = true) (ha : ¬ at' < 0) (hc : cntU xs < at') :
    Calls Try.prog 10 #[.pointer (some ⟨r, 0, none⟩), .int .i64 at', unv z] w fun e w' => e = .returned (.int .i64 11) ∧ Below w.heap.size w w' := by
  have HRT : Hid (∀ W, Calls Try.prog 27 #[unv z] W fun e w' => e = .returned (.bool true) ∧ Below W.heap.size W w') := hid (fun W => by have := right_any z W; rw [hz] at this; exact this)
  have HLE : Hid (∀ W, Below w.heap.size w W → Calls Try.prog 14 #[.pointer (some ⟨r, 0, none⟩)] W fun e w' => e = .returned (.int .i64 (cntU xs)) ∧ Below W.heap.size W w') := hid (fun W hW => len_any r v xs W (hR.b.below hW) (hR.u.us.below hW) hxs (by omega))
  obtain ⟨c, hcc⟩ : ∃ c, cntU xs = c := ⟨_, rfl⟩
  rw [hcc] at HLE hc
  clear hR hxs hz hcc
  go_enter Try.func10, Try.ntmps10
  go_wp2_with (first
    | (refine wl_boxI (u := z) rfl rfl rfl ?_; intro W1 b1 e1 hub hb1; have HU1 := hid hub; have HB1 := hid hb1; have HE1 := hid e1; clear e1 hub hb1)
    | (refine wl_ldI rfl rfl rfl HU1.out.cells ?_)
    | fail)
  refine (HRT.out _).mono ?_
  rintro e W2 ⟨rfl, b2⟩
  have HU2 := hid (HU1.out.below b2)
  have HB2 := hid (bt HB1.out b2)
  clear b2
  go_wp2_with fail
  refine (HLE.out _ HB2.out).mono ?_
  rintro e W3 ⟨rfl, b3⟩
  have HU3 := hid (HU2.out.below b3)
  have HB3 := hid (bt HB2.out b3)
  clear b3
  go_wp2_with fail
  go_ret
  exact ⟨rfl, HB3.out⟩

set_option maxHeartbeats 8000000 in
theorem put_there (N r : Nat) (v : Value) (xs : List Un) (at' : Int) (z : Un) (w : World) (hR : Rw N w r v xs) (hxs : Fis xs) (hb : xs.length ≤ 20000) (hz : rightB z = true) (h0 : 0 ≤ at') (hc : at' ≤ cntU xs) (ht : decide (0 ≤ idxU (fun x => thereB x z) xs) = true) :
    Calls Try.prog 10 #[.pointer (some ⟨r, 0, none⟩), .int .i64 at', unv z] w fun e w' => e = .returned (.int .i64 12) ∧ Below w.heap.size w w' := by
  have HRT : Hid (∀ W, Calls Try.prog 27 #[unv z] W fun e w' => e = .returned (.bool true) ∧ Below W.heap.size W w') := hid (fun W => by have := right_any z W; rw [hz] at this; exact this)
  have HLE : Hid (∀ W, Below w.heap.size w W → Calls Try.prog 14 #[.pointer (some ⟨r, 0, none⟩)] W fun e w' => e = .returned (.int .i64 (cntU xs)) ∧ Below W.heap.size W w') := hid (fun W hW => len_any r v xs W (hR.b.below hW) (hR.u.us.below hW) hxs (by omega))
  obtain ⟨hr0, hr1, hr2, hr3, hr4, hr5, hr6⟩ := rightB_at hz
  have HCT : Hid (∀ W q,Below w.heap.size w W → Ub 36 W q z → Calls Try.prog 28 #[v,.func (.func 25) #[] #[.pointer (some ⟨q,0,none⟩)]] W fun e w' => e = .returned (.bool true) ∧ Below W.heap.size W w') := hid (fun W q hW hq => by have := there_contains q z v xs W (hR.u.us.below hW) hxs (by omega) hr3 (by omega) hr4 hq; rw [ht] at this; exact this)
  obtain ⟨c, hcc⟩ : ∃ c, cntU xs = c := ⟨_, rfl⟩
  rw [hcc] at HLE hc
  have HR := hid hR
  have c0f : ∀ W, Below w.heap.size w W → W.cell? ⟨r, 0, none⟩ = some v := fun W hW => (hR.b.below hW).cell
  obtain ⟨A, cap, hv, hcap0, hcap1⟩ := hR.u.us.form
  obtain ⟨n, hn⟩ : ∃ n, xs.length = n := ⟨_, rfl⟩
  rw [hn] at hv
  have HV := hid hv
  subst hv
  have HCF := hid c0f
  have ha : ¬ at' < 0 := by omega
  clear hR hxs hz hcc c0f hr0 hr1 hr2 hr3 hr4 hr5 hr6 ht
  go_enter Try.func10, Try.ntmps10
  go_wp2_with (first
    | (refine wl_boxI (u := z) rfl rfl rfl ?_; intro W1 b1 e1 hub hb1; have HU1 := hid hub; have HB1 := hid hb1; have HE1 := hid e1; clear e1 hub hb1)
    | (refine wl_ldI rfl rfl rfl HU1.out.cells ?_)
    | fail)
  refine (HRT.out _).mono ?_
  rintro e W2 ⟨rfl, b2⟩
  have HU2 := hid (HU1.out.below b2)
  have HB2 := hid (bt HB1.out b2)
  clear b2
  go_wp2_with fail
  refine (HLE.out _ HB2.out).mono ?_
  rintro e W3 ⟨rfl, b3⟩
  have HU3 := hid (HU2.out.below b3)
  have HB3 := hid (bt HB2.out b3)
  clear b3
  have c0 := HCF.out W3 HB3.out
  go_wp2_with fail
  refine (HCT.out _ _ HB3.out HU3.out).mono ?_
  rintro e W4 ⟨rfl, b4⟩
  have HU4 := hid (HU3.out.below b4)
  have HB4 := hid (bt HB3.out b4)
  clear b4
  clear c0
  go_wp2_with fail
  go_ret
  exact ⟨rfl, HB4.out⟩

set_option maxHeartbeats 8000000 in
theorem put_edge (N r : Nat) (v : Value) (xs : List Un) (at' : Int) (z : Un) (w : World) (hR : Rw N w r v xs) (hxs : Fis xs) (hb : xs.length ≤ 20000) (hz : rightB z = true) (h0 : 0 ≤ at') (hc : at' ≤ cntU xs) (ht : decide (0 ≤ idxU (fun x => thereB x z) xs) = false) (k : Nat) (q : Int) (hs : seekU xs at' = (k,q)) (hk : k ≤ xs.length) (hq : q = 0) :
    Calls Try.prog 10 #[.pointer (some ⟨r, 0, none⟩), .int .i64 at', unv z] w fun e w' => e = .returned (.int .i64 0) ∧ ChX N r v (spliceU xs k k [ownU z]) w w' := by
  have HRT : Hid (∀ W, Calls Try.prog 27 #[unv z] W fun e w' => e = .returned (.bool true) ∧ Below W.heap.size W w') := hid (fun W => by have := right_any z W; rw [hz] at this; exact this)
  have HLE : Hid (∀ W, Below w.heap.size w W → Calls Try.prog 14 #[.pointer (some ⟨r, 0, none⟩)] W fun e w' => e = .returned (.int .i64 (cntU xs)) ∧ Below W.heap.size W w') := hid (fun W hW => len_any r v xs W (hR.b.below hW) (hR.u.us.below hW) hxs (by omega))
  obtain ⟨hr0, hr1, hr2, hr3, hr4, hr5, hr6⟩ := rightB_at hz
  have HCT : Hid (∀ W q,Below w.heap.size w W → Ub 36 W q z → Calls Try.prog 28 #[v,.func (.func 25) #[] #[.pointer (some ⟨q,0,none⟩)]] W fun e w' => e = .returned (.bool false) ∧ Below W.heap.size W w') := hid (fun W q hW hq => by have := there_contains q z v xs W (hR.u.us.below hW) hxs (by omega) hr3 (by omega) hr4 hq; rw [ht] at this; exact this)
  have HSE : Hid (∀ W, Below w.heap.size w W → Calls Try.prog 29 #[.pointer (some ⟨r, 0, none⟩), .int .i64 at'] W fun e w' => e = .returned (.tuple #[.int .i64 (k : Int), .int .i64 q]) ∧ Below W.heap.size W w') := hid (fun W hW => by
    have hc := hxs.cnt
    have := seek_any r v xs at' W (hR.b.below hW) (hR.u.us.below hW) hxs (by omega) h0 (by omega)
    rw [hs] at this
    exact this)
  obtain ⟨c, hcc⟩ : ∃ c, cntU xs = c := ⟨_, rfl⟩
  rw [hcc] at HLE hc
  have hfo : Fis [ownU z] := fun x hx => by rw [List.mem_singleton.1 hx]; exact ownU_fi hz
  have HOW : Hid (∀ W, Calls Try.prog 31 #[unv z] W fun e w' => e = .returned (unv (ownU z)) ∧ Below W.heap.size W w') := hid (fun W => own_any z W (by omega))
  have HCH : Hid (∀ W u,Below w.heap.size w W → Us W u [ownU z] → Calls Try.prog 30 #[.pointer (some ⟨r,0,none⟩),.int .i64 (k : Nat),.int .i64 (k : Nat),u] W fun en w' => en = .returned (.tuple #[]) ∧ ChX N r v (spliceU xs k k [ownU z]) W w') := hid (fun W u hW hu => change_any N r v u xs [ownU z] k k W (hR.below hW) hu (Nat.le_refl _) hk hxs hfo (by simp) (by simp; omega) (J_pos (x := ownU z) (by simp) (show ¬ z.l = 0 by omega)))
  have HR := hid hR
  have c0f : ∀ W, Below w.heap.size w W → W.cell? ⟨r, 0, none⟩ = some v := fun W hW => (hR.b.below hW).cell
  obtain ⟨A, cap, hv, hcap0, hcap1⟩ := hR.u.us.form
  obtain ⟨n, hn⟩ : ∃ n, xs.length = n := ⟨_, rfl⟩
  rw [hn] at hv
  have HV := hid hv
  subst hv
  have HCF := hid c0f
  have ha : ¬ at' < 0 := by omega
  subst hq
  clear hR hxs hz hcc c0f hr0 hr1 hr2 hr3 hr4 hr5 hr6 ht hs hfo
  go_enter Try.func10, Try.ntmps10
  go_wp2_with (first
    | (refine wl_boxI (u := z) rfl rfl rfl ?_; intro W1 b1 e1 hub hb1; have HU1 := hid hub; have HB1 := hid hb1; have HE1 := hid e1; clear e1 hub hb1)
    | (refine wl_ldI rfl rfl rfl HU1.out.cells ?_)
    | fail)
  refine (HRT.out _).mono ?_
  rintro e W2 ⟨rfl, b2⟩
  have HU2 := hid (HU1.out.below b2)
  have HB2 := hid (bt HB1.out b2)
  clear b2
  go_wp2_with fail
  refine (HLE.out _ HB2.out).mono ?_
  rintro e W3 ⟨rfl, b3⟩
  have HU3 := hid (HU2.out.below b3)
  have HB3 := hid (bt HB2.out b3)
  clear b3
  have c0 := HCF.out W3 HB3.out
  go_wp2_with fail
  refine (HCT.out _ _ HB3.out HU3.out).mono ?_
  rintro e W4 ⟨rfl, b4⟩
  have HU4 := hid (HU3.out.below b4)
  have HB4 := hid (bt HB3.out b4)
  clear b4
  clear c0
  go_wp2_with fail
  refine (HSE.out _ HB4.out).mono ?_
  rintro e W5 ⟨rfl, b5⟩
  have HU5 := hid (HU4.out.below b5)
  have HB5 := hid (bt HB4.out b5)
  clear b5
  go_wp2_with (first
    | (refine wl_ldI rfl rfl rfl HU5.out.cells ?_)
    | fail)
  refine (HOW.out _).mono ?_
  rintro e W6 ⟨rfl, b6⟩
  have HU6 := hid (HU5.out.below b6)
  have HB6 := hid (bt HB5.out b6)
  clear b6
  go_wp2_with (first
    | (refine wl_oneR (u := ownU z) rfl rfl rfl ?_; intro W7 v7 hu7 ho7 hb7; have HB7 := hid (bt HB6.out hb7); have HU7 := hid hu7; clear hu7 ho7 hb7)
    | fail)
  refine (HCH.out _ _ HB7.out HU7.out).mono ?_
  rintro e W8 ⟨rfl, hx8⟩
  have HX8 := hid (ChX.below HB7.out hx8)
  clear hx8
  go_wp2_with fail
  go_ret
  exact ⟨rfl, HX8.out⟩

set_option maxHeartbeats 8000000 in
theorem put_mid (N r : Nat) (v : Value) (xs : List Un) (at' : Int) (z : Un) (w : World) (hR : Rw N w r v xs) (hxs : Fis xs) (hb : xs.length ≤ 20000) (hz : rightB z = true) (h0 : 0 ≤ at') (hc : at' ≤ cntU xs) (ht : decide (0 ≤ idxU (fun x => thereB x z) xs) = false) (k : Nat) (q : Int) (hs : seekU xs at' = (k,q)) (hk : k < xs.length) (hq0 : 0 < q) (hq1 : q < (xs[k]).l) :
    Calls Try.prog 10 #[.pointer (some ⟨r, 0, none⟩), .int .i64 at', unv z] w fun e w' => e = .returned (.int .i64 0) ∧ ChX N r v (spliceU xs k (k + 1) [cutU (xs[k]) (xs[k]).f ((xs[k]).f + q), ownU z, cutU (xs[k]) ((xs[k]).f + q) ((xs[k]).f + (xs[k]).l)]) w w' := by
  have HRT : Hid (∀ W, Calls Try.prog 27 #[unv z] W fun e w' => e = .returned (.bool true) ∧ Below W.heap.size W w') := hid (fun W => by have := right_any z W; rw [hz] at this; exact this)
  have HLE : Hid (∀ W, Below w.heap.size w W → Calls Try.prog 14 #[.pointer (some ⟨r, 0, none⟩)] W fun e w' => e = .returned (.int .i64 (cntU xs)) ∧ Below W.heap.size W w') := hid (fun W hW => len_any r v xs W (hR.b.below hW) (hR.u.us.below hW) hxs (by omega))
  obtain ⟨hr0, hr1, hr2, hr3, hr4, hr5, hr6⟩ := rightB_at hz
  have HCT : Hid (∀ W q,Below w.heap.size w W → Ub 36 W q z → Calls Try.prog 28 #[v,.func (.func 25) #[] #[.pointer (some ⟨q,0,none⟩)]] W fun e w' => e = .returned (.bool false) ∧ Below W.heap.size W w') := hid (fun W q hW hq => by have := there_contains q z v xs W (hR.u.us.below hW) hxs (by omega) hr3 (by omega) hr4 hq; rw [ht] at this; exact this)
  have HSE : Hid (∀ W, Below w.heap.size w W → Calls Try.prog 29 #[.pointer (some ⟨r, 0, none⟩), .int .i64 at'] W fun e w' => e = .returned (.tuple #[.int .i64 (k : Int), .int .i64 q]) ∧ Below W.heap.size W w') := hid (fun W hW => by
    have hc := hxs.cnt
    have := seek_any r v xs at' W (hR.b.below hW) (hR.u.us.below hW) hxs (by omega) h0 (by omega)
    rw [hs] at this
    exact this)
  obtain ⟨c, hcc⟩ : ∃ c, cntU xs = c := ⟨_, rfl⟩
  rw [hcc] at HLE hc
  have hfo := ownU_fi hz
  have hfx := hxs (xs[k]) (List.getElem_mem hk)
  obtain ⟨bb, off, cap0, hvv, _, _, hbl, hcell⟩ := hR.u.us.inv (by omega)
  have hC := hcell k hk
  obtain ⟨x, hxx⟩ : ∃ x, xs[k] = x := ⟨_, rfl⟩
  rw [hxx] at hq1 hfx hC ⊢
  have hf0 := hfx.f
  have hl0 := hfx.l
  have hs0 := hfx.s
  have hff : Fis [cutU x x.f (x.f + q), ownU z, cutU x (x.f + q) (x.f + x.l)] := fun y hy => by
    simp only [List.mem_cons, List.not_mem_nil, or_false] at hy
    rcases hy with rfl | rfl | rfl
    · exact cutU_fi hfx (Int.le_refl _) (by omega) (by omega)
    · exact hfo
    · exact cutU_fi hfx (by omega) (by omega) (Int.le_refl _)
  have HJ := hid (J_pos (l := ((xs.take k).drop (k - 1)) ++ [cutU x x.f (x.f + q), ownU z, cutU x (x.f + q) (x.f + x.l)] ++ ((xs.take (min (k + 1 + 1) xs.length)).drop (k + 1))) (x := ownU z) (by simp) (show ¬ z.l = 0 by omega))
  have HFF := hid hff
  have HFX := hid hfx
  have HXS := hid hxs
  have HC := hid hC
  have HZT : Hid (z.t.size ≤ 64) := hid (by omega)
  have HBN := hid hb
  have HBL := hid hbl
  have HKK := hid hk
  have HQQ : Hid (x.f ≤ x.f + q ∧ x.f + q ≤ x.f + x.l) := hid (by omega)
  have hq2 : (q == 0) = false := by simp; omega
  have HR := hid hR
  subst hvv
  obtain ⟨n, hn⟩ : ∃ n, xs.length = n := ⟨_, rfl⟩
  have HCF : Hid (∀ W, Below w.heap.size w W → W.cell? ⟨r, 0, none⟩ = some (.slice (some ⟨bb, off, none⟩) n cap0)) := hid (by rw [← hn]; exact fun W hW => (hR.b.below hW).cell)
  rw [hn] at hk HCT
  have hkn : (k : Int) < (n : Int) := by omega
  have ha : ¬ at' < 0 := by omega
  have hf64 : x.f ≤ 64 := by omega
  have hq64 : q ≤ 64 := by omega
  have HRN : Hid (xs.length = n) := hid hn
  clear hR hxs hz hcc hr0 hr1 hr2 hr3 hr4 hr5 hr6 ht hs hfo hff hfx hcell hC hbl hxx hl0 hs0 hq1 hn hb
  go_enter Try.func10, Try.ntmps10
  go_wp2_with (first
    | (refine wl_boxI (u := z) rfl rfl rfl ?_; intro W1 b1 e1 hub hb1; have HU1 := hid hub; have HB1 := hid hb1; have HE1 := hid e1; clear e1 hub hb1)
    | (refine wl_ldI rfl rfl rfl HU1.out.cells ?_)
    | fail)
  refine (HRT.out _).mono ?_
  rintro e W2 ⟨rfl, b2⟩
  have HU2 := hid (HU1.out.below b2)
  have HB2 := hid (bt HB1.out b2)
  clear b2
  go_wp2_with fail
  refine (HLE.out _ HB2.out).mono ?_
  rintro e W3 ⟨rfl, b3⟩
  have HU3 := hid (HU2.out.below b3)
  have HB3 := hid (bt HB2.out b3)
  clear b3
  have c0 := HCF.out W3 HB3.out
  go_wp2_with fail
  refine (HCT.out _ _ HB3.out HU3.out).mono ?_
  rintro e W4 ⟨rfl, b4⟩
  have HU4 := hid (HU3.out.below b4)
  have HB4 := hid (bt HB3.out b4)
  clear b4
  clear c0
  go_wp2_with fail
  refine (HSE.out _ HB4.out).mono ?_
  rintro e W5 ⟨rfl, b5⟩
  have HU5 := hid (HU4.out.below b5)
  have HB5 := hid (bt HB4.out b5)
  clear b5
  have c0 := HCF.out W5 HB5.out
  have HC5 := hid (HC.out.below HB5.out)
  go_upto_region 14 with (first
    | (refine wl_ldR rfl rfl rfl HC5.out ?_)
    | (refine wl_alR rfl rfl ?_; intro W6 b6 e6 hub6 hb6; have HV6 := hid hub6; have HB6 := hid (bt HB5.out hb6); have HG6 := hid (by have := HB5.out.size; omega : w.heap.size ≤ b6); have HU6 := hid (HU5.out.below hb6); have HNE6 := hid (by have := HU5.out.lt; omega : b1 ≠ b6); clear c0 e6 hub6 hb6)
    | (refine wl_stR rfl rfl rfl rfl HV6.out ?_; intro W7 hu7 hf7; have d2 : W7.cell? ⟨b6, 2, none⟩ = some (.int .i64 x.f) := hu7.cells.c2; have HV7 := hid hu7; have HB7 := hid (below_fr HB6.out hf7 HG6.out); have HU7 := hid (HU6.out.fr hf7 HNE6.out); clear hu7 hf7))
  refine put_r14 (N := N) (r := r) (p := b6) (q := b1) (k := k) (v := .slice (some ⟨bb, off, none⟩) xs.length cap0) (x := x) (z := z) (mid := x.f + q) (xs := xs) ⟨HV7.out, HU7.out⟩ (HR.out.below HB7.out) (by
    have a1 := HR.out.b.lt
    have a2 := HG6.out
    have a3 := HE1.out
    have a4 := HBL.out
    refine ⟨by omega, by omega, fun e => ?_, fun e => ?_⟩
    · have := Option.some.inj e; simp at this; omega
    · have := Option.some.inj e; simp at this; omega) HFX.out HZT.out HQQ.out.1 HQQ.out.2 HKK.out HXS.out HFF.out (by have := HBN.out; omega) HJ.out (fun _ _ _ _ _ h => h) ?_
  intro W8 bs hx8
  have HX8 := hid (ChX.below HB7.out hx8)
  clear hx8
  go_wp2_with fail
  go_ret
  exact ⟨rfl, HX8.out⟩

end Go.Proofs.Ytkaphlpohhaacaa

/-
  What Cut does to a row is proved here.
-/
namespace Go.Proofs.Ytkaphlpohhaacaa
open Go.RowKit
set_option linter.unusedVariables false
set_option linter.unusedSimpArgs false
set_option maxRecDepth 100000

theorem ChX.refl {N r : Nat} {v : Value} {xs : List Un} {w : World} (h : Rw N w r v xs) : ChX N r v xs w w := ⟨v, h, Fr.refl _ _, fun k hk => .inl hk⟩
theorem ChX.next {N r : Nat} {v v' : Value} {zs : List Un} {w w1 w2 : World} (hf : Fr (Sr r v) w w1) (ho : ∀ k, v'.ownBlock = some k → v.ownBlock = some k ∨ w.heap.size ≤ k) (h : ChX N r v' zs w1 w2) : ChX N r v zs w w2 := by
  obtain ⟨v2, h1, h2, h3⟩ := h
  refine ⟨v2, h1, hf.trans h2 (fun k hk hs => ?_), fun k hk => ?_⟩
  · rcases hs with hs | hs
    · exact .inl hs
    · rcases ho k hs with h4 | h4
      · exact .inr h4
      · omega
  · rcases h3 k hk with h4 | h4
    · exact ho k h4
    · exact .inr (Nat.le_trans hf.size h4)

set_option maxHeartbeats 16000000 in
theorem cut_any (N r : Nat) (v : Value) (xs : List Un) (cr cn cf ct : Int) (w : World) (hR : Rw N w r v xs) (hg : Good xs) (hb : (flat xs).length ≤ 20000) :
    Calls Try.prog 12 #[.pointer (some ⟨r, 0, none⟩), cuv cr cn cf ct] w fun e w' => e = .returned (.int .i64 (cntC cr cn cf ct (flat xs))) ∧ ∃ ys, flat ys = (flat xs).map (cutC cr cn cf ct) ∧ Good ys ∧ ChX N r v ys w w' := by
  obtain ⟨T, hT⟩ : ∃ T, flat xs = T := ⟨_, rfl⟩
  rw [hT] at hb ⊢
  have HI0 := hid (cut_start (cr := cr) (cn := cn) (cf := cf) (ct := ct) hg hT)
  have HTL := hid hb
  obtain ⟨A, cap, hv, _, _⟩ := hR.u.us.form
  have hxl : xs.length ≤ 20000 := by have := good_len hg; rw [hT] at this; omega
  obtain ⟨n, hn⟩ : ∃ n, xs.length = n := ⟨_, rfl⟩
  have HR := hid hR
  rw [hn] at hv HI0 hxl
  subst hv
  clear hR hg hT hb hn
  go_enter Try.func12, Try.ntmps12
  go_wp2_with (first
    | (refine wl_boxK (r := cr) (n := cn) (f := cf) (t := ct) rfl rfl rfl ?_; intro W1 b1 e1 hkb hb1; have HK1 := hid hkb; have HB1 := hid hb1; have HR1 := hid (HR.out.below hb1); have c0 := HR1.out.b.cell; have HE1 := hid e1; have HS1 := hid hkb.lt; clear e1 hkb hb1)
    | fail)
  clear c0
  have HNE : Hid (¬ Sr r (.slice A n cap) b1) := hid (fun h => h.elim (fun e => by have := HR.out.b.lt; have := HE1.out; omega) (fun e => by have := (HR.out.u.lt _ e).2; have := HE1.out; omega))
  go_loopw [5, 6] (fun s i wr => ∃ (j : Nat) (z g : Int) (ys : List Un), i = .int .i64 z ∧ z + 1 = j ∧ s = .int .i64 g ∧ -1000000 ≤ g ∧ g ≤ 1000000 ∧ CutI cr cn cf ct T j g ys ∧ ChX N r (.slice A n cap) ys W1 wr) (fun s i _ => (intOf i + 1).toNat)
  case atStart => exact ⟨n, (n : Int) - 1, 0, xs, by go_num, by omega, rfl, by omega, by omega, HI0.out, ChX.refl HR1.out⟩
  case round =>
    obtain ⟨j, z, g, ys, rfl, hz, rfl, hg0, hg1, hI, hX⟩ := hrel
    obtain ⟨v2, hX1, hX2, hX3⟩ := hX
    have HI := hid hI
    have HR2 := hid hX1
    have HF2 := hid hX2
    have HO2 := hid hX3
    clear hI hX1 hX2 hX3
    by_cases hlt : 0 ≤ z
    · obtain ⟨i, rfl⟩ : ∃ i : Nat, z = i := ⟨z.toNat, by omega⟩
      obtain rfl : j = i + 1 := by omega
      have hi : i < ys.length := HI.out.le
      have hyl : ys.length ≤ 20000 := by
        have h1 := good_len HI.out.good
        have h2 := congrArg List.length HI.out.m
        rw [List.length_map, List.length_map] at h2
        have := HTL.out
        omega
      obtain ⟨bb, off, cap2, hvv, _, _, hbl, hcell⟩ := HR2.out.u.us.inv (by omega)
      have hC := hcell i hi
      obtain ⟨x, hxx⟩ : ∃ x, ys[i] = x := ⟨_, rfl⟩
      have hgx : Gd x := by rw [← hxx]; exact HI.out.good.gd _ (List.getElem_mem hi)
      rw [hxx] at hC
      have HC := hid hC
      have HXX := hid hxx
      have HGX := hid hgx
      subst hvv
      obtain ⟨m, hm⟩ : ∃ m, ys.length = m := ⟨_, rfl⟩
      have HCF : Hid (wr.cell? ⟨r, 0, none⟩ = some (.slice (some ⟨bb, off, none⟩) m cap2)) := hid (by rw [← hm]; exact HR2.out.b.cell)
      have HIY := hid hi
      have HYL := hid hyl
      have HBL := hid hbl
      have him : (i : Int) < (m : Int) := by omega
      have hi20 : i ≤ 20000 := by omega
      have HKR : Hid (Kb wr b1 cr cn cf ct) := hid (HK1.out.fr HF2.out HNE.out)
      have HMT : Hid (∀ W, Calls Try.prog 26 #[unv x, idv cr cn, .int .i64 cf, .int .i64 ct] W fun e w' => e = .returned (.bool (meetsB x cr cn cf ct)) ∧ Below W.heap.size W w') := hid (fun W => meets_any x cr cn cf ct W hgx.g.fi)
      have c0 := HCF.out
      have hR3 : Hid (ChX N r (.slice A n cap) ys W1 wr) := hid ⟨_, HR2.out, HF2.out, HO2.out⟩
      have HYL2 := hid hyl
      clear hcell hC hxx hgx hm hyl hbl hlt hz
      cases hxg : x.g
      · have HXG := hid hxg
        clear hxg
        cases hme : meetsB x cr cn cf ct
        · rw [hme] at HMT
          have HI2 := hid (cut_skip HIY.out HI.out (by rw [HXX.out]; exact .inr hme))
          clear hme
          go_wp2_with (first
            | (refine wl_ldR rfl rfl rfl HC.out ?_)
            | (refine wl_ldR rfl rfl rfl HU3.out.cells ?_)
            | (refine wl_alR rfl rfl ?_; intro W2 b2 e2 hub2 hb2; have HV2 := hid hub2; have HB2 := hid hb2; have HG2 := hid (by omega : wr.heap.size ≤ b2); clear c0 e2 hub2 hb2)
            | (refine wl_stR rfl rfl rfl rfl HV2.out ?_; intro W3 hu3 hf3; have d10 : W3.cell? ⟨b2,10,none⟩ = some (.bool x.g) := hu3.cells.c10; rw [HXG.out] at d10; have HU3 := hid hu3; have HB3 := hid (below_fr HB2.out hf3 HG2.out); have k0 := (HKR.out.below HB3.out).cells.c0; have k1 : W3.cell? ⟨b1,1,none⟩ = some (.int .i64 cn) := (HKR.out.below HB3.out).cells.c1; have k2 : W3.cell? ⟨b1,2,none⟩ = some (.int .i64 cf) := (HKR.out.below HB3.out).cells.c2; have k3 : W3.cell? ⟨b1,3,none⟩ = some (.int .i64 ct) := (HKR.out.below HB3.out).cells.c3; clear hu3 hf3)
            | fail)
          refine (HMT.out _).mono ?_
          rintro e W4 ⟨rfl, b4⟩
          have HX4 : Hid (ChX N r (.slice A n cap) ys W1 W4) := hid (by
            refine ChX.next HF2.out HO2.out ?_
            exact ChX.below (bt HB3.out b4) (ChX.refl ((HR2.out.below HB3.out).below b4)))
          clear b4 k0 k1 k2 k3 d10
          go_wp2_with fail
          go_roundw
          case rel => exact ⟨i, (i : Int) - 1, g, ys, by go_num, by omega, rfl, hg0, hg1, HI2.out, HX4.out⟩
          case measure => simp [intOf]
        · rw [hme] at HMT
          obtain ⟨a, ha⟩ : ∃ a, max x.f cf = a := ⟨_, rfl⟩
          obtain ⟨b, hb⟩ : ∃ b, min (x.f + x.l) ct = b := ⟨_, rfl⟩
          have hI2 := cut_cut HIY.out HXX.out HI.out HXG.out hme
          rw [ha, hb] at hI2
          have HI2 := hid hI2
          have hfx := HGX.out.g.fi
          have hf0 := hfx.f
          have hl0 := hfx.l
          have hs0 := hfx.s
          have hab : a < b := by unfold meetsB at hme; rw [ha, hb] at hme; simp at hme; exact hme.2
          have ha0 : x.f ≤ a := by omega
          have hb0 : b ≤ x.f + x.l := by omega
          have hbd : 0 ≤ b - a ∧ b - a ≤ 64 := by omega
          have HFX := hid hfx
          have HAB : Hid (x.f ≤ a ∧ a ≤ x.f + x.l ∧ x.f ≤ b ∧ b ≤ x.f + x.l) := hid (by omega)
          have HAA := hid ha
          have HBB := hid hb
          have HPA : Hid (∀ W, Calls Try.prog 32 #[unv x, .int .i64 a, .int .i64 b] W fun e w' => e = .returned (unv (cutU x a b)) ∧ Below W.heap.size W w') := hid (fun W => part_any x a b W hfx ha0 (Int.le_of_lt hab) hb0)
          have hq := cutU_fi hfx ha0 (Int.le_of_lt hab) hb0
          have hff : Fis [cutU x x.f a, { cutU x a b with g := true }, cutU x b (x.f + x.l)] := fun y hy => by
            simp only [List.mem_cons, List.not_mem_nil, or_false] at hy
            rcases hy with rfl | rfl | rfl
            · exact cutU_fi hfx (Int.le_refl _) ha0 (by omega)
            · exact ⟨hq.f, hq.l, hq.s, hq.t⟩
            · exact cutU_fi hfx (by omega) hb0 (Int.le_refl _)
          have HFF := hid hff
          have HJ := hid (J_pos (l := ((ys.take i).drop (i - 1)) ++ [cutU x x.f a, { cutU x a b with g := true }, cutU x b (x.f + x.l)] ++ ((ys.take (min (i + 1 + 1) ys.length)).drop (i + 1))) (x := { cutU x a b with g := true }) (by simp) (show ¬ b - a = 0 by omega))
          have HGB : Hid (-1000000 ≤ g + (b - a) ∧ g + (b - a) ≤ 1000000) := hid (by
            have h1 := HI2.out.n
            have h2 : 0 ≤ cntC cr cn cf ct (flat (spliceU ys i (i + 1) [cutU x x.f a, { cutU x a b with g := true }, cutU x b (x.f + x.l)])) := by unfold cntC; omega
            have h3 : cntC cr cn cf ct T ≤ 20000 := by have := HTL.out; unfold cntC; have := List.countP_le_length (p := fun x => hitC cr cn cf ct x && !x.g) (l := T); omega
            omega)
          have hbd0 := hbd.1
          have hbd1 := hbd.2
          obtain ⟨y, hy⟩ : ∃ y, cutU x a b = y := ⟨_, rfl⟩
          have hyl : y.l = b - a := by rw [← hy]; rfl
          rw [hy] at HI2 HPA HFF HJ
          have HYL := hid hyl
          clear hfx hf0 hl0 hs0 hab ha0 hb0 ha hb hme hq hff hI2 hbd hy hyl
          go_wp2_with (first
            | (refine wl_ldR rfl rfl rfl HC.out ?_)
            | (refine wl_ldR rfl rfl rfl HU3.out.cells ?_)
            | (refine wl_alR rfl rfl ?_; intro W2 b2 e2 hub2 hb2; have HV2 := hid hub2; have HB2 := hid hb2; have HG2 := hid (by omega : wr.heap.size ≤ b2); clear c0 e2 hub2 hb2)
            | (refine wl_stR rfl rfl rfl rfl HV2.out ?_; intro W3 hu3 hf3; have d10 : W3.cell? ⟨b2,10,none⟩ = some (.bool x.g) := hu3.cells.c10; rw [HXG.out] at d10; have HU3 := hid hu3; have HB3 := hid (below_fr HB2.out hf3 HG2.out); have k0 := (HKR.out.below HB3.out).cells.c0; have k1 : W3.cell? ⟨b1,1,none⟩ = some (.int .i64 cn) := (HKR.out.below HB3.out).cells.c1; have k2 : W3.cell? ⟨b1,2,none⟩ = some (.int .i64 cf) := (HKR.out.below HB3.out).cells.c2; have k3 : W3.cell? ⟨b1,3,none⟩ = some (.int .i64 ct) := (HKR.out.below HB3.out).cells.c3; clear hu3 hf3)
            | fail)
          refine (HMT.out _).mono ?_
          rintro e W4 ⟨rfl, b4⟩
          have HU4 := hid (HU3.out.below b4)
          have HB4 := hid (bt HB3.out b4)
          clear b4 k0 k1 k2 k3 d10
          go_upto_region 7 with fail
          refine cut_r7 (p := b2) (q := b1) (x := x) (cr := cr) (cn := cn) (cf := cf) (ct := ct) (a := a) (b := b) ⟨HU4.out, HKR.out.below HB4.out⟩ HFX.out HAA.out HBB.out (fun _ _ _ _ _ h => h) ?_
          intro W5 hb5
          have HU5 := hid (HU4.out.below hb5)
          have HB5 := hid (bt HB4.out hb5)
          clear hb5
          go_wp2_with (first
            | (refine wl_ldR rfl rfl rfl HU5.out.cells ?_)
            | fail)
          refine (HPA.out _).mono ?_
          rintro e W6 ⟨rfl, b6⟩
          have HU6 := hid (HU5.out.below b6)
          have HB6 := hid (bt HB5.out b6)
          clear b6
          go_upto_region 11 with (first
            | (refine wl_alR rfl rfl ?_; intro W7 b7 e7 hub7 hb7; have HV7 := hid hub7; have HB7 := hid (bt HB6.out hb7); have HG7 := hid (by have := HB6.out.size; omega : wr.heap.size ≤ b7); have HU7 := hid (HU6.out.below hb7); have HNE7 := hid (by have := HU6.out.lt; omega : b2 ≠ b7); clear e7 hub7 hb7)
            | (refine wl_stR rfl rfl rfl rfl HV7.out ?_; intro W8 hu8 hf8; have HV8 := hid hu8; have HF8 := hid hf8; clear hu8 hf8)
            | (refine wl_st_gone rfl rfl rfl rfl HV8.out ?_; intro W9 hu9 hf9; have d3 : W9.cell? ⟨b7, 3, none⟩ = some (.int .i64 (b - a)) := by rw [← HYL.out]; exact hu9.cells.c3
               have HV9 := hid hu9
               have HF9 := hid (HF8.out.trans' hf9)
               have HB9 := hid (below_fr HB7.out HF9.out HG7.out)
               have HU9 := hid (HU7.out.fr HF9.out HNE7.out)
               clear hu9 hf9))
          refine cut_r11 (N := N) (r := r) (p := b2) (q := b7) (k := i) (v := .slice (some ⟨bb, off, none⟩) ys.length cap2) (x := x) (y := { y with g := true }) (i := a) (j := b) (xs := ys) ⟨HU9.out, HV9.out⟩ (HR2.out.below HB9.out) (by
            have a1 := HR2.out.b.lt
            have a2 := HG2.out
            have a3 := HG7.out
            have a4 := HBL.out
            refine ⟨by omega, by omega, fun e => ?_, fun e => ?_⟩
            · have := Option.some.inj e; simp at this; omega
            · have := Option.some.inj e; simp at this; omega) HFX.out ⟨HAB.out.1, HAB.out.2.1⟩ ⟨HAB.out.2.2.1, HAB.out.2.2.2⟩ HIY.out HI.out.good.fis HFF.out (by have := HYL2.out; omega) HJ.out (fun _ _ _ _ _ h => h) ?_
          intro W10 bs hx10
          have HX10 : Hid (ChX N r (.slice A n cap) (spliceU ys i (i + 1) [cutU x x.f a, { y with g := true }, cutU x b (x.f + x.l)]) W1 W10) := hid (ChX.next HF2.out HO2.out (ChX.below HB9.out hx10))
          clear hx10 d3
          go_wp2_with fail
          go_roundw
          case rel => exact ⟨i, (i : Int) - 1, g + (b - a), _, by go_num, by omega, rfl, HGB.out.1, HGB.out.2, HI2.out, HX10.out⟩
          case measure => simp [intOf]
      · have HXG := hid hxg
        have HI2 := hid (cut_skip HIY.out HI.out (by rw [HXX.out]; exact .inl hxg))
        clear hxg
        go_upto_region 6 with (first
          | (refine wl_ldR rfl rfl rfl HC.out ?_)
          | (refine wl_alR rfl rfl ?_; intro W2 b2 e2 hub2 hb2; have HV2 := hid hub2; have HB2 := hid hb2; have HG2 := hid (by omega : wr.heap.size ≤ b2); clear c0 e2 hub2 hb2)
          | (refine wl_stR rfl rfl rfl rfl HV2.out ?_; intro W3 hu3 hf3; have d10 : W3.cell? ⟨b2, 10, none⟩ = some (.bool x.g) := hu3.cells.c10; rw [HXG.out] at d10; have HU3 := hid hu3; have HB3 := hid (below_fr HB2.out hf3 HG2.out); clear hu3 hf3))
        go_wp2_with fail
        have HX4 : Hid (ChX N r (.slice A n cap) ys W1 W3) := hid (by
          refine ChX.next HF2.out HO2.out ?_
          exact ChX.below HB3.out (ChX.refl (HR2.out.below HB3.out)))
        go_roundw
        case rel => exact ⟨i, (i : Int) - 1, g, ys, by go_num, by omega, rfl, hg0, hg1, HI2.out, HX4.out⟩
        case measure => simp [intOf]
    · obtain rfl : j = 0 := by omega
      have HE := hid (cut_end HI.out)
      have HX4 : Hid (ChX N r (.slice A n cap) ys w wr) := hid (ChX.below HB1.out ⟨_, HR2.out, HF2.out, HO2.out⟩)
      have HGD := hid HI.out.good
      go_wp2_with fail
      go_ret
      exact ⟨by rw [HE.out.2]; rfl, ys, HE.out.1, HGD.out, HX4.out⟩

end Go.Proofs.Ytkaphlpohhaacaa

/-
  What Put and Cut do to the characters of a row, whatever is asked ('putC'); what a row of calls leaves.
-/
namespace Go.Proofs.Ytkaphlpohhaacaa
open Go.RowKit
set_option linter.unusedVariables false
set_option linter.unusedSimpArgs false
set_option maxRecDepth 100000

/-- Is any of the item's names among the characters? -/
def hasC (T : List Un) (z : Un) : Bool := T.any fun x => sameI x.r x.n z.r z.n && (decide (z.f ≤ x.f) && decide (x.f < z.f + z.l))
def putE (T : List Un) (p : Int) (z : Un) : Int :=
  if rightB z = false then 10 else if p < 0 ∨ (T.length : Int) < p then 11 else if hasC T z = true then 12 else 0
def putC (T : List Un) (p : Int) (z : Un) : List Un := if putE T p z = 0 then T.take p.toNat ++ (chs (ownU z) ++ T.drop p.toNat) else T
theorem there_has {xs : List Un} {z : Un} (hg : ∀ x ∈ xs, Gd x) (hl : 1 ≤ z.l) : decide (0 ≤ idxU (fun x => thereB x z) xs) = hasC (flat xs) z := by
  rw [Bool.eq_iff_iff, decide_eq_true_eq]
  unfold hasC
  rw [List.any_eq_true]
  constructor
  · intro h
    obtain ⟨k, hk, _, h2, _⟩ := idxU_pos h
    have hx := hg _ (List.getElem_mem hk)
    obtain ⟨x, hxx⟩ : ∃ x, xs[k] = x := ⟨_, rfl⟩
    rw [hxx] at h2 hx
    unfold thereB meetsB at h2
    simp at h2
    obtain ⟨h3, h4⟩ := h2
    have hp := hx.pos
    refine ⟨chU x (max x.f z.f - x.f).toNat, ?_, ?_⟩
    · unfold flat
      rw [List.mem_flatMap]
      refine ⟨x, by rw [← hxx]; exact List.getElem_mem hk, ?_⟩
      unfold chs
      rw [List.mem_map]
      exact ⟨_, by rw [List.mem_range]; omega, rfl⟩
    · show (sameI x.r x.n z.r z.n && (decide (z.f ≤ x.f + _) && decide (x.f + _ < z.f + z.l))) = true
      rw [h3]
      simp
      omega
  · rintro ⟨y, hy, hh⟩
    rcases Int.lt_or_le (idxU (fun x => thereB x z) xs) 0 with h | h
    · unfold flat at hy
      rw [List.mem_flatMap] at hy
      obtain ⟨x, hx, hy⟩ := hy
      obtain ⟨k, hk, rfl⟩ := mem_chs hy
      have := idxU_neg h x hx
      unfold thereB meetsB at this
      have hh' : (sameI x.r x.n z.r z.n && (decide (z.f ≤ x.f + k) && decide (x.f + k < z.f + z.l))) = true := hh
      simp at hh' this
      have := this hh'.1
      omega
    · exact h
theorem ownU_g0 {z : Un} (h : rightB z = true) : G0 (ownU z) := by
  obtain ⟨h0, h1, h2, h3, h4, h5, h6⟩ := rightB_at h
  exact ⟨ownU_fi h, h0, ⟨rfl, rfl, rfl, rfl, rfl, rfl⟩, fun hm => by have := h6 hm; show z.l ≤ 1; omega⟩
/-- What a call answers, and leaves. -/
def PcX (N r : Nat) (v : Value) (c : Int) (T : List Un) (w : World) (e : Ending) (w' : World) : Prop :=
  e = .returned (.int .i64 c) ∧ ∃ ys, flat ys = T ∧ Good ys ∧ ChX N r v ys w w'
theorem put_any (N r : Nat) (v : Value) (xs : List Un) (p : Int) (z : Un) (w : World) (hR : Rw N w r v xs) (hg : Good xs) (hb : (flat xs).length ≤ 20000) :
    Calls Try.prog 10 #[.pointer (some ⟨r, 0, none⟩), .int .i64 p, unv z] w fun e w' => PcX N r v (putE (flat xs) p z) (putC (flat xs) p z) w e w' := by
  have hxl : xs.length ≤ 20000 := by have := good_len hg; omega
  have hfl := flat_len hg.fis
  have same : ∀ c, ¬ c = 0 → putE (flat xs) p z = c → ∀ e w', (e = Ending.returned (.int .i64 c) ∧ Below w.heap.size w w') → PcX N r v (putE (flat xs) p z) (putC (flat xs) p z) w e w' := by
    rintro c hc he e w' ⟨rfl, hw⟩
    have : putC (flat xs) p z = flat xs := by unfold putC; rw [he, if_neg hc]
    rw [this, he]
    exact ⟨rfl, xs, rfl, hg, ChX.below hw (ChX.refl (hR.below hw))⟩
  cases hz : rightB z
  · have he : putE (flat xs) p z = 10 := by unfold putE; rw [if_pos hz]
    exact (put_form N r v xs p z w hR hg.fis hxl hz).mono (fun e w' h => same 10 (by decide) he e w' h)
  · by_cases h0 : p < 0
    · have he : putE (flat xs) p z = 11 := by unfold putE; rw [if_neg (by simp [hz]), if_pos (.inl h0)]
      exact (put_low N r v xs p z w hR hg.fis hxl hz h0).mono (fun e w' h => same 11 (by decide) he e w' h)
    · by_cases h1 : cntU xs < p
      · have he : putE (flat xs) p z = 11 := by unfold putE; rw [if_neg (by simp [hz]), if_pos (.inr (by omega))]
        exact (put_high N r v xs p z w hR hg.fis hxl hz h0 h1).mono (fun e w' h => same 11 (by decide) he e w' h)
      · obtain ⟨_, hr1, _⟩ := rightB_at hz
        have hth := there_has (z := z) hg.gd hr1
        cases hh : hasC (flat xs) z
        · have he : putE (flat xs) p z = 0 := by unfold putE; rw [if_neg (by simp [hz]), if_neg (by omega), if_neg (by simp [hh])]
          have hpc : putC (flat xs) p z = (flat xs).take p.toNat ++ (chs (ownU z) ++ (flat xs).drop p.toNat) := by unfold putC; rw [if_pos he]
          rw [hh] at hth
          rw [he, hpc]
          obtain ⟨s1, s2⟩ := seekU_at hg.fis (p := p) (by omega)
          have hown := ownU_g0 hz
          by_cases hlt : p < cntU xs
          · obtain ⟨k, q, hk, hs, hq0, hq1, hq2⟩ := s1 hlt
            have htk := flat_len (hg.fis.take k)
            by_cases hq : q = 0
            · have hT : flat (xs.take k) = (flat xs).take p.toNat ∧ flat (xs.drop k) = (flat xs).drop p.toNat := by
                have e : flat xs = flat (xs.take k) ++ flat (xs.drop k) := by rw [← flat_app, List.take_append_drop]
                have hl : (flat (xs.take k)).length = p.toNat := by omega
                rw [e, ← hl, List.take_left, List.drop_left]
                exact ⟨rfl, rfl⟩
              obtain ⟨g1, g2, _, _⟩ := splice_good (k := k) (e := k) (fs := [ownU z]) hg (Nat.le_refl _) (by omega) (fun x hx => by rw [List.mem_singleton.1 hx]; exact hown)
              refine (put_edge N r v xs p z w hR hg.fis hxl hz (by omega) (by omega) hth k q hs (by omega) hq).mono ?_
              rintro e w' ⟨rfl, hx⟩
              exact ⟨rfl, _, by rw [g2, hT.1, hT.2, flat_cons, flat_nil]; simp, g1, hx⟩
            · have hgx := hg.gd _ (List.getElem_mem hk)
              obtain ⟨x, hxx⟩ : ∃ x, xs[k] = x := ⟨_, rfl⟩
              have hput := put_mid N r v xs p z w hR hg.fis hxl hz (by omega) (by omega) hth k q hs hk (by omega) hq1
              rw [hxx] at hgx hq1 hput
              have hfi := hgx.g.fi
              have hps : ∀ y ∈ [cutU x x.f (x.f + q), ownU z, cutU x (x.f + q) (x.f + x.l)], G0 y := by
                intro y hy
                simp only [List.mem_cons, List.not_mem_nil, or_false] at hy
                rcases hy with rfl | rfl | rfl
                · exact ⟨cutU_fi hfi (Int.le_refl _) (by omega) (by omega), hgx.g.ro, hgx.g.z, fun hm => by have := hgx.g.m hm; omega⟩
                · exact hown
                · exact ⟨cutU_fi hfi (by omega) (by omega) (Int.le_refl _), hgx.g.ro, hgx.g.z, fun hm => by have := hgx.g.m hm; omega⟩
              obtain ⟨g1, g2, _, _⟩ := splice_good (k := k) (e := k + 1) hg (Nat.le_succ _) hk hps
              have hT : flat (xs.take k) ++ chs (cutU x x.f (x.f + q)) = (flat xs).take p.toNat ∧ chs (cutU x (x.f + q) (x.f + x.l)) ++ flat (xs.drop (k + 1)) = (flat xs).drop p.toNat := by
                have e : flat xs = (flat (xs.take k) ++ chs (cutU x x.f (x.f + q))) ++ (chs (cutU x (x.f + q) (x.f + x.l)) ++ flat (xs.drop (k + 1))) := by
                  conv => lhs; rw [← List.take_append_drop k xs, List.drop_eq_getElem_cons hk, hxx]
                  rw [flat_app, flat_cons, ← chs_split (x := x) (i := x.f + q) (by omega) (by omega)]
                  simp only [List.append_assoc]
                have hl : (flat (xs.take k) ++ chs (cutU x x.f (x.f + q))).length = p.toNat := by
                  rw [List.length_append, chs_len]
                  have : (cutU x x.f (x.f + q)).l = q := by show x.f + q - x.f = q; omega
                  rw [this]
                  omega
                rw [e, ← hl, List.take_left, List.drop_left]
                exact ⟨rfl, rfl⟩
              refine hput.mono ?_
              rintro e w' ⟨rfl, hx⟩
              refine ⟨rfl, _, ?_, g1, hx⟩
              rw [g2, ← hT.1, ← hT.2, flat_cons, flat_cons, flat_cons, flat_nil]
              simp
          · have hs := s2 (by omega)
            have hT : (flat xs).take p.toNat = flat xs ∧ (flat xs).drop p.toNat = [] := ⟨List.take_of_length_le (by omega), List.drop_eq_nil_of_le (by omega)⟩
            obtain ⟨g1, g2, _, _⟩ := splice_good (k := xs.length) (e := xs.length) (fs := [ownU z]) hg (Nat.le_refl _) (Nat.le_refl _) (fun x hx => by rw [List.mem_singleton.1 hx]; exact hown)
            refine (put_edge N r v xs p z w hR hg.fis hxl hz (by omega) (by omega) hth xs.length 0 hs (Nat.le_refl _) rfl).mono ?_
            rintro e w' ⟨rfl, hx⟩
            exact ⟨rfl, _, by rw [g2, hT.1, hT.2, flat_cons, flat_nil, List.take_length, List.drop_length, flat_nil]; simp, g1, hx⟩
        · have he : putE (flat xs) p z = 12 := by unfold putE; rw [if_neg (by simp [hz]), if_neg (by omega), if_pos hh]
          rw [hh] at hth
          exact (put_there N r v xs p z w hR hg.fis hxl hz (by omega) (by omega) hth).mono (fun e w' h => same 12 (by decide) he e w' h)
theorem cutc_any (N r : Nat) (v : Value) (xs : List Un) (cr cn cf ct : Int) (w : World) (hR : Rw N w r v xs) (hg : Good xs) (hb : (flat xs).length ≤ 20000) :
    Calls Try.prog 12 #[.pointer (some ⟨r, 0, none⟩), cuv cr cn cf ct] w fun e w' => PcX N r v (cntC cr cn cf ct (flat xs)) ((flat xs).map (cutC cr cn cf ct)) w e w' :=
  (cut_any N r v xs cr cn cf ct w hR hg hb).mono (fun e w' ⟨h1, ys, h2, h3, h4⟩ => ⟨h1, ys, h2, h3, h4⟩)

end Go.Proofs.Ytkaphlpohhaacaa

/-
  What the laws' item and alive answer is proved here: alive answers true.
-/
namespace Go.Proofs.Ytkaphlpohhaacaa
open Go.RowKit
set_option linter.unusedVariables false
set_option linter.unusedSimpArgs false
set_option maxRecDepth 100000

section
variable {o : Oper} {a : Act} {W : World} {ops : Array Oper} {rest : List Oper} {Q : Exit → Act → World → Prop} {w0 w1 w2 w3 : Operand}
theorem wl_buildI4 {r n f l : Int} {t : ByteArray} (hgd : o.guard = none) (ho : o.op = .build 36 #[(0, w0), (1, w1), (2, w2), (7, w3)]) (h0 : a.eval w0 = idv r n) (h1 : a.eval w1 = .int .i64 f) (h2 : a.eval w2 = .int .i64 l) (h3 : a.eval w3 = .string t)
    (hk : wpList Try.prog ops Q rest (a.put o.dst (unv ⟨r, n, f, l, 0, 0, 0, 0, 0, 0, false, false, t⟩)) W) : wpList Try.prog ops Q (o :: rest) a W := by
  have e : (Array.map (fun (i, x) => (i, a.eval x)) #[(0, w0), (1, w1), (2, w2), (7, w3)]).toList = [(0, idv r n), (1, .int .i64 f), (2, .int .i64 l), (7, .string t)] := by simp [h0, h1, h2, h3]
  refine wpList_build hgd 36 #[(0, w0), (1, w1), (2, w2), (7, w3)] ho ?_ ?_
  · rw [e, builtI4]; rfl
  · rw [e, builtI4]; exact hk
end
theorem item_any (r n f : Int) (t : ByteArray) (w : World) : Calls Try.prog 24 #[.int .i64 r, .int .i64 n, .int .i64 f, .string t] w fun e w' => e = .returned (unv ⟨r, n, f, (t.size : Int), 0, 0, 0, 0, 0, 0, false, false, t⟩) ∧ Below w.heap.size w w' := by
  go_enter Try.func24, Try.ntmps24
  go_wp2_with (first
    | (refine wl_alI rfl rfl ?_; intro W2 b2 e2 hub2 hb2; have HV2 := hid hub2; have HB2 := hid hb2; have HG2 := hid (by omega : w.heap.size ≤ b2); clear e2 hub2 hb2)
    | (refine wl_buildI4 rfl rfl rfl rfl rfl rfl ?_)
    | (refine wl_stI rfl rfl rfl rfl HV2.out ?_; intro W6 hu6 hf6; have HU6 := hid hu6; have HF6 := hid hf6; clear hu6 hf6)
    | fail)
  refine bodyPost_ret (resI rfl _ _ rfl HU6.out) rfl ?_
  exact ⟨rfl, below_fr HB2.out HF6.out HG2.out⟩

/-- A row that a law has made: what was there at N or below is as it was. -/
def Lr (N r : Nat) (T : List Un) (w w' : World) : Prop := ∃ v ys, Rw N w' r v ys ∧ Good ys ∧ flat ys = T ∧ Below N w w'
theorem Lr.below {N r : Nat} {T : List Un} {w w1 w2 : World} (h : Lr N r T w w1) (hb : Below w1.heap.size w1 w2) : Lr N r T w w2 := by
  obtain ⟨v, ys, h1, h2, h3, h4⟩ := h
  exact ⟨v, ys, h1.below hb, h2, h3, h4.trans (hb.mono h1.le)⟩
theorem Lr.step {N r : Nat} {v : Value} {T : List Un} {w w1 w2 : World} {ys0 ys : List Un} (hr : Rw N w1 r v ys0) (hb : Below N w w1) (hf : flat ys = T) (hg : Good ys) (hx : ChX N r v ys w1 w2) : Lr N r T w w2 := by
  obtain ⟨v', h1, h2, _⟩ := hx
  exact ⟨v', ys, h1, hg, hf, hb.trans (h2.below (fun k hk hs => hs.elim (fun e => by have := hr.lo; omega) (fun e => by have := (hr.u.lt k e).1; omega)) hr.le)⟩
theorem lr_put {N r : Nat} {T : List Un} {w w1 : World} (h : Lr N r T w w1) (p : Int) (z : Un) (hl : T.length ≤ 20000) :
    Calls Try.prog 10 #[.pointer (some ⟨r, 0, none⟩), .int .i64 p, unv z] w1 fun e w' => e = .returned (.int .i64 (putE T p z)) ∧ Lr N r (putC T p z) w w' := by
  obtain ⟨v, ys, h1, h2, h3, h4⟩ := h
  subst h3
  exact (put_any N r v ys p z w1 h1 h2 hl).mono (fun e w' ⟨e1, zs, e2, e3, e4⟩ => ⟨e1, Lr.step h1 h4 e2 e3 e4⟩)
theorem lr_cut {N r : Nat} {T : List Un} {w w1 : World} (h : Lr N r T w w1) (cr cn cf ct : Int) (hl : T.length ≤ 20000) :
    Calls Try.prog 12 #[.pointer (some ⟨r, 0, none⟩), cuv cr cn cf ct] w1 fun e w' => e = .returned (.int .i64 (cntC cr cn cf ct T)) ∧ Lr N r (T.map (cutC cr cn cf ct)) w w' := by
  obtain ⟨v, ys, h1, h2, h3, h4⟩ := h
  subst h3
  exact (cutc_any N r v ys cr cn cf ct w1 h1 h2 hl).mono (fun e w' ⟨e1, zs, e2, e3, e4⟩ => ⟨e1, Lr.step h1 h4 e2 e3 e4⟩)
theorem lr_runs {N r : Nat} {T : List Un} {w w1 : World} (h : Lr N r T w w1) (hl : T.length ≤ 20000) :
    Calls Try.prog 19 #[.pointer (some ⟨r, 0, none⟩)] w1 fun e w' => ∃ u, e = .returned u ∧ Ur 36 w1.heap.size w' u (J T) ∧ Below w1.heap.size w1 w' := by
  obtain ⟨v, ys, h1, h2, h3, h4⟩ := h
  have hn := good_len h2
  subst h3
  rw [J_flat h2]
  exact runs_any r v ys w1 h1.b h1.u.us h2.fis (by omega)
theorem lr_good {N r : Nat} {T : List Un} {w w1 : World} (h : Lr N r T w w1) : Good (J T) ∧ flat (J T) = T := by
  obtain ⟨v, ys, h1, h2, h3, h4⟩ := h
  subst h3
  rw [J_flat h2]
  exact ⟨h2, rfl⟩
theorem lr_text {N r : Nat} {T : List Un} {w w1 : World} (h : Lr N r T w w1) (hl : T.length ≤ 20000) :
    Calls Try.prog 21 #[.pointer (some ⟨r, 0, none⟩)] w1 fun e w' => e = .returned (.string (textU (J T))) ∧ Below w1.heap.size w1 w' := by
  obtain ⟨v, ys, h1, h2, h3, h4⟩ := h
  have hn := good_len h2
  subst h3
  rw [J_flat h2]
  exact text_any r v ys w1 h1.b h1.u.us h2.fis (by omega)
theorem lr_len {N r : Nat} {T : List Un} {w w1 : World} (h : Lr N r T w w1) (hl : T.length ≤ 20000) :
    Calls Try.prog 14 #[.pointer (some ⟨r, 0, none⟩)] w1 fun e w' => e = .returned (.int .i64 (T.length : Int)) ∧ Below w1.heap.size w1 w' := by
  obtain ⟨v, ys, h1, h2, h3, h4⟩ := h
  have hn := good_len h2
  subst h3
  rw [flat_len h2.fis]
  exact len_any r v ys w1 h1.b h1.u.us h2.fis (by omega)
theorem lr_live {N r : Nat} {T : List Un} {w w1 : World} (h : Lr N r T w w1) (hl : T.length ≤ 20000) :
    Calls Try.prog 23 #[.pointer (some ⟨r, 0, none⟩)] w1 fun e w' => e = .returned (.int .i64 (liveU (J T))) ∧ Below w1.heap.size w1 w' := by
  obtain ⟨v, ys, h1, h2, h3, h4⟩ := h
  have hn := good_len h2
  subst h3
  rw [J_flat h2]
  exact livec_any r v ys w1 h1.b h1.u.us h2.fis (by omega)
theorem lr_find {N r : Nat} {T : List Un} {w w1 : World} (h : Lr N r T w w1) (hl : T.length ≤ 20000) (cr cn ci : Int) (k : Nat) (hk : k < (J T).length) (hi : idxU (fun x => holdB x cr cn ci) (J T) = k) (hh : holdB ((J T)[k]) cr cn ci = true) :
    Calls Try.prog 15 #[.pointer (some ⟨r, 0, none⟩), chu cr cn ci] w1 fun e w' => e = .returned (.tuple #[.int .i64 (cntU ((J T).take k) + ci - ((J T)[k]).f), .bool true]) ∧ Below w1.heap.size w1 w' := by
  obtain ⟨v, ys, h1, h2, h3, h4⟩ := h
  have hn := good_len h2
  subst h3
  have e := J_flat h2
  have key : ∀ zs : List Un,ys = zs → ∀ (hk : k < zs.length),idxU (fun x => holdB x cr cn ci) zs = k → holdB (zs[k]) cr cn ci = true → Calls Try.prog 15 #[.pointer (some ⟨r,0,none⟩),chu cr cn ci] w1 fun e w' => e = .returned (.tuple #[.int .i64 (cntU (zs.take k) + ci - (zs[k]).f),.bool true]) ∧ Below w1.heap.size w1 w' := by
    intro zs hz hk hi hh
    subst hz
    exact find_yes r v ys cr cn ci w1 h1.b h1.u.us h2.fis (by omega) k hk hi hh
  exact key _ e.symm hk hi hh

def zA : Un := ⟨0, 1, 0, 3, 0, 0, 0, 0, 0, 0, false, false, ⟨#[97, 98, 99]⟩⟩
def zX : Un := ⟨0, 1, 2, 1, 0, 0, 0, 0, 0, 0, false, false, ⟨#[120]⟩⟩
def tA : List Un := putC [] 0 zA
def tC : List Un := tA.map (cutC 0 1 1 2)
theorem fA1 : putE [] 0 zA = 0 := by kernel_rfl
theorem fA2 : putE tA 0 zX = 12 := by kernel_rfl
theorem fA3 : putC tA 0 zX = tA := by kernel_rfl
theorem fA4 : cntC 0 1 1 2 tA = 1 := by kernel_rfl
theorem fA5 : (J tC).length = 3 := by kernel_rfl
theorem fA6 : ((J tC).map Un.g) = [false, true, false] := by kernel_rfl
theorem fA7 : textU (J tC) = ⟨#[97, 99]⟩ := by kernel_rfl
theorem fA8 : tC.length = 3 := by kernel_rfl
theorem fA9 : liveU (J tC) = 2 := by kernel_rfl
theorem fA10 : idxU (fun x => holdB x 0 1 2) (J tC) = 2 := by kernel_rfl
theorem fA11 : (J tC).map (fun x => holdB x 0 1 2) = [false, false, true] := by kernel_rfl
theorem fA12 : cntU ((J tC).take 2) = 2 := by kernel_rfl
theorem fA13 : (J tC).map Un.f = [0, 1, 2] := by kernel_rfl
theorem fA14 : tA.length = 3 := by kernel_rfl

end Go.Proofs.Ytkaphlpohhaacaa

/-
  alive answers true.
-/
namespace Go.Proofs.Ytkaphlpohhaacaa
open Go.RowKit
set_option linter.unusedVariables false
set_option linter.unusedSimpArgs false
set_option maxRecDepth 100000

set_option maxHeartbeats 8000000 in
theorem ualive_any (w : World) : Calls Try.prog 7 #[] w fun e w' => e = .returned (.bool true) ∧ Below w.heap.size w w' := by
  have HN1 := hid (new_any w)
  obtain ⟨N, hN⟩ : ∃ N, w.heap.size = N := ⟨_, rfl⟩
  have HNN := hid hN
  rw [hN] at HN1
  clear hN
  go_enter Try.func7, Try.ntmps7
  go_wp2_with fail
  refine HN1.out.mono ?_
  rintro e W1 ⟨rfl, h1, hb1⟩
  have HL1 : Hid (Lr N N [] w W1) := hid ⟨_, [], h1, Good.nil, rfl, hb1⟩
  clear h1 hb1 HN1
  go_wp2_with fail
  refine (item_any 0 1 0 _ _).mono ?_
  rintro e W2 ⟨rfl, b2⟩
  have HL2 := hid (HL1.out.below b2)
  have HP2 := hid (lr_put HL2.out 0 zA (by decide))
  rw [fA1] at HP2
  clear b2
  go_wp2_with fail
  refine HP2.out.mono ?_
  rintro e W3 ⟨rfl, hl3⟩
  have HL3 : Hid (Lr N N tA w W3) := hid hl3
  clear hl3 HP2
  go_wp2_with fail
  refine (item_any 0 1 2 _ _).mono ?_
  rintro e W4 ⟨rfl, b4⟩
  have HL4 := hid (HL3.out.below b4)
  have HP4 := hid (lr_put HL4.out 0 zX (by rw [fA14]; decide))
  rw [fA2, fA3] at HP4
  clear b4
  go_wp2_with fail
  refine HP4.out.mono ?_
  rintro e W5 ⟨rfl, hl5⟩
  have HL5 := hid hl5
  have HC5 := hid (lr_cut hl5 0 1 1 2 (by rw [fA14]; decide))
  rw [fA4] at HC5
  clear hl5 HP4
  go_wp2_with fail
  refine HC5.out.mono ?_
  rintro e W6 ⟨rfl, hl6⟩
  have HL6 : Hid (Lr N N tC w W6) := hid hl6
  have HR6 := hid (lr_runs HL6.out (by rw [fA8]; decide))
  clear hl6 HC5
  go_wp2_with fail
  refine HR6.out.mono ?_
  rintro e W7 ⟨u, rfl, hu7, b7⟩
  have HL7 := hid (HL6.out.below b7)
  obtain ⟨bb, off, c7, hv7, _, _, hbl, hcell⟩ := hu7.us.inv (by rw [fA5]; decide)
  rw [fA5] at hv7
  subst hv7
  have h1 : 1 < (J tC).length := by rw [fA5]; decide
  have hg1 : ((J tC)[1]).g = true := by
    have e : ((J tC).map Un.g)[1]? = some true := by rw [fA6]; rfl
    rw [List.getElem?_map, List.getElem?_eq_getElem h1] at e
    simpa using e
  have hc1 := hcell 1 h1
  have HC7 : Hid (∀ W, Below W7.heap.size W7 W → W.cell? ⟨bb, off + 23, none⟩ = some (.bool true)) := hid (fun W hW => by
    have := (hc1.below hW).c10
    rw [hg1] at this
    exact this)
  have h2 : 2 < (J tC).length := by rw [fA5]; decide
  have hh2 : holdB ((J tC)[2]) 0 1 2 = true := by
    have e : ((J tC).map (fun x => holdB x 0 1 2))[2]? = some true := by rw [fA11]; rfl
    rw [List.getElem?_map, List.getElem?_eq_getElem h2] at e
    simpa using e
  have hf2 : ((J tC)[2]).f = 2 := by
    have e : ((J tC).map Un.f)[2]? = some 2 := by rw [fA13]; rfl
    rw [List.getElem?_map, List.getElem?_eq_getElem h2] at e
    simpa using e
  have HF7 := hid (lr_find HL7.out (by rw [fA8]; decide) 0 1 2 2 h2 fA10 hh2)
  rw [fA12, hf2] at HF7
  have HF7' : Hid (Calls Try.prog 15 #[.pointer (some ⟨N, 0, none⟩), chu 0 1 2] W7 fun e w' => e = .returned (.tuple #[.int .i64 2, .bool true]) ∧ Below W7.heap.size W7 w') := HF7
  clear b7 hu7 hbl hcell hc1 hg1 h1 h2 hh2 hf2 HF7 HR6
  go_wp2_with fail
  refine HF7'.out.mono ?_
  rintro e W8 ⟨rfl, b8⟩
  have HL8 := hid (HL7.out.below b8)
  have d10 := HC7.out W8 b8
  have HT8 := hid (lr_text HL8.out (by rw [fA8]; decide))
  rw [fA7] at HT8
  clear HF7'
  go_wp2_with fail
  refine HT8.out.mono ?_
  rintro e W9 ⟨rfl, b9⟩
  have HL9 := hid (HL8.out.below b9)
  have HE9 := hid (lr_len HL9.out (by rw [fA8]; decide))
  rw [fA8] at HE9
  clear HT8 d10 b8 b9
  go_wp2_with fail
  refine HE9.out.mono ?_
  rintro e W10 ⟨rfl, b10⟩
  have HL10 := hid (HL9.out.below b10)
  have HV10 := hid (lr_live HL10.out (by rw [fA8]; decide))
  rw [fA9] at HV10
  clear HE9 b10
  go_wp2_with fail
  refine HV10.out.mono ?_
  rintro e W11 ⟨rfl, b11⟩
  have HL11 := hid (HL10.out.below b11)
  clear HV10 b11
  go_wp2_with fail
  go_ret
  refine ⟨rfl, ?_⟩
  obtain ⟨_, _, _, _, _, hfin⟩ := HL11.out
  rw [HNN.out]
  exact hfin

end Go.Proofs.Ytkaphlpohhaacaa
