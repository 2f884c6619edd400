/-
  Parts of the proof, one behind the other; what each proves stands at its head.
-/
import Derived.Test.YtkaphlpohhaacaaPart8

/-
  What Live, Text, Runs and At answer of a row is proved here. Printed by genureads.py.
-/
namespace Go.Proofs.Ytkaphlpohhaacaa
open Go.RowKit
set_option linter.unusedVariables false
set_option linter.unusedSimpArgs false
set_option maxRecDepth 100000

/-- Those that aren't gone, and are no marks: how many, their bytes. -/
def livesU (xs : List Un) : List Un := xs.filter liveB
def liveU (xs : List Un) : Int := cntU (livesU xs)
def textL (xs : List Un) : List UInt8 := (livesU xs).flatMap fun x => x.t.data.toList
def textU (xs : List Un) : ByteArray := ⟨(textL xs).toArray⟩
theorem livesU_take {xs : List Un} {k : Nat} (hk : k < xs.length) : livesU (xs.take (k + 1)) = livesU (xs.take k) ++ (if liveB (xs[k]) = true then [xs[k]] else []) := by
  unfold livesU
  rw [List.take_succ_eq_append_getElem hk, List.filter_append]
  congr 1
  by_cases h : liveB (xs[k]) = true <;> simp [h]
theorem Fis.lives {xs : List Un} (h : Fis xs) : Fis (livesU xs) := fun x hx => h x (List.mem_filter.1 hx).1
theorem textL_size {xs : List Un} (h : Fis xs) : ((textL xs).length : Int) = liveU xs := by
  unfold textL liveU
  have hl := h.lives
  generalize livesU xs = ys at hl
  induction ys with
  | nil => rfl
  | cons y ys ih =>
    rw [List.flatMap_cons, List.length_append, cntU_cons, ← ba_size]
    have h1 := (hl y (List.mem_cons_self ..)).t
    have h2 := ih (fun z hz => hl z (List.mem_cons_of_mem _ hz))
    omega

set_option maxHeartbeats 4000000 in
theorem livec_any (rb : Nat) (v : Value) (xs : List Un) (w : World) (hw : Wb w rb v) (h : Us w v xs) (hf : Fis xs) (hn : xs.length ≤ 1000000) :
    Calls Try.prog 23 #[.pointer (some ⟨rb, 0, none⟩)] w fun e w' => e = .returned (.int .i64 (liveU xs)) ∧ Below w.heap.size w w' := by
  obtain ⟨a, c, rfl, hc0, hc1⟩ := h.form
  obtain ⟨n, hln⟩ : ∃ n, xs.length = n := ⟨_, rfl⟩
  have HN := hid hln
  have HX := hid h
  have HF := hid hf
  have HW := hid hw
  have c0 := hw.cell
  rw [hln] at hn hc0 HX HW c0
  clear h hf hln hw
  go_enter Try.func23, Try.ntmps23
  go_wp2
  clear c0
  go_loopw [3, 11] (fun s i wr => ∃ k : Nat, k ≤ n ∧ i = .int .i64 k ∧ s = .int .i64 (liveU (xs.take k)) ∧ Below w.heap.size w wr) (fun s i _ => n - (intOf i).toNat)
  case atStart => exact ⟨0, Nat.zero_le _, rfl, rfl, Below.refl _ _⟩
  case round =>
    obtain ⟨k, hk, rfl, rfl, hb⟩ := hrel
    have B := hid hb
    clear hb
    by_cases hlt : k < n
    · have hlt' : (k : Int) < (n : Int) := by omega
      have hx : k < xs.length := by rw [HN.out]; exact hlt
      obtain ⟨b, off, c', e1, _, _, hbl, hcc⟩ := HX.out.inv (by rw [HN.out]; omega)
      rw [HN.out] at e1
      simp only [Value.slice.injEq] at e1
      obtain ⟨rfl, -, rfl⟩ := e1
      have HC := hid ((hcc k hx).below B.out)
      obtain ⟨x, hxx⟩ : ∃ x, xs[k] = x := ⟨_, rfl⟩
      have hfx := HF.out x (by rw [← hxx]; exact List.getElem_mem hx)
      rw [hxx] at HC
      have hlt2 := livesU_take hx
      have hcs := (HF.out.take k).lives.cnt
      have hl1 : (livesU (xs.take k)).length ≤ 1000000 := Nat.le_trans (List.length_filter_le _ _) (by rw [List.length_take]; omega)
      rw [hxx] at hlt2
      have hs0 : 0 ≤ liveU (xs.take k) := hcs.1
      have hs1 : liveU (xs.take k) ≤ 64000000 := by have : liveU (xs.take k) ≤ _ := hcs.2; omega
      have hl0 := hfx.l
      have hl2 : x.l ≤ 64 := by have := hfx.s; have := hfx.f; omega
      have HLT := hid hlt2
      have HLV : Hid (∀ W, Calls Try.prog 39 #[unv x] W fun e w' => e = .returned (.bool (liveB x)) ∧ Below W.heap.size W w') := hid (fun W => live_any x W)
      clear hcc hcs hfx hl1 hxx hlt2
      obtain ⟨z, hz⟩ : ∃ z, liveU (xs.take k) = z := ⟨_, rfl⟩
      have HZ := hid hz
      rw [hz] at hs0 hs1 ⊢
      clear hz
      cases hlv : liveB x
      · rw [hlv] at HLV HLT
        clear hlv
        go_wp2_with (first
          | (refine wl_ldR rfl rfl rfl HC.out ?_)
          | (refine wl_ldR rfl rfl rfl HU3.out.cells ?_)
          | (refine wl_alR rfl rfl ?_; intro W2 b2 e2 hub2 hb2; have HV2 := hid hub2; have HK2 := hid hb2; have HG2 := hid (by omega : wr.heap.size ≤ b2); clear e2 hub2 hb2)
          | (refine wl_stR rfl rfl rfl rfl HV2.out ?_; intro W3 hu3 hf3; have HU3 := hid hu3; have HK3 := hid (below_fr HK2.out hf3 HG2.out); have HB3 := hid (bt B.out HK3.out); clear hu3 hf3) | fail)
        refine (HLV.out _).mono ?_
        rintro e W4 ⟨rfl, b4⟩
        have HB4 := hid (bt HB3.out b4)
        clear b4
        go_wp2
        go_roundw
        case rel => exact ⟨k + 1, hlt, by go_num, by unfold liveU; rw [HLT.out]; simp only [Bool.false_eq_true, if_false, List.append_nil]; rw [← HZ.out]; rfl, HB4.out⟩
        case measure => simp [intOf]; omega
      · rw [hlv] at HLV HLT
        clear hlv
        go_wp2_with (first
          | (refine wl_ldR rfl rfl rfl HC.out ?_)
          | (refine wl_ldR rfl rfl rfl HU3.out.cells ?_)
          | (refine wl_alR rfl rfl ?_; intro W2 b2 e2 hub2 hb2; have HV2 := hid hub2; have HK2 := hid hb2; have HG2 := hid (by omega : wr.heap.size ≤ b2); clear e2 hub2 hb2)
          | (refine wl_stR rfl rfl rfl rfl HV2.out ?_; intro W3 hu3 hf3; have HU3 := hid hu3; have HK3 := hid (below_fr HK2.out hf3 HG2.out); have HB3 := hid (bt B.out HK3.out); clear hu3 hf3) | fail)
        refine (HLV.out _).mono ?_
        rintro e W4 ⟨rfl, b4⟩
        have HB4 := hid (bt HB3.out b4)
        have d3 : W4.cell? ⟨b2, 3, none⟩ = some (.int .i64 x.l) := (HU3.out.below b4).cells.c3
        clear b4
        go_wp2
        go_roundw
        case rel => exact ⟨k + 1, hlt, by go_num, by unfold liveU; rw [HLT.out]; simp only [if_true]; rw [cntU_app, cntU_cons, cntU_nil, ← HZ.out]; simp [liveU], HB4.out⟩
        case measure => simp [intOf]; omega
    · obtain rfl : k = n := by omega
      have hnl : ¬ (k : Int) < (k : Int) := by omega
      have e : xs.take k = xs := List.take_of_length_le (by rw [HN.out]; exact Nat.le_refl _)
      rw [e]
      go_wp2
      go_ret
      exact ⟨rfl, B.out⟩

/-- A builder beside what is new. -/
theorem Bl.below {B b : Nat} {bs : List Value} {w w' : World} (h : Bl B b bs w) (hb : Below w.heap.size w w') : Bl B b bs w' := by
  have key : ∀ p, Lib.BuilderAt 76 5 B b p bs w → Lib.BuilderAt 76 5 B b p bs w' := by
    rintro p ⟨h1, v, h2, h3, h4⟩
    exact ⟨h1, v, (hb.block b (Array.getElem?_eq_some_iff.1 h2).1).trans h2, own_frU h3 (Fr.of_below hb : Fr (fun _ => False) _ _) (fun _ _ h => h), h4⟩
  exact h.elim (fun h => .inl (key _ h)) (fun h => .inr (key _ h))
theorem Bl.new (w : World) : Bl w.heap.size w.heap.size [] (w.alloc (.cells #[.pointer none, .slice none 0 0] 76)) :=
  .inl ⟨Nat.le_refl _, .slice none 0 0, heap_alloc_new w _, World.ownsRow_nil _ _ _ _, by simp [Value.ownBlock]⟩
section
variable {o : Oper} {a : Act} {W : World} {ops : Array Oper} {rest : List Oper} {Q : Exit → Act → World → Prop}
theorem wl_alB (hgd : Region.wanted o (yielded ops a.tmps) = true) (ho : o.op = .alloc 76) (hk : ∀ W' b, b = W.heap.size → Bl W.heap.size b [] W' → Below W.heap.size W W' → wpList Try.prog ops Q rest (a.put o.dst (.pointer (some ⟨b, 0, none⟩))) W') : wpList Try.prog ops Q (o :: rest) a W := by
  have hr : (execOp a.eval o).run Try.prog W = .ok (.value (.pointer (some ⟨W.heap.size, 0, none⟩))) (W.alloc (.cells #[.pointer none, .slice none 0 0] 76)) := by
    unfold execOp
    simp only [ho]
    kernel_rfl
  exact BigFrame.wpList_want hgd fun K hK => by unfold Oper.wp; rw [hr]; exact hK _ _ (hk _ _ rfl (Bl.new W) (ba W _))
end

set_option maxHeartbeats 4000000 in
theorem text_any (rb : Nat) (v : Value) (xs : List Un) (w : World) (hw : Wb w rb v) (h : Us w v xs) (hf : Fis xs) (hn : xs.length ≤ 1000000) :
    Calls Try.prog 21 #[.pointer (some ⟨rb, 0, none⟩)] w fun e w' => e = .returned (.string (textU xs)) ∧ Below w.heap.size w w' := by
  obtain ⟨a, c, rfl, hc0, hc1⟩ := h.form
  obtain ⟨n, hln⟩ : ∃ n, xs.length = n := ⟨_, rfl⟩
  have HN := hid hln
  have HX := hid h
  have HF := hid hf
  have HW := hid hw
  have c0 := hw.cell
  rw [hln] at hn hc0 HX HW c0
  clear h hf hln hw
  clear c0
  go_enter Try.func21, Try.ntmps21
  go_wp2_with (first | (refine wl_alB rfl rfl ?_; intro W0 bb e0 hbl0 hb0; have c0 := (HW.out.below hb0).cell; have BL0 := hid hbl0; have BB := hid hb0; clear e0 hbl0 hb0) | fail)
  clear c0
  go_loopw [11] (fun i wr => ∃ k : Nat, k ≤ n ∧ i = .int .i64 k ∧ Bl w.heap.size bb (Lib.byteCells (textL (xs.take k))) wr ∧ Below w.heap.size w wr) (fun i _ => n - (intOf i).toNat)
  case atStart => exact ⟨0, Nat.zero_le _, rfl, BL0.out, BB.out⟩
  case round =>
    obtain ⟨k, hk, rfl, hbl, hb⟩ := hrel
    have B := hid hb
    have BL := hid hbl
    clear hb hbl BL0 BB
    by_cases hlt : k < n
    · have hlt' : (k : Int) < (n : Int) := by omega
      have hx : k < xs.length := by rw [HN.out]; exact hlt
      obtain ⟨b, off, c', e1, _, _, hbl, hcc⟩ := HX.out.inv (by rw [HN.out]; omega)
      rw [HN.out] at e1
      simp only [Value.slice.injEq] at e1
      obtain ⟨rfl, -, rfl⟩ := e1
      have HC := hid ((hcc k hx).below B.out)
      obtain ⟨x, hxx⟩ : ∃ x, xs[k] = x := ⟨_, rfl⟩
      have hfx := HF.out x (by rw [← hxx]; exact List.getElem_mem hx)
      rw [hxx] at HC
      have hlt2 := livesU_take hx
      have hcs := (HF.out.take k).lives.cnt
      have hl1 : (livesU (xs.take k)).length ≤ 1000000 := Nat.le_trans (List.length_filter_le _ _) (by rw [List.length_take]; omega)
      rw [hxx] at hlt2
      have hs1 : liveU (xs.take k) ≤ 64000000 := by have : liveU (xs.take k) ≤ _ := hcs.2; omega
      have hts := textL_size (HF.out.take k)
      have hxt : x.t.size ≤ 64 := by have := hfx.s; have := hfx.f; have := hfx.t; omega
      have HTL : Hid ((textL (xs.take k)).length ≤ 64000000) := hid (by omega)
      have HLT := hid hlt2
      have HLV : Hid (∀ W, Calls Try.prog 39 #[unv x] W fun e w' => e = .returned (.bool (liveB x)) ∧ Below W.heap.size W w') := hid (fun W => live_any x W)
      have HXT := hid hxt
      clear hcc hcs hfx hl1 hxx hlt2 hts hs1 hxt
      cases hlv : liveB x
      · rw [hlv] at HLV HLT
        clear hlv
        go_wp2_with (first
          | (refine wl_ldR rfl rfl rfl HC.out ?_)
          | (refine wl_ldR rfl rfl rfl HU3.out.cells ?_)
          | (refine wl_alR rfl rfl ?_; intro W2 b2 e2 hub2 hb2; have HV2 := hid hub2; have HK2 := hid hb2; have HG2 := hid (by omega : wr.heap.size ≤ b2); clear e2 hub2 hb2)
          | (refine wl_stR rfl rfl rfl rfl HV2.out ?_; intro W3 hu3 hf3; have HU3 := hid hu3; have HK3 := hid (below_fr HK2.out hf3 HG2.out); have HB3 := hid (bt B.out HK3.out); clear hu3 hf3) | fail)
        refine (HLV.out _).mono ?_
        rintro e W4 ⟨rfl, b4⟩
        have HB4 := hid (bt HB3.out b4)
        have BL4 := hid ((BL.out.below HK3.out).below b4)
        clear b4
        go_wp2
        go_roundw
        case rel => exact ⟨k + 1, hlt, by go_num, by unfold textL; rw [HLT.out]; simp only [Bool.false_eq_true, if_false, List.append_nil]; exact BL4.out, HB4.out⟩
        case measure => simp [intOf]; omega
      · rw [hlv] at HLV HLT
        clear hlv
        go_wp2_with (first
          | (refine wl_ldR rfl rfl rfl HC.out ?_)
          | (refine wl_ldR rfl rfl rfl HU3.out.cells ?_)
          | (refine wl_alR rfl rfl ?_; intro W2 b2 e2 hub2 hb2; have HV2 := hid hub2; have HK2 := hid hb2; have HG2 := hid (by omega : wr.heap.size ≤ b2); clear e2 hub2 hb2)
          | (refine wl_stR rfl rfl rfl rfl HV2.out ?_; intro W3 hu3 hf3; have HU3 := hid hu3; have HK3 := hid (below_fr HK2.out hf3 HG2.out); have HB3 := hid (bt B.out HK3.out); clear hu3 hf3) | fail)
        refine (HLV.out _).mono ?_
        rintro e W4 ⟨rfl, b4⟩
        have HB4 := hid (bt HB3.out b4)
        have BL4 := hid ((BL.out.below HK3.out).below b4)
        have d12 : W4.cell? ⟨b2, 12, none⟩ = some (.string x.t) := (HU3.out.below b4).cells.c12
        clear b4
        have HWR := hid (bwrite_any w.heap.size bb _ x.t W4 BL4.out (by rw [Lib.byteCells_length]; have := HTL.out; have := HXT.out; omega) HB4.out.size)
        go_wp2_with fail
        refine HWR.out.mono ?_
        rintro e W5 ⟨rfl, bl5, b5⟩
        have BL5 := hid bl5
        have HB5 := hid (HB4.out.trans b5)
        clear bl5 b5
        go_wp2
        go_roundw
        case rel => exact ⟨k + 1, hlt, by go_num, by unfold textL; rw [HLT.out]; simp only [if_true]; rw [List.flatMap_append]; have := BL5.out; rw [Lib.strCells_eq] at this; simpa [Lib.byteCells, textL] using this, HB5.out⟩
        case measure => simp [intOf]; omega
    · obtain rfl : k = n := by omega
      have hnl : ¬ (k : Int) < (k : Int) := by omega
      have e : xs.take k = xs := List.take_of_length_le (by rw [HN.out]; exact Nat.le_refl _)
      rw [e] at BL
      have HST := hid (Try.Builder_String_any w.heap.size bb (textL xs) wr BL.out B.out.size)
      go_wp2_with fail
      refine HST.out.mono ?_
      rintro e W5 ⟨rfl, b5⟩
      have HB5 := hid (B.out.trans b5)
      clear b5
      go_wp2
      go_ret
      exact ⟨rfl, HB5.out⟩

section
variable {o : Oper} {a : Act} {W : World} {ops : Array Oper} {rest : List Oper} {Q : Exit → Act → World → Prop}
theorem run_oneI (u : Un) (w : World) : (Instr.buildSlice 32 1 #[(0, unv u)]).run Try.prog w = .ok (.slice (some ⟨w.heap.size, 0, none⟩) 1 1) (w.alloc (.cells (unl u) 36)) := by kernel_rfl
theorem run_oneR (u : Un) (w : World) : (Instr.buildSlice 55 1 #[(0, unv u)]).run Try.prog w = .ok (.slice (some ⟨w.heap.size, 0, none⟩) 1 1) (w.alloc (.cells (unl u) 59)) := by kernel_rfl
/-- A row of one item, of one run. -/
theorem wl_oneI {x : Operand} {u : Un} (hgd : o.guard = none) (ho : o.op = .buildSlice 32 1 #[(0,x)]) (hx : a.eval x = unv u) (hk : ∀ W' v,Us W' v [u] → (∀ k,v.ownBlock = some k → k = W.heap.size) → Below W.heap.size W W' → wpList Try.prog ops Q rest (a.put o.dst v) W') : wpList Try.prog ops Q (o :: rest) a W := by
  refine wpList_plain hgd fun K hK => ?_
  unfold Oper.wp execOp
  have e : (Array.map (fun ((i, x) : Nat × Operand) => (i, a.eval x)) #[(0, x)]) = #[(0, unv u)] := by simp [hx]
  simp only [ho, e, Sem.run_bind, run_oneI, Result.andThen_ok]
  refine hK _ _ ?_
  exact hk _ _ (Sl.lit (sz := 13) W 36 (unl u) 1 (by decide) rfl) (fun k hk => by simpa [Value.ownBlock] using hk.symm) (ba W _)
theorem wl_oneR {x : Operand} {u : Un} (hgd : o.guard = none) (ho : o.op = .buildSlice 55 1 #[(0,x)]) (hx : a.eval x = unv u) (hk : ∀ W' v,Us W' v [u] → (∀ k,v.ownBlock = some k → k = W.heap.size) → Below W.heap.size W W' → wpList Try.prog ops Q rest (a.put o.dst v) W') : wpList Try.prog ops Q (o :: rest) a W := by
  refine wpList_plain hgd fun K hK => ?_
  unfold Oper.wp execOp
  have e : (Array.map (fun ((i, x) : Nat × Operand) => (i, a.eval x)) #[(0, x)]) = #[(0, unv u)] := by simp [hx]
  simp only [ho, e, Sem.run_bind, run_oneR, Result.andThen_ok]
  refine hK _ _ ?_
  exact hk _ _ (Sl.lit (sz := 13) W 59 (unl u) 1 (by decide) rfl) (fun k hk => by simpa [Value.ownBlock] using hk.symm) (ba W _)
end

section
variable {o : Oper} {a : Act} {W : World} {ops : Array Oper} {rest : List Oper} {Q : Exit → Act → World → Prop}
theorem wl_mkI {y : Operand} {n : Nat} (hgd : Region.wanted o (yielded ops a.tmps) = true) (ho : o.op = .makeSlice 32 (.const (.int .i64 0)) y) (hy : a.eval y = .int .i64 (n : Nat)) (hn : n ≤ 1000000)
    (hk : ∀ W' v, Ur 36 W.heap.size W' v [] → Below W.heap.size W W' → wpList Try.prog ops Q rest (a.put o.dst v) W') : wpList Try.prog ops Q (o :: rest) a W := by
  obtain ⟨i0, hi, hz0, hz1, hz2⟩ := info_parts infoI
  obtain ⟨W', h1, h2, h3⟩ := run_make_own (P := Try.prog) W W.heap.size 32 36 i0 _ 13 Try.underlying32 hi hz0 hz1 .i64 .i64 n (by rw [hz2]; omega) (by unfold maxLen; omega) (Nat.le_refl _)
  have hr : (execOp a.eval o).run Try.prog W = .ok (.value (.slice (some ⟨W.heap.size, 0, none⟩) 0 n)) W' := by
    unfold execOp
    have e : a.eval (.const (.int .i64 0)) = .int .i64 0 := rfl
    simp only [ho, hy, e, Sem.run_bind, h1, Result.andThen_ok, Sem.run_pure]
  exact BigFrame.wpList_want hgd fun K hK => by unfold Oper.wp; rw [hr]; exact hK _ _ (hk _ _ h2 ((Below.refl _ _).grown h3 (Nat.le_refl _) (fun k hk => by cases hk)))
end
set_option maxHeartbeats 4000000 in
theorem runs_any (rb : Nat) (v : Value) (xs : List Un) (w : World) (hw : Wb w rb v) (h : Us w v xs) (hf : Fis xs) (hn : xs.length ≤ 1000000) :
    Calls Try.prog 19 #[.pointer (some ⟨rb, 0, none⟩)] w fun e w' => ∃ u, e = .returned u ∧ Ur 36 w.heap.size w' u xs ∧ Below w.heap.size w w' := by
  obtain ⟨a, c, rfl, hc0, hc1⟩ := h.form
  obtain ⟨n, hln⟩ : ∃ n, xs.length = n := ⟨_, rfl⟩
  have HN := hid hln
  have HX := hid h
  have HF := hid hf
  have HW := hid hw
  have c0 := hw.cell
  rw [hln] at hn hc0 HX HW c0
  clear h hf hln hw
  go_enter Try.func19, Try.ntmps19
  go_wp2_with (first | (refine wl_mkI rfl rfl rfl hn ?_; intro W0 v0 hu0 hb0; have c1 := (HW.out.below hb0).cell; have HU0 := hid hu0; have HB0 := hid hb0; clear c0 hu0 hb0) | fail)
  clear c1
  go_loopw [3, 17] (fun s i wr => ∃ (k : Nat) (sa : Option Addr) (sn sc : Nat), k ≤ n ∧ i = .int .i64 k ∧ s = .slice sa sn sc ∧ Ur 36 w.heap.size wr (.slice sa sn sc) (xs.take k) ∧ Below w.heap.size w wr) (fun s i _ => n - (intOf i).toNat)
  case atStart => obtain ⟨a0, c0, e0, _⟩ := HU0.out.us.form; exact ⟨0, a0, 0, c0, Nat.zero_le _, rfl, e0, by rw [← show v0 = .slice a0 0 c0 from e0]; exact HU0.out, HB0.out⟩
  case round =>
    obtain ⟨k, sa, sn, sc, hk, rfl, rfl, hu, hb⟩ := hrel
    have B := hid hb
    have UR := hid hu
    clear hb hu HU0 HB0
    by_cases hlt : k < n
    · have hlt' : (k : Int) < (n : Int) := by omega
      have hx : k < xs.length := by rw [HN.out]; exact hlt
      obtain ⟨b, off, c', e1, _, _, hbl, hcc⟩ := HX.out.inv (by rw [HN.out]; omega)
      rw [HN.out] at e1
      simp only [Value.slice.injEq] at e1
      obtain ⟨rfl, -, rfl⟩ := e1
      have HC := hid ((hcc k hx).below B.out)
      obtain ⟨x, hxx⟩ : ∃ x, xs[k] = x := ⟨_, rfl⟩
      have hfx := HF.out x (by rw [← hxx]; exact List.getElem_mem hx)
      rw [hxx] at HC
      have hxs : xs.take (k + 1) = xs.take k ++ [x] := by rw [List.take_succ_eq_append_getElem hx, hxx]
      have hlen : (xs.take k).length + [x].length ≤ 1048576 := by rw [List.length_take]; simp; omega
      have HXS := hid hxs
      have HLEN := hid hlen
      have HTO : Hid (∀ W, Calls Try.prog 38 #[unv x] W fun e w' => e = .returned (unv x) ∧ Below W.heap.size W w') := hid (fun W => told_any x W hfx)
      clear hcc hfx hxx hxs hlen
      go_wp2_with (first
          | (refine wl_ldR rfl rfl rfl HC.out ?_)
          | (refine wl_ldR rfl rfl rfl HU3.out.cells ?_)
          | (refine wl_alR rfl rfl ?_; intro W2 b2 e2 hub2 hb2; have HV2 := hid hub2; have HK2 := hid hb2; have HG2 := hid (by omega : wr.heap.size ≤ b2); clear e2 hub2 hb2)
          | (refine wl_stR rfl rfl rfl rfl HV2.out ?_; intro W3 hu3 hf3; have HU3 := hid hu3; have HK3 := hid (below_fr HK2.out hf3 HG2.out); have HB3 := hid (bt B.out HK3.out); clear hu3 hf3) | fail)
      refine (HTO.out _).mono ?_
      rintro e W4 ⟨rfl, b4⟩
      have HB4 := hid (bt HB3.out b4)
      have UR4 := hid ((UR.out.below HK3.out).below b4)
      clear b4
      go_wp2_with (first
        | (refine wl_oneI (u := x) rfl rfl rfl ?_; intro W5 v5 hu5 ho5 hb5; have HB5 := hid (bt HB4.out hb5); have UR5 := hid (UR4.out.below hb5); have HU5 := hid hu5; obtain ⟨va, vc, hv5, _⟩ := hu5.form; have HV5 := hid hv5; clear hu5 ho5 hb5 hv5)
        | (refine wl_appI rfl _ _ rfl w.heap.size _ _ _ rfl UR5.out _ rfl HU5.out HLEN.out HB5.out.size ?_; intro v6 W6 hu6 hf6 ho6; obtain ⟨va6,vc6,hv6,_⟩ := hu6.us.form; obtain ⟨m6,hm6⟩ : ∃ m,(xs.take k ++ [x]).length = m := ⟨_,rfl⟩; rw [hm6] at hv6; clear hm6; subst hv6; have UR6 := hid hu6; have HB6 := hid ((Fr.of_below HB5.out : Fr (fun k => (Value.slice sa sn sc).ownBlock = some k) _ _).trans' hf6); clear hu6 hf6 ho6)
        | fail)
      go_roundw
      case rel => exact ⟨k + 1, _, _, _, hlt, by go_num, rfl, by rw [HXS.out]; exact UR6.out, HB6.out.below (fun j hj e => Nat.lt_irrefl _ (Nat.lt_of_lt_of_le hj (UR.out.lt j e).1)) (Nat.le_refl _)⟩
      case measure => simp [intOf]; omega
    · obtain rfl : k = n := by omega
      have hnl : ¬ (k : Int) < (k : Int) := by omega
      have e : xs.take k = xs := List.take_of_length_le (by rw [HN.out]; exact Nat.le_refl _)
      rw [e] at UR
      go_wp2
      go_ret
      exact ⟨_, rfl, UR.out, B.out⟩

set_option maxHeartbeats 4000000 in
theorem at_no (rb : Nat) (v : Value) (xs : List Un) (i : Int) (w : World) (hw : Wb w rb v) (h : Us w v xs) (hf : Fis xs) (hn : xs.length ≤ 1000000) (hi : i < 0 ∨ cntU xs ≤ i) :
    Calls Try.prog 17 #[.pointer (some ⟨rb, 0, none⟩), .int .i64 i] w fun e w' => e = .returned (.tuple #[unv Un.zero, .bool false]) ∧ Below w.heap.size w w' := by
  have HLE : Hid (∀ W, Below w.heap.size w W → Calls Try.prog 14 #[.pointer (some ⟨rb, 0, none⟩)] W fun e w' => e = .returned (.int .i64 (cntU xs)) ∧ Below W.heap.size W w') := hid (fun W hW => len_any rb v xs W (hw.below hW) (h.below hW) hf hn)
  obtain ⟨z, hz⟩ : ∃ z, cntU xs = z := ⟨_, rfl⟩
  rw [hz] at HLE hi
  clear hw h hf hz
  by_cases hneg : i < 0
  · go_enter Try.func17, Try.ntmps17
    go_wp2_with (first
      | (refine wl_alI rfl rfl ?_; intro W2 b2 e2 hub2 hb2; have HV2 := hid hub2; have HB2 := hid hb2; have HG2 := hid (by omega : w.heap.size ≤ b2); clear e2 hub2 hb2)
      | (refine wl_zeroI rfl rfl ?_)
      | (refine wl_stI rfl rfl rfl rfl HV2.out ?_; intro W3 hu3 hf3; have HU3 := hid hu3; have HB3 := hid (below_fr HB2.out hf3 HG2.out); clear hu3 hf3)
      | fail)
    refine bodyPost_ret (resI2 rfl _ _ rfl HU3.out) rfl ?_
    exact ⟨rfl, HB3.out⟩
  · have hge : z ≤ i := by omega
    go_enter Try.func17, Try.ntmps17
    go_wp2_with (first
      | (refine wl_alI rfl rfl ?_; intro W2 b2 e2 hub2 hb2; have HV2 := hid hub2; have HB2 := hid hb2; have HG2 := hid (by omega : w.heap.size ≤ b2); clear e2 hub2 hb2)
      | fail)
    refine (HLE.out _ HB2.out).mono ?_
    rintro e W3 ⟨rfl, b3⟩
    have HV3 := hid (HV2.out.below b3)
    have HB3 := hid (bt HB2.out b3)
    clear b3
    go_wp2_with (first
      | (refine wl_zeroI rfl rfl ?_)
      | (refine wl_stI rfl rfl rfl rfl HV3.out ?_; intro W4 hu4 hf4; have HU4 := hid hu4; have HB4 := hid (below_fr HB3.out hf4 HG2.out); clear hu4 hf4)
      | fail)
    refine bodyPost_ret (resI2 rfl _ _ rfl HU4.out) rfl ?_
    exact ⟨rfl, HB4.out⟩

theorem cutU_fi {x : Un} {a b : Int} (h : Fi x) (ha : x.f ≤ a) (hab : a ≤ b) (hb : b ≤ x.f + x.l) : Fi (cutU x a b) := by
  have h1 := h.f
  have h2 := h.l
  have h3 := h.s
  have h4 := h.t
  refine ⟨by show 0 ≤ a; omega, by show 0 ≤ b - a; omega, by show a + (b - a) ≤ 64; omega, ?_⟩
  show (((x.t.extract (a - x.f).toNat (b - x.f).toNat).size : Nat) : Int) = b - a
  rw [ba_cut_size (by omega)]
  omega

set_option maxHeartbeats 8000000 in
theorem at_yes (rb : Nat) (v : Value) (xs : List Un) (i : Int) (w : World) (hw : Wb w rb v) (h : Us w v xs) (hf : Fis xs) (hn : xs.length ≤ 1000000) (h0 : 0 ≤ i) (h1 : i < cntU xs) (k : Nat) (q : Int) (hk : k < xs.length) (hs : seekU xs i = (k, q)) (hq0 : 0 ≤ q) (hq1 : q < (xs[k]).l) :
    Calls Try.prog 17 #[.pointer (some ⟨rb, 0, none⟩), .int .i64 i] w fun e w' => e = .returned (.tuple #[unv (cutU (xs[k]) ((xs[k]).f + q) ((xs[k]).f + q + 1)), .bool true]) ∧ Below w.heap.size w w' := by
  have HLE : Hid (∀ W, Below w.heap.size w W → Calls Try.prog 14 #[.pointer (some ⟨rb, 0, none⟩)] W fun e w' => e = .returned (.int .i64 (cntU xs)) ∧ Below W.heap.size W w') := hid (fun W hW => len_any rb v xs W (hw.below hW) (h.below hW) hf hn)
  have hc := hf.cnt
  have HSE : Hid (∀ W, Below w.heap.size w W → Calls Try.prog 29 #[.pointer (some ⟨rb, 0, none⟩), .int .i64 i] W fun e w' => e = .returned (.tuple #[.int .i64 (k : Int), .int .i64 q]) ∧ Below W.heap.size W w') := hid (fun W hW => by
    have := seek_any rb v xs i W (hw.below hW) (h.below hW) hf hn h0 (by omega)
    rw [hs] at this
    exact this)
  obtain ⟨b, off, c, rfl, hc0, hc1, hbl, hcc⟩ := h.inv (by omega)
  have HW := hid hw
  obtain ⟨x, hxx⟩ : ∃ x, xs[k] = x := ⟨_, rfl⟩
  have HC := hid (hcc k hk)
  have hfx := hf x (by rw [← hxx]; exact List.getElem_mem hk)
  rw [hxx] at HC hq1 ⊢
  obtain ⟨n, hln⟩ : ∃ n, xs.length = n := ⟨_, rfl⟩
  rw [hln] at HW hk
  obtain ⟨z, hz⟩ : ∃ z, cntU xs = z := ⟨_, rfl⟩
  rw [hz] at HLE h1
  have hf0 := hfx.f
  have hl0 := hfx.l
  have hs0 := hfx.s
  have hkn : (k : Int) < (n : Int) := by omega
  have HPA : Hid (∀ W, Calls Try.prog 32 #[unv x, .int .i64 (x.f + q), .int .i64 (x.f + q + 1)] W fun e w' => e = .returned (unv (cutU x (x.f + q) (x.f + q + 1))) ∧ Below W.heap.size W w') := hid (fun W => part_any x _ _ W hfx (by omega) (by omega) (by omega))
  have hfc := cutU_fi hfx (a := x.f + q) (b := x.f + q + 1) (by omega) (by omega) (by omega)
  obtain ⟨y, hy⟩ : ∃ y, cutU x (x.f + q) (x.f + q + 1) = y := ⟨_, rfl⟩
  rw [hy] at HPA hfc ⊢
  have HTO : Hid (∀ W, Calls Try.prog 38 #[unv y] W fun e w' => e = .returned (unv y) ∧ Below W.heap.size W w') := hid (fun W => told_any y W hfc)
  clear hw h hf hs hcc hfx hxx hln hz hfc hy hc
  go_enter Try.func17, Try.ntmps17
  go_wp2_with (first
    | (refine wl_alI rfl rfl ?_; intro W2 b2 e2 hub2 hb2; have HV2 := hid hub2; have HB2 := hid hb2; have HG2 := hid (by omega : w.heap.size ≤ b2); clear e2 hub2 hb2)
    | fail)
  refine (HLE.out _ HB2.out).mono ?_
  rintro e W3 ⟨rfl, b3⟩
  have HV3 := hid (HV2.out.below b3)
  have HB3 := hid (bt HB2.out b3)
  clear b3
  go_wp2_with fail
  refine (HSE.out _ HB3.out).mono ?_
  rintro e W4 ⟨rfl, b4⟩
  have HV4 := hid (HV3.out.below b4)
  have HB4 := hid (bt HB3.out b4)
  have c0 := (HW.out.below HB4.out).cell
  have HC4 := hid (HC.out.below HB4.out)
  clear b4
  go_wp2_with (first
    | (refine wl_ldR rfl rfl rfl HC4.out ?_)
    | (refine wl_ldR rfl rfl rfl HU6.out.cells ?_)
    | (refine wl_alR rfl rfl ?_; intro W5 b5 e5 hub5 hb5; have HV5 := hid hub5; have HB5 := hid (bt HB4.out hb5); have HG5 := hid (by have := HB4.out.size; omega : w.heap.size ≤ b5); have HP5 := hid (HV4.out.below hb5); have HN5 := hid (by have := HV4.out.lt; omega : b2 ≠ b5); clear c0 e5 hub5 hb5)
    | (refine wl_stR rfl rfl rfl rfl HV5.out ?_; intro W6 hu6 hf6; have d2 : W6.cell? ⟨b5, 2, none⟩ = some (.int .i64 x.f) := hu6.cells.c2; have HU6 := hid hu6; have HB6 := hid (below_fr HB5.out hf6 HG5.out); have HP6 := hid (HP5.out.fr hf6 HN5.out); clear hu6 hf6)
    | fail)
  refine (HPA.out _).mono ?_
  rintro e W7 ⟨rfl, b7⟩
  have HP7 := hid (HP6.out.below b7)
  have HB7 := hid (bt HB6.out b7)
  clear b7 d2
  go_wp2_with fail
  refine (HTO.out _).mono ?_
  rintro e W8 ⟨rfl, b8⟩
  have HP8 := hid (HP7.out.below b8)
  have HB8 := hid (bt HB7.out b8)
  clear b8
  go_wp2_with (first
    | (refine wl_stI rfl rfl rfl rfl HP8.out ?_; intro W9 hu9 hf9; have HU9 := hid hu9; have HB9 := hid (below_fr HB8.out hf9 HG2.out); clear hu9 hf9)
    | fail)
  refine bodyPost_ret (resI2 rfl _ _ rfl HU9.out) rfl ?_
  exact ⟨rfl, HB9.out⟩

end Go.Proofs.Ytkaphlpohhaacaa

/-
  Parts of a row of runs: what slicing leaves, whatever room there is.
-/
namespace Go.Proofs.Ytkaphlpohhaacaa
open Go.RowKit
set_option linter.unusedVariables false
set_option linter.unusedSimpArgs false
set_option maxRecDepth 100000

def bkA (A : Option Addr) (c f : Nat) : Option Addr := if c = f then A else A.map (fun a => a.add (f * 13))
theorem Us.part {w : World} {A : Option Addr} {n c : Nat} {xs : List Un} (h : Us w (.slice A n c) xs) {f e : Nat} (hf : f ≤ e) (he : e ≤ n) : Us w (.slice (bkA A c f) (e - f) (c - f)) ((xs.take e).drop f) := by
  obtain ⟨h0, a', c', e1, e2, e3, e4, e5⟩ := h
  simp only [Value.slice.injEq] at e1
  obtain ⟨rfl, hn, rfl⟩ := e1
  have hl : ((xs.take e).drop f).length = e - f := by rw [List.length_drop, List.length_take]; omega
  refine ⟨by rw [flat_length unc 13 unc_len], bkA A c f, c - f, by rw [hl], by rw [hl]; omega, by omega, fun hb => ?_, fun j u hu => ?_⟩
  · unfold bkA at hb
    split at hb
    · omega
    · have : A = none := by cases A with | none => rfl | some _ => cases hb
      have := e4 this
      omega
  · have hj : j < ((xs.take e).drop f).length * 13 := by
      have := (List.getElem?_eq_some_iff.1 hu).1
      rwa [flat_length unc 13 unc_len] at this
    rw [hl] at hj
    have hcf : c ≠ f := by intro hc; omega
    have key : (xs.flatMap unc)[f * 13 + j]? = some u := by
      have e7 : xs.flatMap unc = (xs.take f).flatMap unc ++ (((xs.take e).drop f).flatMap unc ++ (xs.drop e).flatMap unc) := by
        rw [← List.flatMap_append, ← List.flatMap_append]
        congr 1
        have : xs.take f = (xs.take e).take f := by rw [List.take_take, Nat.min_eq_left hf]
        rw [this, ← List.append_assoc, List.take_append_drop, List.take_append_drop]
      have l1 : ((xs.take f).flatMap unc).length = f * 13 := by rw [flat_length unc 13 unc_len, List.length_take, Nat.min_eq_left (by omega)]
      rw [e7, List.getElem?_append_right (by omega), l1, Nat.add_sub_cancel_left, List.getElem?_append_left (by exact (List.getElem?_eq_some_iff.1 hu).1)]
      exact hu
    obtain ⟨b, off, e8, e9⟩ := e5 _ u key
    refine ⟨b, off + f * 13, ?_, by rw [Nat.add_assoc]; exact e9⟩
    unfold bkA
    rw [if_neg hcf, e8]
    simp [Addr.add_lit]
section
variable {o : Oper} {a : Act} {W : World} {x lo hi : Operand} {A : Option Addr} {n c f e : Nat}
theorem runU_slt (ho : o.op = .slice 55 x none (some hi) none) (hx : a.eval x = .slice A n c) (hh : a.eval hi = .int .i64 (e : Nat)) (h2 : e ≤ c) : (execOp a.eval o).run Try.prog W = .ok (.value (.slice A e c)) W := by
  unfold execOp
  simp only [ho, hx, Option.map_some, Option.map_none, hh]
  have e6 : (e : Int) ≤ (c : Int) := by omega
  simp [go_sem, e6]
theorem runU_sl (ho : o.op = .slice 55 x (some lo) (some hi) none) (hx : a.eval x = .slice A n c) (hl : a.eval lo = .int .i64 (f : Nat)) (hh : a.eval hi = .int .i64 (e : Nat)) (h1 : f ≤ e) (h2 : e ≤ c) (ha : A = none → c = 0) :
    (execOp a.eval o).run Try.prog W = .ok (.value (.slice (bkA A c f) (e - f) (c - f))) W := by
  unfold execOp
  simp only [ho, hx, Option.map_some, Option.map_none, hl, hh]
  have e6 : (e : Int) ≤ (c : Int) := by omega
  have e7 : (f : Int) ≤ (e : Int) := by omega
  simp [go_sem, e6, e7, h1, h2, bkA]
theorem runU_sld (ho : o.op = .slice 55 x (some lo) none none) (hx : a.eval x = .slice A n c) (hl : a.eval lo = .int .i64 (f : Nat)) (h1 : f ≤ n) (h2 : n ≤ c) (ha : A = none → c = 0) :
    (execOp a.eval o).run Try.prog W = .ok (.value (.slice (bkA A c f) (n - f) (c - f))) W := by
  unfold execOp
  simp only [ho, hx, Option.map_some, Option.map_none, hl]
  have e7 : (f : Int) ≤ (n : Int) := by omega
  simp [go_sem, e7, h1, h2, bkA]
end

end Go.Proofs.Ytkaphlpohhaacaa
