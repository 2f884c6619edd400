/-
  Parts of the proof, one behind the other; what each proves stands at its head.
-/
import Derived.Test.YtiimhenapfejmaaPart2
import Derived.Test.YtiimhenapfejmaaRows
import Derived.Test.YtiimhenapfejmaaPart1
import Derived.Deep.QuietTactic
import Derived.BigQuiet
import Derived.WalkKit
import Derived.RegionTactic
import Derived.OrdersHeld

/-
  What the reference's Trim, Bytes, New and Load do is proved here, for all its files, numbers and bytes.
-/
namespace Go.Proofs.Ytiimhenapfejmaa
open Go.RowKit
set_option linter.unusedVariables false
set_option maxRecDepth 100000

section
variable {B : Nat} {w : World} {b : Nat} {s l : Value} {xs ys : List Int} {R : Nat}

set_option maxHeartbeats 2000000 in
theorem rtrim_any (h : Re B w b s l xs ys R) (k : Int) :
    Calls Try.prog 16 #[.pointer (some ⟨b, 0, none⟩), .int .i64 k] w fun e w' =>
      e = .returned (.int .i64 (rtrim k xs ys).1) ∧ Ro B b R s l w (rtrim k xs ys).2.1 (rtrim k xs ys).2.2 w' := by
  have HF := hid h
  have hR := h.lim
  obtain ⟨hl, hl2⟩ := h.len
  obtain ⟨a, c, a2, c2, rfl, rfl, hc, hc2, g0, g1, g2, f0, f1⟩ := h.cells
  clear h
  obtain ⟨N, hN⟩ : ∃ N, xs.length = N := ⟨_, rfl⟩
  obtain ⟨N2, hN2⟩ : ∃ N, ys.length = N := ⟨_, rfl⟩
  have HN := hid hN
  have HN2 := hid hN2
  by_cases h1 : k < 0
  · rw [show rtrim k xs ys = (11, xs, ys) from if_neg (by omega)]
    rw [hN] at hl hc g0 HF ⊢
    rw [hN2] at hl2 hc2 g1 HF ⊢
    clear hN hN2
    have h1' : decide (k < 0) = true := by simpa using h1
    go_enter Try.func16, Try.ntmps16
    go_wp2
    go_quiet (fail)
    go_wp2
    go_ret
    exact ⟨rfl, _, _, HF.out.drewN _, (Rx.refl _ _ _ _).drewN _⟩
  · have h1' : decide (k < 0) = false := by simpa using h1
    by_cases h2 : (N : Int) + N2 < k
    · rw [show rtrim k xs ys = (11, xs, ys) from if_neg (by omega)]
      rw [hN] at hl hc g0 HF ⊢
      rw [hN2] at hl2 hc2 g1 HF ⊢
      clear hN hN2
      go_enter Try.func16, Try.ntmps16
      go_wp2
      go_quiet (fail)
      go_wp2
      go_ret
      exact ⟨rfl, _, _, HF.out.drewN _, (Rx.refl _ _ _ _).drewN _⟩
    · obtain ⟨m, rfl⟩ : ∃ m : Nat, k = m := ⟨k.toNat, by omega⟩
      have h2' : ¬ (N : Int) + N2 < m := h2
      by_cases h3 : (m : Int) ≤ N
      · rw [show rtrim (m : Int) xs ys = (0, xs.take m, []) by unfold rtrim; rw [if_pos (by omega), if_pos (by omega)]; rfl]
        have hm : m ≤ N := by omega
        have hmc : m ≤ c := by omega
        rw [hN] at hl hc g0 HF ⊢
        rw [hN2] at hl2 hc2 g1 HF ⊢
        clear hN hN2
        have hP := HF.out.put0 (w' := w) (s' := .slice a m c) (zs := xs.take m) (HF.out.os.take m (by rw [HN.out]; exact hm)) (Fr.refl _ _) (HF.out.bs.take m) (by rw [List.length_take, HN.out]; omega) (fun k hk => .inl (by cases a <;> exact hk))
        have hQ := hP.1.nil1
        have HQ := hid hQ.1
        have HX := hid (hP.2.trans hQ.2)
        clear hP hQ
        go_enter Try.func16, Try.ntmps16
        go_wp2
        go_quiet (fail)
        go_wp2
        go_ret
        exact ⟨rfl, _, _, HQ.out.drewN _, HX.out.drewN _⟩
      · rw [show rtrim (m : Int) xs ys = (0, xs, ys.take (m - xs.length)) by unfold rtrim; rw [if_pos (by omega), if_neg (by omega)]; rfl]
        obtain ⟨j, hj⟩ : ∃ j, m - N = j := ⟨_, rfl⟩
        have hjm : (m : Int) - N = j := by omega
        rw [hN] at hl hc g0 HF ⊢
        rw [hN2] at hl2 hc2 g1 HF ⊢
        clear hN hN2
        rw [hj]
        have hjc : j ≤ c2 := by omega
        have hj2 : j ≤ N2 := by omega
        clear hj
        have hP := HF.out.put1 (w' := w) (l' := .slice a2 j c2) (zs := ys.take j) (HF.out.ol.take j (by rw [HN2.out]; exact hj2)) (Fr.refl _ _) (HF.out.bl.take j) (by rw [List.length_take, HN2.out]; omega) (fun k hk => .inl (by cases a2 <;> exact hk))
        have HQ := hid hP.1
        have HX := hid hP.2
        clear hP
        go_enter Try.func16, Try.ntmps16
        go_wp2
        go_quiet (fail)
        go_wp2
        go_region
        all_goals
          go_wp2
          go_ret
          exact ⟨rfl, _, _, HQ.out.drewN _, HX.out.drewN _⟩

set_option maxHeartbeats 2000000 in
theorem rbytes_any (h : Re B w b s l xs ys R) :
    Calls Try.prog 20 #[.pointer (some ⟨b, 0, none⟩)] w fun e w' => ∃ v', e = .returned v' ∧ Ow w.heap.size w' v' (xs ++ ys) ∧ Below w.heap.size w w' := by
  have HF := hid h
  have hR := h.lim
  obtain ⟨hl, hl2⟩ := h.len
  obtain ⟨a, c, a2, c2, rfl, rfl, hc, hc2, g0, g1, g2, f0, f1⟩ := h.cells
  clear h
  have hlx : xs.length + ys.length ≤ 140737488355328 := by omega
  go_enter Try.func20, Try.ntmps20
  go_wp2_with fail
  go_region_law (first
    | (go_simp; go_at_call 11; refine (copy_own _ xs w.drew (HF.out.os.bs HF.out.bs) (by omega)).mono ?_; rintro e w2 ⟨g, cap, rfl, ho, hb2⟩; have HO := hid ho; have HB2 : Hid (Below w.heap.size w w2) := ((Below.refl _ w).drew).trans hb2; have HF2 := hid (HF.out.below HB2.out); have g1' : w2.cell? ⟨b, 1, none⟩ = some (.slice a2 ys.length c2) := (World.cell?_of_block (a := ⟨b, 1, none⟩) (hb2.block b HF.out.lt)).trans g1)
    | (refine step_append_bs rfl _ _ rfl w.heap.size _ _ xs rfl HO.out _ ys rfl (HF2.out.ol.bs HF2.out.bl) hlx HB2.out.size ?_; intro v3 w3 hown3 hg3 hv3; rw [← List.length_append] at hown3; have HO3 := hid hown3; have HB3 := hid (Below.grown HB2.out hg3 HB2.out.size (fun k hk => (HO.out.lt k hk).1))))
  all_goals
    go_wp2
    go_ret
    exact ⟨_, rfl, HO3.out, HB3.out⟩

set_option maxHeartbeats 2000000 in
theorem rnew_bad (k : Int) (h : k < 0 ∨ 1048576 < k) : Calls Try.prog 10 #[.int .i64 k] w fun e w' => e = .returned (.tuple #[.pointer none, .int .i64 11]) ∧ w = w' := by
  by_cases h1 : k < 0
  · go_enter Try.func10, Try.ntmps10
    go_wp2
    go_ret2
    exact ⟨rfl, rfl⟩
  · have h1' : decide (k < 0) = false := by simp; omega
    have h2 : (1048576 : Int) < k := by omega
    go_enter Try.func10, Try.ntmps10
    go_wp2
    go_ret2
    exact ⟨rfl, rfl⟩

set_option maxHeartbeats 2000000 in
theorem rnew_ok (R : Nat) (hR : R ≤ 1048576) : Calls Try.prog 10 #[.int .i64 R] w fun e w' =>
    e = .returned (.tuple #[.pointer (some ⟨w.heap.size, 0, none⟩), .int .i64 0]) ∧ Below w.heap.size w w' ∧ Re w.heap.size w' w.heap.size (.slice none 0 0) (.slice none 0 0) [] [] R := by
  have h1 : decide ((R : Int) < 0) = false := by simp
  have h2 : decide ((1048576 : Int) < (R : Int)) = false := by simp; omega
  have HR : Hid (Re w.heap.size (w.alloc (.cells #[.slice none 0 0, .slice none 0 0, .int .i64 R] 44 (0, 0))) w.heap.size (.slice none 0 0) (.slice none 0 0) [] [] R) :=
    ⟨heap_alloc_new w _, Nat.le_refl _, Ow.nil _ _, Ow.nil _ _, Byt.nil, Byt.nil, (fun k hk => by cases hk), ⟨Nat.zero_le _, Nat.zero_le _⟩, hR⟩
  go_enter Try.func10, Try.ntmps10
  go_wp2
  go_ret2
  exact ⟨rfl, ba _ _, HR.out⟩

set_option maxHeartbeats 2000000 in
theorem rload_bad (u : Value) (k : Int) (h : k < 0 ∨ 1048576 < k) : Calls Try.prog 26 #[u, .int .i64 k] w fun e w' => e = .returned (.tuple #[.pointer none, .int .i64 11]) ∧ w = w' := by
  have H := hid h
  clear h
  go_enter Try.func26, Try.ntmps26
  go_wp2_with fail
  refine (rnew_bad k H.out).mono ?_
  rintro e w1 ⟨rfl, rfl⟩
  go_wp2
  go_ret2
  exact ⟨rfl, rfl⟩

set_option maxHeartbeats 2000000 in
theorem rload_full (u : Value) (us : List Int) (R : Nat) (hR : R ≤ 1048576) (hu : Bs w u us) (h : R < us.length) : Calls Try.prog 26 #[u, .int .i64 R] w fun e w' => e = .returned (.tuple #[.pointer none, .int .i64 14]) ∧ Below w.heap.size w w' := by
  obtain ⟨ua, uc, rfl⟩ := hu.form
  obtain ⟨M, hM⟩ : ∃ M, us.length = M := ⟨_, rfl⟩
  rw [hM] at h ⊢
  have h' : (R : Int) < M := by omega
  clear hu hM
  go_enter Try.func26, Try.ntmps26
  go_wp2_with fail
  refine (rnew_ok R hR).mono ?_
  rintro e w1 ⟨rfl, hb, hf⟩
  have HB := hid hb
  clear hb hf
  go_wp2
  go_ret2
  exact ⟨rfl, HB.out⟩

set_option maxHeartbeats 2000000 in
theorem rload_ok (u : Value) (us : List Int) (R : Nat) (hR : R ≤ 1048576) (hu : Bs w u us) (h : us.length ≤ R) : Calls Try.prog 26 #[u, .int .i64 R] w fun e w' =>
    ∃ p : Addr, e = .returned (.tuple #[.pointer (some p), .int .i64 0]) ∧ Below w.heap.size w w' := by
  have HU := hid hu
  obtain ⟨ua, uc, rfl⟩ := hu.form
  obtain ⟨M, hM⟩ : ∃ M, us.length = M := ⟨_, rfl⟩
  have HM := hid hM
  rw [hM] at h HU ⊢
  have h' : ¬ (R : Int) < M := by omega
  clear hu hM
  go_enter Try.func26, Try.ntmps26
  go_wp2_with fail
  refine (rnew_ok R hR).mono ?_
  rintro e w1 ⟨rfl, hb, hf⟩
  have HB := hid hb
  have HF := hid hf
  have hlt := hf.lt
  clear hb hf
  go_wp2_with fail
  refine (copy_own _ us w1 (HU.out.below HB.out) (by rw [HM.out]; omega)).mono ?_
  rintro e w2 ⟨g, cap, rfl, hO, hb⟩
  have hfb := hb.block _ HF.out.lt
  obtain ⟨xa, xc, xa2, xc2, e1, e2, -, -, g0, -, -, f0, -⟩ := HF.out.cells
  clear e1 e2
  have q1 := (World.frozen?_of_block (a := ⟨w.heap.size, 0, none⟩) hfb).trans f0
  have q2 := (World.cell?_of_block (a := ⟨w.heap.size, 0, none⟩) hfb).trans g0
  have HB2 := hid ((HB.out.trans (hb.mono HB.out.size)).setCell (p := ⟨w.heap.size, 0, none⟩) (Nat.le_refl _) (.slice (some ⟨g, 0, none⟩) us.length cap))
  clear hO hb hfb g0 f0
  go_wp2
  go_ret2
  exact ⟨_, rfl, HB2.out⟩
end
end Go.Proofs.Ytiimhenapfejmaa

/-
  Two files that lie apart: what is done to the one leaves the other as it was.
-/
namespace Go.Proofs.Ytiimhenapfejmaa
open Go.RowKit
set_option linter.unusedVariables false
set_option maxRecDepth 100000

/-- The rows lie apart. -/
def Ap (v s l : Value) : Prop := ∀ k, v.ownBlock = some k → s.ownBlock ≠ some k ∧ l.ownBlock ≠ some k

section
variable {B C : Nat} {w w' : World} {b c : Nat} {v v' s l s' l' : Value} {xs ys zs : List Int} {n R : Nat}
theorem step_own (F : Fi B w b v xs n R) (E : Re C w c s l ys zs R) (hne : c ≠ b) (A : Ap v s l) (X : Fx b v v' w w') : Re C w' c s l ys zs R ∧ Ap v' s l := by
  refine ⟨E.of_block (fun k hk => X.block (E.inside hk).2 ?_ ?_), fun k hk => ?_⟩
  · rintro rfl
    rcases hk with rfl | hk | hk
    · exact hne rfl
    · exact E.os.far F.1 (by decide) hk
    · exact E.ol.far F.1 (by decide) hk
  · intro h
    rcases hk with rfl | hk | hk
    · exact F.own.far E.blk (by decide) h
    · exact (A k h).1 hk
    · exact (A k h).2 hk
  · rcases X.2 k hk with h | h
    · exact A k h
    · exact ⟨fun e => by have := (E.os.lt k e).2; omega, fun e => by have := (E.ol.lt k e).2; omega⟩
theorem step_ref (F : Fi B w b v xs n R) (E : Re C w c s l ys zs R) (hne : c ≠ b) (A : Ap v s l) (X : Rx c s l s' l' w w') : Fi B w' b v xs n R ∧ Ap v s' l' := by
  refine ⟨F.of_block (fun k hk => X.fr.block k ?_ ?_), fun k hk => ⟨fun e => ?_, fun e => ?_⟩⟩
  · rcases hk with rfl | hk
    · exact F.lt
    · exact (F.own.lt k hk).2
  · rintro (rfl | h | h)
    · rcases hk with rfl | hk
      · exact hne rfl
      · exact F.own.far E.blk (by decide) hk
    · rcases hk with rfl | hk
      · exact E.os.far F.1 (by decide) h
      · exact (A k hk).1 h
    · rcases hk with rfl | hk
      · exact E.ol.far F.1 (by decide) h
      · exact (A k hk).2 h
  · rcases X.new k (.inl e) with h | h | h
    · exact (A k hk).1 h
    · exact (A k hk).2 h
    · have := (F.own.lt k hk).2; omega
  · rcases X.new k (.inr e) with h | h | h
    · exact (A k hk).1 h
    · exact (A k hk).2 h
    · have := (F.own.lt k hk).2; omega
theorem Fx.kept (X : Fx b v v' w w') (F : Fi B w b v xs n R) {k : Nat} (hk : k < w.heap.size) (hb : k < B ∨ (k ≠ b ∧ v.ownBlock ≠ some k)) : w'.heap[k]? = w.heap[k]? := by
  rcases hb with hb | hb
  · exact X.block hk (by have := F.2.1; omega) (fun e => by have := (F.own.lt k e).1; omega)
  · exact X.block hk hb.1 hb.2
/-- What is written into another block alone leaves both. -/
theorem Fi.apart (F : Fi B w b v xs n R) {g : Nat} (hg : w.grownBy w' (some g)) (h1 : g ≠ b) (h2 : v.ownBlock ≠ some g) : Fi B w' b v xs n R :=
  F.of_block (fun k hk => hg.block k (by
    rcases hk with rfl | hk
    · exact F.lt
    · exact (F.own.lt k hk).2) (by
    simp only [ne_eq, Option.some.injEq]
    rintro rfl
    rcases hk with rfl | hk
    · exact h1 rfl
    · exact h2 hk))
theorem Re.apart (E : Re C w c s l ys zs R) {g : Nat} (hg : w.grownBy w' (some g)) (h1 : g ≠ c) (h2 : s.ownBlock ≠ some g) (h3 : l.ownBlock ≠ some g) : Re C w' c s l ys zs R :=
  E.of_block (fun k hk => hg.block k (E.inside hk).2 (by
    simp only [ne_eq, Option.some.injEq]
    rintro rfl
    rcases hk with rfl | hk | hk
    · exact h1 rfl
    · exact h2 hk
    · exact h3 hk))
end

/-- What is there when a call was copied: its block, the copy's, the copy's bytes. -/
def Cp (wr : World) (q1 q2 : Int) (u : Value) (M : Nat) (us : List Int) (p : Value) (wx : World) : Prop :=
  ∃ (pb g cap : Nat), p = .pointer (some ⟨pb, 0, none⟩) ∧ wr.heap.size < pb ∧ g ≠ pb ∧ wr.heap.size < g ∧ M ≤ cap ∧ wx.heap[wr.heap.size]? = some (.cells #[.int .i64 q1, .int .i64 q2, u] 34 (0, 0)) ∧
    wx.heap[pb]? = some (.cells #[.int .i64 q1, .int .i64 q2, .slice (some ⟨g, 0, none⟩) M cap] 34 (0, 0)) ∧ wx.ownsRow wr.heap.size 5 1 (.slice (some ⟨g, 0, none⟩) M cap) M (cs us) ∧ Below wr.heap.size wr wx
theorem own_mono {w : World} {B C e n : Nat} {v : Value} {xs : List Value} (h : w.ownsRow B e 1 v n xs) (hc : C ≤ B) : w.ownsRow C e 1 v n xs := by
  refine ⟨h.1, ?_⟩
  rcases h.2 with h0 | ⟨g, cap, cur, hv, hg, r⟩
  · exact .inl h0
  · exact .inr ⟨g, cap, cur, hv, Nat.le_trans hc hg, r⟩
theorem own_cap {w : World} {B e n g cap : Nat} {xs : List Value} (h : w.ownsRow B e 1 (.slice (some ⟨g, 0, none⟩) n cap) n xs) : n ≤ cap := by
  obtain ⟨a, c, e, hl⟩ := own_form h
  simp only [Value.slice.injEq] at e
  omega
/-- The copy's block was made last. -/
theorem made_a {wr w5 w6 : World} {q1 q2 : Int} {u : Value} {g cap M : Nat} {us : List Int} (B5 : Below wr.heap.size wr w5) (HS : w5.heap.size = wr.heap.size + 1) (HO : w6.ownsRow w5.heap.size 5 1 (.slice (some ⟨g, 0, none⟩) M cap) M (cs us))
    (HB : Below w5.heap.size w5.drew w6) (HQ : w6.heap[wr.heap.size]? = some (.cells #[.int .i64 q1, .int .i64 q2, u] 34 (0, 0))) :
    Cp wr q1 q2 u M us (.pointer (some ⟨w6.heap.size, 0, none⟩)) (w6.alloc (.cells #[.int .i64 q1, .int .i64 q2, .slice (some ⟨g, 0, none⟩) M cap] 34)) := by
  have hs : w5.heap.size ≤ w6.heap.size := HB.size
  have hg := HO.lt g rfl
  have HB' : Below w5.heap.size w5 w6 := ((Below.refl _ w5).drew).trans HB
  have hw : Below wr.heap.size wr w6 := B5.trans (HB'.mono (by omega))
  refine ⟨w6.heap.size, g, cap, rfl, by omega, by omega, by omega, own_cap HO, ?_, heap_alloc_new w6 _, own_mono (own_below HO (ba w6 _)) (by omega), hw.trans ((ba w6 _).mono (by omega))⟩
  rw [Below.heap_alloc _ _ _ (by omega)]; exact HQ
/-- The copy's block was made first. -/
theorem made_b {wr w5 w6 : World} {q1 q2 : Int} {u : Value} {g cap M : Nat} {us : List Int} {O : Obj} (B5 : Below wr.heap.size wr w5) (HS : w5.heap.size = wr.heap.size + 1) (HO : w6.ownsRow (w5.alloc O).heap.size 5 1 (.slice (some ⟨g, 0, none⟩) M cap) M (cs us))
    (HB : Below (w5.alloc O).heap.size (w5.alloc O).drew w6) (HQ : w6.heap[wr.heap.size]? = some (.cells #[.int .i64 q1, .int .i64 q2, u] 34 (0, 0))) (HZ : w6.heap[w5.heap.size]? = some (.cells #[.int .i64 0, .int .i64 0, .slice none 0 0] 34 (0, 0))) :
    Cp wr q1 q2 u M us (.pointer (some ⟨w5.heap.size, 0, none⟩)) (((w6.setCell ⟨w5.heap.size, 0, none⟩ (.int .i64 q1)).setCell ⟨w5.heap.size, 1, none⟩ (.int .i64 q2)).setCell ⟨w5.heap.size, 2, none⟩ (.slice (some ⟨g, 0, none⟩) M cap)) := by
  have hsz : (w5.alloc O).heap.size = w5.heap.size + 1 := by simp
  have hs := HB.size
  have hs' : w5.heap.size + 1 ≤ w6.heap.size := by rw [← hsz]; exact hs
  have hg := HO.lt g rfl
  rw [hsz] at hg
  have HB' : Below (w5.alloc O).heap.size (w5.alloc O) w6 := ((Below.refl _ (w5.alloc O)).drew).trans HB
  have hw : Below wr.heap.size wr w6 := (B5.trans ((ba w5 O).mono (by omega))).trans (HB'.mono (by rw [hsz]; omega))
  have k1 := heap_setCell_same w6 w5.heap.size 0 _ _ (.int .i64 q1) HZ
  have k2 := heap_setCell_same _ w5.heap.size 1 _ _ (.int .i64 q2) k1
  have k3 := heap_setCell_same _ w5.heap.size 2 _ _ (.slice (some ⟨g, 0, none⟩) M cap) k2
  have hne : (Value.slice (some ⟨g, 0, none⟩) M cap).ownBlock ≠ some w5.heap.size := by simp [Value.ownBlock]; omega
  refine ⟨w5.heap.size, g, cap, rfl, by omega, by omega, by omega, own_cap HO, ?_, ?_, own_mono (ownsRow_setCell_other (ownsRow_setCell_other (ownsRow_setCell_other HO hne _) hne _) hne _) (by rw [hsz]; omega), ((hw.setCell (p := ⟨w5.heap.size, 0, none⟩) (by show _ ≤ w5.heap.size; omega) _).setCell (p := ⟨w5.heap.size, 1, none⟩) (by show _ ≤ w5.heap.size; omega) _).setCell (p := ⟨w5.heap.size, 2, none⟩) (by show _ ≤ w5.heap.size; omega) _⟩
  · rw [Below.heap_setCell _ _ _ _ (by show _ ≠ w5.heap.size; omega), Below.heap_setCell _ _ _ _ (by show _ ≠ w5.heap.size; omega), Below.heap_setCell _ _ _ _ (by show _ ≠ w5.heap.size; omega)]; exact HQ
  · rw [k3]; simp
end Go.Proofs.Ytiimhenapfejmaa

/-
  That offshootref00.SameBytes tells whether two lists of bytes are one is proved here, for all slices that read as bytes.
-/
namespace Go.Proofs.Ytiimhenapfejmaa
open Go.RowKit
set_option linter.unusedVariables false
set_option maxRecDepth 100000

theorem take_step {xs ys : List Int} {k : Nat} (h1 : k < xs.length) (h2 : k < ys.length) (h : xs.take k = ys.take k) (he : xs.getD k 0 = ys.getD k 0) : xs.take (k + 1) = ys.take (k + 1) := by
  rw [List.take_succ_eq_append_getElem h1, List.take_succ_eq_append_getElem h2, h]
  simp [List.getD, h1, h2] at he
  rw [he]
theorem not_eq_of_at {xs ys : List Int} {k : Nat} (he : xs.getD k 0 ≠ ys.getD k 0) : xs ≠ ys := by
  intro e; exact he (by rw [e])

set_option maxHeartbeats 1000000 in
theorem same_any (a b : Value) (xs ys : List Int) (w : World) (h1 : Bs w a xs) (h2 : Bs w b ys) :
    Calls Try.prog 18 #[a, b] w fun e w' => e = .returned (.bool (decide (xs = ys))) ∧ ∃ n, w' = w.drewN n := by
  have l1 := h1.len
  have l2 := h2.len
  unfold maxLen at l1 l2
  by_cases hl : xs.length = ys.length
  · by_cases hz : xs.length = 0
    · have e1 : xs = [] := List.eq_nil_of_length_eq_zero hz
      have e2 : ys = [] := List.eq_nil_of_length_eq_zero (by omega)
      subst e1 e2
      obtain ⟨a1, c1, rfl, _⟩ := h1.inv_nil
      obtain ⟨a2, c2, rfl, _⟩ := h2.inv_nil
      clear h1 h2 l1 l2 hl hz
      go_enter Try.func18, Try.ntmps18
      go_wp2
      refine wp_loop_rounds 1 ?_
      rw [rounds_succ]
      go_wp2
      go_ret
      exact ⟨rfl, 0, rfl⟩
    · obtain ⟨b1, o1, c1, rfl, _, _, hc1⟩ := h1.inv (by omega)
      obtain ⟨b2, o2, c2, rfl, _, _, hc2⟩ := h2.inv (by omega)
      rw [← hl]
      obtain ⟨n, hn⟩ : ∃ n, xs.length = n := ⟨_, rfl⟩
      have HL : Hid (ys.length = n) := by rw [← hl]; exact hn
      have HN : Hid (xs.length = n) := hn
      rw [hn]
      rw [hn] at hz l1
      clear hn hl h1 h2
      have hnn : ((n : Int) != (n : Int)) = false := by simp
      go_enter Try.func18, Try.ntmps18
      go_wp2
      go_loopw [5] (fun i wr => ∃ k m : Nat, k ≤ n ∧ i = .int .i64 k ∧ wr = w.drewN m ∧ xs.take k = ys.take k) (fun i _ => n - (intOf i).toNat)
      case atStart => exact ⟨0, 0, Nat.zero_le _, rfl, rfl, by simp⟩
      case round =>
        obtain ⟨k, m, hk, rfl, rfl, ht⟩ := hrel
        have HT := hid ht
        clear ht
        by_cases hlt : k < n
        · have g1 := hc1 k (by have := HN.out; omega)
          have g2 := hc2 k (by have := HL.out; omega)
          clear hc1 hc2
          have b1' : (k : Int) < (n : Int) := by omega
          go_wp2
          go_quiet (fail)
          by_cases he : xs.getD k 0 = ys.getD k 0
          · have he' : (xs[k]?.getD 0 != ys[k]?.getD 0) = false := by simpa [List.getD] using he
            have HE := hid he
            clear he
            go_wp2
            go_roundw
            case rel => exact ⟨k + 1, _, by omega, by go_num, rfl, take_step (by have := HN.out; omega) (by have := HL.out; omega) HT.out HE.out⟩
            case measure => simp [intOf]; omega
          · have he' : (xs[k]?.getD 0 != ys[k]?.getD 0) = true := by simpa [List.getD] using he
            have HE := hid he
            clear he
            go_wp2
            go_ret
            exact ⟨by rw [decide_eq_false (not_eq_of_at HE.out)]; rfl, _, World.drewN_drewN _ _ _⟩
        · clear hc1 hc2
          go_wp2
          go_ret
          refine ⟨?_, _, rfl⟩
          have e1 : k = n := by omega
          have h3 := HT.out
          rw [List.take_of_length_le (by have := HN.out; omega), List.take_of_length_le (by have := HL.out; omega)] at h3
          rw [decide_eq_true h3]; rfl
  · have hne : ((xs.length : Int) != (ys.length : Int)) = true := by simp; omega
    obtain ⟨a1, c1, rfl, _⟩ := h1
    obtain ⟨a2, c2, rfl, _⟩ := h2
    go_enter Try.func18, Try.ntmps18
    go_wp2
    go_ret
    exact ⟨by rw [decide_eq_false (by intro e; exact hl (by rw [e]))]; rfl, 0, rfl⟩


theorem same_b (a b : Value) (xs ys : List Int) (w : World) (h1 : Bs w a xs) (h2 : Bs w b ys) :
    Calls Try.prog 18 #[a, b] w fun e w' => e = .returned (.bool (decide (xs = ys))) ∧ Below w.heap.size w w' :=
  (same_any a b xs ys w h1 h2).mono fun _ _ ⟨he, n, hw⟩ => ⟨he, by rw [hw]; exact bd w n⟩

end Go.Proofs.Ytiimhenapfejmaa

/-
  Steps of regions whose order is drawn, each operation by what it comes to: for regions that are laid as definitions.
-/
namespace Go.Proofs.Ytiimhenapfejmaa
open Go.RowKit
set_option linter.unusedVariables false
set_option maxRecDepth 100000

section
variable {P : Program} {ops : Array Oper} {C : World → Prop} {Q : Act → Prop} {o : Oper} {rest : List Oper} {a : Act}
theorem qs_call {f : FuncId} {args : Array Value} (v : Value) (a' : Act) (hw : Region.wanted o (yielded ops a.tmps) = true) (hrun : ∀ W, (execOp a.eval o).run P W = .ok (.enter f args) W)
    (hc : ∀ W, C W → Calls P f args W fun e W' => e = .returned v ∧ C W') (ha : a.put o.dst v = a') (hk : wpQuiet P ops C Q rest a') : wpQuiet P ops C Q (o :: rest) a :=
  BigFrame.wpQuiet_want hw fun K hK => ⟨v, fun W hW => by unfold Oper.quietAt; rw [hrun]; exact ⟨rfl, hc W hW⟩, hK _ (by rw [ha]; exact hk)⟩
theorem qs_val (v : Value) (a' : Act) (hw : Region.wanted o (yielded ops a.tmps) = true) (hrun : ∀ W, C W → (execOp a.eval o).run P W = .ok (.value v) W) (ha : a.put o.dst v = a') (hk : wpQuiet P ops C Q rest a') : wpQuiet P ops C Q (o :: rest) a :=
  BigFrame.wpQuiet_want hw fun K hK => ⟨v, fun W hW => by unfold Oper.quietAt; rw [hrun W hW]; exact ⟨rfl, rfl⟩, hK _ (by rw [ha]; exact hk)⟩
end
section
variable {P : Program} {md : Region.Mode} {ops : Array Oper} {Q : Exit → Act → World → Prop} {fuel : Nat} {listed : Array Bool} {a : Act} {w : World} {o : Oper}
theorem as_val {i : Nat} (v : Value) (a' : Act) (hi : ops[i]? = some o) (hr : Region.ready md ops listed = [i]) (hw : Region.wanted o (yielded ops a.tmps) = true) (hrun : (execOp a.eval o).run P w = .ok (.value v) w) (ha : a.put o.dst v = a')
    (h : wpAny P md ops Q fuel (listed.setIfInBounds i true) a' w) : wpAny P md ops Q (fuel + 1) listed a w :=
  wpAny_ready hr (by simp) (AllReady.cons hi (fun K hK => by rw [if_pos hw]; unfold Oper.wp; rw [hrun]; refine hK _ _ ?_; rw [ha]; exact h) AllReady.nil)
theorem as_call {i : Nat} {f : FuncId} {args : Array Value} {D : World → Prop} (v : Value) (a' : Act) (hi : ops[i]? = some o) (hr : Region.ready md ops listed = [i]) (hw : Region.wanted o (yielded ops a.tmps) = true) (hrun : (execOp a.eval o).run P w = .ok (.enter f args) w)
    (hc : Calls P f args w fun e w' => e = .returned v ∧ D w') (ha : a.put o.dst v = a') (h : ∀ w', D w' → wpAny P md ops Q fuel (listed.setIfInBounds i true) a' w') : wpAny P md ops Q (fuel + 1) listed a w :=
  wpAny_ready hr (by simp) (AllReady.cons hi (fun K hK => by rw [if_pos hw]; unfold Oper.wp; rw [hrun]; exact hc.mono fun e w' ⟨he, hd⟩ => by subst he; refine hK _ _ ?_; rw [ha]; exact h w' hd) AllReady.nil)
theorem as_new {i : Nat} {w' : World} (v : Value) (a' : Act) (hi : ops[i]? = some o) (hr : Region.ready md ops listed = [i]) (hw : Region.wanted o (yielded ops a.tmps) = true) (hrun : (execOp a.eval o).run P w = .ok (.value v) w') (ha : a.put o.dst v = a')
    (h : wpAny P md ops Q fuel (listed.setIfInBounds i true) a' w') : wpAny P md ops Q (fuel + 1) listed a w :=
  wpAny_ready hr (by simp) (AllReady.cons hi (fun K hK => by rw [if_pos hw]; unfold Oper.wp; rw [hrun]; refine hK _ _ ?_; rw [ha]; exact h) AllReady.nil)
end

section
variable {P : Program} {md : Region.Mode} {ops : Array Oper} {Q : Exit → Act → World → Prop} {fuel : Nat} {listed : Array Bool} {a : Act} {w : World} {o : Oper}
/-- A call whose value isn't known ahead. -/
theorem as_callx {i : Nat} {f : FuncId} {args : Array Value} {D : Value → World → Prop} (hi : ops[i]? = some o) (hr : Region.ready md ops listed = [i]) (hw : Region.wanted o (yielded ops a.tmps) = true) (hrun : (execOp a.eval o).run P w = .ok (.enter f args) w)
    (hc : Calls P f args w fun e w' => ∃ v, e = .returned v ∧ D v w') (h : ∀ v w', D v w' → wpAny P md ops Q fuel (listed.setIfInBounds i true) (a.put o.dst v) w') : wpAny P md ops Q (fuel + 1) listed a w :=
  wpAny_ready hr (by simp) (AllReady.cons hi (fun K hK => by rw [if_pos hw]; unfold Oper.wp; rw [hrun]; exact hc.mono fun e w' ⟨v, he, hd⟩ => by subst he; exact hK _ _ (h v w' hd)) AllReady.nil)
end

end Go.Proofs.Ytiimhenapfejmaa

/-
  Steps of a region whose order is drawn, under a condition on the world that each step keeps.
-/
namespace Go.Proofs.Ytiimhenapfejmaa
open Go.RowKit
set_option linter.unusedVariables false
set_option maxRecDepth 100000

section
variable {P : Program} {ops : Array Oper} {Q : Exit → Act → World → Prop} {o : Oper} {a : Act} {w : World} {K : Act → World → Prop}
theorem hb_callx {i : Nat} {f : FuncId} {args : Array Value} {D : Value → World → Prop} (hi : ops[i]? = some o) (hw : Region.wanted o (yielded ops a.tmps) = true) (hrun : (execOp a.eval o).run P w = .ok (.enter f args) w)
    (hc : Calls P f args w fun e w' => ∃ v, e = .returned v ∧ D v w') (h : ∀ v w', D v w' → K (a.put o.dst v) w') : wpOp P ops Q i K a w :=
  wpOp_step hi fun K' hK => by rw [if_pos hw]; unfold Oper.wp; rw [hrun]; exact hc.mono fun e w' ⟨v, he, hd⟩ => by subst he; exact hK _ _ (h v w' hd)
theorem hb_new {i : Nat} {w' : World} {v : Value} (hi : ops[i]? = some o) (hw : Region.wanted o (yielded ops a.tmps) = true) (hrun : (execOp a.eval o).run P w = .ok (.value v) w') (h : K (a.put o.dst v) w') : wpOp P ops Q i K a w :=
  wpOp_step hi fun K' hK => by rw [if_pos hw]; unfold Oper.wp; rw [hrun]; exact hK _ _ h
theorem hb_skip {i : Nat} {w' : World} (hi : ops[i]? = some o) (hw : Region.wanted o (yielded ops a.tmps) = true) (hrun : (execOp a.eval o).run P w = .ok .skip w') (h : K (a.put o.dst undef) w') : wpOp P ops Q i K a w :=
  wpOp_step hi fun K' hK => by rw [if_pos hw]; unfold Oper.wp; rw [hrun]; exact hK _ _ h
end

end Go.Proofs.Ytiimhenapfejmaa

/-
  The region of FileCalls in which a call is copied, whose order is drawn, is walked here: the block is made ahead of the copy or behind it.
-/
namespace Go.Proofs.Ytiimhenapfejmaa
open Go.RowKit
set_option linter.unusedVariables false
set_option maxRecDepth 100000

def ca0 : Oper := { dst := some 57, op := Op.fieldAddr 34 (Operand.tmp 10) 0, type := 0, pos := "law.go:76", after := #[], guard := none }
def ca1 : Oper := { dst := some 58, op := Op.load 3 (Operand.tmp 57), type := 3, pos := "law.go:76", after := #[{ on := 0, ground := Ground.data }], guard := none }
def ca2 : Oper := { dst := some 59, op := Op.fieldAddr 34 (Operand.tmp 10) 1, type := 0, pos := "law.go:76", after := #[], guard := none }
def ca3 : Oper := { dst := some 60, op := Op.load 3 (Operand.tmp 59), type := 3, pos := "law.go:76", after := #[{ on := 2, ground := Ground.data }], guard := none }
def ca4 : Oper := { dst := some 61, op := Op.fieldAddr 34 (Operand.tmp 10) 2, type := 0, pos := "law.go:76", after := #[], guard := none }
def ca5 : Oper := { dst := some 62, op := Op.load 32 (Operand.tmp 61), type := 32, pos := "law.go:76", after := #[{ on := 4, ground := Ground.data }], guard := none }
def ca6 : Oper := { dst := some 63, op := Op.call { callee := Callee.value (Operand.func 11), args := #[Operand.tmp 62], argTypes := #[32] }, type := 32, pos := "law.go:76", after := #[{ on := 5, ground := Ground.data }], guard := none }
def ca7 : Oper := { dst := some 64, op := Op.build 34 #[(0, Operand.tmp 58), (1, Operand.tmp 60), (2, Operand.tmp 63)], type := 34, pos := "law.go:76", after := #[{ on := 1, ground := Ground.data }, { on := 3, ground := Ground.data }, { on := 6, ground := Ground.data }], guard := none }
def ca8 : Oper := { dst := some 11, op := Op.alloc 34, type := 0, pos := "law.go:76", after := #[], guard := none }
def ca9 : Oper := { dst := none, op := Op.store 34 (Operand.tmp 11) (Operand.tmp 64), type := 0, pos := "law.go:76", after := #[{ on := 8, ground := Ground.data }, { on := 7, ground := Ground.data }, { on := 6, ground := Ground.chain }, { on := 0, ground := Ground.phase }, { on := 1, ground := Ground.phase }, { on := 2, ground := Ground.phase }, { on := 3, ground := Ground.phase }, { on := 4, ground := Ground.phase }, { on := 5, ground := Ground.phase }, { on := 6, ground := Ground.phase }, { on := 7, ground := Ground.phase }, { on := 8, ground := Ground.phase }], guard := none }
def cas : Array Oper := #[ca0, ca1, ca2, ca3, ca4, ca5, ca6, ca7, ca8, ca9]
theorem ca_lit : Region.noSelect cas = true := by kernel_rfl

theorem run_ld {o : Oper} {a : Act} {x : Operand} {b i : Nat} {k : Int} {W : World} (ho : o.op = .load 3 x) (hx : a.eval x = .pointer (some ⟨b, i, none⟩)) (h : W.cell? ⟨b, i, none⟩ = some (.int .i64 k)) : (execOp a.eval o).run Try.prog W = .ok (.value (.int .i64 k)) W := by
  unfold execOp
  simp only [ho, hx]
  simp [go_sem, h]
theorem run_lds {o : Oper} {a : Act} {x : Operand} {b i : Nat} {v : Value} {W : World} (ho : o.op = .load 32 x) (hx : a.eval x = .pointer (some ⟨b, i, none⟩)) (h : W.cell? ⟨b, i, none⟩ = some v) : (execOp a.eval o).run Try.prog W = .ok (.value v) W := by
  unfold execOp
  simp only [ho, hx]
  simp [go_sem, h]
theorem run_al {o : Oper} {a : Act} {W : World} (ho : o.op = .alloc 34) : (execOp a.eval o).run Try.prog W = .ok (.value (.pointer (some ⟨W.heap.size, 0, none⟩))) (W.alloc (.cells #[.int .i64 0, .int .i64 0, .slice none 0 0] 34 (0, 0))) := by
  unfold execOp
  simp only [ho]
  kernel_rfl
theorem run_st3 {o : Oper} {a : Act} {x y : Operand} {b : Nat} {v0 v1 : Int} {va : Option Addr} {vn vc : Nat} {W : World} (ho : o.op = .store 34 x y) (hx : a.eval x = .pointer (some ⟨b, 0, none⟩)) (hy : a.eval y = .agg #[.int .i64 v0, .int .i64 v1, .slice va vn vc])
    (h : W.heap[b]? = some (.cells #[.int .i64 0, .int .i64 0, .slice none 0 0] 34 (0, 0))) : (execOp a.eval o).run Try.prog W = .ok .skip (((W.setCell ⟨b, 0, none⟩ (.int .i64 v0)).setCell ⟨b, 1, none⟩ (.int .i64 v1)).setCell ⟨b, 2, none⟩ (.slice va vn vc)) := by
  have c0 := cell_of_row W b 0 _ _ _ h
  have c1 := cell_of_row W b 1 _ _ _ h
  have c2 := cell_of_row W b 2 _ _ _ h
  have f0 := frozen_of_row W b 0 _ _ h
  have f1 := frozen_of_row W b 1 _ _ h
  have f2 := frozen_of_row W b 2 _ _ h
  simp only [List.getElem?_toArray, List.getElem?_cons_zero, List.getElem?_cons_succ] at c0 c1 c2
  unfold execOp
  simp only [ho, hx, hy]
  simp [go_sem, c0, c1, c2, f0, f1, f2]
theorem Cp.keeps {wr : World} {q1 q2 : Int} {u : Value} {M p : Nat} {us : List Int} {pv : Value} {W : World} (h : Cp wr q1 q2 u M us pv W) (hp : wr.heap.size = p := by assumption) : W.heap[p]? = some (.cells #[.int .i64 q1, .int .i64 q2, u] 34 (0, 0)) := by
  obtain ⟨_, _, _, _, _, _, _, _, h, _⟩ := h
  rw [← hp]; exact h
theorem made {wr W : World} {q1 q2 : Int} {u : Value} {g cap M p pb : Nat} {us : List Int} (hp : wr.heap.size = p) (HQ : W.heap[p]? = some (.cells #[.int .i64 q1, .int .i64 q2, u] 34 (0, 0))) (HZ : W.heap[pb]? = some (.cells #[.int .i64 0, .int .i64 0, .slice none 0 0] 34 (0, 0))) (HO : W.ownsRow (p + 1) 5 1 (.slice (some ⟨g, 0, none⟩) M cap) M (cs us))
    (h1 : p < pb) (h2 : g ≠ pb) (h3 : M ≤ cap) (B : Below p wr W) : Cp wr q1 q2 u M us (.pointer (some ⟨pb, 0, none⟩)) (((W.setCell ⟨pb, 0, none⟩ (.int .i64 q1)).setCell ⟨pb, 1, none⟩ (.int .i64 q2)).setCell ⟨pb, 2, none⟩ (.slice (some ⟨g, 0, none⟩) M cap)) := by
  have hg := HO.lt g rfl
  have k1 := heap_setCell_same W pb 0 _ _ (.int .i64 q1) HZ
  have k2 := heap_setCell_same _ pb 1 _ _ (.int .i64 q2) k1
  have k3 := heap_setCell_same _ pb 2 _ _ (.slice (some ⟨g, 0, none⟩) M cap) k2
  have hne : (Value.slice (some ⟨g, 0, none⟩) M cap).ownBlock ≠ some pb := by simp [Value.ownBlock]; omega
  subst hp
  refine ⟨pb, g, cap, rfl, h1, h2, by omega, h3, ?_, ?_, own_mono (ownsRow_setCell_other (ownsRow_setCell_other (ownsRow_setCell_other HO hne _) hne _) hne _) (by omega), ((B.setCell (p := ⟨pb, 0, none⟩) (by show _ ≤ pb; omega) _).setCell (p := ⟨pb, 1, none⟩) (by show _ ≤ pb; omega) _).setCell (p := ⟨pb, 2, none⟩) (by show _ ≤ pb; omega) _⟩
  · rw [Below.heap_setCell _ _ _ _ (by show _ ≠ pb; omega), Below.heap_setCell _ _ _ _ (by show _ ≠ pb; omega), Below.heap_setCell _ _ _ _ (by show _ ≠ pb; omega)]; exact HQ
  · rw [k3]; simp

set_option maxHeartbeats 4000000 in
theorem region_a {wr w5 : World} {p M : Nat} {q1 q2 : Int} {u : Value} {us : List Int} {x0 x1 x2 x3 x4 x5 x6 x7 x8 x9 x11 x12 x13 x14 x15 x16 x17 x18 x19 x20 x21 x22 x23 x24 x25 x26 x27 x28 x29 x30 x31 x32 x33 x34 x35 x36 x37 x38 x39 x40 x41 x42 x43 x44 x45 x46 x47 x48 x49 x50 x51 x52 x53 x54 x55 x56 x57 x58 x59 x60 x61 x62 x63 x64 x65 x66 x67 x68 x69 x70 x71 x72 x73 x74 x75 x76 x77 x78 x79 x80 x81 x82 x83 x84 x85 x86 x87 x88 x89 x90 x91 x92 x93 x94 x95 x96 x97 x98 x99 x100 x101 x102 x103 x104 x105 x106 x107 x108 x109 x110 x111 x112 x113 x114 x115 x116 x117 x118 x119 x120 x121 x122 x123 x124 x125 x126 x127 x128 x129 x130 x131 x132 x133 x134 x135 x136 x137 x138 x139 x140 x141 x142 x143 x144 x145 x146 x147 x148 x149 x150 x151 x152 x153 : Value} {Q : Exit → Act → World → Prop} (hpw : wr.heap.size = p) (B5 : Below p wr w5) (hlt : p < w5.heap.size) (h5 : w5.heap[p]? = some (.cells #[.int .i64 q1, .int .i64 q2, u] 34 (0, 0))) (hu : Bs w5 u us) (hM : us.length = M) (hlm : M ≤ 140737488355328)
    (hP : ∀ c t t' d W, Q (.panic c) { tmps := t, defers := d } W → Q (.panic c) { tmps := t', defers := d } W)
    (hQ : ∀ pv s63 s64 W, Cp wr q1 q2 u M us pv W → Q .normal { tmps := #[x0, x1, x2, x3, x4, x5, x6, x7, x8, x9, .pointer (some ⟨p, 0, none⟩), pv, x12, x13, x14, x15, x16, x17, x18, x19, x20, x21, x22, x23, x24, x25, x26, x27, x28, x29, x30, x31, x32, x33, x34, x35, x36, x37, x38, x39, x40, x41, x42, x43, x44, x45, x46, x47, x48, x49, x50, x51, x52, x53, x54, x55, x56, .pointer (some ⟨p, 0, none⟩), .int .i64 q1, .pointer (some ⟨p, 1, none⟩), .int .i64 q2, .pointer (some ⟨p, 2, none⟩), u, s63, s64, x65, x66, x67, x68, x69, x70, x71, x72, x73, x74, x75, x76, x77, x78, x79, x80, x81, x82, x83, x84, x85, x86, x87, x88, x89, x90, x91, x92, x93, x94, x95, x96, x97, x98, x99, x100, x101, x102, x103, x104, x105, x106, x107, x108, x109, x110, x111, x112, x113, x114, x115, x116, x117, x118, x119, x120, x121, x122, x123, x124, x125, x126, x127, x128, x129, x130, x131, x132, x133, x134, x135, x136, x137, x138, x139, x140, x141, x142, x143, x144, x145, x146, x147, x148, x149, x150, x151, x152, x153], defers := [] } W) : (Code.region 13 cas true).wp Try.prog Q { tmps := #[x0, x1, x2, x3, x4, x5, x6, x7, x8, x9, .pointer (some ⟨p, 0, none⟩), x11, x12, x13, x14, x15, x16, x17, x18, x19, x20, x21, x22, x23, x24, x25, x26, x27, x28, x29, x30, x31, x32, x33, x34, x35, x36, x37, x38, x39, x40, x41, x42, x43, x44, x45, x46, x47, x48, x49, x50, x51, x52, x53, x54, x55, x56, x57, x58, x59, x60, x61, x62, x63, x64, x65, x66, x67, x68, x69, x70, x71, x72, x73, x74, x75, x76, x77, x78, x79, x80, x81, x82, x83, x84, x85, x86, x87, x88, x89, x90, x91, x92, x93, x94, x95, x96, x97, x98, x99, x100, x101, x102, x103, x104, x105, x106, x107, x108, x109, x110, x111, x112, x113, x114, x115, x116, x117, x118, x119, x120, x121, x122, x123, x124, x125, x126, x127, x128, x129, x130, x131, x132, x133, x134, x135, x136, x137, x138, x139, x140, x141, x142, x143, x144, x145, x146, x147, x148, x149, x150, x151, x152, x153], defers := [] } w5 := by
  refine wp_region_held (S := fun W => W.heap[p]? = some (.cells #[.int .i64 q1, .int .i64 q2, u] 34 (0, 0))) (by kernel_rfl) ?_
  change wpAnyH _ _ _ _ _ 10 _ _ (World.drew _)
  have hS : (World.drew w5).heap[p]? = some (.cells #[.int .i64 q1, .int .i64 q2, u] 34 (0, 0)) := h5
  refine wpAnyH_take (i := 0) (oi := ca0) (v := .pointer (some ⟨p, 0, none⟩)) (by kernel_rfl) ca_lit (by kernel_rfl) (by kernel_rfl) (fun c a W h => hP c _ _ _ W h) (Or.inl ⟨by kernel_rfl, fun W hW => by kernel_rfl⟩) hS ?_
  rw [show Act.put _ ca0.dst _ = { tmps := #[x0, x1, x2, x3, x4, x5, x6, x7, x8, x9, .pointer (some ⟨p, 0, none⟩), x11, x12, x13, x14, x15, x16, x17, x18, x19, x20, x21, x22, x23, x24, x25, x26, x27, x28, x29, x30, x31, x32, x33, x34, x35, x36, x37, x38, x39, x40, x41, x42, x43, x44, x45, x46, x47, x48, x49, x50, x51, x52, x53, x54, x55, x56, .pointer (some ⟨p, 0, none⟩), x58, x59, x60, x61, x62, x63, x64, x65, x66, x67, x68, x69, x70, x71, x72, x73, x74, x75, x76, x77, x78, x79, x80, x81, x82, x83, x84, x85, x86, x87, x88, x89, x90, x91, x92, x93, x94, x95, x96, x97, x98, x99, x100, x101, x102, x103, x104, x105, x106, x107, x108, x109, x110, x111, x112, x113, x114, x115, x116, x117, x118, x119, x120, x121, x122, x123, x124, x125, x126, x127, x128, x129, x130, x131, x132, x133, x134, x135, x136, x137, x138, x139, x140, x141, x142, x143, x144, x145, x146, x147, x148, x149, x150, x151, x152, x153], defers := [] } from by kernel_rfl]
  refine wpAnyH_take (i := 2) (oi := ca2) (v := .pointer (some ⟨p, 1, none⟩)) (by kernel_rfl) ca_lit (by kernel_rfl) (by kernel_rfl) (fun c a W h => hP c _ _ _ W h) (Or.inl ⟨by kernel_rfl, fun W hW => by kernel_rfl⟩) hS ?_
  rw [show Act.put _ ca2.dst _ = { tmps := #[x0, x1, x2, x3, x4, x5, x6, x7, x8, x9, .pointer (some ⟨p, 0, none⟩), x11, x12, x13, x14, x15, x16, x17, x18, x19, x20, x21, x22, x23, x24, x25, x26, x27, x28, x29, x30, x31, x32, x33, x34, x35, x36, x37, x38, x39, x40, x41, x42, x43, x44, x45, x46, x47, x48, x49, x50, x51, x52, x53, x54, x55, x56, .pointer (some ⟨p, 0, none⟩), x58, .pointer (some ⟨p, 1, none⟩), x60, x61, x62, x63, x64, x65, x66, x67, x68, x69, x70, x71, x72, x73, x74, x75, x76, x77, x78, x79, x80, x81, x82, x83, x84, x85, x86, x87, x88, x89, x90, x91, x92, x93, x94, x95, x96, x97, x98, x99, x100, x101, x102, x103, x104, x105, x106, x107, x108, x109, x110, x111, x112, x113, x114, x115, x116, x117, x118, x119, x120, x121, x122, x123, x124, x125, x126, x127, x128, x129, x130, x131, x132, x133, x134, x135, x136, x137, x138, x139, x140, x141, x142, x143, x144, x145, x146, x147, x148, x149, x150, x151, x152, x153], defers := [] } from by kernel_rfl]
  refine wpAnyH_take (i := 4) (oi := ca4) (v := .pointer (some ⟨p, 2, none⟩)) (by kernel_rfl) ca_lit (by kernel_rfl) (by kernel_rfl) (fun c a W h => hP c _ _ _ W h) (Or.inl ⟨by kernel_rfl, fun W hW => by kernel_rfl⟩) hS ?_
  rw [show Act.put _ ca4.dst _ = { tmps := #[x0, x1, x2, x3, x4, x5, x6, x7, x8, x9, .pointer (some ⟨p, 0, none⟩), x11, x12, x13, x14, x15, x16, x17, x18, x19, x20, x21, x22, x23, x24, x25, x26, x27, x28, x29, x30, x31, x32, x33, x34, x35, x36, x37, x38, x39, x40, x41, x42, x43, x44, x45, x46, x47, x48, x49, x50, x51, x52, x53, x54, x55, x56, .pointer (some ⟨p, 0, none⟩), x58, .pointer (some ⟨p, 1, none⟩), x60, .pointer (some ⟨p, 2, none⟩), x62, x63, x64, x65, x66, x67, x68, x69, x70, x71, x72, x73, x74, x75, x76, x77, x78, x79, x80, x81, x82, x83, x84, x85, x86, x87, x88, x89, x90, x91, x92, x93, x94, x95, x96, x97, x98, x99, x100, x101, x102, x103, x104, x105, x106, x107, x108, x109, x110, x111, x112, x113, x114, x115, x116, x117, x118, x119, x120, x121, x122, x123, x124, x125, x126, x127, x128, x129, x130, x131, x132, x133, x134, x135, x136, x137, x138, x139, x140, x141, x142, x143, x144, x145, x146, x147, x148, x149, x150, x151, x152, x153], defers := [] } from by kernel_rfl]
  refine wpAnyH_take (i := 1) (oi := ca1) (v := .int .i64 q1) (by kernel_rfl) ca_lit (by kernel_rfl) (by kernel_rfl) (fun c a W h => hP c _ _ _ W h) (Or.inl ⟨by kernel_rfl, fun W hW => run_ld rfl rfl (by rw [cell_of_row W p 0 _ _ _ hW]; rfl)⟩) hS ?_
  rw [show Act.put _ ca1.dst _ = { tmps := #[x0, x1, x2, x3, x4, x5, x6, x7, x8, x9, .pointer (some ⟨p, 0, none⟩), x11, x12, x13, x14, x15, x16, x17, x18, x19, x20, x21, x22, x23, x24, x25, x26, x27, x28, x29, x30, x31, x32, x33, x34, x35, x36, x37, x38, x39, x40, x41, x42, x43, x44, x45, x46, x47, x48, x49, x50, x51, x52, x53, x54, x55, x56, .pointer (some ⟨p, 0, none⟩), .int .i64 q1, .pointer (some ⟨p, 1, none⟩), x60, .pointer (some ⟨p, 2, none⟩), x62, x63, x64, x65, x66, x67, x68, x69, x70, x71, x72, x73, x74, x75, x76, x77, x78, x79, x80, x81, x82, x83, x84, x85, x86, x87, x88, x89, x90, x91, x92, x93, x94, x95, x96, x97, x98, x99, x100, x101, x102, x103, x104, x105, x106, x107, x108, x109, x110, x111, x112, x113, x114, x115, x116, x117, x118, x119, x120, x121, x122, x123, x124, x125, x126, x127, x128, x129, x130, x131, x132, x133, x134, x135, x136, x137, x138, x139, x140, x141, x142, x143, x144, x145, x146, x147, x148, x149, x150, x151, x152, x153], defers := [] } from by kernel_rfl]
  refine wpAnyH_take (i := 3) (oi := ca3) (v := .int .i64 q2) (by kernel_rfl) ca_lit (by kernel_rfl) (by kernel_rfl) (fun c a W h => hP c _ _ _ W h) (Or.inl ⟨by kernel_rfl, fun W hW => run_ld rfl rfl (by rw [cell_of_row W p 1 _ _ _ hW]; rfl)⟩) hS ?_
  rw [show Act.put _ ca3.dst _ = { tmps := #[x0, x1, x2, x3, x4, x5, x6, x7, x8, x9, .pointer (some ⟨p, 0, none⟩), x11, x12, x13, x14, x15, x16, x17, x18, x19, x20, x21, x22, x23, x24, x25, x26, x27, x28, x29, x30, x31, x32, x33, x34, x35, x36, x37, x38, x39, x40, x41, x42, x43, x44, x45, x46, x47, x48, x49, x50, x51, x52, x53, x54, x55, x56, .pointer (some ⟨p, 0, none⟩), .int .i64 q1, .pointer (some ⟨p, 1, none⟩), .int .i64 q2, .pointer (some ⟨p, 2, none⟩), x62, x63, x64, x65, x66, x67, x68, x69, x70, x71, x72, x73, x74, x75, x76, x77, x78, x79, x80, x81, x82, x83, x84, x85, x86, x87, x88, x89, x90, x91, x92, x93, x94, x95, x96, x97, x98, x99, x100, x101, x102, x103, x104, x105, x106, x107, x108, x109, x110, x111, x112, x113, x114, x115, x116, x117, x118, x119, x120, x121, x122, x123, x124, x125, x126, x127, x128, x129, x130, x131, x132, x133, x134, x135, x136, x137, x138, x139, x140, x141, x142, x143, x144, x145, x146, x147, x148, x149, x150, x151, x152, x153], defers := [] } from by kernel_rfl]
  refine wpAnyH_take (i := 5) (oi := ca5) (v := u) (by kernel_rfl) ca_lit (by kernel_rfl) (by kernel_rfl) (fun c a W h => hP c _ _ _ W h) (Or.inl ⟨by kernel_rfl, fun W hW => run_lds rfl rfl (by rw [cell_of_row W p 2 _ _ _ hW]; rfl)⟩) hS ?_
  rw [show Act.put _ ca5.dst _ = { tmps := #[x0, x1, x2, x3, x4, x5, x6, x7, x8, x9, .pointer (some ⟨p, 0, none⟩), x11, x12, x13, x14, x15, x16, x17, x18, x19, x20, x21, x22, x23, x24, x25, x26, x27, x28, x29, x30, x31, x32, x33, x34, x35, x36, x37, x38, x39, x40, x41, x42, x43, x44, x45, x46, x47, x48, x49, x50, x51, x52, x53, x54, x55, x56, .pointer (some ⟨p, 0, none⟩), .int .i64 q1, .pointer (some ⟨p, 1, none⟩), .int .i64 q2, .pointer (some ⟨p, 2, none⟩), u, x63, x64, x65, x66, x67, x68, x69, x70, x71, x72, x73, x74, x75, x76, x77, x78, x79, x80, x81, x82, x83, x84, x85, x86, x87, x88, x89, x90, x91, x92, x93, x94, x95, x96, x97, x98, x99, x100, x101, x102, x103, x104, x105, x106, x107, x108, x109, x110, x111, x112, x113, x114, x115, x116, x117, x118, x119, x120, x121, x122, x123, x124, x125, x126, x127, x128, x129, x130, x131, x132, x133, x134, x135, x136, x137, x138, x139, x140, x141, x142, x143, x144, x145, x146, x147, x148, x149, x150, x151, x152, x153], defers := [] } from by kernel_rfl]
  refine wpAnyH_all (rs := [6, 8]) (by kernel_rfl) (by simp) (fun i hi => ?_)
  rcases List.mem_cons.1 hi with rfl | hi
  · have HB1 : Bs (World.drew w5) u us := hu
    refine hb_callx (o := ca6) (f := 11) (args := #[u]) (D := fun v W => ∃ g cap, v = .slice (some ⟨g, 0, none⟩) M cap ∧ W.ownsRow (World.drew w5).heap.size 5 1 (.slice (some ⟨g, 0, none⟩) M cap) M (cs us) ∧ Below (World.drew w5).heap.size (World.drew w5) W) (by kernel_rfl) (by kernel_rfl) (by kernel_rfl) ?hc ?_
    case hc =>
      have hcc := copy_own u us ((World.drew w5)) HB1 (by omega)
      rw [hM] at hcc
      exact hcc.mono fun e W ⟨g, cap, h1, h2, h3⟩ => ⟨_, h1, g, cap, rfl, h2, h3⟩
    rintro v W6 ⟨g, cap, rfl, o6, b6⟩
    rw [show Act.put _ ca6.dst _ = { tmps := #[x0, x1, x2, x3, x4, x5, x6, x7, x8, x9, .pointer (some ⟨p, 0, none⟩), x11, x12, x13, x14, x15, x16, x17, x18, x19, x20, x21, x22, x23, x24, x25, x26, x27, x28, x29, x30, x31, x32, x33, x34, x35, x36, x37, x38, x39, x40, x41, x42, x43, x44, x45, x46, x47, x48, x49, x50, x51, x52, x53, x54, x55, x56, .pointer (some ⟨p, 0, none⟩), .int .i64 q1, .pointer (some ⟨p, 1, none⟩), .int .i64 q2, .pointer (some ⟨p, 2, none⟩), u, .slice (some ⟨g, 0, none⟩) M cap, x64, x65, x66, x67, x68, x69, x70, x71, x72, x73, x74, x75, x76, x77, x78, x79, x80, x81, x82, x83, x84, x85, x86, x87, x88, x89, x90, x91, x92, x93, x94, x95, x96, x97, x98, x99, x100, x101, x102, x103, x104, x105, x106, x107, x108, x109, x110, x111, x112, x113, x114, x115, x116, x117, x118, x119, x120, x121, x122, x123, x124, x125, x126, x127, x128, x129, x130, x131, x132, x133, x134, x135, x136, x137, x138, x139, x140, x141, x142, x143, x144, x145, x146, x147, x148, x149, x150, x151, x152, x153], defers := [] } from by kernel_rfl]
    have hS6 : W6.heap[p]? = some (.cells #[.int .i64 q1, .int .i64 q2, u] 34 (0, 0)) := (b6.block p hlt).trans h5
    refine ⟨hS6, ?_⟩
    refine wpAnyH_take (i := 7) (oi := ca7) (v := .agg #[.int .i64 q1, .int .i64 q2, .slice (some ⟨g, 0, none⟩) M cap]) (by kernel_rfl) ca_lit (by kernel_rfl) (by kernel_rfl) (fun c a W h => hP c _ _ _ W h) (Or.inl ⟨by kernel_rfl, fun W hW => by kernel_rfl⟩) hS6 ?_
    rw [show Act.put _ ca7.dst _ = { tmps := #[x0, x1, x2, x3, x4, x5, x6, x7, x8, x9, .pointer (some ⟨p, 0, none⟩), x11, x12, x13, x14, x15, x16, x17, x18, x19, x20, x21, x22, x23, x24, x25, x26, x27, x28, x29, x30, x31, x32, x33, x34, x35, x36, x37, x38, x39, x40, x41, x42, x43, x44, x45, x46, x47, x48, x49, x50, x51, x52, x53, x54, x55, x56, .pointer (some ⟨p, 0, none⟩), .int .i64 q1, .pointer (some ⟨p, 1, none⟩), .int .i64 q2, .pointer (some ⟨p, 2, none⟩), u, .slice (some ⟨g, 0, none⟩) M cap, .agg #[.int .i64 q1, .int .i64 q2, .slice (some ⟨g, 0, none⟩) M cap], x65, x66, x67, x68, x69, x70, x71, x72, x73, x74, x75, x76, x77, x78, x79, x80, x81, x82, x83, x84, x85, x86, x87, x88, x89, x90, x91, x92, x93, x94, x95, x96, x97, x98, x99, x100, x101, x102, x103, x104, x105, x106, x107, x108, x109, x110, x111, x112, x113, x114, x115, x116, x117, x118, x119, x120, x121, x122, x123, x124, x125, x126, x127, x128, x129, x130, x131, x132, x133, x134, x135, x136, x137, x138, x139, x140, x141, x142, x143, x144, x145, x146, x147, x148, x149, x150, x151, x152, x153], defers := [] } from by kernel_rfl]
    refine wpAnyH_all (rs := [8]) (by kernel_rfl) (by simp) (fun i hi => ?_)
    obtain rfl := List.mem_singleton.1 hi
    refine hb_new (o := ca8) (v := .pointer (some ⟨W6.heap.size, 0, none⟩)) (by kernel_rfl) (by kernel_rfl) (run_al rfl) ?_
    rw [show Act.put _ ca8.dst _ = { tmps := #[x0, x1, x2, x3, x4, x5, x6, x7, x8, x9, .pointer (some ⟨p, 0, none⟩), .pointer (some ⟨W6.heap.size, 0, none⟩), x12, x13, x14, x15, x16, x17, x18, x19, x20, x21, x22, x23, x24, x25, x26, x27, x28, x29, x30, x31, x32, x33, x34, x35, x36, x37, x38, x39, x40, x41, x42, x43, x44, x45, x46, x47, x48, x49, x50, x51, x52, x53, x54, x55, x56, .pointer (some ⟨p, 0, none⟩), .int .i64 q1, .pointer (some ⟨p, 1, none⟩), .int .i64 q2, .pointer (some ⟨p, 2, none⟩), u, .slice (some ⟨g, 0, none⟩) M cap, .agg #[.int .i64 q1, .int .i64 q2, .slice (some ⟨g, 0, none⟩) M cap], x65, x66, x67, x68, x69, x70, x71, x72, x73, x74, x75, x76, x77, x78, x79, x80, x81, x82, x83, x84, x85, x86, x87, x88, x89, x90, x91, x92, x93, x94, x95, x96, x97, x98, x99, x100, x101, x102, x103, x104, x105, x106, x107, x108, x109, x110, x111, x112, x113, x114, x115, x116, x117, x118, x119, x120, x121, x122, x123, x124, x125, x126, x127, x128, x129, x130, x131, x132, x133, x134, x135, x136, x137, x138, x139, x140, x141, x142, x143, x144, x145, x146, x147, x148, x149, x150, x151, x152, x153], defers := [] } from by kernel_rfl]
    have hp6 : p < W6.heap.size := (Array.getElem?_eq_some_iff.1 hS6).1
    have hS7 : (W6.alloc (.cells #[.int .i64 0, .int .i64 0, .slice none 0 0] 34 (0, 0))).heap[p]? = some (.cells #[.int .i64 q1, .int .i64 q2, u] 34 (0, 0)) := (Below.heap_alloc W6 _ p hp6).trans hS6
    refine ⟨hS7, ?_⟩
    have hZ7 := heap_alloc_new W6 (.cells #[.int .i64 0, .int .i64 0, .slice none 0 0] 34 (0, 0))
    have hg := o6.lt g rfl
    have hg1 : w5.heap.size ≤ g := hg.1
    refine wpAnyH_all (rs := [9]) (by kernel_rfl) (by simp) (fun i hi => ?_)
    obtain rfl := List.mem_singleton.1 hi
    refine hb_skip (o := ca9) (by kernel_rfl) (by kernel_rfl) (run_st3 rfl rfl rfl hZ7) ?_
    rw [show Act.put _ ca9.dst _ = { tmps := #[x0, x1, x2, x3, x4, x5, x6, x7, x8, x9, .pointer (some ⟨p, 0, none⟩), .pointer (some ⟨W6.heap.size, 0, none⟩), x12, x13, x14, x15, x16, x17, x18, x19, x20, x21, x22, x23, x24, x25, x26, x27, x28, x29, x30, x31, x32, x33, x34, x35, x36, x37, x38, x39, x40, x41, x42, x43, x44, x45, x46, x47, x48, x49, x50, x51, x52, x53, x54, x55, x56, .pointer (some ⟨p, 0, none⟩), .int .i64 q1, .pointer (some ⟨p, 1, none⟩), .int .i64 q2, .pointer (some ⟨p, 2, none⟩), u, .slice (some ⟨g, 0, none⟩) M cap, .agg #[.int .i64 q1, .int .i64 q2, .slice (some ⟨g, 0, none⟩) M cap], x65, x66, x67, x68, x69, x70, x71, x72, x73, x74, x75, x76, x77, x78, x79, x80, x81, x82, x83, x84, x85, x86, x87, x88, x89, x90, x91, x92, x93, x94, x95, x96, x97, x98, x99, x100, x101, x102, x103, x104, x105, x106, x107, x108, x109, x110, x111, x112, x113, x114, x115, x116, x117, x118, x119, x120, x121, x122, x123, x124, x125, x126, x127, x128, x129, x130, x131, x132, x133, x134, x135, x136, x137, x138, x139, x140, x141, x142, x143, x144, x145, x146, x147, x148, x149, x150, x151, x152, x153], defers := [] } from by kernel_rfl]
    have hcp := made hpw hS7 hZ7 (own_mono (own_below o6 (ba W6 _)) (by show p + 1 ≤ w5.heap.size; omega)) (by omega) (by omega) (own_cap o6) (((B5.trans (((Below.refl w5.heap.size w5).drew).mono (by omega))).trans (b6.mono (by show p ≤ w5.heap.size; omega))).trans ((ba W6 _).mono (by omega)))
    exact ⟨hcp.keeps, wpAnyH_done (by kernel_rfl) (hQ _ _ _ _ hcp) _⟩
  · obtain rfl := List.mem_singleton.1 hi
    refine hb_new (o := ca8) (v := .pointer (some ⟨w5.heap.size, 0, none⟩)) (by kernel_rfl) (by kernel_rfl) (run_al rfl) ?_
    rw [show Act.put _ ca8.dst _ = { tmps := #[x0, x1, x2, x3, x4, x5, x6, x7, x8, x9, .pointer (some ⟨p, 0, none⟩), .pointer (some ⟨w5.heap.size, 0, none⟩), x12, x13, x14, x15, x16, x17, x18, x19, x20, x21, x22, x23, x24, x25, x26, x27, x28, x29, x30, x31, x32, x33, x34, x35, x36, x37, x38, x39, x40, x41, x42, x43, x44, x45, x46, x47, x48, x49, x50, x51, x52, x53, x54, x55, x56, .pointer (some ⟨p, 0, none⟩), .int .i64 q1, .pointer (some ⟨p, 1, none⟩), .int .i64 q2, .pointer (some ⟨p, 2, none⟩), u, x63, x64, x65, x66, x67, x68, x69, x70, x71, x72, x73, x74, x75, x76, x77, x78, x79, x80, x81, x82, x83, x84, x85, x86, x87, x88, x89, x90, x91, x92, x93, x94, x95, x96, x97, x98, x99, x100, x101, x102, x103, x104, x105, x106, x107, x108, x109, x110, x111, x112, x113, x114, x115, x116, x117, x118, x119, x120, x121, x122, x123, x124, x125, x126, x127, x128, x129, x130, x131, x132, x133, x134, x135, x136, x137, x138, x139, x140, x141, x142, x143, x144, x145, x146, x147, x148, x149, x150, x151, x152, x153], defers := [] } from by kernel_rfl]
    have hS6 : ((World.drew w5).alloc (.cells #[.int .i64 0, .int .i64 0, .slice none 0 0] 34 (0, 0))).heap[p]? = some (.cells #[.int .i64 q1, .int .i64 q2, u] 34 (0, 0)) := (Below.heap_alloc (World.drew w5) _ p hlt).trans h5
    refine ⟨hS6, ?_⟩
    have HB1 : Bs ((World.drew w5).alloc (.cells #[.int .i64 0, .int .i64 0, .slice none 0 0] 34 (0, 0))) u us := Bs.below (w := World.drew w5) hu (ba _ _)
    refine wpAnyH_all (rs := [6]) (by kernel_rfl) (by simp) (fun i hi => ?_)
    obtain rfl := List.mem_singleton.1 hi
    refine hb_callx (o := ca6) (f := 11) (args := #[u]) (D := fun v W => ∃ g cap, v = .slice (some ⟨g, 0, none⟩) M cap ∧ W.ownsRow ((World.drew w5).alloc (.cells #[.int .i64 0, .int .i64 0, .slice none 0 0] 34 (0, 0))).heap.size 5 1 (.slice (some ⟨g, 0, none⟩) M cap) M (cs us) ∧ Below ((World.drew w5).alloc (.cells #[.int .i64 0, .int .i64 0, .slice none 0 0] 34 (0, 0))).heap.size ((World.drew w5).alloc (.cells #[.int .i64 0, .int .i64 0, .slice none 0 0] 34 (0, 0))) W) (by kernel_rfl) (by kernel_rfl) (by kernel_rfl) ?hc ?_
    case hc =>
      have hcc := copy_own u us (((World.drew w5).alloc (.cells #[.int .i64 0, .int .i64 0, .slice none 0 0] 34 (0, 0)))) HB1 (by omega)
      rw [hM] at hcc
      exact hcc.mono fun e W ⟨g, cap, h1, h2, h3⟩ => ⟨_, h1, g, cap, rfl, h2, h3⟩
    rintro v W6 ⟨g, cap, rfl, o6, b6⟩
    rw [show Act.put _ ca6.dst _ = { tmps := #[x0, x1, x2, x3, x4, x5, x6, x7, x8, x9, .pointer (some ⟨p, 0, none⟩), .pointer (some ⟨w5.heap.size, 0, none⟩), x12, x13, x14, x15, x16, x17, x18, x19, x20, x21, x22, x23, x24, x25, x26, x27, x28, x29, x30, x31, x32, x33, x34, x35, x36, x37, x38, x39, x40, x41, x42, x43, x44, x45, x46, x47, x48, x49, x50, x51, x52, x53, x54, x55, x56, .pointer (some ⟨p, 0, none⟩), .int .i64 q1, .pointer (some ⟨p, 1, none⟩), .int .i64 q2, .pointer (some ⟨p, 2, none⟩), u, .slice (some ⟨g, 0, none⟩) M cap, x64, x65, x66, x67, x68, x69, x70, x71, x72, x73, x74, x75, x76, x77, x78, x79, x80, x81, x82, x83, x84, x85, x86, x87, x88, x89, x90, x91, x92, x93, x94, x95, x96, x97, x98, x99, x100, x101, x102, x103, x104, x105, x106, x107, x108, x109, x110, x111, x112, x113, x114, x115, x116, x117, x118, x119, x120, x121, x122, x123, x124, x125, x126, x127, x128, x129, x130, x131, x132, x133, x134, x135, x136, x137, x138, x139, x140, x141, x142, x143, x144, x145, x146, x147, x148, x149, x150, x151, x152, x153], defers := [] } from by kernel_rfl]
    have hsz : ((World.drew w5).alloc (.cells #[.int .i64 0, .int .i64 0, .slice none 0 0] 34 (0, 0))).heap.size = w5.heap.size + 1 := by simp
    have hS7 : W6.heap[p]? = some (.cells #[.int .i64 q1, .int .i64 q2, u] 34 (0, 0)) := (b6.block p (by rw [hsz]; omega)).trans hS6
    refine ⟨hS7, ?_⟩
    have hZ7 : W6.heap[w5.heap.size]? = some (.cells #[.int .i64 0, .int .i64 0, .slice none 0 0] 34 (0, 0)) := (b6.block w5.heap.size (by rw [hsz]; omega)).trans (heap_alloc_new (World.drew w5) _)
    have hg := o6.lt g rfl
    have hg1 := hg.1
    rw [hsz] at hg1
    have hs6 : w5.heap.size + 1 ≤ W6.heap.size := by rw [← hsz]; exact b6.size
    refine wpAnyH_take (i := 7) (oi := ca7) (v := .agg #[.int .i64 q1, .int .i64 q2, .slice (some ⟨g, 0, none⟩) M cap]) (by kernel_rfl) ca_lit (by kernel_rfl) (by kernel_rfl) (fun c a W h => hP c _ _ _ W h) (Or.inl ⟨by kernel_rfl, fun W hW => by kernel_rfl⟩) hS7 ?_
    rw [show Act.put _ ca7.dst _ = { tmps := #[x0, x1, x2, x3, x4, x5, x6, x7, x8, x9, .pointer (some ⟨p, 0, none⟩), .pointer (some ⟨w5.heap.size, 0, none⟩), x12, x13, x14, x15, x16, x17, x18, x19, x20, x21, x22, x23, x24, x25, x26, x27, x28, x29, x30, x31, x32, x33, x34, x35, x36, x37, x38, x39, x40, x41, x42, x43, x44, x45, x46, x47, x48, x49, x50, x51, x52, x53, x54, x55, x56, .pointer (some ⟨p, 0, none⟩), .int .i64 q1, .pointer (some ⟨p, 1, none⟩), .int .i64 q2, .pointer (some ⟨p, 2, none⟩), u, .slice (some ⟨g, 0, none⟩) M cap, .agg #[.int .i64 q1, .int .i64 q2, .slice (some ⟨g, 0, none⟩) M cap], x65, x66, x67, x68, x69, x70, x71, x72, x73, x74, x75, x76, x77, x78, x79, x80, x81, x82, x83, x84, x85, x86, x87, x88, x89, x90, x91, x92, x93, x94, x95, x96, x97, x98, x99, x100, x101, x102, x103, x104, x105, x106, x107, x108, x109, x110, x111, x112, x113, x114, x115, x116, x117, x118, x119, x120, x121, x122, x123, x124, x125, x126, x127, x128, x129, x130, x131, x132, x133, x134, x135, x136, x137, x138, x139, x140, x141, x142, x143, x144, x145, x146, x147, x148, x149, x150, x151, x152, x153], defers := [] } from by kernel_rfl]
    refine wpAnyH_all (rs := [9]) (by kernel_rfl) (by simp) (fun i hi => ?_)
    obtain rfl := List.mem_singleton.1 hi
    refine hb_skip (o := ca9) (by kernel_rfl) (by kernel_rfl) (run_st3 rfl rfl rfl hZ7) ?_
    rw [show Act.put _ ca9.dst _ = { tmps := #[x0, x1, x2, x3, x4, x5, x6, x7, x8, x9, .pointer (some ⟨p, 0, none⟩), .pointer (some ⟨w5.heap.size, 0, none⟩), x12, x13, x14, x15, x16, x17, x18, x19, x20, x21, x22, x23, x24, x25, x26, x27, x28, x29, x30, x31, x32, x33, x34, x35, x36, x37, x38, x39, x40, x41, x42, x43, x44, x45, x46, x47, x48, x49, x50, x51, x52, x53, x54, x55, x56, .pointer (some ⟨p, 0, none⟩), .int .i64 q1, .pointer (some ⟨p, 1, none⟩), .int .i64 q2, .pointer (some ⟨p, 2, none⟩), u, .slice (some ⟨g, 0, none⟩) M cap, .agg #[.int .i64 q1, .int .i64 q2, .slice (some ⟨g, 0, none⟩) M cap], x65, x66, x67, x68, x69, x70, x71, x72, x73, x74, x75, x76, x77, x78, x79, x80, x81, x82, x83, x84, x85, x86, x87, x88, x89, x90, x91, x92, x93, x94, x95, x96, x97, x98, x99, x100, x101, x102, x103, x104, x105, x106, x107, x108, x109, x110, x111, x112, x113, x114, x115, x116, x117, x118, x119, x120, x121, x122, x123, x124, x125, x126, x127, x128, x129, x130, x131, x132, x133, x134, x135, x136, x137, x138, x139, x140, x141, x142, x143, x144, x145, x146, x147, x148, x149, x150, x151, x152, x153], defers := [] } from by kernel_rfl]
    have hcp := made hpw hS7 hZ7 (own_mono o6 (by rw [hsz]; omega)) (by omega) (by omega) (own_cap o6) (((B5.trans (((Below.refl w5.heap.size w5).drew).mono (by omega))).trans ((ba (World.drew w5) _).mono (by show p ≤ w5.heap.size; omega))).trans (b6.mono (by rw [hsz]; omega)))
    exact ⟨hcp.keeps, wpAnyH_done (by kernel_rfl) (hQ _ _ _ _ hcp) _⟩

end Go.Proofs.Ytiimhenapfejmaa
