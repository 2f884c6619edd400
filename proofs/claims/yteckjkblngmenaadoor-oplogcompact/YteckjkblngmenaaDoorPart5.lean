/-
  Parts of the proof, one behind the other; what each proves stands at its head.
-/
import Derived.Test.YteckjkblngmenaaDoorPart4
import Derived.Test.YteckjkblngmenaaDoorRows
import Derived.Test.YteckjkblngmenaaDoorPart1
import Derived.ProofKit
import Derived.OpenShut
import Derived.Lib.LaidTab
import Derived.Stop.LaidErr
import Derived.MakeChecks
import Derived.Deep.DeepHandedRow
import Derived.Test.YteckjkblngmenaaDoorPart2
import Derived.Laws.Cover1

/-
  What a writer's methods cuts and field write is proved here, for all right cuts and fields.
-/
namespace Go.Proofs.YteckjkblngmenaaDoor
open Go.RowKit
set_option linter.unusedVariables false
set_option maxRecDepth 100000

/-- What lies below B is as it was, where the writer and its row lie from B on. -/
theorem Wx.old {B b : Nat} {v v' : Value} {w w' : World} {xs : List Int} (h : Wx b v v' w w') (hW : Wr B w b v xs) (hb : B ≤ b) (hB : B ≤ w.heap.size) : Below B w w' :=
  h.1.below (fun k hk hs => by
    rcases hs with hs | hs
    · omega
    · have := (hW.2.1.lt k hs).1; omega) hB
theorem Sl.old {sz B : Nat} {w w' : World} {v : Value} {n : Nat} {cells : List Value} (h : Sl sz w v n cells) (hb : Below B w w') (hv : ∀ k, v.ownBlock = some k → k < B) : Sl sz w' v n cells := h.kept fun k hk _ => hb.block k (hv k hk)

theorem Cs.block {w : World} {v : Value} {l : List Ct} (h : Cs w v l) (hl : 0 < l.length) : ∀ k, v.ownBlock = some k → k < w.heap.size := by
  obtain ⟨b, off, c, rfl, _, _, hb, _⟩ := h.inv hl
  intro k hk
  simp [Value.ownBlock] at hk
  omega
theorem Cs.old {B : Nat} {w w' : World} {v : Value} {l : List Ct} (h : Cs w v l) (hb : Below B w w') (hv : 0 < l.length → ∀ k, v.ownBlock = some k → k < B) : Cs w' v l := by
  by_cases hl : 0 < l.length
  · exact Sl.old h hb (hv hl)
  · obtain rfl := List.eq_nil_of_length_eq_zero (by omega : l.length = 0)
    obtain ⟨h0, a, c, h1, h2, h3, h4, _⟩ := h
    exact ⟨h0, a, c, h1, h2, h3, h4, fun j u hu => by simp at hu⟩

theorem enC_eq (c : Ct) : [c.r, c.n, c.f, c.t].flatMap M.enc = enC c := by simp [enC]
theorem rct_nums {c : Ct} (h : rct c = true) : ∀ x ∈ [c.r, c.n, c.f, c.t], Num49 x := by
  simp [rct, ro] at h
  intro x hx
  unfold Num49
  simp at hx
  rcases hx with rfl | rfl | rfl | rfl <;> omega
theorem enC_len (c : Ct) : (enC c).length ≤ 28 := by
  have := encs_len [c.r, c.n, c.f, c.t]
  rw [enC_eq] at this
  simpa using this
theorem cuts_len (l : List Ct) : (l.flatMap enC).length ≤ 28 * l.length := by
  induction l with
  | nil => simp
  | cons c l ih =>
    rw [List.flatMap_cons, List.length_append, List.length_cons]
    have := enC_len c
    omega
theorem cuts_step (l : List Ct) (k : Nat) (hk : k < l.length) : (l.take (k + 1)).flatMap enC = (l.take k).flatMap enC ++ enC l[k] := by
  rw [List.take_succ_eq_append_getElem hk, List.flatMap_append]
  simp

set_option maxHeartbeats 2000000 in
theorem cuts_w (B b : Nat) (v vc : Value) (xs : List Int) (l : List Ct) (w : World) (h : Wr B w b v xs) (hB : B ≤ w.heap.size) (hbB : B ≤ b) (hC : Cs w vc l) (hcB : ∀ k, vc.ownBlock = some k → k < B) (hl1 : 1 ≤ l.length) (hl16 : l.length ≤ 16) (hr : ∀ c ∈ l, rct c = true) (hlen : xs.length ≤ 549755813888) :
    Calls Tryd.prog 92 #[.pointer (some ⟨b, 0, none⟩), vc] w fun e w' =>
      e = .returned (.tuple #[]) ∧ ∃ v', Wr B w' b v' (xs ++ (M.enc l.length ++ l.flatMap enC)) ∧ Wx b v v' w w' := by
  have hC' := hC
  obtain ⟨gb, off, c, rfl, hlc, hcm, hbl, hc⟩ := hC.inv (by omega)
  obtain ⟨n, hn⟩ : ∃ n, l.length = n := ⟨_, rfl⟩
  have HN := hid hn
  rw [hn] at hl1 hl16 hlc ⊢
  have HI := hid (numbers_new B b v xs [(n : Int)] w h hB (by intro x hx; simp at hx; subst hx; unfold Num49; omega) (by omega) (by simp) (by simp))
  have HW := hid h
  have HC := hid hc
  have HR := hid hr
  have HGB := hid (hcB gb rfl)
  unfold maxLen at hcm
  clear hn h hC hc hr hC' hcB hbl
  go_enter Tryd.func92, Tryd.ntmps92
  go_wp2_with fail
  refine HI.out.mono ?_
  rintro e w1 ⟨rfl, v1, hW1, hx1⟩
  have HW1 := hid hW1
  have HX1 := hid hx1
  clear hW1 hx1 HI
  go_wp2
  go_loopw [13] (fun i wr => ∃ (k : Nat) (v' : Value), k ≤ n ∧ i = .int .i64 k ∧ Wr B wr b v' (xs ++ (M.enc n ++ (l.take k).flatMap enC)) ∧ Wx b v v' w wr) (fun i _ => n - (intOf i).toNat)
  case atStart => exact ⟨0, v1, Nat.zero_le _, rfl, by simpa using HW1.out, HX1.out⟩
  case round =>
    obtain ⟨k, v2, hk, rfl, hw2, hx2⟩ := hrel
    clear HW1 HX1
    obtain ⟨ys, hys⟩ : ∃ ys, xs ++ (M.enc n ++ (l.take k).flatMap enC) = ys := ⟨_, rfl⟩
    rw [hys] at hw2
    have HY := hid hys
    have HX2 := hid hx2
    have HW2 := hid hw2
    clear hx2 hw2 hys
    by_cases hlt : k < n
    · have hkl : k < l.length := by rw [HN.out]; exact hlt
      have hbel := HX2.out.old HW.out hbB hB
      obtain ⟨x, hx⟩ : ∃ x, l[k] = x := ⟨_, rfl⟩
      have g := HC.out k hkl
      rw [hx] at g
      have g0 := (hbel.cell (p := ⟨gb, off + k * 4, none⟩) HGB.out).trans g.1
      have g1 := (hbel.cell (p := ⟨gb, off + k * 4 + 1, none⟩) HGB.out).trans g.2.1
      have g2 := (hbel.cell (p := ⟨gb, off + k * 4 + 2, none⟩) HGB.out).trans g.2.2.1
      have g3 := (hbel.cell (p := ⟨gb, off + k * 4 + 3, none⟩) HGB.out).trans g.2.2.2
      have hxr : rct x = true := by rw [← hx]; exact HR.out _ (List.getElem_mem hkl)
      have hsz := HX2.out.size
      have hya : ys.length ≤ 1099511627776 := by
        rw [← HY.out]
        have := cuts_len (l.take k)
        have := (M.sz_pos n).2
        rw [List.length_append, List.length_append, M.enc_length]
        rw [List.length_take] at *
        omega
      have HA := hid (ba wr (.cells #[.int .i64 x.r, .int .i64 x.n, .int .i64 x.f, .int .i64 x.t] 84))
      have HI := hid (numbers_new B b v2 ys [x.r, x.n, x.f, x.t] _ (HW2.out.below HA.out) (Nat.le_trans hB (Nat.le_trans hsz HA.out.size)) (rct_nums hxr) hya (by simp) (by simp))
      rw [show (wr.alloc (.cells #[.int .i64 x.r, .int .i64 x.n, .int .i64 x.f, .int .i64 x.t] 84)).heap.size = wr.heap.size + 1 by simp] at HI
      have HX := hid hx
      have b1' : (k : Int) < (n : Int) := by omega
      clear hx g hbel hxr hya
      go_wp2_with fail
      refine HI.out.mono ?_
      rintro e w3 ⟨rfl, v3, hW3, hx3⟩
      have HW3 := hid hW3
      have HX3 := hid (HX2.out.trans ((Wx.of_below HA.out).trans hx3))
      clear hW3 hx3 HI g0 g1 g2 g3
      go_wp2
      go_roundw
      case rel =>
        refine ⟨k + 1, v3, by omega, by go_num, ?_, HX3.out⟩
        have := HW3.out
        rw [enC_eq, ← HY.out] at this
        rw [cuts_step l k hkl, HX.out]
        simpa using this
      case measure => simp [intOf]; omega
    · have e1 : k = n := by omega
      go_wp2
      go_end0
      refine ⟨rfl, v2, ?_, HX2.out⟩
      have := HW2.out
      rw [← HY.out, List.take_of_length_le (by have := HN.out; omega)] at this
      exact this


set_option maxHeartbeats 2000000 in
theorem field_w (f : Nat) (hf : f ≤ 8) (B b : Nat) (v vc : Value) (xs : List Int) (o : Opn) (w : World) (h : Wr B w b v xs) (hB : B ≤ w.heap.size) (hbB : B ≤ b) (hC : Cs w vc o.cuts) (hcB : 0 < o.cuts.length → ∀ k, vc.ownBlock = some k → k < B) (hr : rightF o f = true) (hlen : xs.length ≤ 549755813888) :
    Calls Tryd.prog 79 #[.pointer (some ⟨b, 0, none⟩), opv o vc, .int .i64 f] w fun e w' =>
      e = .returned (.tuple #[]) ∧ ∃ v', Wr B w' b v' (xs ++ encF o f) ∧ Wx b v v' w w' := by
  have HA := hid (ba w (opo o vc))
  have HW := hid (h.below HA.out)
  have HBA := hid (Nat.le_trans hB HA.out.size)
  have HC := hid (hC.below HA.out)
  have HCB := hid hcB
  have hlen' : xs.length ≤ 1099511627776 := by omega
  clear h hC hcB
  rcases nine hf with rfl | rfl | rfl | rfl | rfl | rfl | rfl | rfl | rfl
  · have hq := ro_bounds hr
    have q1 : Num49 o.br := by unfold Num49; omega
    have q2 : Num49 o.bm := by unfold Num49; omega
    clear hq hr
    go_enter Tryd.func79, Tryd.ntmps79
    go_wp2_with fail
    refine (name_w B b v xs _ _ _ HW.out HBA.out q1 q2 hlen').mono ?_
    rintro e w1 ⟨rfl, v1, hW1, hx1⟩
    have HW1 := hid hW1
    have HX1 := hid hx1
    clear hW1 hx1
    go_wp2
    go_end0
    exact ⟨rfl, v1, HW1.out, (Wx.of_below HA.out).trans HX1.out⟩
  · have hq := rb_bounds hr
    have q1 : Num49 o.pr := by unfold Num49; omega
    have q2 : Num49 o.pm := by unfold Num49; omega
    clear hq hr
    go_enter Tryd.func79, Tryd.ntmps79
    go_wp2_with fail
    refine (name_w B b v xs _ _ _ HW.out HBA.out q1 q2 hlen').mono ?_
    rintro e w1 ⟨rfl, v1, hW1, hx1⟩
    have HW1 := hid hW1
    have HX1 := hid hx1
    clear hW1 hx1
    go_wp2
    go_end0
    exact ⟨rfl, v1, HW1.out, (Wx.of_below HA.out).trans HX1.out⟩
  · have hs : o.key.size ≤ 1099511627776 := by
      simp [rightF, K.right, tx_length] at hr
      omega
    clear hr
    go_enter Tryd.func79, Tryd.ntmps79
    go_wp2_with fail
    refine (text_w B b v xs _ _ HW.out HBA.out hs hlen').mono ?_
    rintro e w1 ⟨rfl, v1, hW1, hx1⟩
    have HW1 := hid hW1
    have HX1 := hid hx1
    clear hW1 hx1
    go_wp2
    go_end0
    exact ⟨rfl, v1, HW1.out, (Wx.of_below HA.out).trans HX1.out⟩
  · have hq := ro_bounds hr
    have q1 : Num49 o.sr := by unfold Num49; omega
    have q2 : Num49 o.sm := by unfold Num49; omega
    clear hq hr
    go_enter Tryd.func79, Tryd.ntmps79
    go_wp2_with fail
    refine (name_w B b v xs _ _ _ HW.out HBA.out q1 q2 hlen').mono ?_
    rintro e w1 ⟨rfl, v1, hW1, hx1⟩
    have HW1 := hid hW1
    have HX1 := hid hx1
    clear hW1 hx1
    go_wp2
    go_end0
    exact ⟨rfl, v1, HW1.out, (Wx.of_below HA.out).trans HX1.out⟩
  · have hq := rc_bounds hr
    have q1 : Num49 o.lr := by unfold Num49; omega
    have q2 : Num49 o.lm := by unfold Num49; omega
    have q3 : Num49 o.li := by unfold Num49; omega
    clear hq hr
    go_enter Tryd.func79, Tryd.ntmps79
    go_wp2_with fail
    refine (char_w B b v xs _ _ _ _ HW.out HBA.out q1 q2 q3 hlen').mono ?_
    rintro e w1 ⟨rfl, v1, hW1, hx1⟩
    have HW1 := hid hW1
    have HX1 := hid hx1
    clear hW1 hx1
    go_wp2
    go_end0
    exact ⟨rfl, v1, HW1.out, (Wx.of_below HA.out).trans HX1.out⟩
  · have hq := rc_bounds hr
    have q1 : Num49 o.gr := by unfold Num49; omega
    have q2 : Num49 o.gm := by unfold Num49; omega
    have q3 : Num49 o.gi := by unfold Num49; omega
    clear hq hr
    go_enter Tryd.func79, Tryd.ntmps79
    go_wp2_with fail
    refine (char_w B b v xs _ _ _ _ HW.out HBA.out q1 q2 q3 hlen').mono ?_
    rintro e w1 ⟨rfl, v1, hW1, hx1⟩
    have HW1 := hid hW1
    have HX1 := hid hx1
    clear hW1 hx1
    go_wp2
    go_end0
    exact ⟨rfl, v1, HW1.out, (Wx.of_below HA.out).trans HX1.out⟩
  · have hs : o.text.size ≤ 1099511627776 := by
      simp [rightF] at hr
      omega
    clear hr
    go_enter Tryd.func79, Tryd.ntmps79
    go_wp2_with fail
    refine (text_w B b v xs _ _ HW.out HBA.out hs hlen').mono ?_
    rintro e w1 ⟨rfl, v1, hW1, hx1⟩
    have HW1 := hid hW1
    have HX1 := hid hx1
    clear hW1 hx1
    go_wp2
    go_end0
    exact ⟨rfl, v1, HW1.out, (Wx.of_below HA.out).trans HX1.out⟩
  · have hs : (1 ≤ o.cuts.length ∧ o.cuts.length ≤ 16) ∧ ∀ c ∈ o.cuts, rct c = true := by
      simpa [rightF] using hr
    have HS := hid hs
    clear hs hr
    go_enter Tryd.func79, Tryd.ntmps79
    go_wp2_with fail
    refine (cuts_w B b v _ xs o.cuts _ HW.out HBA.out hbB HC.out (HCB.out HS.out.1.1) HS.out.1.1 HS.out.1.2 HS.out.2 hlen).mono ?_
    rintro e w1 ⟨rfl, v1, hW1, hx1⟩
    have HW1 := hid hW1
    have HX1 := hid hx1
    clear hW1 hx1
    go_wp2
    go_end0
    exact ⟨rfl, v1, HW1.out, (Wx.of_below HA.out).trans HX1.out⟩
  · clear hr
    go_enter Tryd.func79, Tryd.ntmps79
    go_wp2_with fail
    refine (flag_w B b v xs _ _ HW.out HBA.out hlen').mono ?_
    rintro e w1 ⟨rfl, v1, hW1, hx1⟩
    have HW1 := hid hW1
    have HX1 := hid hx1
    clear hW1 hx1
    go_wp2
    go_end0
    exact ⟨rfl, v1, HW1.out, (Wx.of_below HA.out).trans HX1.out⟩

end Go.Proofs.YteckjkblngmenaaDoor

/-
  What the package variables Root and Trash hold ('Lay'), out of what a row lists; that new memory keeps it.
-/
namespace Go.Proofs.YteckjkblngmenaaDoor
open Go.RowKit Go.ChangeShapes Go.WideShapes Go.ChangeAt
set_option linter.unusedVariables false
set_option maxRecDepth 100000

structure Lay (w : World) : Prop where
  r0 : w.cell? ⟨0, 0, none⟩ = some (.int .i64 0)
  r1 : w.cell? ⟨0, 1, none⟩ = some (.int .i64 0)
  t0 : w.cell? ⟨1, 0, none⟩ = some (.int .i64 1)
  t1 : w.cell? ⟨1, 1, none⟩ = some (.int .i64 0)

theorem gRoot : Tryd.prog.globalNamed "offshoot/api.Root" = some 0 := by kernel_rfl
theorem gTrash : Tryd.prog.globalNamed "offshoot/api.Trash" = some 1 := by kernel_rfl

theorem Lay.below {w w' : World} (h : Lay w) (hb : Below w.heap.size w w') : Lay w' := by
  have k := Keeps.below hb
  exact ⟨k _ _ _ h.r0, k _ _ _ h.r1, k _ _ _ h.t0, k _ _ _ h.t1⟩
theorem Lay.drewN {w : World} (h : Lay w) (n : Nat) : Lay (w.drewN n) := h.below (bd w n)

theorem list_two {α : Type} {l : List α} (h : l.length = 2) : ∃ a b, l = [a, b] := by
  cases l with
  | nil => cases h
  | cons a l =>
    cases l with
    | nil => cases h
    | cons b l =>
      cases l with
      | nil => exact ⟨a, b, rfl⟩
      | cons c l => simp at h

/-- Two numbers that stand first on the list. -/
theorem pair_of_head {W : World} {name : String} {x y : Int} {rest : List (String × DataW Unit)} {g : Nat} (hg : Tryd.prog.globalNamed name = some g) (hty : (Tryd.prog.globals[g]?).map (·.type) = some 52)
    (h : laidMet Tryd.prog ((name, .agg [.lit (.int .i64 x), .lit (.int .i64 y)]) :: rest) W) : W.cell? ⟨g, 0, none⟩ = some (.int .i64 x) ∧ W.cell? ⟨g, 1, none⟩ = some (.int .i64 y) := by
  obtain ⟨ps, ⟨g', t', cs, fuel, p, q, hg', ht', hvar, hd, _, _⟩, _⟩ := h
  obtain rfl := Option.some.inj (hg.symm.trans hg')
  obtain rfl := Option.some.inj (hty.symm.trans ht')
  obtain ⟨y0, y1, n, hx, hl, h0, h1⟩ := trod_struct2 Tryd.underlying52 hd
  have c1 : Tryd.prog.cellsOf 3 = 1 := by kernel_rfl
  have c2 : Tryd.prog.cellsOf 52 = 2 := by kernel_rfl
  rw [c2] at hl
  obtain ⟨l⟩ := cs
  have hc : ∃ v0 v1, l = [v0, v1] := list_two hl
  obtain ⟨v0, v1, rfl⟩ := hc
  · simp [c1] at h0 h1
    obtain ⟨a, e0, e1, _⟩ := DataW.trod_int Tryd.underlying3 h0
    obtain ⟨b, e2, e3, _⟩ := DataW.trod_int Tryd.underlying3 h1
    simp only [Prod.mk.injEq, DataW.agg.injEq, List.cons.injEq, e1, e3] at hx
    have ha : a = x := by have := hx.1.1; simp at this; exact this.symm
    have hb : b = y := by have := hx.1.2.1; simp at this; exact this.symm
    simp at e0 e2
    subst ha; subst hb; subst e0; subst e2
    exact ⟨by simpa using World.var?_cell hg hvar 0, by simpa using World.var?_cell hg hvar 1⟩

theorem lay_of {W : World} (h : laidMetH Tryd.prog Rows.oplogKeepsRow.laid W) : Lay W := by
  rw [MakeChecks.laidMetH_plain _ _ _ (by kernel_rfl)] at h
  have hr := pair_of_head gRoot (by kernel_rfl) h
  have ht := pair_of_head gTrash (by kernel_rfl) h.tail
  exact ⟨hr.1, hr.2, ht.1, ht.2⟩

end Go.Proofs.YteckjkblngmenaaDoor

/-
  What RightBlock and RightChar answer is proved here, of the program and of the reference, for all names and characters; what Right answers of keys, of both.
-/
namespace Go.Proofs.YteckjkblngmenaaDoor
open Go.RowKit
set_option linter.unusedVariables false
set_option maxRecDepth 100000

set_option maxHeartbeats 1000000 in
theorem rb_any (r n : Int) (w : World) (hL : Lay w) :
    Calls Tryd.prog 98 #[idv r n] w fun e w' => e = .returned (.bool (rb r n)) ∧ Below w.heap.size w w' := by
  have HB := hid (ba w (ido 52 r n))
  have r0 := fun o => ((ba w o).cell (p := ⟨0, 0, none⟩) (World.block_lt_of_cell? _ _ hL.r0)).trans hL.r0
  have r1 := fun o => ((ba w o).cell (p := ⟨0, 1, none⟩) (World.block_lt_of_cell? _ _ hL.r1)).trans hL.r1
  have t0 := fun o => ((ba w o).cell (p := ⟨1, 0, none⟩) (World.block_lt_of_cell? _ _ hL.t0)).trans hL.t0
  have t1 := fun o => ((ba w o).cell (p := ⟨1, 1, none⟩) (World.block_lt_of_cell? _ _ hL.t1)).trans hL.t1
  clear hL
  by_cases hn : n = 0
  · subst hn
    by_cases hr : r = 0
    · subst hr
      rw [show rb 0 0 = true by decide]
      go_enter Tryd.func98, Tryd.ntmps98
      go_wp2_with fail
      go_ret
      exact ⟨rfl, HB.out⟩
    · by_cases hr1 : r = 1
      · subst hr1
        rw [show rb 1 0 = true by decide]
        go_enter Tryd.func98, Tryd.ntmps98
        go_wp2_with fail
        go_ret
        exact ⟨rfl, HB.out⟩
      · have e : rb r 0 = ro r 0 := by simp [rb, hr, hr1]
        rw [e]
        have hr' : (r == 0) = false := by simpa using hr
        have hr1' : (r == 1) = false := by simpa using hr1
        clear e hr hr1
        go_enter Tryd.func98, Tryd.ntmps98
        go_wp2_with (go_at_call 85; refine (ro_any _ _ _).mono ?_; rintro e w2 ⟨rfl, rfl⟩)
        go_ret
        exact ⟨rfl, bt HB.out (ba _ _)⟩
  · have e : rb r n = ro r n := by simp [rb, hn]
    rw [e]
    have hn' : (n == 0) = false := by simpa using hn
    clear e hn
    go_enter Tryd.func98, Tryd.ntmps98
    go_wp2_with (go_at_call 85; refine (ro_any _ _ _).mono ?_; rintro e w2 ⟨rfl, rfl⟩)
    go_ret
    exact ⟨rfl, bt HB.out (ba _ _)⟩

abbrev chv (r n i : Int) : Value := .agg #[.int .i64 r, .int .i64 n, .int .i64 i]

set_option maxHeartbeats 1000000 in
theorem rc_any (r n i : Int) (w : World) :
    Calls Tryd.prog 100 #[chv r n i] w fun e w' => e = .returned (.bool (rc r n i)) ∧ Below w.heap.size w w' := by
  have HB := hid (ba w (.cells #[.int .i64 r, .int .i64 n, .int .i64 i] 54))
  obtain ⟨b, hb⟩ : ∃ b, rc r n i = b := ⟨_, rfl⟩
  rw [hb]
  have HR := hid hb
  clear hb
  have hp := heap_alloc_new w (.cells #[.int .i64 r, .int .i64 n, .int .i64 i] 54)
  have k2 := fun o => ((ba (w.alloc (.cells #[.int .i64 r, .int .i64 n, .int .i64 i] 54)) o).cell (p := ⟨w.heap.size, 2, none⟩) (by simp)).trans (by rw [cell_of_row _ _ 2 _ _ _ hp]; rfl : _ = some (.int .i64 i))
  clear hp
  by_cases hz : r = 0 ∧ n = 0 ∧ i = 0
  · obtain ⟨rfl, rfl, rfl⟩ := hz
    go_enter Tryd.func100, Tryd.ntmps100
    go_wp2_with fail
    go_ret
    refine ⟨retb ?_, HB.out⟩
    rw [← HR.out]
    simp [rc]
  · have hz' : ((r == 0) = false) ∨ ((r == 0) = true ∧ (n == 0) = false) ∨ ((r == 0) = true ∧ (n == 0) = true ∧ (i == 0) = false) := by
      simp; omega
    have HZ := hid hz
    clear hz
    cases hro : ro r n
    all_goals cases hi : decide (0 ≤ i)
    all_goals rcases hz' with h1 | ⟨h1, h2⟩ | ⟨h1, h2, h3⟩
    all_goals
      have HO := hid hro
      go_enter Tryd.func100, Tryd.ntmps100
      go_wp2_with (go_at_call 85; refine (ro_any _ _ _).mono ?_; rintro e w2 ⟨rfl, rfl⟩; rw [hro])
      go_ret
      refine ⟨retb ?_, bt HB.out (ba _ _)⟩
      rw [← HR.out]
      simp [rc, HO.out, HZ.out]
      try (simp at hi; omega)

theorem key_tx (s : ByteArray) (k : Nat) (h : s.size = k + 1) (h2 : s.size ≤ 32) (hk : k < s.size) : K.right (tx s) = (((s[k]).toNat : Int) != 0) := by
  unfold K.right K.lst
  rw [tx_length, h, Nat.add_sub_cancel, tx_getD hk, Bool.eq_iff_iff]
  simp only [decide_eq_true_eq, bne_iff_ne]
  constructor
  · intro h; exact h.2.2
  · intro h; exact ⟨by omega, by omega, h⟩
theorem key_no (s : ByteArray) (h : s.size < 1 ∨ 32 < s.size) : K.right (tx s) = false := by
  unfold K.right
  rw [tx_length]
  exact decide_eq_false (by omega)

theorem key_any (s : ByteArray) (w : World) (hs : s.size ≤ 1099511627776) : Calls Tryd.prog 99 #[.string s] w fun e w' => e = .returned (.bool (K.right (tx s))) ∧ w = w' := by
  by_cases h1 : s.size < 1
  · rw [key_no s (.inl h1)]
    have h1'' : s.size = 0 := by omega
    go_enter Tryd.func99, Tryd.ntmps99
    go_wp2
    go_ret
    exact ⟨rfl, rfl⟩
  · by_cases h2 : 32 < s.size
    · rw [key_no s (.inr h2)]
      have h1' : 1 ≤ s.size := by omega
      go_enter Tryd.func99, Tryd.ntmps99
      go_wp2
      go_ret
      exact ⟨rfl, rfl⟩
    · obtain ⟨k, hk⟩ : ∃ k, s.size = k + 1 := ⟨s.size - 1, by omega⟩
      have hks : k < s.size := by omega
      rw [key_tx s k hk (by omega) hks]
      have h1' : 1 ≤ s.size := by omega
      have h2' : s.size ≤ 32 := by omega
      go_enter Tryd.func99, Tryd.ntmps99
      go_wp2
      go_ret
      exact ⟨rfl, rfl⟩

end Go.Proofs.YteckjkblngmenaaDoor

/-
  What nought answers is proved here, for all ops and fields.
-/
namespace Go.Proofs.YteckjkblngmenaaDoor
open Go.RowKit
set_option linter.unusedVariables false
set_option maxRecDepth 100000

theorem beq_no (s : ByteArray) : (s.toList == ByteArray.toList ⟨#[]⟩) = decide (s.size = 0) := by
  rw [beq_tx, Bool.eq_iff_iff]
  simp only [decide_eq_true_eq]
  rw [← tx_length]
  constructor <;> intro h
  · rw [h]; rfl
  · rw [List.eq_nil_of_length_eq_zero h]; rfl

theorem toList_nil (s : ByteArray) : s.toList = [] ↔ s = ByteArray.empty := by
  have := beq_no s
  constructor <;> intro h
  · have e : (s.toList == ByteArray.toList ⟨#[]⟩) = true := by rw [h]; unfold ByteArray.toList ByteArray.toList.loop; decide
    rw [this] at e
    exact ba_nil (by simpa using e)
  · rw [h]; unfold ByteArray.toList ByteArray.toList.loop; decide
theorem nought_any (f : Nat) (hf : f ≤ 8) (o : Opn) (a : Option Addr) (c : Nat) (w : World) : Calls Tryd.prog 87 #[opv o (.slice a o.cuts.length c), .int .i64 f] w fun e w' => e = .returned (.bool (noughtF o f)) ∧ Below w.heap.size w w' := by
  have HB := hid (ba w (opo o (.slice a o.cuts.length c)))
  obtain ⟨b, hb⟩ : ∃ b, noughtF o f = b := ⟨_, rfl⟩
  rw [hb]
  have HR := hid hb
  clear hb
  rcases nine hf with rfl | rfl | rfl | rfl | rfl | rfl | rfl | rfl | rfl
  all_goals
    go_enter Tryd.func87, Tryd.ntmps87
    go_wp2_with fail
    all_goals
      go_ret
      refine ⟨retb ?_, HB.out⟩
      rw [← HR.out]
      simp [noughtF, toList_nil, *]
end Go.Proofs.YteckjkblngmenaaDoor

/-
  What right (of a field) and Right answer is proved here, for all ops whose texts are of at most 2^40 bytes.
-/
namespace Go.Proofs.YteckjkblngmenaaDoor
open Go.RowKit
set_option linter.unusedVariables false
set_option maxRecDepth 100000

/-- Texts that are not too long to count. -/
def Opn.fine (o : Opn) : Prop := o.key.size ≤ 1099511627776 ∧ o.text.size ≤ 1099511627776

theorem rightf_any (f : Nat) (hf : f ≤ 8) (o : Opn) (v : Value) (w : World) (hL : Lay w) (hC : Cs w v o.cuts) (hfin : o.fine) :
    Calls Tryd.prog 89 #[opv o v, .int .i64 f] w fun e w' => e = .returned (.bool (rightF o f)) ∧ Below w.heap.size w w' := by
  obtain ⟨a, c, rfl, _, _⟩ := hC.form
  have HB := hid (ba w (opo o (.slice a o.cuts.length c)))
  have HL := hid (hL.below HB.out)
  have HC := hid (hC.below HB.out)
  have HF := hid hfin
  clear hL hC hfin
  rcases nine hf with rfl | rfl | rfl | rfl | rfl | rfl | rfl | rfl | rfl
  · go_enter Tryd.func89, Tryd.ntmps89
    go_wp2_with (go_at_call 85; refine (ro_any _ _ _).mono ?_; rintro e w2 ⟨rfl, rfl⟩)
    go_ret
    exact ⟨rfl, bt HB.out (ba _ _)⟩
  · go_enter Tryd.func89, Tryd.ntmps89
    go_wp2_with fail
    refine (rb_any _ _ _ HL.out).mono ?_
    rintro e w2 ⟨rfl, hb⟩
    have HB2 := hid hb
    clear hb
    go_wp2
    go_ret
    exact ⟨rfl, bt HB.out HB2.out⟩
  · go_enter Tryd.func89, Tryd.ntmps89
    go_wp2_with (go_at_call 99; refine (key_any _ _ HF.out.1).mono ?_; rintro e w2 ⟨rfl, rfl⟩)
    go_ret
    exact ⟨rfl, HB.out⟩
  · go_enter Tryd.func89, Tryd.ntmps89
    go_wp2_with (go_at_call 85; refine (ro_any _ _ _).mono ?_; rintro e w2 ⟨rfl, rfl⟩)
    go_ret
    exact ⟨rfl, bt HB.out (ba _ _)⟩
  · go_enter Tryd.func89, Tryd.ntmps89
    go_wp2_with fail
    refine (rc_any _ _ _ _).mono ?_
    rintro e w2 ⟨rfl, hb⟩
    have HB2 := hid hb
    clear hb
    go_wp2
    go_ret
    exact ⟨rfl, bt HB.out HB2.out⟩
  · go_enter Tryd.func89, Tryd.ntmps89
    go_wp2_with fail
    refine (rc_any _ _ _ _).mono ?_
    rintro e w2 ⟨rfl, hb⟩
    have HB2 := hid hb
    clear hb
    go_wp2
    go_ret
    exact ⟨rfl, bt HB.out HB2.out⟩
  · have hs := HF.out.2
    by_cases h1 : 1 ≤ o.text.size
    · have h1' : decide ((1 : Int) ≤ o.text.size) = true := by simp; omega
      go_enter Tryd.func89, Tryd.ntmps89
      go_wp2
      go_ret
      refine ⟨retb ?_, HB.out⟩
      simp [rightF]
      omega
    · have h1' : decide ((1 : Int) ≤ o.text.size) = false := by simp; omega
      go_enter Tryd.func89, Tryd.ntmps89
      go_wp2
      go_ret
      refine ⟨retb ?_, HB.out⟩
      simp [rightF]
      omega
  · go_enter Tryd.func89, Tryd.ntmps89
    go_wp2_with fail
    refine (cuts_any _ o.cuts _ HC.out).mono ?_
    rintro e w2 ⟨rfl, hb⟩
    have HB2 := hid hb
    clear hb
    go_wp2
    go_ret
    refine ⟨retb ?_, bt HB.out HB2.out⟩
    simp [rightF]
  · go_enter Tryd.func89, Tryd.ntmps89
    go_wp2
    go_ret
    exact ⟨rfl, HB.out⟩


theorem rightO_at (o : Opn) (h1 : ro o.ir o.im = true) (h2 : rs o.t o.ir = true) (h : ∀ j, j < 9 → goodF o j = true) : rightO o = !(told o.k).isEmpty := by
  unfold rightO
  rw [h1, h2]
  have : (List.range 9).all (goodF o) = true := by
    rw [List.all_eq_true]
    intro j hj
    exact h j (by simpa using hj)
  rw [this]
  simp
theorem rightO_not (o : Opn) {j : Nat} (hj : j < 9) (h : goodF o j = false) : rightO o = false := by
  unfold rightO
  have : (List.range 9).all (goodF o) = false := by
    rw [List.all_eq_false]
    exact ⟨j, by simpa using hj, by rw [h]; decide⟩
  rw [this]
  simp
theorem told_len (k : Int) : (told k).length ≤ 9 := by
  unfold told
  repeat' split
  all_goals decide

set_option maxHeartbeats 4000000 in
theorem right_any (o : Opn) (v : Value) (w : World) (hL : Lay w) (hC : Cs w v o.cuts) (hfin : o.fine) :
    Calls Tryd.prog 76 #[opv o v] w fun e w' => e = .returned (.bool (rightO o)) ∧ Below w.heap.size w w' := by
  have HNO : ∀ (k : Nat) (hk : k ≤ 8) (W : World), Calls Tryd.prog 87 #[opv o v, .int .i64 k] W fun e w' => e = .returned (.bool (noughtF o k)) ∧ Below W.heap.size W w' := by
    intro k hk W
    obtain ⟨a, c, rfl, _, _⟩ := hC.form
    exact nought_any k hk o a c W
  obtain ⟨r, hr⟩ : ∃ r, rightO o = r := ⟨_, rfl⟩
  rw [hr]
  have HR := hid hr
  have HNO := hid HNO
  have HB := hid (ba w (opo o v))
  have HL := hid (hL.below HB.out)
  have HC := hid (hC.below HB.out)
  have HF := hid hfin
  have HO := hid (Ob.new w o v)
  have k0 := fun o' => ((ba (w.alloc (opo o v)) o').cell (p := ⟨w.heap.size, 1, none⟩) (by simp)).trans (HO.out.cells.c1)
  have k1 := fun o' => ((ba (w.alloc (opo o v)) o').cell (p := ⟨w.heap.size, 3, none⟩) (by simp)).trans (HO.out.cells.c3)
  have k2 := fun o' o'' => ((ba ((w.alloc (opo o v)).alloc o') o'').cell (p := ⟨w.heap.size, 0, none⟩) (by simp; omega)).trans (((ba (w.alloc (opo o v)) o').cell (p := ⟨w.heap.size, 0, none⟩) (by simp)).trans (HO.out.cells.c0))
  clear hL hC hfin hr
  cases hro : ro o.ir o.im
  · have H1 := hid hro
    go_enter Tryd.func76, Tryd.ntmps76
    go_wp2_with (go_at_call 85; refine (ro_any _ _ _).mono ?_; rintro e w2 ⟨rfl, rfl⟩; rw [hro])
    go_ret
    refine ⟨retb ?_, bt HB.out (ba _ _)⟩
    rw [← HR.out]
    simp [rightO, H1.out]
  cases hrs : rs o.t o.ir
  · have H1 := hid hrs
    go_enter Tryd.func76, Tryd.ntmps76
    go_wp2_with (first | (go_at_call 85; refine (ro_any _ _ _).mono ?_; rintro e w2 ⟨rfl, rfl⟩; rw [hro]) | (go_at_call 86; refine (rs_any _ _ _).mono ?_; rintro e w2 ⟨rfl, rfl⟩; rw [hrs]))
    go_ret
    refine ⟨retb ?_, bt HB.out (bt (ba _ _) (ba _ _))⟩
    rw [← HR.out]
    simp [rightO, H1.out]
  have H1 := hid hro
  have H2 := hid hrs
  go_enter Tryd.func76, Tryd.ntmps76
  go_wp2_with (first | (go_at_call 85; refine (ro_any _ _ _).mono ?_; rintro e w2 ⟨rfl, rfl⟩; rw [hro]) | (go_at_call 86; refine (rs_any _ _ _).mono ?_; rintro e w2 ⟨rfl, rfl⟩; rw [hrs]))
  refine (told_any o.k _).mono ?_
  rintro e w1 ⟨vt, rfl, hFs, hbt, _⟩
  have hb1 : Below w.heap.size w w1 := bt HB.out (bt (bt (ba _ _) (ba _ _)) hbt)
  have hb0 : Below (w.alloc (opo o v)).heap.size (w.alloc (opo o v)) w1 := bt (bt (ba _ _) (ba _ _)) hbt
  have HB1 := hid hb1
  have HO1 := hid (HO.out.below hb0)
  have HL1 := hid (HL.out.below hb0)
  have HC1 := hid (HC.out.below hb0)
  have HF1 := hid hFs
  obtain ⟨ta, tc, rfl, _, _⟩ := Sl.form hFs
  clear hb1 hb0 hbt hFs k0 k1 k2 HO HL HC HB
  go_wp2
  go_loopw [23] (fun i wr => ∃ k : Nat, k ≤ 9 ∧ i = .int .i64 k ∧ Below w1.heap.size w1 wr ∧ ∀ j, j < k → goodF o j = true) (fun i _ => 9 - (intOf i).toNat)
  case atStart => exact ⟨0, Nat.zero_le _, rfl, Below.refl _ _, fun j h => absurd h (Nat.not_lt_zero _)⟩
  case round =>
    obtain ⟨k, hk, rfl, hbel, ht⟩ := hrel
    have HT := hid ht
    have HBE := hid hbel
    clear ht hbel
    by_cases hlt : k < 9
    · have b1' : (k : Int) < 9 := by omega
      have hld := hid (HO1.out.below HBE.out)
      go_wp2_with (refine wpList_load_op rfl _ rfl _ rfl _ _ hld.out ?_)
      refine (HNO.out k (by omega) _).mono ?_
      rintro e w2 ⟨rfl, hb2⟩
      have HB2 := hid (bt HBE.out hb2)
      clear hb2 hld
      by_cases hm : k ∈ told o.k
      · go_wp2_with fail
        refine (contains_any _ _ k _ (HF1.out.below HB2.out) (told_len _) (by omega) (told_le _)).mono ?_
        rintro e w3 ⟨rfl, rfl⟩
        rw [decide_eq_true hm]
        have hld := hid (HO1.out.below HB2.out)
        go_wp2_with (refine wpList_load_op rfl _ rfl _ rfl _ _ hld.out ?_)
        refine (rightf_any k (by omega) o v _ (HL1.out.below HB2.out) (HC1.out.below HB2.out) HF.out).mono ?_
        rintro e w4 ⟨rfl, hb4⟩
        have HB4 := hid (bt HB2.out hb4)
        clear hb4 hld
        have hg : goodF o k = rightF o k := by unfold goodF; rw [if_pos hm]
        rw [← hg]
        have HM := hid hm
        clear hg hm
        cases hgk : goodF o k
        · have HG := hid hgk
          clear hgk
          go_wp2
          go_ret
          refine ⟨retb ?_, bt HB1.out HB4.out⟩
          rw [← HR.out, rightO_not o hlt HG.out]
        · have HG := hid hgk
          clear hgk
          go_wp2
          go_roundw
          case rel =>
            refine ⟨k + 1, by omega, by go_num, HB4.out, fun j hjk => ?_⟩
            by_cases e : j = k
            · subst e; exact HG.out
            · exact HT.out j (by omega)
          case measure => simp [intOf]; omega
      · go_wp2_with fail
        refine (contains_any _ _ k _ (HF1.out.below HB2.out) (told_len _) (by omega) (told_le _)).mono ?_
        rintro e w3 ⟨rfl, rfl⟩
        rw [decide_eq_false hm]
        have hg : goodF o k = noughtF o k := by unfold goodF; rw [if_neg hm]
        rw [← hg]
        have HM := hid hm
        clear hg hm
        cases hgk : goodF o k
        · have HG := hid hgk
          clear hgk
          go_wp2
          go_ret
          refine ⟨retb ?_, bt HB1.out HB2.out⟩
          rw [← HR.out, rightO_not o hlt HG.out]
        · have HG := hid hgk
          clear hgk
          go_wp2
          go_roundw
          case rel =>
            refine ⟨k + 1, by omega, by go_num, HB2.out, fun j hjk => ?_⟩
            by_cases e : j = k
            · subst e; exact HG.out
            · exact HT.out j (by omega)
          case measure => simp [intOf]; omega
    · go_wp2
      go_ret
      refine ⟨retb ?_, bt HB1.out HBE.out⟩
      rw [← HR.out, rightO_at o H1.out H2.out (fun j hj => HT.out j (by omega))]
      cases told o.k <;> simp
      try omega

end Go.Proofs.YteckjkblngmenaaDoor

/-
  What Encode answers is proved here, for all ops whose texts are of at most 2^40 bytes: of a right one its bytes, in a row of the call's own.
-/
namespace Go.Proofs.YteckjkblngmenaaDoor
open Go.RowKit
set_option linter.unusedVariables false
set_option maxRecDepth 100000

theorem encF_len {o : Opn} {f : Nat} (hf : f ≤ 8) (h : rightF o f = true) : (encF o f).length ≤ 500 := by
  have s1 := fun n => (M.sz_pos n).2
  rcases nine hf with rfl | rfl | rfl | rfl | rfl | rfl | rfl | rfl | rfl
  · have := s1 o.br; have := s1 o.bm; simp [encF, en2, M.enc_length]; omega
  · have := s1 o.pr; have := s1 o.pm; simp [encF, en2, M.enc_length]; omega
  · have := s1 o.key.size
    simp [rightF, K.right, tx_length] at h
    simp only [encF, encText_length]; omega
  · have := s1 o.sr; have := s1 o.sm; simp [encF, en2, M.enc_length]; omega
  · have := s1 o.lr; have := s1 o.lm; have := s1 o.li; simp [encF, en3, M.enc_length]; omega
  · have := s1 o.gr; have := s1 o.gm; have := s1 o.gi; simp [encF, en3, M.enc_length]; omega
  · have := s1 o.text.size
    simp [rightF] at h
    simp only [encF, encText_length]; omega
  · have := s1 o.cuts.length
    have := cuts_len o.cuts
    simp [rightF] at h
    simp only [encF, List.length_append, M.enc_length]; omega
  · have := s1 (if o.flag then 1 else 0)
    simp only [encF, M.enc_length]; omega
theorem encFs_len (o : Opn) : ∀ (L : List Nat), (∀ f ∈ L, f ≤ 8) → (∀ f ∈ L, rightF o f = true) → (L.flatMap (encF o)).length ≤ 500 * L.length := by
  intro L
  induction L with
  | nil => intro _ _; simp
  | cons f L ih =>
    intro h1 h2
    rw [List.flatMap_cons, List.length_append, List.length_cons]
    have := encF_len (h1 f (by simp)) (h2 f (by simp))
    have := ih (fun g hg => h1 g (by simp [hg])) (fun g hg => h2 g (by simp [hg]))
    omega
theorem encF_step (o : Opn) (l : List Nat) (k : Nat) (hk : k < l.length) : (l.take (k + 1)).flatMap (encF o) = (l.take k).flatMap (encF o) ++ encF o l[k] := by
  rw [List.take_succ_eq_append_getElem hk, List.flatMap_append]
  simp
theorem own_base {w : World} {B B' e sz : Nat} {v : Value} {n : Nat} {xs : List Value} (h : w.ownsRow B e sz v n xs) (hB : B' ≤ B) : w.ownsRow B' e sz v n xs := by
  refine ⟨h.1, ?_⟩
  rcases h.2 with h0 | ⟨g, cap, cur, hv, hg, r⟩
  · exact .inl h0
  · exact .inr ⟨g, cap, cur, hv, by omega, r⟩

theorem encode_no (o : Opn) (v : Value) (w : World) (hL : Lay w) (hC : Cs w v o.cuts) (hfin : o.fine) (hr : rightO o = false) :
    Calls Tryd.prog 63 #[opv o v] w fun e w' => e = .returned (.tuple #[.slice none 0 0, .bool false]) ∧ Below w.heap.size w w' := by
  have HB := hid (ba w (opo o v))
  have HR := hid (right_any o v _ (hL.below HB.out) (hC.below HB.out) hfin)
  rw [hr] at HR
  have HO := hid (Ob.new w o v)
  clear hL hC hfin hr
  go_enter Tryd.func63, Tryd.ntmps63
  go_wp2_with (refine wpList_load_op rfl _ rfl _ rfl _ _ HO.out ?_)
  refine HR.out.mono ?_
  rintro e w1 ⟨rfl, hb⟩
  have HB1 := hid hb
  clear hb
  go_wp2
  go_ret2
  exact ⟨rfl, bt HB.out HB1.out⟩

set_option maxHeartbeats 4000000 in
theorem encode_yes (o : Opn) (v : Value) (w : World) (hL : Lay w) (hC : Cs w v o.cuts) (hfin : o.fine) (hr : rightO o = true) :
    Calls Tryd.prog 63 #[opv o v] w fun e w' => ∃ u, e = .returned (.tuple #[u, .bool true]) ∧ w'.ownsRow w.heap.size 5 1 u (encO o).length (cs (encO o)) ∧ Below w.heap.size w w' := by
  have HB := hid (ba w (opo o v))
  have HRi := hid (right_any o v _ (hL.below HB.out) (hC.below HB.out) hfin)
  rw [hr] at HRi
  have HO := hid (Ob.new w o v)
  have HC := hid (hC.below HB.out)
  have HCb := hid (hC.block)
  have HR := hid hr
  clear hL hC hfin hr
  go_enter Tryd.func63, Tryd.ntmps63
  go_wp2_with (refine wpList_load_op rfl _ rfl _ rfl _ _ HO.out ?_)
  refine HRi.out.mono ?_
  rintro e w1 ⟨rfl, hb⟩
  have HB1 := hid hb
  have HO1 := hid (HO.out.below hb)
  have HC1 := hid (HC.out.below hb)
  clear hb HO HC HRi
  -- the writer
  have HA := hid (ba w1 (.cells #[.slice none 0 0] 103))
  have hW1 : Wr w1.heap.size (w1.alloc (.cells #[.slice none 0 0] 103)) w1.heap.size (.slice none 0 0) [] := ⟨heap_alloc_new w1 _, World.ownsRow_nil _ _ _ _, fun x hx => by cases hx⟩
  have HO2 := hid (HO1.out.below HA.out)
  have c0 := HO2.out.cells.c0
  have c1 := HO2.out.cells.c1
  have c2 := HO2.out.cells.c2
  have c3 := HO2.out.cells.c3
  have hnum : ∀ x ∈ [o.k, o.ir, o.im, o.t], Num49 x := by
    have hp := (right_parts HR.out).1
    have h1 := ro_bounds hp.1
    have h2 : 0 ≤ o.ir ∧ o.ir < 16 ∧ 1 ≤ o.t ∧ o.t ≤ 1099511627776 := by simpa [rs] using hp.2.1
    have h3 := six hp.2.2
    intro x hx
    unfold Num49
    simp at hx
    rcases hx with rfl | rfl | rfl | rfl <;> omega
  have HI := hid (numbers_new w1.heap.size w1.heap.size (.slice none 0 0) [] [o.k, o.ir, o.im, o.t] _ hW1 HA.out.size hnum (by simp) (by simp) (by simp))
  rw [show (w1.alloc (.cells #[.slice none 0 0] 103)).heap.size = w1.heap.size + 1 by simp] at HI
  have hsz1 := HB1.out.size
  rw [show (w.alloc (opo o v)).heap.size = w.heap.size + 1 by simp] at hsz1
  clear hnum hW1
  go_wp2_with fail
  refine HI.out.mono ?_
  rintro e w2 ⟨rfl, v2, hW2, hx2⟩
  have HW2 := hid hW2
  have HX2 := hid hx2
  clear hW2 hx2 HI c0 c1 c2 c3
  have hb2 : Below w1.heap.size (w1.alloc (.cells #[.slice none 0 0] 103)) w2 := HX2.out.1.below (fun k hk hs => by
    rcases hs with hs | hs
    · omega
    · cases hs) HA.out.size
  have HB2 := hid ((HA.out.trans hb2 : Below w1.heap.size w1 w2))
  have HO3 := hid (HO1.out.below HB2.out)
  have HC3 := hid (HC1.out.below HB2.out)
  have c0 := HO3.out.cells.c0
  clear hb2
  go_wp2_with fail
  refine (told_any o.k _).mono ?_
  rintro e w3 ⟨vt, rfl, hFs, hbt, hfr⟩
  have hpos : 0 < (told o.k).length := by
    have := (right_parts HR.out).1.2.2
    exact List.length_pos_iff.2 this
  obtain ⟨tb, toff, tc, rfl, htc, htm, htl, _⟩ := hFs.inv hpos
  have htb : w2.heap.size ≤ tb := hfr tb rfl
  obtain ⟨n, hn⟩ : ∃ n, (told o.k).length = n := ⟨_, rfl⟩
  have HN := hid hn
  have HFs := hid hFs
  have HBT := hid hbt
  have HW3 := hid (HW2.out.below hbt)
  have hs3 := hbt.size
  have hs2 := HB2.out.size
  have HTV : Hid (v2.ownBlock ≠ some tb) := by
    intro e
    have := (HW2.out.2.1.lt tb e).2
    omega
  have hlw := HW2.out.lt
  unfold maxLen at htm
  rw [hn] at HFs hpos htc ⊢
  clear hFs hbt hfr c0 hn
  go_wp2
  go_loopw [27] (fun i wr => ∃ (k : Nat) (v' : Value), k ≤ n ∧ i = .int .i64 k ∧ Wr w1.heap.size wr w1.heap.size v' (([o.k, o.ir, o.im, o.t].flatMap M.enc) ++ ((told o.k).take k).flatMap (encF o)) ∧ Wx w1.heap.size v2 v' w3 wr) (fun i _ => n - (intOf i).toNat)
  case atStart => exact ⟨0, v2, Nat.zero_le _, rfl, by simpa using HW3.out, Wx.refl _ _ _⟩
  case round =>
    obtain ⟨k, v4, hk, rfl, hw4, hx4⟩ := hrel
    obtain ⟨ys, hys⟩ : ∃ ys, ([o.k, o.ir, o.im, o.t].flatMap M.enc) ++ ((told o.k).take k).flatMap (encF o) = ys := ⟨_, rfl⟩
    rw [hys] at hw4
    have HY := hid hys
    have HX4 := hid hx4
    have HW4 := hid hw4
    clear hx4 hw4 hys
    have hb4 : Below w1.heap.size w3 wr := HX4.out.old HW3.out (Nat.le_refl _) (by omega)
    have HB4 := hid (HB2.out.trans ((HBT.out.mono hs2).trans hb4))
    clear hb4
    by_cases hlt : k < n
    · have hkl : k < (told o.k).length := by rw [HN.out]; exact hlt
      have hF : Fs wr (.slice (some ⟨tb, toff, none⟩) n tc) (told o.k) := Sl.kept HFs.out (fun j hj hjl => by
        simp [Value.ownBlock] at hj
        subst hj
        exact HX4.out.block hjl (by omega) HTV.out)
      obtain ⟨tb', toff', tc', hv', _, _, _, hcell⟩ := hF.inv (by omega)
      simp only [Value.slice.injEq, Option.some.injEq, Addr.mk.injEq, and_true] at hv'
      obtain ⟨⟨rfl, rfl⟩, -, rfl⟩ := hv'
      have g1 := hcell k hkl
      obtain ⟨f, hf⟩ : ∃ f, (told o.k)[k] = f := ⟨_, rfl⟩
      rw [hf] at g1
      have hf8 : f ≤ 8 := by rw [← hf]; exact told_le _ _ (List.getElem_mem hkl)
      have hfr : rightF o f = true := by rw [← hf]; exact right_told HR.out _ (List.getElem_mem hkl)
      have HF := hid hf
      have hya : ys.length ≤ 549755813888 := by
        rw [← HY.out]
        have h1 := encs_len [o.k, o.ir, o.im, o.t]
        have h2 := encFs_len o ((told o.k).take k) (fun g hg => told_le _ _ (List.mem_of_mem_take hg)) (fun g hg => right_told HR.out _ (List.mem_of_mem_take hg))
        have h3 := told_len o.k
        rw [List.length_append]
        rw [List.length_take] at h2
        simp only [List.length_cons, List.length_nil] at h1
        omega
      have HI := hid (field_w f hf8 w1.heap.size w1.heap.size v4 v ys o _ HW4.out (by have := HX4.out.size; omega) (Nat.le_refl _) (HC1.out.below HB4.out) (fun h j hj => by have := HCb.out h j hj; omega) hfr hya)
      have HOr := hid (HO1.out.below HB4.out)
      have b1' : (k : Int) < (n : Int) := by omega
      clear hcell hF hfr hya hf
      go_wp2_with (refine wpList_load_op rfl _ rfl _ rfl _ _ HOr.out ?_)
      refine HI.out.mono ?_
      rintro e w5 ⟨rfl, v5, hW5, hx5⟩
      have HW5 := hid hW5
      have HX5 := hid (HX4.out.trans hx5)
      clear hW5 hx5 HI g1
      go_wp2
      go_roundw
      case rel =>
        refine ⟨k + 1, v5, by omega, by go_num, ?_, HX5.out⟩
        have := HW5.out
        rw [← HY.out] at this
        rw [encF_step o _ k hkl, HF.out, ← List.append_assoc]
        exact this
      case measure => simp [intOf]; omega
    · have e1 : k = n := by omega
      obtain ⟨hcw, _, a6, c6, rfl, _⟩ := HW4.out.cell
      go_wp2
      go_ret2
      refine ⟨_, rfl, ?_, ?_⟩
      · have := HW4.out.2.1
        have e2 : ys = encO o := by
          rw [← HY.out, List.take_of_length_le (l := told o.k) (i := k) (by have := HN.out; omega)]
          simp [encO]
        rw [← e2]
        exact own_base (B' := w.heap.size) this (by omega)
      · exact HB.out.trans ((HB1.out.mono (B' := w.heap.size) (by simp)).trans (HB4.out.mono (B' := w.heap.size) (by omega)))

end Go.Proofs.YteckjkblngmenaaDoor
