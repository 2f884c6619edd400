/-
  What a writer's methods cuts and field write is proved here, for all right cuts and fields.
-/
import Derived.Test.YtmgemgkanlpnnaaDoorOText
namespace Go.Proofs.YtmgemgkanlpnnaaDoor
open Go.RowKit
set_option linter.unusedVariables false
set_option maxRecDepth 100000

/-- What lies below B is as it was, where the writer and its row lie from B on. -/
theorem Wx.old {B b : Nat} {v v' : Value} {w w' : World} {xs : List Int} (h : Wx b v v' w w') (hW : Wr B w b v xs) (hb : B ≤ b) (hB : B ≤ w.heap.size) : Below B w w' :=
  h.1.below (fun k hk hs => by
    rcases hs with hs | hs
    · omega
    · have := (hW.2.1.lt k hs).1; omega) hB
theorem Sl.old {sz B : Nat} {w w' : World} {v : Value} {n : Nat} {cells : List Value} (h : Sl sz w v n cells) (hb : Below B w w') (hv : ∀ k, v.ownBlock = some k → k < B) : Sl sz w' v n cells := h.kept fun k hk _ => hb.block k (hv k hk)

theorem Cs.block {w : World} {v : Value} {l : List Ct} (h : Cs w v l) (hl : 0 < l.length) : ∀ k, v.ownBlock = some k → k < w.heap.size := by
  obtain ⟨b, off, c, rfl, _, _, hb, _⟩ := h.inv hl
  intro k hk
  simp [Value.ownBlock] at hk
  omega
theorem Cs.old {B : Nat} {w w' : World} {v : Value} {l : List Ct} (h : Cs w v l) (hb : Below B w w') (hv : 0 < l.length → ∀ k, v.ownBlock = some k → k < B) : Cs w' v l := by
  by_cases hl : 0 < l.length
  · exact Sl.old h hb (hv hl)
  · obtain rfl := List.eq_nil_of_length_eq_zero (by omega : l.length = 0)
    obtain ⟨h0, a, c, h1, h2, h3, h4, _⟩ := h
    exact ⟨h0, a, c, h1, h2, h3, h4, fun j u hu => by simp at hu⟩

theorem enC_eq (c : Ct) : [c.r, c.n, c.f, c.t].flatMap M.enc = enC c := by simp [enC]
theorem rct_nums {c : Ct} (h : rct c = true) : ∀ x ∈ [c.r, c.n, c.f, c.t], Num49 x := by
  simp [rct, ro] at h
  intro x hx
  unfold Num49
  simp at hx
  rcases hx with rfl | rfl | rfl | rfl <;> omega
theorem enC_len (c : Ct) : (enC c).length ≤ 28 := by
  have := encs_len [c.r, c.n, c.f, c.t]
  rw [enC_eq] at this
  simpa using this
theorem cuts_len (l : List Ct) : (l.flatMap enC).length ≤ 28 * l.length := by
  induction l with
  | nil => simp
  | cons c l ih =>
    rw [List.flatMap_cons, List.length_append, List.length_cons]
    have := enC_len c
    omega
theorem cuts_step (l : List Ct) (k : Nat) (hk : k < l.length) : (l.take (k + 1)).flatMap enC = (l.take k).flatMap enC ++ enC l[k] := by
  rw [List.take_succ_eq_append_getElem hk, List.flatMap_append]
  simp

set_option maxHeartbeats 2000000 in
theorem cuts_w (B b : Nat) (v vc : Value) (xs : List Int) (l : List Ct) (w : World) (h : Wr B w b v xs) (hB : B ≤ w.heap.size) (hbB : B ≤ b) (hC : Cs w vc l) (hcB : ∀ k, vc.ownBlock = some k → k < B) (hl1 : 1 ≤ l.length) (hl16 : l.length ≤ 16) (hr : ∀ c ∈ l, rct c = true) (hlen : xs.length ≤ 549755813888) :
    Calls Tryd.prog 74 #[.pointer (some ⟨b, 0, none⟩), vc] w fun e w' =>
      e = .returned (.tuple #[]) ∧ ∃ v', Wr B w' b v' (xs ++ (M.enc l.length ++ l.flatMap enC)) ∧ Wx b v v' w w' := by
  have hC' := hC
  obtain ⟨gb, off, c, rfl, hlc, hcm, hbl, hc⟩ := hC.inv (by omega)
  obtain ⟨n, hn⟩ : ∃ n, l.length = n := ⟨_, rfl⟩
  have HN := hid hn
  rw [hn] at hl1 hl16 hlc ⊢
  have HI := hid (numbers_new B b v xs [(n : Int)] w h hB (by intro x hx; simp at hx; subst hx; unfold Num49; omega) (by omega) (by simp) (by simp))
  have HW := hid h
  have HC := hid hc
  have HR := hid hr
  have HGB := hid (hcB gb rfl)
  unfold maxLen at hcm
  clear hn h hC hc hr hC' hcB hbl
  go_enter Tryd.func74, Tryd.ntmps74
  go_wp2_with fail
  refine HI.out.mono ?_
  rintro e w1 ⟨rfl, v1, hW1, hx1⟩
  have HW1 := hid hW1
  have HX1 := hid hx1
  clear hW1 hx1 HI
  go_wp2
  go_loopw [13] (fun i wr => ∃ (k : Nat) (v' : Value), k ≤ n ∧ i = .int .i64 k ∧ Wr B wr b v' (xs ++ (M.enc n ++ (l.take k).flatMap enC)) ∧ Wx b v v' w wr) (fun i _ => n - (intOf i).toNat)
  case atStart => exact ⟨0, v1, Nat.zero_le _, rfl, by simpa using HW1.out, HX1.out⟩
  case round =>
    obtain ⟨k, v2, hk, rfl, hw2, hx2⟩ := hrel
    clear HW1 HX1
    obtain ⟨ys, hys⟩ : ∃ ys, xs ++ (M.enc n ++ (l.take k).flatMap enC) = ys := ⟨_, rfl⟩
    rw [hys] at hw2
    have HY := hid hys
    have HX2 := hid hx2
    have HW2 := hid hw2
    clear hx2 hw2 hys
    by_cases hlt : k < n
    · have hkl : k < l.length := by rw [HN.out]; exact hlt
      have hbel := HX2.out.old HW.out hbB hB
      obtain ⟨x, hx⟩ : ∃ x, l[k] = x := ⟨_, rfl⟩
      have g := HC.out k hkl
      rw [hx] at g
      have g0 := (hbel.cell (p := ⟨gb, off + k * 4, none⟩) HGB.out).trans g.1
      have g1 := (hbel.cell (p := ⟨gb, off + k * 4 + 1, none⟩) HGB.out).trans g.2.1
      have g2 := (hbel.cell (p := ⟨gb, off + k * 4 + 2, none⟩) HGB.out).trans g.2.2.1
      have g3 := (hbel.cell (p := ⟨gb, off + k * 4 + 3, none⟩) HGB.out).trans g.2.2.2
      have hxr : rct x = true := by rw [← hx]; exact HR.out _ (List.getElem_mem hkl)
      have hsz := HX2.out.size
      have hya : ys.length ≤ 1099511627776 := by
        rw [← HY.out]
        have := cuts_len (l.take k)
        have := (M.sz_pos n).2
        rw [List.length_append, List.length_append, M.enc_length]
        rw [List.length_take] at *
        omega
      have HA := hid (ba wr (.cells #[.int .i64 x.r, .int .i64 x.n, .int .i64 x.f, .int .i64 x.t] 71))
      have HI := hid (numbers_new B b v2 ys [x.r, x.n, x.f, x.t] _ (HW2.out.below HA.out) (Nat.le_trans hB (Nat.le_trans hsz HA.out.size)) (rct_nums hxr) hya (by simp) (by simp))
      rw [show (wr.alloc (.cells #[.int .i64 x.r, .int .i64 x.n, .int .i64 x.f, .int .i64 x.t] 71)).heap.size = wr.heap.size + 1 by simp] at HI
      have HX := hid hx
      have b1' : (k : Int) < (n : Int) := by omega
      clear hx g hbel hxr hya
      go_wp2_with fail
      refine HI.out.mono ?_
      rintro e w3 ⟨rfl, v3, hW3, hx3⟩
      have HW3 := hid hW3
      have HX3 := hid (HX2.out.trans ((Wx.of_below HA.out).trans hx3))
      clear hW3 hx3 HI g0 g1 g2 g3
      go_wp2
      go_roundw
      case rel =>
        refine ⟨k + 1, v3, by omega, by go_num, ?_, HX3.out⟩
        have := HW3.out
        rw [enC_eq, ← HY.out] at this
        rw [cuts_step l k hkl, HX.out]
        simpa using this
      case measure => simp [intOf]; omega
    · have e1 : k = n := by omega
      go_wp2
      go_end0
      refine ⟨rfl, v2, ?_, HX2.out⟩
      have := HW2.out
      rw [← HY.out, List.take_of_length_le (by have := HN.out; omega)] at this
      exact this


set_option maxHeartbeats 2000000 in
theorem field_w (f : Nat) (hf : f ≤ 8) (B b : Nat) (v vc : Value) (xs : List Int) (o : Opn) (w : World) (h : Wr B w b v xs) (hB : B ≤ w.heap.size) (hbB : B ≤ b) (hC : Cs w vc o.cuts) (hcB : 0 < o.cuts.length → ∀ k, vc.ownBlock = some k → k < B) (hr : rightF o f = true) (hlen : xs.length ≤ 549755813888) :
    Calls Tryd.prog 45 #[.pointer (some ⟨b, 0, none⟩), opv o vc, .int .i64 f] w fun e w' =>
      e = .returned (.tuple #[]) ∧ ∃ v', Wr B w' b v' (xs ++ encF o f) ∧ Wx b v v' w w' := by
  have HA := hid (ba w (opo o vc))
  have HW := hid (h.below HA.out)
  have HBA := hid (Nat.le_trans hB HA.out.size)
  have HC := hid (hC.below HA.out)
  have HCB := hid hcB
  have hlen' : xs.length ≤ 1099511627776 := by omega
  clear h hC hcB
  rcases nine hf with rfl | rfl | rfl | rfl | rfl | rfl | rfl | rfl | rfl
  · have hq := ro_bounds hr
    have q1 : Num49 o.br := by unfold Num49; omega
    have q2 : Num49 o.bm := by unfold Num49; omega
    clear hq hr
    go_enter Tryd.func45, Tryd.ntmps45
    go_wp2_with fail
    refine (name_w B b v xs _ _ _ HW.out HBA.out q1 q2 hlen').mono ?_
    rintro e w1 ⟨rfl, v1, hW1, hx1⟩
    have HW1 := hid hW1
    have HX1 := hid hx1
    clear hW1 hx1
    go_wp2
    go_end0
    exact ⟨rfl, v1, HW1.out, (Wx.of_below HA.out).trans HX1.out⟩
  · have hq := rb_bounds hr
    have q1 : Num49 o.pr := by unfold Num49; omega
    have q2 : Num49 o.pm := by unfold Num49; omega
    clear hq hr
    go_enter Tryd.func45, Tryd.ntmps45
    go_wp2_with fail
    refine (name_w B b v xs _ _ _ HW.out HBA.out q1 q2 hlen').mono ?_
    rintro e w1 ⟨rfl, v1, hW1, hx1⟩
    have HW1 := hid hW1
    have HX1 := hid hx1
    clear hW1 hx1
    go_wp2
    go_end0
    exact ⟨rfl, v1, HW1.out, (Wx.of_below HA.out).trans HX1.out⟩
  · have hs : o.key.size ≤ 1099511627776 := by
      simp [rightF, K.right, tx_length] at hr
      omega
    clear hr
    go_enter Tryd.func45, Tryd.ntmps45
    go_wp2_with fail
    refine (text_w B b v xs _ _ HW.out HBA.out hs hlen').mono ?_
    rintro e w1 ⟨rfl, v1, hW1, hx1⟩
    have HW1 := hid hW1
    have HX1 := hid hx1
    clear hW1 hx1
    go_wp2
    go_end0
    exact ⟨rfl, v1, HW1.out, (Wx.of_below HA.out).trans HX1.out⟩
  · have hq := ro_bounds hr
    have q1 : Num49 o.sr := by unfold Num49; omega
    have q2 : Num49 o.sm := by unfold Num49; omega
    clear hq hr
    go_enter Tryd.func45, Tryd.ntmps45
    go_wp2_with fail
    refine (name_w B b v xs _ _ _ HW.out HBA.out q1 q2 hlen').mono ?_
    rintro e w1 ⟨rfl, v1, hW1, hx1⟩
    have HW1 := hid hW1
    have HX1 := hid hx1
    clear hW1 hx1
    go_wp2
    go_end0
    exact ⟨rfl, v1, HW1.out, (Wx.of_below HA.out).trans HX1.out⟩
  · have hq := rc_bounds hr
    have q1 : Num49 o.lr := by unfold Num49; omega
    have q2 : Num49 o.lm := by unfold Num49; omega
    have q3 : Num49 o.li := by unfold Num49; omega
    clear hq hr
    go_enter Tryd.func45, Tryd.ntmps45
    go_wp2_with fail
    refine (char_w B b v xs _ _ _ _ HW.out HBA.out q1 q2 q3 hlen').mono ?_
    rintro e w1 ⟨rfl, v1, hW1, hx1⟩
    have HW1 := hid hW1
    have HX1 := hid hx1
    clear hW1 hx1
    go_wp2
    go_end0
    exact ⟨rfl, v1, HW1.out, (Wx.of_below HA.out).trans HX1.out⟩
  · have hq := rc_bounds hr
    have q1 : Num49 o.gr := by unfold Num49; omega
    have q2 : Num49 o.gm := by unfold Num49; omega
    have q3 : Num49 o.gi := by unfold Num49; omega
    clear hq hr
    go_enter Tryd.func45, Tryd.ntmps45
    go_wp2_with fail
    refine (char_w B b v xs _ _ _ _ HW.out HBA.out q1 q2 q3 hlen').mono ?_
    rintro e w1 ⟨rfl, v1, hW1, hx1⟩
    have HW1 := hid hW1
    have HX1 := hid hx1
    clear hW1 hx1
    go_wp2
    go_end0
    exact ⟨rfl, v1, HW1.out, (Wx.of_below HA.out).trans HX1.out⟩
  · have hs : o.text.size ≤ 1099511627776 := by
      simp [rightF] at hr
      omega
    clear hr
    go_enter Tryd.func45, Tryd.ntmps45
    go_wp2_with fail
    refine (text_w B b v xs _ _ HW.out HBA.out hs hlen').mono ?_
    rintro e w1 ⟨rfl, v1, hW1, hx1⟩
    have HW1 := hid hW1
    have HX1 := hid hx1
    clear hW1 hx1
    go_wp2
    go_end0
    exact ⟨rfl, v1, HW1.out, (Wx.of_below HA.out).trans HX1.out⟩
  · have hs : (1 ≤ o.cuts.length ∧ o.cuts.length ≤ 16) ∧ ∀ c ∈ o.cuts, rct c = true := by
      simpa [rightF] using hr
    have HS := hid hs
    clear hs hr
    go_enter Tryd.func45, Tryd.ntmps45
    go_wp2_with fail
    refine (cuts_w B b v _ xs o.cuts _ HW.out HBA.out hbB HC.out (HCB.out HS.out.1.1) HS.out.1.1 HS.out.1.2 HS.out.2 hlen).mono ?_
    rintro e w1 ⟨rfl, v1, hW1, hx1⟩
    have HW1 := hid hW1
    have HX1 := hid hx1
    clear hW1 hx1
    go_wp2
    go_end0
    exact ⟨rfl, v1, HW1.out, (Wx.of_below HA.out).trans HX1.out⟩
  · clear hr
    go_enter Tryd.func45, Tryd.ntmps45
    go_wp2_with fail
    refine (flag_w B b v xs _ _ HW.out HBA.out hlen').mono ?_
    rintro e w1 ⟨rfl, v1, hW1, hx1⟩
    have HW1 := hid hW1
    have HX1 := hid hx1
    clear hW1 hx1
    go_wp2
    go_end0
    exact ⟨rfl, v1, HW1.out, (Wx.of_below HA.out).trans HX1.out⟩

end Go.Proofs.YtmgemgkanlpnnaaDoor
