/-
  What Encode answers is proved here, for all ops whose texts are of at most 2^40 bytes: of a right one its bytes, in a row of the call's own.
-/
import Derived.Test.YtmgemgkanlpnnaaDoorOField
import Derived.Test.YtmgemgkanlpnnaaDoorORight
namespace Go.Proofs.YtmgemgkanlpnnaaDoor
open Go.RowKit
set_option linter.unusedVariables false
set_option maxRecDepth 100000

theorem encF_len {o : Opn} {f : Nat} (hf : f ≤ 8) (h : rightF o f = true) : (encF o f).length ≤ 500 := by
  have s1 := fun n => (M.sz_pos n).2
  rcases nine hf with rfl | rfl | rfl | rfl | rfl | rfl | rfl | rfl | rfl
  · have := s1 o.br; have := s1 o.bm; simp [encF, en2, M.enc_length]; omega
  · have := s1 o.pr; have := s1 o.pm; simp [encF, en2, M.enc_length]; omega
  · have := s1 o.key.size
    simp [rightF, K.right, tx_length] at h
    simp only [encF, encText_length]; omega
  · have := s1 o.sr; have := s1 o.sm; simp [encF, en2, M.enc_length]; omega
  · have := s1 o.lr; have := s1 o.lm; have := s1 o.li; simp [encF, en3, M.enc_length]; omega
  · have := s1 o.gr; have := s1 o.gm; have := s1 o.gi; simp [encF, en3, M.enc_length]; omega
  · have := s1 o.text.size
    simp [rightF] at h
    simp only [encF, encText_length]; omega
  · have := s1 o.cuts.length
    have := cuts_len o.cuts
    simp [rightF] at h
    simp only [encF, List.length_append, M.enc_length]; omega
  · have := s1 (if o.flag then 1 else 0)
    simp only [encF, M.enc_length]; omega
theorem encFs_len (o : Opn) : ∀ (L : List Nat), (∀ f ∈ L, f ≤ 8) → (∀ f ∈ L, rightF o f = true) → (L.flatMap (encF o)).length ≤ 500 * L.length := by
  intro L
  induction L with
  | nil => intro _ _; simp
  | cons f L ih =>
    intro h1 h2
    rw [List.flatMap_cons, List.length_append, List.length_cons]
    have := encF_len (h1 f (by simp)) (h2 f (by simp))
    have := ih (fun g hg => h1 g (by simp [hg])) (fun g hg => h2 g (by simp [hg]))
    omega
theorem encF_step (o : Opn) (l : List Nat) (k : Nat) (hk : k < l.length) : (l.take (k + 1)).flatMap (encF o) = (l.take k).flatMap (encF o) ++ encF o l[k] := by
  rw [List.take_succ_eq_append_getElem hk, List.flatMap_append]
  simp
theorem own_base {w : World} {B B' e sz : Nat} {v : Value} {n : Nat} {xs : List Value} (h : w.ownsRow B e sz v n xs) (hB : B' ≤ B) : w.ownsRow B' e sz v n xs := by
  refine ⟨h.1, ?_⟩
  rcases h.2 with h0 | ⟨g, cap, cur, hv, hg, r⟩
  · exact .inl h0
  · exact .inr ⟨g, cap, cur, hv, by omega, r⟩

theorem encode_no (o : Opn) (v : Value) (w : World) (hL : Lay w) (hC : Cs w v o.cuts) (hfin : o.fine) (hr : rightO o = false) :
    Calls Tryd.prog 19 #[opv o v] w fun e w' => e = .returned (.tuple #[.slice none 0 0, .bool false]) ∧ Below w.heap.size w w' := by
  have HB := hid (ba w (opo o v))
  have HR := hid (right_any o v _ (hL.below HB.out) (hC.below HB.out) hfin)
  rw [hr] at HR
  have HO := hid (Ob.new w o v)
  clear hL hC hfin hr
  go_enter Tryd.func19, Tryd.ntmps19
  go_wp2_with (refine wpList_load_op rfl _ rfl _ rfl _ _ HO.out ?_)
  refine HR.out.mono ?_
  rintro e w1 ⟨rfl, hb⟩
  have HB1 := hid hb
  clear hb
  go_wp2
  go_ret2
  exact ⟨rfl, bt HB.out HB1.out⟩

set_option maxHeartbeats 4000000 in
theorem encode_yes (o : Opn) (v : Value) (w : World) (hL : Lay w) (hC : Cs w v o.cuts) (hfin : o.fine) (hr : rightO o = true) :
    Calls Tryd.prog 19 #[opv o v] w fun e w' => ∃ u, e = .returned (.tuple #[u, .bool true]) ∧ w'.ownsRow w.heap.size 5 1 u (encO o).length (cs (encO o)) ∧ Below w.heap.size w w' := by
  have HB := hid (ba w (opo o v))
  have HRi := hid (right_any o v _ (hL.below HB.out) (hC.below HB.out) hfin)
  rw [hr] at HRi
  have HO := hid (Ob.new w o v)
  have HC := hid (hC.below HB.out)
  have HCb := hid (hC.block)
  have HR := hid hr
  clear hL hC hfin hr
  go_enter Tryd.func19, Tryd.ntmps19
  go_wp2_with (refine wpList_load_op rfl _ rfl _ rfl _ _ HO.out ?_)
  refine HRi.out.mono ?_
  rintro e w1 ⟨rfl, hb⟩
  have HB1 := hid hb
  have HO1 := hid (HO.out.below hb)
  have HC1 := hid (HC.out.below hb)
  clear hb HO HC HRi
  -- the writer
  have HA := hid (ba w1 (.cells #[.slice none 0 0] 74))
  have hW1 : Wr w1.heap.size (w1.alloc (.cells #[.slice none 0 0] 74)) w1.heap.size (.slice none 0 0) [] := ⟨heap_alloc_new w1 _, World.ownsRow_nil _ _ _ _, fun x hx => by cases hx⟩
  have HO2 := hid (HO1.out.below HA.out)
  have c0 := HO2.out.cells.c0
  have c1 := HO2.out.cells.c1
  have c2 := HO2.out.cells.c2
  have c3 := HO2.out.cells.c3
  have hnum : ∀ x ∈ [o.k, o.ir, o.im, o.t], Num49 x := by
    have hp := (right_parts HR.out).1
    have h1 := ro_bounds hp.1
    have h2 : 0 ≤ o.ir ∧ o.ir < 16 ∧ 1 ≤ o.t ∧ o.t ≤ 1099511627776 := by simpa [rs] using hp.2.1
    have h3 := six hp.2.2
    intro x hx
    unfold Num49
    simp at hx
    rcases hx with rfl | rfl | rfl | rfl <;> omega
  have HI := hid (numbers_new w1.heap.size w1.heap.size (.slice none 0 0) [] [o.k, o.ir, o.im, o.t] _ hW1 HA.out.size hnum (by simp) (by simp) (by simp))
  rw [show (w1.alloc (.cells #[.slice none 0 0] 74)).heap.size = w1.heap.size + 1 by simp] at HI
  have hsz1 := HB1.out.size
  rw [show (w.alloc (opo o v)).heap.size = w.heap.size + 1 by simp] at hsz1
  clear hnum hW1
  go_wp2_with fail
  refine HI.out.mono ?_
  rintro e w2 ⟨rfl, v2, hW2, hx2⟩
  have HW2 := hid hW2
  have HX2 := hid hx2
  clear hW2 hx2 HI c0 c1 c2 c3
  have hb2 : Below w1.heap.size (w1.alloc (.cells #[.slice none 0 0] 74)) w2 := HX2.out.1.below (fun k hk hs => by
    rcases hs with hs | hs
    · omega
    · cases hs) HA.out.size
  have HB2 := hid ((HA.out.trans hb2 : Below w1.heap.size w1 w2))
  have HO3 := hid (HO1.out.below HB2.out)
  have HC3 := hid (HC1.out.below HB2.out)
  have c0 := HO3.out.cells.c0
  clear hb2
  go_wp2_with fail
  refine (told_any o.k _).mono ?_
  rintro e w3 ⟨vt, rfl, hFs, hbt, hfr⟩
  have hpos : 0 < (told o.k).length := by
    have := (right_parts HR.out).1.2.2
    exact List.length_pos_iff.2 this
  obtain ⟨tb, toff, tc, rfl, htc, htm, htl, _⟩ := hFs.inv hpos
  have htb : w2.heap.size ≤ tb := hfr tb rfl
  obtain ⟨n, hn⟩ : ∃ n, (told o.k).length = n := ⟨_, rfl⟩
  have HN := hid hn
  have HFs := hid hFs
  have HBT := hid hbt
  have HW3 := hid (HW2.out.below hbt)
  have hs3 := hbt.size
  have hs2 := HB2.out.size
  have HTV : Hid (v2.ownBlock ≠ some tb) := by
    intro e
    have := (HW2.out.2.1.lt tb e).2
    omega
  have hlw := HW2.out.lt
  unfold maxLen at htm
  rw [hn] at HFs hpos htc ⊢
  clear hFs hbt hfr c0 hn
  go_wp2
  go_loopw [27] (fun i wr => ∃ (k : Nat) (v' : Value), k ≤ n ∧ i = .int .i64 k ∧ Wr w1.heap.size wr w1.heap.size v' (([o.k, o.ir, o.im, o.t].flatMap M.enc) ++ ((told o.k).take k).flatMap (encF o)) ∧ Wx w1.heap.size v2 v' w3 wr) (fun i _ => n - (intOf i).toNat)
  case atStart => exact ⟨0, v2, Nat.zero_le _, rfl, by simpa using HW3.out, Wx.refl _ _ _⟩
  case round =>
    obtain ⟨k, v4, hk, rfl, hw4, hx4⟩ := hrel
    obtain ⟨ys, hys⟩ : ∃ ys, ([o.k, o.ir, o.im, o.t].flatMap M.enc) ++ ((told o.k).take k).flatMap (encF o) = ys := ⟨_, rfl⟩
    rw [hys] at hw4
    have HY := hid hys
    have HX4 := hid hx4
    have HW4 := hid hw4
    clear hx4 hw4 hys
    have hb4 : Below w1.heap.size w3 wr := HX4.out.old HW3.out (Nat.le_refl _) (by omega)
    have HB4 := hid (HB2.out.trans ((HBT.out.mono hs2).trans hb4))
    clear hb4
    by_cases hlt : k < n
    · have hkl : k < (told o.k).length := by rw [HN.out]; exact hlt
      have hF : Fs wr (.slice (some ⟨tb, toff, none⟩) n tc) (told o.k) := Sl.kept HFs.out (fun j hj hjl => by
        simp [Value.ownBlock] at hj
        subst hj
        exact HX4.out.block hjl (by omega) HTV.out)
      obtain ⟨tb', toff', tc', hv', _, _, _, hcell⟩ := hF.inv (by omega)
      simp only [Value.slice.injEq, Option.some.injEq, Addr.mk.injEq, and_true] at hv'
      obtain ⟨⟨rfl, rfl⟩, -, rfl⟩ := hv'
      have g1 := hcell k hkl
      obtain ⟨f, hf⟩ : ∃ f, (told o.k)[k] = f := ⟨_, rfl⟩
      rw [hf] at g1
      have hf8 : f ≤ 8 := by rw [← hf]; exact told_le _ _ (List.getElem_mem hkl)
      have hfr : rightF o f = true := by rw [← hf]; exact right_told HR.out _ (List.getElem_mem hkl)
      have HF := hid hf
      have hya : ys.length ≤ 549755813888 := by
        rw [← HY.out]
        have h1 := encs_len [o.k, o.ir, o.im, o.t]
        have h2 := encFs_len o ((told o.k).take k) (fun g hg => told_le _ _ (List.mem_of_mem_take hg)) (fun g hg => right_told HR.out _ (List.mem_of_mem_take hg))
        have h3 := told_len o.k
        rw [List.length_append]
        rw [List.length_take] at h2
        simp only [List.length_cons, List.length_nil] at h1
        omega
      have HI := hid (field_w f hf8 w1.heap.size w1.heap.size v4 v ys o _ HW4.out (by have := HX4.out.size; omega) (Nat.le_refl _) (HC1.out.below HB4.out) (fun h j hj => by have := HCb.out h j hj; omega) hfr hya)
      have HOr := hid (HO1.out.below HB4.out)
      have b1' : (k : Int) < (n : Int) := by omega
      clear hcell hF hfr hya hf
      go_wp2_with (refine wpList_load_op rfl _ rfl _ rfl _ _ HOr.out ?_)
      refine HI.out.mono ?_
      rintro e w5 ⟨rfl, v5, hW5, hx5⟩
      have HW5 := hid hW5
      have HX5 := hid (HX4.out.trans hx5)
      clear hW5 hx5 HI g1
      go_wp2
      go_roundw
      case rel =>
        refine ⟨k + 1, v5, by omega, by go_num, ?_, HX5.out⟩
        have := HW5.out
        rw [← HY.out] at this
        rw [encF_step o _ k hkl, HF.out, ← List.append_assoc]
        exact this
      case measure => simp [intOf]; omega
    · have e1 : k = n := by omega
      obtain ⟨hcw, _, a6, c6, rfl, _⟩ := HW4.out.cell
      go_wp2
      go_ret2
      refine ⟨_, rfl, ?_, ?_⟩
      · have := HW4.out.2.1
        have e2 : ys = encO o := by
          rw [← HY.out, List.take_of_length_le (l := told o.k) (i := k) (by have := HN.out; omega)]
          simp [encO]
        rw [← e2]
        exact own_base (B' := w.heap.size) this (by omega)
      · exact HB.out.trans ((HB1.out.mono (B' := w.heap.size) (by simp)).trans (HB4.out.mono (B' := w.heap.size) (by omega)))

end Go.Proofs.YtmgemgkanlpnnaaDoor
