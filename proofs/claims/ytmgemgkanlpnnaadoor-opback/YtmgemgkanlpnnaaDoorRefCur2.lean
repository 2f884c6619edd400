/-
  What the reference's cursor answers to Bytes and Text, and what CopyBytes returns, is proved here, for at most 2^47 bytes, and cursors that are over nothing when they are lost.
-/
import Derived.Test.YtmgemgkanlpnnaaDoorRefCur
import Derived.Laws.AppendOwnNone
namespace Go.Proofs.YtmgemgkanlpnnaaDoor
open Go.RowKit
set_option linter.unusedVariables false
set_option maxRecDepth 100000

set_option maxHeartbeats 2000000 in
/-- A copy: a row of its own, not nil. -/
theorem copy_own (v : Value) (xs : List Int) (w : World) (h : Bs w v xs) (hn : xs.length ≤ 140737488355328) :
    Calls Tryd.prog 21 #[v] w fun e w' => ∃ g cap, e = .returned (.slice (some ⟨g, 0, none⟩) xs.length cap) ∧ w'.ownsRow w.heap.size 5 1 (.slice (some ⟨g, 0, none⟩) xs.length cap) xs.length (cs xs) ∧ Below w.heap.size w w' := by
  have h' := h
  obtain ⟨a, c, rfl, _⟩ := h
  obtain ⟨i0, hi, hz0, hz1, hz2⟩ := info_parts info_u8
  have hown0 : (w.alloc (.cells #[] 5)).ownsRow w.heap.size 5 1 (.slice (some ⟨w.heap.size, 0, none⟩) 0 0) 0 [] := World.ownsRow_made w #[] 0 (Nat.le_refl _) (Nat.zero_le _) rfl
  cases a with
  | none =>
    have hx : xs.length = 0 := by
      obtain ⟨a', c', h1, h2, _, h4, _⟩ := h'
      simp only [Value.slice.injEq] at h1
      have := h4 h1.1.symm
      omega
    have e1 : xs = [] := List.eq_nil_of_length_eq_zero hx
    subst e1
    go_enter Tryd.func21, Tryd.ntmps21
    go_wp2
    go_ret
    exact ⟨_, _, rfl, hown0, ba _ _⟩
  | some A =>
    have hcell := cells_at h'
    have HC := hid hcell
    clear hcell h'
    go_enter Tryd.func21, Tryd.ntmps21
    go_wp2_with (at_builtin; refine wpList_append_own _ rfl (.tmp 5) (.tmp 6) 22 rfl w.heap.size 5 i0 (.int .u8 0) 1 1 Tryd.underlying22 hi hz0 hz1 hz2 rfl (by decide) _ _ _ rfl hown0 A xs.length c (cs xs) rfl ?c0 ?c1 (ints_oneCell .u8 xs) ?c3 ?c4 ?c5 ?_)
    case c0 => simp
    case c1 =>
      intro j u hu
      have h1 := HC.out j u hu
      have hb := World.block_lt_of_cell? _ _ h1
      rw [((Below.refl w.heap.size w).alloc (Nat.le_refl _) _).cell hb]
      exact h1
    case c3 => unfold maxLen; omega
    case c4 => omega
    case c5 => simp
    intro v' w1 hown hgrow hnil
    have hb : Below w.heap.size w w1 := ((Below.refl _ w).alloc (Nat.le_refl _) (.cells #[] 5)).grown hgrow (by simp) (by intro k hk; simp [Value.ownBlock] at hk; omega)
    have hv : ∃ g cap, v' = .slice (some ⟨g, 0, none⟩) xs.length cap := by
      rcases hown.2 with ⟨e, _⟩ | ⟨g, cap, cur, e, _⟩
      · exact absurd e hnil
      · exact ⟨g, cap, by simpa using e⟩
    have hown' : w1.ownsRow w.heap.size 5 1 v' xs.length (cs xs) := by simpa using hown
    obtain ⟨g, cap, rfl⟩ := hv
    clear hown hgrow hown0 hnil
    go_wp2
    go_ret
    exact ⟨_, _, rfl, hown', hb⟩

theorem Bs.empty (w : World) (x : Addr) (c : Nat) (hc : c ≤ maxLen := by decide) : Bs w (.slice (some x) 0 c) [] :=
  ⟨some x, c, rfl, Nat.zero_le _, hc, (fun e => by cases e), fun i hi => absurd hi (Nat.not_lt_zero _), fun y hy => by cases hy⟩
theorem Bs.bound {w : World} {a : Option Addr} {n c : Nat} {xs : List Int} (h : Bs w (.slice a n c) xs) : n = xs.length ∧ xs.length ≤ c := by
  obtain ⟨a', c', h1, h2, _⟩ := h
  simp only [Value.slice.injEq] at h1
  omega

set_option maxHeartbeats 2000000 in
theorem refbytes_any (b : Nat) (xs : List Int) (lost : Bool) (n : Int) (w : World) (h : Cur 66 w b xs lost) (hl : lost = true → xs = []) (hn : xs.length ≤ 140737488355328) :
    Calls Tryd.prog 61 #[.pointer (some ⟨b, 0, none⟩), .int .i64 n] w fun e w' =>
      ∃ v, e = .returned v ∧ Bs w' v (M.takeV n xs) ∧ Cur 66 w' b (M.takeS n xs) (M.takeL n xs lost) ∧ w.grownBy w' (some b) := by
  obtain ⟨a, c, hB, hc0, hc1, hf0, hf1⟩ := h.cells
  have HB := hid hB
  have HC := hid h
  have hlen := hB.len
  have hlc := hB.bound.2
  unfold maxLen at hlen
  clear hB h
  cases lost with
  | true =>
    have := hl rfl
    subst this
    have e1 : M.takeV n [] = [] := by unfold M.takeV; split <;> simp
    have e2 : M.takeS n [] = [] := by unfold M.takeS; split <;> simp
    have e3 : M.takeL n [] true = true := by unfold M.takeL; split <;> rfl
    rw [e1, e2, e3]
    clear e1 e2 e3
    go_enter Tryd.func61, Tryd.ntmps61
    go_wp2_with fail
    refine (reflose_any b _ _ _ HC.out).mono ?_
    rintro e w1 ⟨rfl, hc, hg⟩
    go_wp2
    go_ret
    exact ⟨_, rfl, Bs.nil _, hc, hg⟩
  | false =>
    clear hl
    by_cases hok : M.takeOk n xs = true
    · have hn' : 0 ≤ n ∧ n ≤ xs.length := by unfold M.takeOk at hok; simpa using hok
      obtain ⟨h0, h1⟩ := hn'
      rw [show M.takeV n xs = xs.take n.toNat by simp [M.takeV, hok], show M.takeS n xs = xs.drop n.toNat by simp [M.takeS, hok], show M.takeL n xs false = false by simp [M.takeL, hok]]
      clear hok
      obtain ⟨k, rfl⟩ := Int.eq_ofNat_of_zero_le h0
      rw [Int.toNat_natCast]
      have hk : k ≤ xs.length := by omega
      have hT := Bs.take HB.out k hk
      have HT := hid hT
      clear h0
      obtain ⟨i0, hi, hz0, hz1, hz2⟩ := info_parts info_u8
      have hown0 : (w.alloc (.cells #[] 5)).ownsRow w.heap.size 5 1 (.slice (some ⟨w.heap.size, 0, none⟩) 0 0) 0 [] := World.ownsRow_made w #[] 0 (Nat.le_refl _) (Nat.zero_le _) rfl
      have hbl := HC.out.lt
      have hck : (k : Int) ≤ (c : Int) := by omega
      cases a with
      | none =>
        have hx : xs.length = 0 ∧ c = 0 := by
          obtain ⟨a', c', h1, h2, _, h4, _⟩ := HB.out
          simp only [Value.slice.injEq] at h1
          have := h4 h1.1.symm
          omega
        have e1 : xs = [] := List.eq_nil_of_length_eq_zero hx.1
        subst e1
        have e2 : k = 0 := by simpa using hk
        have e3 := hx.2
        subst e2 e3
        have hs := HC.out.set0 (Bs.nil w)
        have HS := hid hs
        clear hs hT HB HT hx hck hk hlen hlc hn h1
        go_enter Tryd.func61, Tryd.ntmps61
        go_wp2
        go_ret
        exact ⟨_, rfl, Bs.empty _ _ _, HS.out.1.below (ba _ _), HS.out.2.trans (World.grownBy.of_below (ba _ _))⟩
      | some A =>
        have hcell := hid (cells_at hT)
        clear hT
        go_enter Tryd.func61, Tryd.ntmps61
        go_wp2_with (at_builtin; refine wpList_append_own _ rfl (.tmp 26) (.tmp 32) 22 rfl w.heap.size 5 i0 (.int .u8 0) 1 1 Tryd.underlying22 hi hz0 hz1 hz2 rfl (by decide) _ _ _ rfl hown0 A k c (cs (xs.take k)) rfl ?c0 ?c1 (ints_oneCell .u8 _) ?c3 ?c4 ?c5 ?_)
        case c0 => simp; omega
        case c1 =>
          intro j u hu
          have h1 := hcell.out j u hu
          have hb := World.block_lt_of_cell? _ _ h1
          rw [((Below.refl w.heap.size w).alloc (Nat.le_refl _) _).cell hb]
          exact h1
        case c3 => unfold maxLen; omega
        case c4 => omega
        case c5 => simp
        intro v' w1 hown hgrow _
        have hb : Below w.heap.size w w1 := ((Below.refl _ w).alloc (Nat.le_refl _) (.cells #[] 5)).grown hgrow (by simp) (by intro k hk; simp [Value.ownBlock] at hk; omega)
        have hown' : w1.ownsRow w.heap.size 5 1 v' k (cs (xs.take k)) := by simpa using hown
        have hBv : Bs w1 v' (xs.take k) := Bs.of_own hown' (fun x hx => HB.out.range x (List.mem_of_mem_take hx))
        have hd0 : w1.cell? ⟨b, 0, none⟩ = some (.slice (some A) xs.length c) := by rw [hb.cell hbl]; exact hc0
        have hd1 : w1.frozen? ⟨b, 0, none⟩ = false := by rw [hb.frozen hbl]; exact hf0
        have HC1 := hid (HC.out.below hb)
        have hs := HC1.out.set0 (Bs.drop (HB.out.below hb) k hk)
        have HS := hid hs
        have HBV := hid hBv
        have hg1 : w.grownBy w1 (some b) := World.grownBy.of_below hb
        clear hown hown' hgrow hown0 hs hBv hc0 hc1 hf0 hf1
        by_cases hcf : c = k
        · subst hcf
          go_wp2
          go_ret
          have hs := HS.out
          simp only [if_pos] at hs
          rw [show xs.length - c = 0 by omega, Nat.sub_self] at hs
          exact ⟨_, rfl, HBV.out.keeps (HC1.out.keeps hs.2), hs.1, hg1.trans hs.2⟩
        · go_wp2
          go_ret
          have hs := HS.out
          simp only [if_neg hcf, Option.map_some] at hs
          exact ⟨_, rfl, HBV.out.keeps (HC1.out.keeps hs.2), hs.1, hg1.trans hs.2⟩
    · have hn' : ¬ (0 ≤ n ∧ n ≤ xs.length) := by unfold M.takeOk at hok; simpa using hok
      rw [show M.takeV n xs = [] by simp [M.takeV, hok], show M.takeS n xs = [] by simp [M.takeS, hok], show M.takeL n xs false = true by simp [M.takeL, hok]]
      clear hok
      by_cases h0 : n < 0
      · clear hn'
        go_enter Tryd.func61, Tryd.ntmps61
        go_wp2_with fail
        refine (reflose_any b _ _ _ HC.out).mono ?_
        rintro e w1 ⟨rfl, hc, hg⟩
        go_wp2
        go_ret
        exact ⟨_, rfl, Bs.nil _, hc, hg⟩
      · have h1 : (xs.length : Int) < n := by omega
        clear hn'
        go_enter Tryd.func61, Tryd.ntmps61
        go_wp2_with fail
        refine (reflose_any b _ _ _ HC.out).mono ?_
        rintro e w1 ⟨rfl, hc, hg⟩
        go_wp2
        go_ret
        exact ⟨_, rfl, Bs.nil _, hc, hg⟩


theorem numV_nonneg {most : Int} {xs : List Int} (hx : ∀ x ∈ xs, 0 ≤ x ∧ x < 256) : 0 ≤ M.numV most xs := by
  unfold M.numV
  split
  · unfold M.fn
    split
    · rename_i p hp
      exact (M.enc_first_eq (n := p.1) (k := p.2) hx hp).1
    · exact Int.le_refl _
  · exact Int.le_refl _

theorem numL_nil {most : Int} {xs : List Int} {l : Bool} (h : l = true → xs = []) : M.numL most xs l = true → M.numS most xs = [] := by
  unfold M.numL M.numS
  by_cases hok : M.numOk most xs = true
  · simp only [hok, if_pos]
    intro e
    have := h e
    subst this
    rfl
  · simp [hok]

set_option maxHeartbeats 2000000 in
theorem reftext_any (b : Nat) (xs : List Int) (lost : Bool) (most : Int) (w : World) (h : Cur 66 w b xs lost) (hl : lost = true → xs = []) (hn : xs.length ≤ 140737488355328) :
    Calls Tryd.prog 36 #[.pointer (some ⟨b, 0, none⟩), .int .i64 most] w fun e w' =>
      e = .returned (.string (M.str (M.textV most xs))) ∧ Cur 66 w' b (M.textS most xs) (M.textL most xs lost) ∧ w.grownBy w' (some b) := by
  unfold M.textV M.textS M.textL
  have hr : ∀ x ∈ xs, 0 ≤ x ∧ x < 256 := by
    obtain ⟨v, _, hB⟩ := h
    exact hB.range
  have h0 := numV_nonneg (most := most) hr
  have hl1 := numL_nil (most := most) hl
  have hle : (M.numS most xs).length ≤ xs.length := by unfold M.numS; split <;> simp
  have HL1 := hid hl1
  clear hr hl1
  go_enter Tryd.func36, Tryd.ntmps36
  go_wp2_with fail
  refine (refnum_any b xs lost most _ h hl).mono ?_
  rintro e w1 ⟨rfl, hc1, hg1⟩
  obtain ⟨nv, hnv⟩ : ∃ nv, M.numV most xs = nv := ⟨_, rfl⟩
  obtain ⟨ys, hys⟩ : ∃ ys, M.numS most xs = ys := ⟨_, rfl⟩
  obtain ⟨l1, hl1⟩ : ∃ l1, M.numL most xs lost = l1 := ⟨_, rfl⟩
  have hHL := HL1.out
  rw [hys, hl1] at hc1 hHL
  rw [hys] at hle
  rw [hnv] at h0 ⊢
  have HNV := hid hnv
  have HYS := hid hys
  have HLL := hid hl1
  have HHL := hid hHL
  clear hnv hys hl1 hHL HL1 h hl
  obtain ⟨a, c, hB, hc0, hc11, hf0, hf1⟩ := hc1.cells
  have hlen := hB.len
  unfold maxLen at hlen
  have HC1 := hid hc1
  clear hB hc1
  cases l1 with
  | true =>
    have e0 := HHL.out rfl
    subst e0
    have e1 : M.takeV nv [] = [] := by unfold M.takeV; split <;> simp
    have e2 : M.takeS nv [] = [] := by unfold M.takeS; split <;> simp
    have e3 : M.takeL nv [] true = true := by unfold M.takeL; split <;> rfl
    have HE := hid (And.intro e1 (And.intro e2 e3))
    clear e1 e2 e3
    go_wp2_with fail
    refine (reflose_any b _ _ _ HC1.out).mono ?_
    rintro e w2 ⟨rfl, hc, hg⟩
    go_wp2
    go_ret
    rw [HNV.out, HYS.out, HLL.out, HE.out.1, HE.out.2.1, HE.out.2.2]
    exact ⟨rfl, hc, hg1.trans hg⟩
  | false =>
    by_cases hgt : (ys.length : Int) < nv
    · have hok : M.takeOk nv ys = false := by simp [M.takeOk]; omega
      have HE := hid hok
      clear hok
      go_wp2_with fail
      refine (reflose_any b _ _ _ HC1.out).mono ?_
      rintro e w2 ⟨rfl, hc, hg⟩
      go_wp2
      go_ret
      rw [HNV.out, HYS.out, HLL.out]
      simp only [M.takeV, M.takeS, M.takeL, HE.out]
      exact ⟨rfl, hc, hg1.trans hg⟩
    · go_wp2_with fail
      refine (refbytes_any b _ _ _ _ HC1.out (fun e => by cases e) (by omega)).mono ?_
      rintro e w2 ⟨v, rfl, hB2, hc2, hg2⟩
      have hcv := conv_str hB2
      go_wp2
      go_ret
      rw [HNV.out, HYS.out, HLL.out]
      exact ⟨rfl, hc2, hg1.trans hg2⟩

end Go.Proofs.YtmgemgkanlpnnaaDoor
