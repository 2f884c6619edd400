/-
  Parts of the proof, one behind the other; what each proves stands at its head.
-/
import Derived.Test.YtkcjkncpaopjbaaPart6
import Derived.Test.YtkcjkncpaopjbaaPart4

/-
  What Of, Add, Join and Missing answer and leave is proved here, of the program, for all vectors.
-/
namespace Go.Proofs.Ytkcjkncpaopjbaa
open Go.RowKit
set_option linter.unusedVariables false
set_option maxRecDepth 100000

theorem join_any (b c : Nat) (l m : List Int) (w : World) (h : Vc w b l) (h' : Vc w c m) (hne : c ≠ b) :
    Calls Try.prog 28 #[.pointer (some ⟨b, 0, none⟩), .pointer (some ⟨c, 0, none⟩)] w fun e w' => e = .returned (.tuple #[]) ∧ Vc w' b (joinV l m) ∧ Fr (fun i => i = b) w w' := by
  have HW := hid h'
  have hk := h'.1
  have hl := h.1
  have HV0 := hid (show Vc w b (mixV l m 0) from by rw [mix_zero hl hk]; exact h)
  have HE := hid (mix_full hl hk)
  clear h h'
  go_enter Try.func28, Try.ntmps28
  go_wp2_with (refine wpList_ld_arr rfl (.tmp 8) rfl c m rfl HW.out ?_)
  go_loopw [10] (fun i wr => ∃ k : Nat, k ≤ 16 ∧ i = .int .i64 k ∧ Vc wr b (mixV l m k) ∧ Fr (fun i => i = b) w wr) (fun i _ => 16 - (intOf i).toNat)
  case atStart => exact ⟨0, by omega, rfl, HV0.out, Fr.refl _ _⟩
  case round =>
    obtain ⟨k, hk16, rfl, hv, hf⟩ := hrel
    have HV := hid hv
    have HF := hid hf
    clear hv hf
    by_cases hlt : k < 16
    · have hlt' : (k : Int) < 16 := by omega
      have hix := run_ix hk hlt
      have hcell := HV.out.cell hlt
      have hfz := HV.out.frozen k
      rw [mix_self hlt] at hcell
      have hb1 := hk.2 k
      have hb2 := hl.2 k
      have hs := mix_set hl hk hlt
      obtain ⟨x, hx⟩ : ∃ x, m.getD k 0 = x := ⟨_, rfl⟩
      obtain ⟨y, hy⟩ : ∃ y, l.getD k 0 = y := ⟨_, rfl⟩
      rw [hx] at hix hs hb1
      rw [hy] at hcell hs hb2
      have HS := hid hs
      clear hx hy hs
      go_wp2_with (go_region)
      have e : (if y < x then x else y) = max y x := by split <;> omega
      have hp := HV.out.put hlt (max y x) (by omega)
      rw [← e] at hp
      refine ⟨⟨k + 1, by omega, by go_num, ?_, ?_⟩, by simp [intOf]; omega⟩
      · rw [← HS.out, ← e]; exact hp.1
      · exact HF.out.trans (hp.2.drewN 1) (fun i _ h => h)
    · obtain rfl : k = 16 := by omega
      go_wp2_with fail
      go_end0
      rw [HE.out] at HV
      exact ⟨rfl, HV.out, HF.out⟩

theorem ok_long {l : List Int} (h : 16 < l.length) : okV l = false := by
  unfold okV
  rw [decide_eq_false (by omega), Bool.false_and]
theorem ok_bad {l : List Int} (k : Nat) (hk : k < l.length) (h : ¬ (0 ≤ l.getD k 0 ∧ l.getD k 0 ≤ 1048576)) : okV l = false := by
  unfold okV
  rw [Bool.and_eq_false_iff]
  right
  rw [← Bool.not_eq_true, List.all_eq_true]
  intro hc
  have := hc l[k] (List.getElem_mem hk)
  simp only [decide_eq_true_eq] at this
  rw [List.getD_eq_getElem?_getD, List.getElem?_eq_getElem hk] at h
  exact h this
theorem ok_all {l : List Int} (h16 : l.length ≤ 16) (h : ∀ i, i < l.length → 0 ≤ l.getD i 0 ∧ l.getD i 0 ≤ 1048576) : okV l = true := by
  unfold okV
  rw [decide_eq_true h16, Bool.true_and, List.all_eq_true]
  intro x hx
  obtain ⟨i, hi, rfl⟩ := List.getElem_of_mem hx
  have := h i hi
  rw [List.getD_eq_getElem?_getD, List.getElem?_eq_getElem hi] at this
  simpa using this
theorem splice_pad (l : List Int) (h : l.length ≤ 16) : splice (is v0) 0 (is l) = is (padV l) := by
  unfold splice padV is
  rw [List.take_zero, List.nil_append, List.map_append]
  congr 1
  rw [List.length_map, Nat.zero_add]
  unfold v0
  rw [List.map_replicate, List.drop_replicate, List.map_replicate]

theorem Iz.src {w : World} {a : Option Addr} {n c : Nat} {l : List Int} (h : Iz w (.slice a n c) l) : 0 < (is l).length → ∃ ad, a = some ad ∧ ∀ j u, (is l)[j]? = some u → w.cell? (ad.add j) = some u := by
  intro h0
  have h' := h
  obtain ⟨_, a', c', e, _, _, h4, _⟩ := h
  simp only [Value.slice.injEq] at e
  obtain ⟨rfl, rfl, rfl⟩ := e
  cases a with
  | none => have := Sl.none_nil h'; rw [this.1] at h0; exact absurd h0 (Nat.lt_irrefl _)
  | some A => exact ⟨A, rfl, Sl.cells_at h'⟩
/-- What Of answers: a vector, or none. -/
def OfV (w : World) (l : List Int) (e : Ending) (w' : World) : Prop :=
  (okV l = true ∧ ∃ c, e = .returned (.tuple #[.pointer (some ⟨c, 0, none⟩), .bool true]) ∧ w.heap.size ≤ c ∧ Vc w' c (padV l) ∧ Below w.heap.size w w') ∨
  (okV l = false ∧ e = .returned (.tuple #[.pointer none, .bool false]) ∧ Below w.heap.size w w')

theorem of_any (v : Value) (l : List Int) (w : World) (h : Iz w v l) : Calls Try.prog 30 #[v] w fun e w' => OfV w l e w' := by
  by_cases h16 : l.length ≤ 16
  · have hform := h.form
    obtain ⟨a, c, rfl, hc1, hc2⟩ := hform
    have HZ := hid h
    have HL := hid h16
    have h16' : (l.length : Int) ≤ 16 := by omega
    clear h h16
    go_enter Try.func30, Try.ntmps30
    go_wp2_with fail
    go_loopw [12] (fun i wr => ∃ k : Nat, k ≤ l.length ∧ i = .int .i64 k ∧ Hid (∀ j, j < k → 0 ≤ l.getD j 0 ∧ l.getD j 0 ≤ 1048576) ∧ w = wr) (fun i _ => l.length - (intOf i).toNat)
    case atStart => exact ⟨0, by omega, rfl, fun j hj => absurd hj (Nat.not_lt_zero _), rfl⟩
    case round =>
      obtain ⟨k, hk, rfl, HJ, rfl⟩ := hrel
      by_cases hlt : k < l.length
      · have hlt' : (k : Int) < (l.length : Int) := by omega
        obtain ⟨g, off, c', e, _, _, hg, hcell⟩ := HZ.out.inv (by omega)
        simp only [Value.slice.injEq] at e
        obtain ⟨rfl, _, rfl⟩ := e
        have hcl := hcell k hlt
        obtain ⟨x, hx⟩ : ∃ x, l.getD k 0 = x := ⟨_, rfl⟩
        rw [hx] at hcl
        have HX := hid hx
        clear hx hcell
        by_cases hb : 0 ≤ x ∧ x ≤ 1048576
        · have e1 : decide (x < 0) = false := by simp; omega
          have e2 : decide (1048576 < x) = false := by simp; omega
          have HB := hid hb
          clear hb
          go_wp2_with fail
          go_roundw
          case rel =>
            refine ⟨k + 1, by omega, by go_num, fun j hj => ?_, trivial⟩
            by_cases e : j = k
            · subst e; rw [HX.out]; exact HB.out
            · exact HJ.out j (by omega)
          case measure => simp [intOf]; omega
        · have hd : decide (x < 0) = true ∨ (decide (x < 0) = false ∧ decide (1048576 < x) = true) := by simp; omega
          have HB := hid hb
          clear hb
          rcases hd with e1 | ⟨e1, e2⟩
          all_goals
            go_wp2_with fail
            go_ret2
            exact .inr ⟨ok_bad k hlt (by rw [HX.out]; exact HB.out), rfl, Below.refl _ _⟩
      · obtain rfl : k = l.length := by omega
        have HOK := hid (ok_all HL.out HJ.out)
        go_wp2_with (first
          | (go_at_call 24; refine (new_any _).mono ?_; rintro e w2 ⟨rfl, ⟨_, T, hg2⟩, hb2⟩; have HB2 := hid hb2; have HG2 := hid hg2; have HS2 := hid (Iz.src (HZ.out.below hb2)); clear hb2 hg2)
          | (refine wpList_copy_splice rfl (.tmp 27) (.tmp 28) 22 22 rfl 3 Try.underlying22 (by kernel_rfl) (some ⟨w.heap.size, 0, none⟩) a 16 16 l.length c rfl rfl w.heap.size 0 (is v0) T HG2.out (is l) (by have := HL.out; rw [List.length_map]; exact (Nat.min_eq_left this).symm) (fun h0 => ⟨rfl, HS2.out h0⟩) (by have := HL.out; rw [Nat.zero_add, List.length_map]; exact this) (ints_oneCell .i64 l) w.heap.size w HB2.out (Nat.le_refl _) ?_; intro w3 hg3 hb3; have HB3 := hid hb3; clear hb3))
        go_ret2
        rw [splice_pad l HL.out] at hg3
        exact .inl ⟨HOK.out, _, rfl, Nat.le_refl _, ⟨pad_ok HOK.out, T, hg3.out⟩, HB3.out⟩
  · have hform := h.form
    obtain ⟨a, c, rfl, hc1, hc2⟩ := hform
    have h16' : decide ((16 : Int) < (l.length : Int)) = true := by simp; omega
    have HL := hid (ok_long (l := l) (by omega))
    clear h h16
    go_enter Try.func30, Try.ntmps30
    go_wp2_with fail
    go_ret2
    exact .inr ⟨HL.out, rfl, Below.refl _ _⟩

end Go.Proofs.Ytkcjkncpaopjbaa

/-
  What Missing answers is proved here, of the program, for all vectors.
-/
namespace Go.Proofs.Ytkcjkncpaopjbaa
open Go.RowKit
set_option linter.unusedVariables false
set_option maxRecDepth 100000

theorem info_cut : (Try.prog.info? 36).map (fun i => (i.zero, i.size, i.bytes)) = some (some (.agg #[.int .i64 0, .int .i64 0, .int .i64 0, .int .i64 0]), 4, 32) := by kernel_rfl
theorem miss_no {a b : List Int} {k : Nat} {x y : Int} (hx : b.getD k 0 = x) (hy : a.getD k 0 = y) (h : ¬ y < x) : missTo a b (k + 1) = missTo a b k := by
  rw [missTo, hx, hy, if_neg h]
theorem miss_yes {a b : List Int} {k : Nat} {x y : Int} (hx : b.getD k 0 = x) (hy : a.getD k 0 = y) (h : y < x) : missTo a b (k + 1) = missTo a b k ++ [⟨k, y + 1, y + 1, x + 1⟩] := by
  rw [missTo, hx, hy, if_pos h, cutV, hx, hy]
theorem own_any {w : World} {B e sz n : Nat} {v : Value} {xs : List Value} (h : w.ownsRow B e sz v n xs) : ∃ a c, v = .slice a n c := by
  rcases h.2 with ⟨rfl, h0⟩ | ⟨g, cap, cur, rfl, _, _, h3, _⟩
  · exact ⟨none, 0, by rw [h0]⟩
  · exact ⟨_, _, rfl⟩
theorem own_keep {w w' : World} {B e sz n : Nat} {v : Value} {xs : List Value} (h : w.ownsRow B e sz v n xs) (hb : Below w.heap.size w w') : w'.ownsRow B e sz v n xs := by
  refine ⟨h.1, ?_⟩
  rcases h.2 with h0 | ⟨g, cap, cur, hv, hg, hh, r⟩
  · exact .inl h0
  · exact .inr ⟨g, cap, cur, hv, hg, by rw [hb.block g (Array.getElem?_eq_some_iff.1 hh).1]; exact hh, r⟩
/-- The cuts of the replicas below k, in a row of the call's own. -/
def Mr (w : World) (l m : List Int) (k : Nat) (v : Value) (wr : World) : Prop :=
  ∃ N, (missTo l m k).length = N ∧ N ≤ k ∧ wr.ownsRow w.heap.size 36 4 v N ((missTo l m k).flatMap cutc) ∧ Below w.heap.size w wr
theorem Mr.cs {w wr : World} {l m : List Int} {k : Nat} {v : Value} (h : Mr w l m k v wr) : Cs wr v (missTo l m k) := by
  obtain ⟨N, rfl, _, h1, _⟩ := h
  exact Sl.of_own h1

theorem missing_new (b c : Nat) (l m : List Int) (w : World) (h : Vc w b l) (h' : Vc w c m) :
    Calls Try.prog 12 #[.pointer (some ⟨b, 0, none⟩), .pointer (some ⟨c, 0, none⟩)] w fun e w' => ∃ v, e = .returned v ∧ Cs w' v (missTo l m 16) ∧ Below w.heap.size w w' ∧ ∀ k, v.ownBlock = some k → w.heap.size ≤ k := by
  have HW := hid h'
  have hk := h'.1
  have HV := hid h
  have HL := hid h.1
  have HM0 := hid (show Mr w l m 0 (.slice none 0 0) w from ⟨0, rfl, Nat.le_refl _, ⟨rfl, .inl ⟨rfl, rfl⟩⟩, Below.refl _ _⟩)
  clear h h'
  go_enter Try.func12, Try.ntmps12
  go_wp2_with (refine wpList_ld_arr rfl (.tmp 11) rfl c m rfl HW.out ?_)
  go_loopw [5, 13] (fun v i wr => ∃ k : Nat, k ≤ 16 ∧ i = .int .i64 k ∧ Mr w l m k v wr) (fun _ i _ => 16 - (intOf i).toNat)
  case atStart => exact ⟨0, by omega, rfl, HM0.out⟩
  case round =>
    obtain ⟨k, hk16, rfl, hmr⟩ := hrel
    by_cases hlt : k < 16
    · have hlt' : (k : Int) < 16 := by omega
      have hix := run_ix hk hlt
      have HR := hid hmr
      obtain ⟨N, hN, hNk, hown, hbel⟩ := hmr
      have hcell := (HV.out.below hbel).cell hlt
      have hb1 := hk.2 k
      have hb2 := HL.out.2 k
      obtain ⟨x, hx⟩ : ∃ x, m.getD k 0 = x := ⟨_, rfl⟩
      obtain ⟨y, hy⟩ : ∃ y, l.getD k 0 = y := ⟨_, rfl⟩
      rw [hx] at hix hb1
      rw [hy] at hcell hb2
      have HX := hid hx
      have HY := hid hy
      have HO := hid hown
      have HN := hid hN
      have HB := hid hbel
      clear hx hy hown hN hbel
      cases hd : decide (y < x)
      · have HD := hid (show ¬ y < x by simpa using hd)
        go_wp2_with fail
        go_roundw
        case rel => exact ⟨k + 1, by omega, by go_num, by obtain ⟨N, e1, e2, e3, e4⟩ := HR.out; have := miss_no HX.out HY.out HD.out; exact ⟨N, by rw [this]; exact e1, by omega, by rw [this]; exact e3, e4⟩⟩
        case measure => simp [intOf]; omega
      · have HD := hid (show y < x by simpa using hd)
        have hown2 := own_keep HO.out (ba wr (.cells #[.int .i64 k, .int .i64 (y + 1), .int .i64 (y + 1), .int .i64 (x + 1)] 36))
        have HOW := hid hown2
        have HLT := hid (Sl.lit (sz := 4) wr 36 #[.int .i64 k, .int .i64 (y + 1), .int .i64 (y + 1), .int .i64 (x + 1)] 1 (by decide) rfl)
        have hsz : w.heap.size ≤ (wr.alloc (.cells #[.int .i64 k, .int .i64 (y + 1), .int .i64 (y + 1), .int .i64 (x + 1)] 36)).heap.size := by have := HB.out.size; simp; omega
        clear hown2
        go_wp2_with (at_builtin; refine wpList_append_sl 32 36 4 32 _ Try.underlying32 info_cut rfl (by decide) rfl (.tmp 32) (.tmp 40) rfl w.heap.size _ _ ((missTo l m k).flatMap cutc) rfl HOW.out _ 1 (cutc ⟨k, y + 1, y + 1, x + 1⟩) rfl HLT.out (by intro u hu; simp at hu; rcases hu with rfl | rfl | rfl <;> rfl) (by omega) (by unfold maxLen; omega) hsz ?_; intro v' w3 hown3 hgrow hat3; have B3 := hid (Below.grown (HB.out.alloc HB.out.size _) hgrow hsz (fun k hk => (HO.out.lt k hk).1)); have H3 := hid hown3; obtain ⟨a3, c3, rfl⟩ := own_any hown3; clear hown3 hgrow hat3)
        go_roundw
        case rel =>
          refine ⟨k + 1, by omega, by go_num, N + 1, ?_, by omega, ?_, B3.out⟩
          · rw [miss_yes HX.out HY.out HD.out, List.length_append, HN.out]; rfl
          · rw [miss_yes HX.out HY.out HD.out, List.flatMap_append]; exact H3.out
        case measure => simp [intOf]; omega
    · obtain rfl : k = 16 := by omega
      have HR := hid hmr
      obtain ⟨N, hN, hNk, hown, hbel⟩ := hmr
      obtain ⟨a3, c3, rfl⟩ := own_any hown
      clear hN hown hbel
      go_wp2_with fail
      go_ret
      obtain ⟨_, _, _, ho, hbel⟩ := HR.out
      exact ⟨_, rfl, HR.out.cs, hbel, fun k hk => (ho.lt k hk).1⟩
theorem missing_any (b c : Nat) (l m : List Int) (w : World) (h : Vc w b l) (h' : Vc w c m) :
    Calls Try.prog 12 #[.pointer (some ⟨b, 0, none⟩), .pointer (some ⟨c, 0, none⟩)] w fun e w' => ∃ v, e = .returned v ∧ Cs w' v (missTo l m 16) ∧ Below w.heap.size w w' :=
  (missing_new b c l m w h h').mono fun e w' ⟨v, h1, h2, h3, _⟩ => ⟨v, h1, h2, h3⟩

end Go.Proofs.Ytkcjkncpaopjbaa

/-
  What the reference's List, Join and Missing answer and leave is proved here, for all vectors.
-/
namespace Go.Proofs.Ytkcjkncpaopjbaa
open Go.RowKit
set_option linter.unusedVariables false
set_option maxRecDepth 100000

theorem take_next (l : List Int) {k : Nat} (hk : k < l.length) : l.take (k + 1) = l.take k ++ [l.getD k 0] := by
  rw [List.take_add_one, List.getElem?_eq_getElem hk, List.getD_eq_getElem?_getD, List.getElem?_eq_getElem hk]
  rfl

theorem xlist_any (b : Nat) (l : List Int) (w : World) (h : Vc w b l) :
    Calls Try.prog 15 #[.pointer (some ⟨b, 0, none⟩)] w fun e w' => ∃ v, e = .returned v ∧ Iz w' v l ∧ Below w.heap.size w w' := by
  have HV := hid h
  have H16 := hid h.1.1
  have HO0 := hid (show (w.alloc (.cells #[] 3)).ownsRow w.heap.size 3 1 (.slice (some ⟨w.heap.size, 0, none⟩) 0 0) 0 (is (l.take 0)) from World.ownsRow_made w #[] 0 (Nat.le_refl _) (Nat.zero_le _) rfl)
  clear h
  go_enter Try.func15, Try.ntmps15
  go_wp2_with fail
  go_loopw [3, 4] (fun v i wr => ∃ k : Nat, k ≤ 16 ∧ i = .int .i64 k ∧ wr.ownsRow w.heap.size 3 1 v k (is (l.take k)) ∧ Below w.heap.size w wr) (fun _ i _ => 16 - (intOf i).toNat)
  case atStart => exact ⟨0, by omega, rfl, HO0.out, ba _ _⟩
  case round =>
    clear HO0
    obtain ⟨k, hk16, rfl, hown, hbel⟩ := hrel
    have HB := hid hbel
    by_cases hlt : k < 16
    · have hlt' : (k : Int) < 16 := by omega
      have hcell := (HV.out.below hbel).cell hlt
      obtain ⟨x, hx⟩ : ∃ x, l.getD k 0 = x := ⟨_, rfl⟩
      rw [hx] at hcell
      have HT := hid (show l.take (k + 1) = l.take k ++ [x] by rw [← hx]; exact take_next l (by rw [H16.out]; exact hlt))
      have HO := hid hown
      have HOW := hid (own_keep hown (ba wr (.cells #[.int .i64 x] 3)))
      have HLT := hid (Sl.lit (sz := 1) wr 3 #[.int .i64 x] 1 (by decide) rfl)
      have hsz : w.heap.size ≤ (wr.alloc (.cells #[.int .i64 x] 3)).heap.size := by have := hbel.size; simp; omega
      clear hx hown hbel
      go_wp2_with (at_builtin; refine wpList_append_sl 22 3 1 8 _ Try.underlying22 info_int rfl (by decide) rfl (.tmp 10) (.tmp 17) rfl w.heap.size _ _ (is (l.take k)) rfl HOW.out _ 1 (is [x]) rfl HLT.out (ints_oneCell .i64 [x]) (by omega) (by unfold maxLen; omega) hsz ?_; intro v' w3 hown3 hgrow hat3; have B3 := hid (Below.grown (HB.out.alloc HB.out.size _) hgrow hsz (fun k hk => (HO.out.lt k hk).1)); have H3 := hid hown3; obtain ⟨a3, c3, rfl⟩ := own_any hown3; clear hown3 hgrow hat3)
      go_roundw
      case rel => exact ⟨k + 1, by omega, by go_num, by rw [HT.out]; have := H3.out; rw [← List.map_append] at this; exact this, B3.out⟩
      case measure => simp [intOf]; omega
    · obtain rfl : k = 16 := by omega
      have HO := hid hown
      obtain ⟨a3, c3, rfl⟩ := own_any hown
      clear hown hbel
      go_wp2_with fail
      go_ret
      have h1 := HO.out
      rw [List.take_of_length_le (by rw [H16.out]; omega)] at h1
      exact ⟨_, rfl, Iz.of_own h1, HB.out⟩

theorem xjoin_any (b c : Nat) (l m : List Int) (w : World) (h : Vc w b l) (h' : Vc w c m) (hne : c ≠ b) :
    Calls Try.prog 29 #[.pointer (some ⟨b, 0, none⟩), .pointer (some ⟨c, 0, none⟩)] w fun e w' => e = .returned (.tuple #[]) ∧ Vc w' b (joinV l m) ∧ Fr (fun i => i = b) w w' := by
  have HW := hid h'
  have HNE := hid hne
  have hk := h'.1
  have hl := h.1
  have HV0 := hid (show Vc w b (mixV l m 0) from by rw [mix_zero hl hk]; exact h)
  have HE := hid (mix_full hl hk)
  clear h h' hne
  go_enter Try.func29, Try.ntmps29
  go_wp2_with fail
  go_loopw [4] (fun i wr => ∃ k : Nat, k ≤ 16 ∧ i = .int .i64 k ∧ Vc wr b (mixV l m k) ∧ Fr (fun i => i = b) w wr) (fun i _ => 16 - (intOf i).toNat)
  case atStart => exact ⟨0, by omega, rfl, HV0.out, Fr.refl _ _⟩
  case round =>
    obtain ⟨k, hk16, rfl, hv, hf⟩ := hrel
    have HV := hid hv
    have HF := hid hf
    clear hv hf
    by_cases hlt : k < 16
    · have hlt' : (k : Int) < 16 := by omega
      have hcell := HV.out.cell hlt
      have hfz := HV.out.frozen k
      have hcell2 := (HW.out.fr HF.out HNE.out).cell hlt
      rw [mix_self hlt] at hcell
      have hb1 := hk.2 k
      have hb2 := hl.2 k
      have hs := mix_set hl hk hlt
      obtain ⟨x, hx⟩ : ∃ x, m.getD k 0 = x := ⟨_, rfl⟩
      obtain ⟨y, hy⟩ : ∃ y, l.getD k 0 = y := ⟨_, rfl⟩
      rw [hx] at hcell2 hs hb1
      rw [hy] at hcell hs hb2
      have HS := hid hs
      clear hx hy hs
      go_wp2_with (go_region)
      have e : (if y < x then x else y) = max y x := by split <;> omega
      have hp := HV.out.put hlt (max y x) (by omega)
      rw [← e] at hp
      refine ⟨⟨k + 1, by omega, by go_num, ?_, ?_⟩, by simp [intOf]; omega⟩
      · rw [← HS.out, ← e]; exact hp.1
      · exact HF.out.trans (hp.2.drewN 1) (fun i _ h => h)
    · obtain rfl : k = 16 := by omega
      go_wp2_with fail
      go_end0
      rw [HE.out] at HV
      exact ⟨rfl, HV.out, HF.out⟩

theorem xmissing_any (b c : Nat) (l m : List Int) (w : World) (h : Vc w b l) (h' : Vc w c m) :
    Calls Try.prog 13 #[.pointer (some ⟨b, 0, none⟩), .pointer (some ⟨c, 0, none⟩)] w fun e w' => ∃ v, e = .returned v ∧ Cs w' v (missTo l m 16) ∧ Below w.heap.size w w' := by
  have HW := hid h'
  have hk := h'.1
  have HV := hid h
  have HL := hid h.1
  have HM0 := hid (show Mr w l m 0 (.slice (some ⟨w.heap.size, 0, none⟩) 0 0) (w.alloc (.cells #[] 36)) from ⟨0, rfl, Nat.le_refl _, World.ownsRow_made w #[] 0 (Nat.le_refl _) (Nat.zero_le _) rfl, ba _ _⟩)
  clear h h'
  go_enter Try.func13, Try.ntmps13
  go_wp2_with fail
  go_loopw [5, 6] (fun v i wr => ∃ k : Nat, k ≤ 16 ∧ i = .int .i64 k ∧ Mr w l m k v wr) (fun _ i _ => 16 - (intOf i).toNat)
  case atStart => exact ⟨0, by omega, rfl, HM0.out⟩
  case round =>
    obtain ⟨k, hk16, rfl, hmr⟩ := hrel
    by_cases hlt : k < 16
    · have hlt' : (k : Int) < 16 := by omega
      have HR := hid hmr
      obtain ⟨N, hN, hNk, hown, hbel⟩ := hmr
      have hcell := (HV.out.below hbel).cell hlt
      have hcell2 := (HW.out.below hbel).cell hlt
      have hb1 := hk.2 k
      have hb2 := HL.out.2 k
      obtain ⟨x, hx⟩ : ∃ x, m.getD k 0 = x := ⟨_, rfl⟩
      obtain ⟨y, hy⟩ : ∃ y, l.getD k 0 = y := ⟨_, rfl⟩
      rw [hx] at hcell2 hb1
      rw [hy] at hcell hb2
      have HX := hid hx
      have HY := hid hy
      have HO := hid hown
      have HN := hid hN
      have HB := hid hbel
      clear hx hy hown hN hbel
      cases hd : decide (y < x)
      · have HD := hid (show ¬ y < x by simpa using hd)
        go_wp2_with (go_quiet (fail))
        go_roundw
        case rel => exact ⟨k + 1, by omega, by go_num, by obtain ⟨N, e1, e2, e3, e4⟩ := HR.out; have := miss_no HX.out HY.out HD.out; exact ⟨N, by rw [this]; exact e1, by omega, by rw [this]; exact e3, below_drewN e4 _⟩⟩
        case measure => simp [intOf]; omega
      · have HD := hid (show y < x by simpa using hd)
        have HOW := hid (fun q => own_keep HO.out ((Below.refl _ _).trans (below_drewN (Below.refl _ wr) q) |>.alloc (Nat.le_refl _) (.cells #[.int .i64 k, .int .i64 (y + 1), .int .i64 (y + 1), .int .i64 (x + 1)] 36)))
        have HLT := hid (fun q => Sl.lit (sz := 4) (wr.drewN q) 36 #[.int .i64 k, .int .i64 (y + 1), .int .i64 (y + 1), .int .i64 (x + 1)] 1 (by decide) rfl)
        have HSZ := hid (show ∀ q, w.heap.size ≤ ((wr.drewN q).alloc (.cells #[.int .i64 k, .int .i64 (y + 1), .int .i64 (y + 1), .int .i64 (x + 1)] 36)).heap.size from fun q => by have := HB.out.size; simp; omega)
        go_wp2_with (first | (at_builtin; refine wpList_append_sl 32 36 4 32 _ Try.underlying32 info_cut rfl (by decide) rfl (.tmp 33) (.tmp 46) rfl w.heap.size _ _ ((missTo l m k).flatMap cutc) rfl (HOW.out _) _ 1 (cutc ⟨k, y + 1, y + 1, x + 1⟩) rfl (HLT.out _) (by intro u hu; simp at hu; rcases hu with rfl | rfl | rfl <;> rfl) (by omega) (by unfold maxLen; omega) (HSZ.out _) ?_; intro v' w3 hown3 hgrow hat3; have B3 := hid (Below.grown ((below_drewN HB.out _).alloc HB.out.size _) hgrow (HSZ.out _) (fun k hk => (HO.out.lt k hk).1)); have H3 := hid hown3; obtain ⟨a3, c3, rfl⟩ := own_any hown3; clear hown3 hgrow hat3) | go_quiet (fail))
        go_roundw
        case rel =>
          refine ⟨k + 1, by omega, by go_num, N + 1, ?_, by omega, ?_, B3.out⟩
          · rw [miss_yes HX.out HY.out HD.out, List.length_append, HN.out]; rfl
          · rw [miss_yes HX.out HY.out HD.out, List.flatMap_append]; exact H3.out
        case measure => simp [intOf]; omega
    · obtain rfl : k = 16 := by omega
      have HR := hid hmr
      obtain ⟨N, hN, hNk, hown, hbel⟩ := hmr
      obtain ⟨a3, c3, rfl⟩ := own_any hown
      clear hN hown hbel
      go_wp2_with fail
      go_ret
      obtain ⟨_, _, _, _, hbel⟩ := HR.out
      exact ⟨_, rfl, HR.out.cs, hbel⟩

end Go.Proofs.Ytkcjkncpaopjbaa

/-
  What the reference's Of, and CopyInts and SameInts, answer is proved here, for all numbers.
-/
namespace Go.Proofs.Ytkcjkncpaopjbaa
open Go.RowKit
set_option linter.unusedVariables false
set_option maxRecDepth 100000

theorem pad_at (l : List Int) (i : Nat) : (padV l).getD i 0 = l.getD i 0 := by
  unfold padV
  rw [List.getD_eq_getElem?_getD, List.getD_eq_getElem?_getD]
  by_cases h : i < l.length
  · rw [List.getElem?_append_left h]
  · rw [List.getElem?_append_right (by omega), List.getElem?_eq_none_iff.2 (by omega : l.length ≤ i)]
    cases e : (List.replicate (16 - l.length) (0 : Int))[i - l.length]? with
    | none => rfl
    | some x => exact List.eq_of_mem_replicate (List.mem_of_getElem? e)
theorem take_at (l : List Int) (k i : Nat) : (l.take k).getD i 0 = if i < k then l.getD i 0 else 0 := by
  rw [List.getD_eq_getElem?_getD, List.getD_eq_getElem?_getD]
  by_cases h : i < k
  · rw [if_pos h, List.getElem?_take_of_lt h]
  · rw [if_neg h, List.getElem?_eq_none_iff.2 (by rw [List.length_take]; omega)]; rfl
theorem ok_take {l : List Int} (h16 : l.length ≤ 16) {k : Nat} (h : ∀ j, j < k → 0 ≤ l.getD j 0 ∧ l.getD j 0 ≤ 1048576) : okV (l.take k) = true := by
  refine ok_all (by rw [List.length_take]; omega) fun i hi => ?_
  rw [List.length_take] at hi
  rw [take_at, if_pos (by omega)]
  exact h i (by omega)
theorem fill_next {l : List Int} (h16 : l.length ≤ 16) {k : Nat} {x : Int} (hk : k < l.length) (hx : l.getD k 0 = x) (h : ∀ j, j < k + 1 → 0 ≤ l.getD j 0 ∧ l.getD j 0 ≤ 1048576) : (padV (l.take k)).set k x = padV (l.take (k + 1)) := by
  have v1 := pad_ok (ok_take (k := k) h16 fun j hj => h j (by omega))
  have v2 := pad_ok (ok_take h16 h)
  have hb := h k (by omega)
  rw [hx] at hb
  refine (v1.set k x hb).ext v2 fun i hi => ?_
  rw [set_at v1.1 k i x (by omega), pad_at, pad_at, take_at, take_at]
  by_cases e : k = i
  · subst e; rw [if_pos rfl, if_pos (by omega), hx]
  · rw [if_neg e]
    by_cases e2 : i < k
    · rw [if_pos e2, if_pos (by omega)]
    · rw [if_neg e2, if_neg (by omega)]

theorem xof_any (v : Value) (l : List Int) (w : World) (h : Iz w v l) : Calls Try.prog 31 #[v] w fun e w' => OfV w l e w' := by
  have HNW := hid (And.intro (Vc.new w v0 v0_ok 48) (ba w (.cells (is v0).toArray 48)))
  by_cases h16 : l.length ≤ 16
  · have hform := h.form
    obtain ⟨a, c, rfl, hc1, hc2⟩ := hform
    have HZ := hid h
    have HL := hid h16
    have h16' : (l.length : Int) ≤ 16 := by omega
    have HV0 := hid (show Vc (w.alloc (.cells (is v0).toArray 48)) w.heap.size (padV (l.take 0)) from HNW.out.1)
    clear h h16
    go_enter Try.func31, Try.ntmps31
    go_wp2_with fail
    go_loopw [5] (fun i wr => ∃ k : Nat, k ≤ l.length ∧ i = .int .i64 k ∧ Hid (∀ j, j < k → 0 ≤ l.getD j 0 ∧ l.getD j 0 ≤ 1048576) ∧ Vc wr w.heap.size (padV (l.take k)) ∧ Below w.heap.size w wr) (fun i _ => l.length - (intOf i).toNat)
    case atStart => exact ⟨0, by omega, rfl, fun j hj => absurd hj (Nat.not_lt_zero _), HV0.out, HNW.out.2⟩
    case round =>
      obtain ⟨k, hk, rfl, HJ, hv, hbel⟩ := hrel
      have HV := hid hv
      have HB := hid hbel
      clear HV0 HNW
      by_cases hlt : k < l.length
      · have hlt' : (k : Int) < (l.length : Int) := by omega
        have hk16 : (k : Int) < 16 := by omega
        obtain ⟨g, off, c', e, _, _, hg, hcell⟩ := (HZ.out.below hbel).inv (by omega)
        simp only [Value.slice.injEq] at e
        obtain ⟨rfl, _, rfl⟩ := e
        have hcl := hcell k hlt
        obtain ⟨x, hx⟩ : ∃ x, l.getD k 0 = x := ⟨_, rfl⟩
        rw [hx] at hcl
        have HX := hid hx
        clear hx hcell hv hbel
        by_cases hb : 0 ≤ x ∧ x ≤ 1048576
        · have e1 : decide (x < 0) = false := by simp; omega
          have e2 : decide (1048576 < x) = false := by simp; omega
          have HBB := hid hb
          have hfz := HV.out.frozen k
          have hcl2 := HV.out.cell (k := k) (by have := HL.out; omega)
          obtain ⟨y, hy⟩ : ∃ y, (padV (l.take k)).getD k 0 = y := ⟨_, rfl⟩
          rw [hy] at hcl2
          clear hy
          clear hb
          go_wp2_with (go_region)
          have hp := HV.out.put (k := k) (by have := HL.out; omega) x HBB.out
          have HJ2 : ∀ j, j < k + 1 → 0 ≤ l.getD j 0 ∧ l.getD j 0 ≤ 1048576 := fun j hj => by
            by_cases e : j = k
            · subst e; rw [HX.out]; exact HBB.out
            · exact HJ.out j (by omega)
          rw [fill_next HL.out hlt HX.out HJ2] at hp
          refine ⟨⟨k + 1, by omega, by go_num, HJ2, hp.1, ?_⟩, by simp [intOf]; omega⟩
          exact HB.out.trans ((hp.2.drewN 1).below (fun i hi e => by omega) (HB.out.size))
        · have hd : decide (x < 0) = true ∨ (decide (x < 0) = false ∧ decide (1048576 < x) = true) := by simp; omega
          have HBB := hid hb
          clear hb
          rcases hd with e1 | ⟨e1, e2⟩
          all_goals
            go_wp2_with fail
            go_ret2
            exact .inr ⟨ok_bad k hlt (by rw [HX.out]; exact HBB.out), rfl, HB.out⟩
      · obtain rfl : k = l.length := by omega
        have HOK := hid (ok_all HL.out HJ.out)
        clear hv hbel
        go_wp2_with fail
        go_ret2
        have h1 := HV.out
        rw [List.take_length] at h1
        exact .inl ⟨HOK.out, _, rfl, Nat.le_refl _, h1, HB.out⟩
  · have hform := h.form
    obtain ⟨a, c, rfl, hc1, hc2⟩ := hform
    have h16' : decide ((16 : Int) < (l.length : Int)) = true := by simp; omega
    have HL := hid (ok_long (l := l) (by omega))
    clear h h16
    go_enter Try.func31, Try.ntmps31
    go_wp2_with fail
    go_ret2
    exact .inr ⟨HL.out, rfl, HNW.out.2⟩

theorem copyints_any (v : Value) (l : List Int) (w : World) (h : Iz w v l) (hl : l.length ≤ 17592186044416) :
    Calls Try.prog 9 #[v] w fun e w' => ∃ u, e = .returned u ∧ w'.ownsRow w.heap.size 3 1 u l.length (is l) ∧ Below w.heap.size w w' := by
  have HZ := hid (show Iz (w.alloc (.cells #[] 3)) v l from h.below (ba w _))
  have HO := hid (show (w.alloc (.cells #[] 3)).ownsRow w.heap.size 3 1 (.slice (some ⟨w.heap.size, 0, none⟩) 0 0) 0 (is []) from World.ownsRow_made w #[] 0 (Nat.le_refl _) (Nat.zero_le _) rfl)
  have HB := hid (ba w (.cells #[] 3))
  obtain ⟨N, hN⟩ : ∃ N, l.length = N := ⟨_, rfl⟩
  have HN := hid hN
  rw [hN] at hl
  rw [hN]
  have HZ2 := hid (show Sl 1 (w.alloc (.cells #[] 3)) v N (is l) by have := HZ.out; unfold Iz at this; rw [hN] at this; exact this)
  clear h hN
  go_enter Try.func9, Try.ntmps9
  go_wp2_with (at_builtin; refine wpList_append_sl 22 3 1 8 _ Try.underlying22 info_int rfl (by decide) rfl (.tmp 5) (.tmp 6) rfl w.heap.size _ _ (is []) rfl HO.out _ N (is l) rfl HZ2.out (ints_oneCell .i64 l) (by omega) (by unfold maxLen; omega) HB.out.size ?_; intro v' w3 hown3 hgrow hat3; have B3 := hid (Below.grown HB.out hgrow HB.out.size (fun k hk => (HO.out.lt k hk).1)); have H3 := hid hown3; obtain ⟨a3, c3, rfl⟩ := own_any hown3; clear hown3 hgrow hat3)
  go_ret
  have h1 := H3.out
  rw [Nat.zero_add] at h1
  exact ⟨_, rfl, h1, B3.out⟩

end Go.Proofs.Ytkcjkncpaopjbaa

/-
  What SameInts answers is proved here, for all numbers.
-/
namespace Go.Proofs.Ytkcjkncpaopjbaa
open Go.RowKit
set_option linter.unusedVariables false
set_option maxRecDepth 100000

theorem sameints_any (v u : Value) (l m : List Int) (w : World) (h : Iz w v l) (h' : Iz w u m) :
    Calls Try.prog 11 #[v, u] w fun e w' => e = .returned (.bool (decide (l = m))) ∧ Below w.heap.size w w' := by
  obtain ⟨z, hz⟩ : ∃ z, decide (l = m) = z := ⟨_, rfl⟩
  rw [hz]
  have HZ := hid hz
  have HV := hid h
  have HU := hid h'
  have f1 := h.form
  have f2 := h'.form
  obtain ⟨a1, c1, rfl, p1, p2⟩ := f1
  obtain ⟨a2, c2, rfl, p3, p4⟩ := f2
  clear h h' hz
  obtain ⟨N, hN⟩ : ∃ N, l.length = N := ⟨_, rfl⟩
  obtain ⟨M, hM⟩ : ∃ M, m.length = M := ⟨_, rfl⟩
  have HN := hid hN
  have HM := hid hM
  rw [hN] at p1 ⊢
  rw [hM] at p3 ⊢
  clear hN hM
  cases hd : (N == M)
  · have hd2 : ((N : Int) == (M : Int)) = false := by simp at hd ⊢; omega
    have hd3 : ((N : Int) != (M : Int)) = true := by simp at hd ⊢; omega
    have HD := hid hd
    clear hd
    go_enter Try.func11, Try.ntmps11
    go_wp2_with fail
    go_ret
    refine ⟨?_, Below.refl _ _⟩
    rw [← HZ.out, decide_eq_false (fun e => by have h1 := HN.out; have h2 := HM.out; have h3 := HD.out; rw [e] at h1; simp at h3; omega)]
    rfl
  · obtain rfl : N = M := by simpa using hd
    clear hd
    have hmx : (N : Int) ≤ 9223372036854775807 := by unfold maxLen at p2; omega
    go_enter Try.func11, Try.ntmps11
    go_wp2_with fail
    go_loopw [5] (fun i wr => ∃ k : Nat, k ≤ N ∧ i = .int .i64 k ∧ Hid (∀ j, j < k → l.getD j 0 = m.getD j 0) ∧ Below w.heap.size w wr) (fun i _ => N - (intOf i).toNat)
    case atStart => exact ⟨0, by omega, rfl, fun j hj => absurd hj (Nat.not_lt_zero _), Below.refl _ _⟩
    case round =>
      obtain ⟨k, hk, rfl, HJ, hbel⟩ := hrel
      have HB := hid hbel
      by_cases hlt : k < N
      · have hlt' : (k : Int) < (N : Int) := by omega
        obtain ⟨g1, o1, c1', e, _, _, _, hcell1⟩ := (HV.out.below hbel).inv (by have := HN.out; omega)
        rw [HN.out] at e
        simp only [Value.slice.injEq] at e
        obtain ⟨rfl, _, rfl⟩ := e
        obtain ⟨g2, o2, c2', e, _, _, _, hcell2⟩ := (HU.out.below hbel).inv (by have := HM.out; omega)
        rw [HM.out] at e
        simp only [Value.slice.injEq] at e
        obtain ⟨rfl, _, rfl⟩ := e
        have hx1 := hcell1 k (by have := HN.out; omega)
        have hx2 := hcell2 k (by have := HM.out; omega)
        obtain ⟨x, hx⟩ : ∃ x, l.getD k 0 = x := ⟨_, rfl⟩
        obtain ⟨y, hy⟩ : ∃ y, m.getD k 0 = y := ⟨_, rfl⟩
        rw [hx] at hx1
        rw [hy] at hx2
        have HX := hid hx
        have HY := hid hy
        clear hx hy hcell1 hcell2 hbel
        cases hd : (x == y)
        · have hd2 : (x != y) = true := by simpa using hd
          have HD := hid hd
          clear hd
          go_wp2_with (go_quiet (fail))
          go_ret
          refine ⟨?_, below_drewN HB.out _⟩
          rw [← HZ.out, decide_eq_false (fun e => by have h3 := HD.out; have h1 := HX.out; rw [e, HY.out] at h1; simp at h3; omega)]
          rfl
        · obtain rfl : x = y := by simpa using hd
          have hd2 : (x != x) = false := by simp
          clear hd
          go_wp2_with (go_quiet (fail))
          go_roundw
          case rel =>
            refine ⟨k + 1, by omega, by go_num, fun j hj => ?_, below_drewN HB.out _⟩
            by_cases e : j = k
            · subst e; rw [HX.out, HY.out]
            · exact HJ.out j (by omega)
          case measure => simp [intOf]; omega
      · obtain rfl : k = N := by omega
        have HE := hid (show l = m from List.ext_getElem (by rw [HN.out, HM.out]) (fun i h1 h2 => by
          have := HJ.out i (by rw [← HN.out]; exact h1)
          simpa [h1, h2] using this))
        clear hbel
        go_wp2_with fail
        go_ret
        refine ⟨?_, HB.out⟩
        rw [← HZ.out, decide_eq_true HE.out]
        rfl

end Go.Proofs.Ytkcjkncpaopjbaa

/-
  What Add answers and leaves is proved here, of the program and of the reference, for all vectors.
-/
namespace Go.Proofs.Ytkcjkncpaopjbaa
open Go.RowKit
set_option linter.unusedVariables false
set_option maxRecDepth 100000

theorem add_not {l : List Int} {r n : Int} (h : ro r n = false) : addV l r n = 10 := by unfold addV; rw [if_pos h]
theorem add_in {l : List Int} {k : Nat} {n x : Int} (h : ro k n = true) (hx : l.getD k 0 = x) : addV l k n = if n ≤ x then 12 else if n = x + 1 then 0 else 22 := by
  unfold addV
  rw [if_neg (by rw [h]; decide), Int.toNat_natCast, hx]
theorem put_not {l : List Int} {r n : Int} (h : addV l r n ≠ 0) : putV l r n = l := if_neg h
theorem put_in {l : List Int} {k : Nat} {n : Int} (h : addV l k n = 0) : putV l k n = l.set k n := by unfold putV; rw [if_pos h, Int.toNat_natCast]
def ad0 : Oper := { dst := some 14, op := Op.fieldAddr 24 (Operand.tmp 3) 1, type := 0, pos := "vec.go:44", after := #[], guard := none }
def ad1 : Oper := { dst := some 15, op := Op.load 3 (Operand.tmp 14), type := 3, pos := "vec.go:44", after := #[{ on := 0, ground := Ground.data }], guard := none }
def ad2 : Oper := { dst := some 16, op := Op.move (Operand.tmp 0), type := 27, pos := "vec.go:44", after := #[], guard := none }
def ad3 : Oper := { dst := some 17, op := Op.fieldAddr 24 (Operand.tmp 3) 0, type := 0, pos := "vec.go:44", after := #[], guard := none }
def ad4 : Oper := { dst := some 18, op := Op.load 3 (Operand.tmp 17), type := 3, pos := "vec.go:44", after := #[{ on := 3, ground := Ground.data }], guard := none }
def ad5 : Oper := { dst := some 19, op := Op.call { callee := Callee.value (Operand.func 18), args := #[Operand.tmp 16, Operand.tmp 18], argTypes := #[27, 3] }, type := 3, pos := "vec.go:44", after := #[{ on := 2, ground := Ground.data }, { on := 4, ground := Ground.data }], guard := none }
def ad6 : Oper := { dst := some 20, op := Op.binOp BinOp.neq 3 (Operand.tmp 15) (Operand.tmp 19) 3, type := 4, pos := "vec.go:44", after := #[{ on := 1, ground := Ground.data }, { on := 5, ground := Ground.data }], guard := none }
def ad7 : Oper := { dst := some 13, op := Op.assign (Operand.tmp 20), type := 4, pos := "vec.go:44", after := #[{ on := 6, ground := Ground.data }, { on := 5, ground := Ground.chain }], guard := none }
def ads : Array Oper := #[ad0, ad1, ad2, ad3, ad4, ad5, ad6, ad7]
theorem ad_lex : Region.lexB .any ads = true := by kernel_rfl
theorem ad_r (b k : Nat) (n x : Int) (l : List Int) (g : Nat) (w : World) {x1 x2 x4 x5 x6 x7 x8 x9 x10 x11 x12 x13 x14 x15 x16 x17 x18 x19 x20 x21 x22 x23 x24 x25 x26 x27 x28 : Value} {Q : Exit → Act → World → Prop} (hk : k < 16) (hI : Idb w g k n) (hV : Vc w b l) (hx : l.getD k 0 = x) (hlt : x < 1048576)
    (hQ : ∀ W, Below w.heap.size w W → Q .normal { tmps := #[.pointer (some ⟨b, 0, none⟩), x1, x2, .pointer (some ⟨g, 0, none⟩), x4, x5, x6, x7, x8, x9, x10, x11, x12, .bool (n != x + 1), .pointer (some ⟨g, 1, none⟩), .int .i64 n, .pointer (some ⟨b, 0, none⟩), .pointer (some ⟨g, 0, none⟩), .int .i64 k, .int .i64 (x + 1), .bool (n != x + 1), x21, x22, x23, x24, x25, x26, x27, x28], defers := [] } W) : (Code.region 5 ads true).wp Try.prog Q { tmps := #[.pointer (some ⟨b, 0, none⟩), x1, x2, .pointer (some ⟨g, 0, none⟩), x4, x5, x6, x7, x8, x9, x10, x11, x12, x13, x14, x15, x16, x17, x18, x19, x20, x21, x22, x23, x24, x25, x26, x27, x28], defers := [] } w := by
  refine wp_region_quiet (C := fun W => Below w.heap.size w W) (by kernel_rfl) ad_lex (Below.refl _ _).drew ?_
  change wpQuiet _ _ _ _ [ad0, ad1, ad2, ad3, ad4, ad5, ad6, ad7] _
  refine Wq.out ?_
  refine wq_val (.pointer (some ⟨g, 1, none⟩)) { tmps := #[.pointer (some ⟨b, 0, none⟩), x1, x2, .pointer (some ⟨g, 0, none⟩), x4, x5, x6, x7, x8, x9, x10, x11, x12, x13, .pointer (some ⟨g, 1, none⟩), x15, x16, x17, x18, x19, x20, x21, x22, x23, x24, x25, x26, x27, x28], defers := [] } (by kernel_rfl) (fun W hW => by kernel_rfl) (by kernel_rfl) ?_
  refine wq_val (.int .i64 n) { tmps := #[.pointer (some ⟨b, 0, none⟩), x1, x2, .pointer (some ⟨g, 0, none⟩), x4, x5, x6, x7, x8, x9, x10, x11, x12, x13, .pointer (some ⟨g, 1, none⟩), .int .i64 n, x16, x17, x18, x19, x20, x21, x22, x23, x24, x25, x26, x27, x28], defers := [] } (by kernel_rfl) (fun W hW => run_ldnum rfl rfl (hI.below hW).c1) (by kernel_rfl) ?_
  refine wq_val (.pointer (some ⟨b, 0, none⟩)) { tmps := #[.pointer (some ⟨b, 0, none⟩), x1, x2, .pointer (some ⟨g, 0, none⟩), x4, x5, x6, x7, x8, x9, x10, x11, x12, x13, .pointer (some ⟨g, 1, none⟩), .int .i64 n, .pointer (some ⟨b, 0, none⟩), x17, x18, x19, x20, x21, x22, x23, x24, x25, x26, x27, x28], defers := [] } (by kernel_rfl) (fun W hW => by kernel_rfl) (by kernel_rfl) ?_
  refine wq_val (.pointer (some ⟨g, 0, none⟩)) { tmps := #[.pointer (some ⟨b, 0, none⟩), x1, x2, .pointer (some ⟨g, 0, none⟩), x4, x5, x6, x7, x8, x9, x10, x11, x12, x13, .pointer (some ⟨g, 1, none⟩), .int .i64 n, .pointer (some ⟨b, 0, none⟩), .pointer (some ⟨g, 0, none⟩), x18, x19, x20, x21, x22, x23, x24, x25, x26, x27, x28], defers := [] } (by kernel_rfl) (fun W hW => by kernel_rfl) (by kernel_rfl) ?_
  refine wq_val (.int .i64 k) { tmps := #[.pointer (some ⟨b, 0, none⟩), x1, x2, .pointer (some ⟨g, 0, none⟩), x4, x5, x6, x7, x8, x9, x10, x11, x12, x13, .pointer (some ⟨g, 1, none⟩), .int .i64 n, .pointer (some ⟨b, 0, none⟩), .pointer (some ⟨g, 0, none⟩), .int .i64 k, x19, x20, x21, x22, x23, x24, x25, x26, x27, x28], defers := [] } (by kernel_rfl) (fun W hW => run_ldnum rfl rfl (hI.below hW).c0) (by kernel_rfl) ?_
  refine wq_call (f := 18) (args := #[.pointer (some ⟨b, 0, none⟩), .int .i64 k]) (.int .i64 (x + 1)) { tmps := #[.pointer (some ⟨b, 0, none⟩), x1, x2, .pointer (some ⟨g, 0, none⟩), x4, x5, x6, x7, x8, x9, x10, x11, x12, x13, .pointer (some ⟨g, 1, none⟩), .int .i64 n, .pointer (some ⟨b, 0, none⟩), .pointer (some ⟨g, 0, none⟩), .int .i64 k, .int .i64 (x + 1), x20, x21, x22, x23, x24, x25, x26, x27, x28], defers := [] } (by kernel_rfl) (fun W => by kernel_rfl) (fun W hW => (next_any b l k W (hV.below hW)).mono fun e V ⟨h1, h2⟩ => ⟨by rw [h1, next_in hk hx, if_neg (by omega)], by subst h2; exact hW⟩) (by kernel_rfl) ?_
  refine wq_val (.bool (n != x + 1)) { tmps := #[.pointer (some ⟨b, 0, none⟩), x1, x2, .pointer (some ⟨g, 0, none⟩), x4, x5, x6, x7, x8, x9, x10, x11, x12, x13, .pointer (some ⟨g, 1, none⟩), .int .i64 n, .pointer (some ⟨b, 0, none⟩), .pointer (some ⟨g, 0, none⟩), .int .i64 k, .int .i64 (x + 1), .bool (n != x + 1), x21, x22, x23, x24, x25, x26, x27, x28], defers := [] } (by kernel_rfl) (fun W hW => by kernel_rfl) (by kernel_rfl) ?_
  refine wq_val (.bool (n != x + 1)) { tmps := #[.pointer (some ⟨b, 0, none⟩), x1, x2, .pointer (some ⟨g, 0, none⟩), x4, x5, x6, x7, x8, x9, x10, x11, x12, .bool (n != x + 1), .pointer (some ⟨g, 1, none⟩), .int .i64 n, .pointer (some ⟨b, 0, none⟩), .pointer (some ⟨g, 0, none⟩), .int .i64 k, .int .i64 (x + 1), .bool (n != x + 1), x21, x22, x23, x24, x25, x26, x27, x28], defers := [] } (by kernel_rfl) (fun W hW => by kernel_rfl) (by kernel_rfl) ?_
  exact wq_nil hQ
def xad0 : Oper := { dst := some 11, op := Op.fieldAddr 24 (Operand.tmp 3) 1, type := 0, pos := "ref.go:38", after := #[], guard := none }
def xad1 : Oper := { dst := some 12, op := Op.load 3 (Operand.tmp 11), type := 3, pos := "ref.go:38", after := #[{ on := 0, ground := Ground.data }], guard := none }
def xad2 : Oper := { dst := some 13, op := Op.move (Operand.tmp 0), type := 28, pos := "ref.go:38", after := #[], guard := none }
def xad3 : Oper := { dst := some 14, op := Op.fieldAddr 24 (Operand.tmp 3) 0, type := 0, pos := "ref.go:38", after := #[], guard := none }
def xad4 : Oper := { dst := some 15, op := Op.load 3 (Operand.tmp 14), type := 3, pos := "ref.go:38", after := #[{ on := 3, ground := Ground.data }], guard := none }
def xad5 : Oper := { dst := some 16, op := Op.nilCheck (Operand.tmp 13), type := 0, pos := "ref.go:38", after := #[{ on := 2, ground := Ground.data }], guard := none }
def xad6 : Oper := { dst := some 17, op := Op.fieldAddr 48 (Operand.tmp 16) 0, type := 0, pos := "ref.go:38", after := #[{ on := 5, ground := Ground.data }], guard := none }
def xad7 : Oper := { dst := some 18, op := Op.indexAddr 46 (Operand.tmp 17) (Operand.tmp 15), type := 0, pos := "ref.go:38", after := #[{ on := 6, ground := Ground.data }, { on := 4, ground := Ground.data }], guard := none }
def xad8 : Oper := { dst := some 19, op := Op.load 3 (Operand.tmp 18), type := 3, pos := "ref.go:38", after := #[{ on := 7, ground := Ground.data }], guard := none }
def xad9 : Oper := { dst := some 20, op := Op.binOp BinOp.add 3 (Operand.tmp 19) (Operand.const (Value.int IntKind.i64 1)) 3, type := 3, pos := "ref.go:38", after := #[{ on := 8, ground := Ground.data }], guard := none }
def xad10 : Oper := { dst := some 21, op := Op.binOp BinOp.gtr 3 (Operand.tmp 12) (Operand.tmp 20) 3, type := 4, pos := "ref.go:38", after := #[{ on := 1, ground := Ground.data }, { on := 9, ground := Ground.data }], guard := none }
def xads : Array Oper := #[xad0, xad1, xad2, xad3, xad4, xad5, xad6, xad7, xad8, xad9, xad10]
theorem xad_lex : Region.lexB .any xads = true := by kernel_rfl
theorem run_inc {o : Oper} {a : Act} {x : Operand} {k : Int} {W : World} (ho : o.op = .binOp .add 3 x (.const (.int .i64 1)) 3) (hx : a.eval x = .int .i64 k) (h : 0 ≤ k ∧ k ≤ 1048576) : (execOp a.eval o).run Try.prog W = .ok (.value (.int .i64 (k + 1))) W := by
  have hw : IntKind.i64.wrap (k + 1) = k + 1 := by rw [IntKind.wrap_i64]; omega
  unfold execOp
  simp only [ho, hx]
  simp [go_sem, Act.eval, hw]
theorem xad_r (z : Bool) (b k : Nat) (n x : Int) (l : List Int) (g : Nat) (w : World) {x1 x2 x4 x5 x6 x7 x8 x9 x10 x11 x12 x13 x14 x15 x16 x17 x18 x19 x20 x21 x22 x23 x24 x25 x26 x27 x28 x29 : Value} {Q : Exit → Act → World → Prop} (hk : k < 16) (hI : Idb w g k n) (hV : Vc w b l) (hx : l.getD k 0 = x) (hb : 0 ≤ x ∧ x ≤ 1048576) (hz : decide (x + 1 < n) = z)
    (hQ : ∀ W, Below w.heap.size w W → Q .normal { tmps := #[.pointer (some ⟨b, 0, none⟩), x1, x2, .pointer (some ⟨g, 0, none⟩), x4, x5, x6, x7, x8, x9, x10, .pointer (some ⟨g, 1, none⟩), .int .i64 n, .pointer (some ⟨b, 0, none⟩), .pointer (some ⟨g, 0, none⟩), .int .i64 k, .pointer (some ⟨b, 0, none⟩), .pointer (some ⟨b, 0, none⟩), .pointer (some ⟨b, k, none⟩), .int .i64 x, .int .i64 (x + 1), .bool z, x22, x23, x24, x25, x26, x27, x28, x29], defers := [] } W) : (Code.region 5 xads true).wp Try.prog Q { tmps := #[.pointer (some ⟨b, 0, none⟩), x1, x2, .pointer (some ⟨g, 0, none⟩), x4, x5, x6, x7, x8, x9, x10, x11, x12, x13, x14, x15, x16, x17, x18, x19, x20, x21, x22, x23, x24, x25, x26, x27, x28, x29], defers := [] } w := by
  refine wp_region_quiet (C := fun W => Below w.heap.size w W) (by kernel_rfl) xad_lex (Below.refl _ _).drew ?_
  change wpQuiet _ _ _ _ [xad0, xad1, xad2, xad3, xad4, xad5, xad6, xad7, xad8, xad9, xad10] _
  refine Wq.out ?_
  refine wq_val (.pointer (some ⟨g, 1, none⟩)) { tmps := #[.pointer (some ⟨b, 0, none⟩), x1, x2, .pointer (some ⟨g, 0, none⟩), x4, x5, x6, x7, x8, x9, x10, .pointer (some ⟨g, 1, none⟩), x12, x13, x14, x15, x16, x17, x18, x19, x20, x21, x22, x23, x24, x25, x26, x27, x28, x29], defers := [] } (by kernel_rfl) (fun W hW => by kernel_rfl) (by kernel_rfl) ?_
  refine wq_val (.int .i64 n) { tmps := #[.pointer (some ⟨b, 0, none⟩), x1, x2, .pointer (some ⟨g, 0, none⟩), x4, x5, x6, x7, x8, x9, x10, .pointer (some ⟨g, 1, none⟩), .int .i64 n, x13, x14, x15, x16, x17, x18, x19, x20, x21, x22, x23, x24, x25, x26, x27, x28, x29], defers := [] } (by kernel_rfl) (fun W hW => run_ldnum rfl rfl (hI.below hW).c1) (by kernel_rfl) ?_
  refine wq_val (.pointer (some ⟨b, 0, none⟩)) { tmps := #[.pointer (some ⟨b, 0, none⟩), x1, x2, .pointer (some ⟨g, 0, none⟩), x4, x5, x6, x7, x8, x9, x10, .pointer (some ⟨g, 1, none⟩), .int .i64 n, .pointer (some ⟨b, 0, none⟩), x14, x15, x16, x17, x18, x19, x20, x21, x22, x23, x24, x25, x26, x27, x28, x29], defers := [] } (by kernel_rfl) (fun W hW => by kernel_rfl) (by kernel_rfl) ?_
  refine wq_val (.pointer (some ⟨g, 0, none⟩)) { tmps := #[.pointer (some ⟨b, 0, none⟩), x1, x2, .pointer (some ⟨g, 0, none⟩), x4, x5, x6, x7, x8, x9, x10, .pointer (some ⟨g, 1, none⟩), .int .i64 n, .pointer (some ⟨b, 0, none⟩), .pointer (some ⟨g, 0, none⟩), x15, x16, x17, x18, x19, x20, x21, x22, x23, x24, x25, x26, x27, x28, x29], defers := [] } (by kernel_rfl) (fun W hW => by kernel_rfl) (by kernel_rfl) ?_
  refine wq_val (.int .i64 k) { tmps := #[.pointer (some ⟨b, 0, none⟩), x1, x2, .pointer (some ⟨g, 0, none⟩), x4, x5, x6, x7, x8, x9, x10, .pointer (some ⟨g, 1, none⟩), .int .i64 n, .pointer (some ⟨b, 0, none⟩), .pointer (some ⟨g, 0, none⟩), .int .i64 k, x16, x17, x18, x19, x20, x21, x22, x23, x24, x25, x26, x27, x28, x29], defers := [] } (by kernel_rfl) (fun W hW => run_ldnum rfl rfl (hI.below hW).c0) (by kernel_rfl) ?_
  refine wq_val (.pointer (some ⟨b, 0, none⟩)) { tmps := #[.pointer (some ⟨b, 0, none⟩), x1, x2, .pointer (some ⟨g, 0, none⟩), x4, x5, x6, x7, x8, x9, x10, .pointer (some ⟨g, 1, none⟩), .int .i64 n, .pointer (some ⟨b, 0, none⟩), .pointer (some ⟨g, 0, none⟩), .int .i64 k, .pointer (some ⟨b, 0, none⟩), x17, x18, x19, x20, x21, x22, x23, x24, x25, x26, x27, x28, x29], defers := [] } (by kernel_rfl) (fun W hW => by kernel_rfl) (by kernel_rfl) ?_
  refine wq_val (.pointer (some ⟨b, 0, none⟩)) { tmps := #[.pointer (some ⟨b, 0, none⟩), x1, x2, .pointer (some ⟨g, 0, none⟩), x4, x5, x6, x7, x8, x9, x10, .pointer (some ⟨g, 1, none⟩), .int .i64 n, .pointer (some ⟨b, 0, none⟩), .pointer (some ⟨g, 0, none⟩), .int .i64 k, .pointer (some ⟨b, 0, none⟩), .pointer (some ⟨b, 0, none⟩), x18, x19, x20, x21, x22, x23, x24, x25, x26, x27, x28, x29], defers := [] } (by kernel_rfl) (fun W hW => by kernel_rfl) (by kernel_rfl) ?_
  refine wq_val (.pointer (some ⟨b, k, none⟩)) { tmps := #[.pointer (some ⟨b, 0, none⟩), x1, x2, .pointer (some ⟨g, 0, none⟩), x4, x5, x6, x7, x8, x9, x10, .pointer (some ⟨g, 1, none⟩), .int .i64 n, .pointer (some ⟨b, 0, none⟩), .pointer (some ⟨g, 0, none⟩), .int .i64 k, .pointer (some ⟨b, 0, none⟩), .pointer (some ⟨b, 0, none⟩), .pointer (some ⟨b, k, none⟩), x19, x20, x21, x22, x23, x24, x25, x26, x27, x28, x29], defers := [] } (by kernel_rfl) (fun W hW => run_ixarr rfl rfl rfl hk) (by kernel_rfl) ?_
  refine wq_val (.int .i64 x) { tmps := #[.pointer (some ⟨b, 0, none⟩), x1, x2, .pointer (some ⟨g, 0, none⟩), x4, x5, x6, x7, x8, x9, x10, .pointer (some ⟨g, 1, none⟩), .int .i64 n, .pointer (some ⟨b, 0, none⟩), .pointer (some ⟨g, 0, none⟩), .int .i64 k, .pointer (some ⟨b, 0, none⟩), .pointer (some ⟨b, 0, none⟩), .pointer (some ⟨b, k, none⟩), .int .i64 x, x20, x21, x22, x23, x24, x25, x26, x27, x28, x29], defers := [] } (by kernel_rfl) (fun W hW => run_ldnum rfl rfl (by rw [← hx]; exact (hV.below hW).cell hk)) (by kernel_rfl) ?_
  refine wq_val (.int .i64 (x + 1)) { tmps := #[.pointer (some ⟨b, 0, none⟩), x1, x2, .pointer (some ⟨g, 0, none⟩), x4, x5, x6, x7, x8, x9, x10, .pointer (some ⟨g, 1, none⟩), .int .i64 n, .pointer (some ⟨b, 0, none⟩), .pointer (some ⟨g, 0, none⟩), .int .i64 k, .pointer (some ⟨b, 0, none⟩), .pointer (some ⟨b, 0, none⟩), .pointer (some ⟨b, k, none⟩), .int .i64 x, .int .i64 (x + 1), x21, x22, x23, x24, x25, x26, x27, x28, x29], defers := [] } (by kernel_rfl) (fun W hW => run_inc rfl rfl hb) (by kernel_rfl) ?_
  refine wq_val (.bool z) { tmps := #[.pointer (some ⟨b, 0, none⟩), x1, x2, .pointer (some ⟨g, 0, none⟩), x4, x5, x6, x7, x8, x9, x10, .pointer (some ⟨g, 1, none⟩), .int .i64 n, .pointer (some ⟨b, 0, none⟩), .pointer (some ⟨g, 0, none⟩), .int .i64 k, .pointer (some ⟨b, 0, none⟩), .pointer (some ⟨b, 0, none⟩), .pointer (some ⟨b, k, none⟩), .int .i64 x, .int .i64 (x + 1), .bool z, x22, x23, x24, x25, x26, x27, x28, x29], defers := [] } (by kernel_rfl) (fun W hW => by rw [← hz]; kernel_rfl) (by kernel_rfl) ?_
  exact wq_nil hQ

set_option maxHeartbeats 1000000 in
theorem add_any (b : Nat) (l : List Int) (r n : Int) (w : World) (h : Vc w b l) :
    Calls Try.prog 25 #[.pointer (some ⟨b, 0, none⟩), idv r n] w fun e w' => e = .returned (.int .i64 (addV l r n)) ∧ Vc w' b (putV l r n) ∧ Fr (fun i => i = b) w w' := by
  have HV := hid (h.below (ba w (ido 24 r n)))
  have HI := hid (show Idb (w.alloc (ido 24 r n)) w.heap.size r n from ⟨_, heap_alloc_new w _⟩)
  have HB := hid (ba w (ido 24 r n))
  cases hro : ro r n
  · have e1 := add_not (l := l) hro
    have e2 : putV l r n = l := put_not (by rw [e1]; decide)
    rw [e1, e2]
    clear h e1 e2
    go_enter Try.func25, Try.ntmps25
    go_wp2_with (go_at_call 32; refine (ro_any _ _ _).mono ?_; rintro e w2 ⟨rfl, rfl⟩; rw [hro])
    go_ret
    exact ⟨rfl, HV.out.below (ba _ _), Fr.of_below (bt HB.out (ba _ _))⟩
  · have hq := ro_iff.1 hro
    obtain ⟨k, rfl⟩ := Int.eq_ofNat_of_zero_le hq.1
    have hk : k < 16 := by omega
    obtain ⟨x, hx⟩ : ∃ x, l.getD k 0 = x := ⟨_, rfl⟩
    have HX := hid hx
    have hh := has_in (n := n) hro hx
    have HA := hid (add_in hro hx)
    have HRO := hid hro
    have HBX := hid (show 0 ≤ x ∧ x ≤ 1048576 by rw [← hx]; exact h.1.2 k)
    have HM := hid (show 1 ≤ n ∧ n ≤ 1048576 by omega)
    clear h hro hx hq
    cases hd : decide (n ≤ x)
    · have hlt : ¬ n ≤ x := by simpa using hd
      have HHA := hid (show hasV l k n = false by rw [hh, hd])
      have HLT := hid (show x < 1048576 by have := HM.out; omega)
      clear hh hd
      cases hd : decide (n = x + 1)
      · have hne : ¬ n = x + 1 := by simpa using hd
        have e1 : addV l k n = 22 := by rw [HA.out, if_neg hlt, if_neg hne]
        have e2 : putV l k n = l := put_not (by rw [e1]; decide)
        rw [e1, e2]
        clear e1 e2 hne hlt
        have hd2 : (n != x + 1) = true := by simpa using hd
        clear hd
        go_enter Try.func25, Try.ntmps25
        go_wp2_with (first
          | (go_at_call 32; refine (ro_any _ _ _).mono ?_; rintro e w2 ⟨rfl, rfl⟩; rw [HRO.out])
          | (go_at_call 16; refine (has_any b l k n _ (HV.out.below (ba _ _))).mono ?_; rintro e w3 ⟨rfl, hb3⟩; rw [HHA.out]; have HB3 := hid (bt (ba _ (ido 24 k n)) hb3); clear hb3)
          | (refine ad_r b k n x l w.heap.size _ hk (HI.out.below HB3.out) (HV.out.below HB3.out) HX.out HLT.out ?_; intro w4 hb4; have HB4 := hid (bt HB3.out hb4); clear hb4))
        go_ret
        exact ⟨rfl, HV.out.below HB4.out, Fr.of_below (bt HB.out HB4.out)⟩
      · have hne : n = x + 1 := by simpa using hd
        have e1 : addV l k n = 0 := by rw [HA.out, if_neg hlt, if_pos hne]
        have HE2 := hid (put_in e1)
        rw [e1]
        clear e1 hne hlt
        have hd2 : (n != x + 1) = false := by simpa using hd
        clear hd
        go_enter Try.func25, Try.ntmps25
        go_wp2_with (first
          | (go_at_call 32; refine (ro_any _ _ _).mono ?_; rintro e w2 ⟨rfl, rfl⟩; rw [HRO.out])
          | (go_at_call 16; refine (has_any b l k n _ (HV.out.below (ba _ _))).mono ?_; rintro e w3 ⟨rfl, hb3⟩; rw [HHA.out]; have HB3 := hid (bt (ba _ (ido 24 k n)) hb3); clear hb3)
          | (refine ad_r b k n x l w.heap.size _ hk (HI.out.below HB3.out) (HV.out.below HB3.out) HX.out HLT.out ?_; intro w4 hb4; have HB4 := hid (bt HB3.out hb4); have HV4 := hid (HV.out.below HB4.out); have q0 := (HI.out.below HB4.out).c0; have q1 := (HI.out.below HB4.out).c1; have hfz := HV4.out.frozen k; have hcc := HV4.out.cell hk; clear hb4)
          | go_region)
        go_ret
        rw [HE2.out]
        have hp := HV4.out.put hk n (by have := HM.out; omega)
        exact ⟨rfl, hp.1, (Fr.of_below (bt HB.out HB4.out)).trans (hp.2.drewN 1) (fun i _ h => h)⟩
    · have HHA := hid (show hasV l k n = true by rw [hh, hd])
      have hle : n ≤ x := by simpa using hd
      have e1 : addV l k n = 12 := by rw [HA.out, if_pos hle]
      have e2 : putV l k n = l := put_not (by rw [e1]; decide)
      rw [e1, e2]
      clear e1 e2 hle hd hh
      go_enter Try.func25, Try.ntmps25
      go_wp2_with (first
        | (go_at_call 32; refine (ro_any _ _ _).mono ?_; rintro e w2 ⟨rfl, rfl⟩; rw [HRO.out])
        | (go_at_call 16; refine (has_any b l k n _ (HV.out.below (ba _ _))).mono ?_; rintro e w3 ⟨rfl, hb3⟩; rw [HHA.out]; have HB3 := hid (bt (ba _ (ido 24 k n)) hb3); clear hb3))
      go_ret
      exact ⟨rfl, HV.out.below HB3.out, Fr.of_below (bt HB.out HB3.out)⟩

set_option maxHeartbeats 1000000 in
theorem xadd_any (b : Nat) (l : List Int) (r n : Int) (w : World) (h : Vc w b l) :
    Calls Try.prog 26 #[.pointer (some ⟨b, 0, none⟩), idv r n] w fun e w' => e = .returned (.int .i64 (addV l r n)) ∧ Vc w' b (putV l r n) ∧ Fr (fun i => i = b) w w' := by
  have HV := hid (h.below (ba w (ido 24 r n)))
  have HI := hid (show Idb (w.alloc (ido 24 r n)) w.heap.size r n from ⟨_, heap_alloc_new w _⟩)
  have HB := hid (ba w (ido 24 r n))
  cases hro : ro r n
  · have e1 := add_not (l := l) hro
    have e2 : putV l r n = l := put_not (by rw [e1]; decide)
    rw [e1, e2]
    clear h e1 e2
    go_enter Try.func26, Try.ntmps26
    go_wp2_with (go_at_call 33; refine (xro_any _ _ _).mono ?_; rintro e w2 ⟨rfl, rfl⟩; rw [hro])
    go_ret
    exact ⟨rfl, HV.out.below (ba _ _), Fr.of_below (bt HB.out (ba _ _))⟩
  · have hq := ro_iff.1 hro
    obtain ⟨k, rfl⟩ := Int.eq_ofNat_of_zero_le hq.1
    have hk : k < 16 := by omega
    obtain ⟨x, hx⟩ : ∃ x, l.getD k 0 = x := ⟨_, rfl⟩
    have HX := hid hx
    have hh := has_in (n := n) hro hx
    have HA := hid (add_in hro hx)
    have HRO := hid hro
    have HBX := hid (show 0 ≤ x ∧ x ≤ 1048576 by rw [← hx]; exact h.1.2 k)
    have HM := hid (show 1 ≤ n ∧ n ≤ 1048576 by omega)
    clear h hro hx hq
    cases hd : decide (n ≤ x)
    · have hlt : ¬ n ≤ x := by simpa using hd
      have HHA := hid (show hasV l k n = false by rw [hh, hd])
      have HLT := hid (show x < 1048576 by have := HM.out; omega)
      clear hh hd
      cases hd : decide (n ≤ x + 1)
      · have hne : ¬ n = x + 1 := by simp at hd; omega
        have e1 : addV l k n = 22 := by rw [HA.out, if_neg hlt, if_neg hne]
        have e2 : putV l k n = l := put_not (by rw [e1]; decide)
        rw [e1, e2]
        clear e1 e2 hne hlt
        have hd2 : decide (x + 1 < n) = true := by simp at hd ⊢; omega
        clear hd
        go_enter Try.func26, Try.ntmps26
        go_wp2_with (first
          | (go_at_call 33; refine (xro_any _ _ _).mono ?_; rintro e w2 ⟨rfl, rfl⟩; rw [HRO.out])
          | (go_at_call 17; refine (xhas_any b l k n _ (HV.out.below (ba _ _))).mono ?_; rintro e w3 ⟨rfl, hb3⟩; rw [HHA.out]; have HB3 := hid (bt (ba _ (ido 24 k n)) hb3); clear hb3)
          | (refine xad_r true b k n x l w.heap.size _ hk (HI.out.below HB3.out) (HV.out.below HB3.out) HX.out HBX.out hd2 ?_; intro w4 hb4; have HB4 := hid (bt HB3.out hb4); clear hb4))
        go_ret
        exact ⟨rfl, HV.out.below HB4.out, Fr.of_below (bt HB.out HB4.out)⟩
      · have hne : n = x + 1 := by simp at hd; omega
        have e1 : addV l k n = 0 := by rw [HA.out, if_neg hlt, if_pos hne]
        have HE2 := hid (put_in e1)
        rw [e1]
        clear e1 hne hlt
        have hd2 : decide (x + 1 < n) = false := by simp at hd ⊢; omega
        clear hd
        go_enter Try.func26, Try.ntmps26
        go_wp2_with (first
          | (go_at_call 33; refine (xro_any _ _ _).mono ?_; rintro e w2 ⟨rfl, rfl⟩; rw [HRO.out])
          | (go_at_call 17; refine (xhas_any b l k n _ (HV.out.below (ba _ _))).mono ?_; rintro e w3 ⟨rfl, hb3⟩; rw [HHA.out]; have HB3 := hid (bt (ba _ (ido 24 k n)) hb3); clear hb3)
          | (refine xad_r false b k n x l w.heap.size _ hk (HI.out.below HB3.out) (HV.out.below HB3.out) HX.out HBX.out hd2 ?_; intro w4 hb4; have HB4 := hid (bt HB3.out hb4); have HV4 := hid (HV.out.below HB4.out); have q0 := (HI.out.below HB4.out).c0; have q1 := (HI.out.below HB4.out).c1; have hfz := HV4.out.frozen k; have hcc := HV4.out.cell hk; clear hb4)
          | go_region)
        go_ret
        rw [HE2.out]
        have hp := HV4.out.put hk n (by have := HM.out; omega)
        exact ⟨rfl, hp.1, (Fr.of_below (bt HB.out HB4.out)).trans (hp.2.drewN 1) (fun i _ h => h)⟩
    · have HHA := hid (show hasV l k n = true by rw [hh, hd])
      have hle : n ≤ x := by simpa using hd
      have e1 : addV l k n = 12 := by rw [HA.out, if_pos hle]
      have e2 : putV l k n = l := put_not (by rw [e1]; decide)
      rw [e1, e2]
      clear e1 e2 hle hd hh
      go_enter Try.func26, Try.ntmps26
      go_wp2_with (first
        | (go_at_call 33; refine (xro_any _ _ _).mono ?_; rintro e w2 ⟨rfl, rfl⟩; rw [HRO.out])
        | (go_at_call 17; refine (xhas_any b l k n _ (HV.out.below (ba _ _))).mono ?_; rintro e w3 ⟨rfl, hb3⟩; rw [HHA.out]; have HB3 := hid (bt (ba _ (ido 24 k n)) hb3); clear hb3))
      go_ret
      exact ⟨rfl, HV.out.below HB3.out, Fr.of_below (bt HB.out HB3.out)⟩

end Go.Proofs.Ytkcjkncpaopjbaa
