/-
  What told, slices.Contains (of fields), rightCuts and the functions that they call answer is proved here, for all kinds, fields and cuts.
-/
import Derived.Test.YtmgemgkanlpnnaaDoorOSl
namespace Go.Proofs.YtmgemgkanlpnnaaDoor
open Go.RowKit
set_option linter.unusedVariables false
set_option maxRecDepth 100000

/-- Fields. -/
abbrev fc (l : List Nat) : List Value := l.map (fun (f : Nat) => .int .i64 f)
def Fs (w : World) (v : Value) (l : List Nat) : Prop := Sl 1 w v l.length (fc l)
theorem Fs.below {w w' : World} {v : Value} {l : List Nat} (h : Fs w v l) (hb : Below w.heap.size w w') : Fs w' v l := Sl.below h hb
theorem Fs.inv {w : World} {v : Value} {l : List Nat} (h : Fs w v l) (hn : 0 < l.length) :
    ∃ b off c, v = .slice (some ⟨b, off, none⟩) l.length c ∧ l.length ≤ c ∧ c ≤ maxLen ∧ b < w.heap.size ∧ ∀ i (hi : i < l.length), w.cell? ⟨b, off + i, none⟩ = some (.int .i64 (l[i] : Nat)) := by
  obtain ⟨b, off, c, h1, h2, h3, h4, h5⟩ := Sl.inv h hn (by decide)
  exact ⟨b, off, c, h1, h2, h3, h4, fun i hi => h5 i _ (by simp [hi])⟩

theorem told_lit (w : World) (l : List Nat) (h : l.length ≤ 9) : Fs (w.alloc (.cells (fc l).toArray 61)) (.slice (some ⟨w.heap.size, 0, none⟩) l.length l.length) l := by
  have := Sl.lit (sz := 1) w 61 (fc l).toArray l.length (by unfold maxLen; omega) (by simp)
  unfold Fs
  simpa using this

theorem told_any (k : Int) (w : World) : Calls Tryd.prog 30 #[.int .i64 k] w fun e w' => ∃ v, e = .returned v ∧ Fs w' v (told k) ∧ Below w.heap.size w w' ∧ ∀ b, v.ownBlock = some b → w.heap.size ≤ b := by
  by_cases hk : told k = []
  · rw [hk]
    have h1 : (k == 1) = false := by simp; rintro rfl; simp [told] at hk
    have h2 : (k == 2) = false := by simp; rintro rfl; simp [told] at hk
    have h3 : (k == 3) = false := by simp; rintro rfl; simp [told] at hk
    have h4 : (k == 4) = false := by simp; rintro rfl; simp [told] at hk
    have h5 : (k == 5) = false := by simp; rintro rfl; simp [told] at hk
    have h6 : (k == 6) = false := by simp; rintro rfl; simp [told] at hk
    clear hk
    go_enter Tryd.func30, Tryd.ntmps30
    go_wp2
    go_ret
    exact ⟨_, rfl, Sl.nil 1 w, Below.refl _ _, fun b hb => by cases hb⟩
  · rcases six hk with rfl | rfl | rfl | rfl | rfl | rfl
    · rw [show told 1 = [1, 2] from rfl]
      have HF := hid (told_lit w [1, 2] (by decide))
      go_enter Tryd.func30, Tryd.ntmps30
      go_wp2
      go_ret
      exact ⟨_, rfl, HF.out, ba _ _, fun b hb => by simp [Value.ownBlock] at hb; omega⟩
    · rw [show told 2 = [0, 1, 2] from rfl]
      have HF := hid (told_lit w [0, 1, 2] (by decide))
      go_enter Tryd.func30, Tryd.ntmps30
      go_wp2
      go_ret
      exact ⟨_, rfl, HF.out, ba _ _, fun b hb => by simp [Value.ownBlock] at hb; omega⟩
    · rw [show told 3 = [3, 4, 5, 6] from rfl]
      have HF := hid (told_lit w [3, 4, 5, 6] (by decide))
      go_enter Tryd.func30, Tryd.ntmps30
      go_wp2
      go_ret
      exact ⟨_, rfl, HF.out, ba _ _, fun b hb => by simp [Value.ownBlock] at hb; omega⟩
    · rw [show told 4 = [7] from rfl]
      have HF := hid (told_lit w [7] (by decide))
      go_enter Tryd.func30, Tryd.ntmps30
      go_wp2
      go_ret
      exact ⟨_, rfl, HF.out, ba _ _, fun b hb => by simp [Value.ownBlock] at hb; omega⟩
    · rw [show told 5 = [3, 4, 5, 1, 2] from rfl]
      have HF := hid (told_lit w [3, 4, 5, 1, 2] (by decide))
      go_enter Tryd.func30, Tryd.ntmps30
      go_wp2
      go_ret
      exact ⟨_, rfl, HF.out, ba _ _, fun b hb => by simp [Value.ownBlock] at hb; omega⟩
    · rw [show told 6 = [0, 8] from rfl]
      have HF := hid (told_lit w [0, 8] (by decide))
      go_enter Tryd.func30, Tryd.ntmps30
      go_wp2
      go_ret
      exact ⟨_, rfl, HF.out, ba _ _, fun b hb => by simp [Value.ownBlock] at hb; omega⟩

theorem index_any (v : Value) (l : List Nat) (f : Nat) (w : World) (h : Fs w v l) (hl : l.length ≤ 9) (hf : f ≤ 8) (hall : ∀ x ∈ l, x ≤ 8) :
    Calls Tryd.prog 77 #[v, .int .i64 f] w fun e w' => ∃ n : Int, e = .returned (.int .i64 n) ∧ (0 ≤ n ↔ f ∈ l) ∧ w = w' := by
  by_cases hz : l.length = 0
  · obtain rfl := List.eq_nil_of_length_eq_zero hz
    obtain ⟨a, c, rfl, _, _⟩ := Sl.form h
    clear h hl hall hz
    go_enter Tryd.func77, Tryd.ntmps77
    go_wp2
    refine wp_loop_rounds 1 ?_
    rw [rounds_succ]
    go_wp2
    go_ret
    exact ⟨_, rfl, by simp, rfl⟩
  · obtain ⟨b, off, c, rfl, _, _, _, hc⟩ := h.inv (by omega)
    obtain ⟨n, hn⟩ : ∃ n, l.length = n := ⟨_, rfl⟩
    have HN := hid hn
    rw [hn] at hl hz ⊢
    have HC := hid hc
    clear hn hc h hall
    go_enter Tryd.func77, Tryd.ntmps77
    go_wp2
    go_loopw [8] (fun i wr => ∃ k : Nat, k ≤ n ∧ i = .int .i64 k ∧ wr = w ∧ ∀ j (hj : j < l.length), j < k → l[j] ≠ f) (fun i _ => n - (intOf i).toNat)
    case atStart => exact ⟨0, Nat.zero_le _, rfl, rfl, fun j _ h => absurd h (Nat.not_lt_zero _)⟩
    case round =>
      obtain ⟨k, hk, rfl, rfl, ht⟩ := hrel
      have HT := hid ht
      clear ht
      by_cases hlt : k < n
      · have hkl : k < l.length := by rw [HN.out]; exact hlt
        have g1 := HC.out k hkl
        obtain ⟨x, hx⟩ : ∃ x, l[k] = x := ⟨_, rfl⟩
        rw [hx] at g1
        have HX := hid hx
        clear hx
        have b1' : (k : Int) < (n : Int) := by omega
        by_cases he : x = f
        · have he' : ((f : Int) == (x : Int)) = true := by simp [he]
          have HE := hid he
          clear he
          go_wp2
          go_ret
          refine ⟨_, rfl, ?_, rfl⟩
          have hkl : k < l.length := by rw [HN.out]; exact hlt
          have hm : l[k] ∈ l := List.getElem_mem hkl
          rw [HX.out, HE.out] at hm
          exact ⟨fun _ => hm, fun _ => by omega⟩
        · have he' : ((f : Int) == (x : Int)) = false := by simp; omega
          have HE := hid he
          clear he
          go_wp2
          go_roundw
          case rel =>
            refine ⟨k + 1, by omega, by go_num, by first | rfl | trivial, fun j hj hjk => ?_⟩
            by_cases e : j = k
            · subst e
              rw [HX.out]; exact HE.out
            · exact HT.out j hj (by omega)
          case measure => simp [intOf]; omega
      · have e1 : k = n := by omega
        clear HC
        go_wp2
        go_ret
        refine ⟨_, rfl, ?_, rfl⟩
        constructor
        · intro h; omega
        · intro hm
          obtain ⟨j, hj, e⟩ := List.getElem_of_mem hm
          exact absurd e (HT.out j hj (by have := HN.out; omega))

theorem contains_any (v : Value) (l : List Nat) (f : Nat) (w : World) (h : Fs w v l) (hl : l.length ≤ 9) (hf : f ≤ 8) (hall : ∀ x ∈ l, x ≤ 8) :
    Calls Tryd.prog 49 #[v, .int .i64 f] w fun e w' => e = .returned (.bool (decide (f ∈ l))) ∧ w = w' := by
  have HI := hid (fun W => index_any v l f W)
  obtain ⟨a, c, rfl, _, _⟩ := Sl.form h
  go_enter Tryd.func49, Tryd.ntmps49
  go_wp2_with fail
  refine (HI.out _ h hl hf hall).mono ?_
  rintro e w1 ⟨n, rfl, hn, rfl⟩
  have HN := hid hn
  clear hn h hl hf hall
  go_wp2
  go_ret
  refine ⟨retb ?_, rfl⟩
  simpa using HN.out


abbrev cutv (c : Ct) : Value := .agg #[.int .i64 c.r, .int .i64 c.n, .int .i64 c.f, .int .i64 c.t]

theorem wrong_any (c : Ct) (w : World) : Calls Tryd.prog 86 #[cutv c] w fun e w' => e = .returned (.bool (!rct c)) ∧ Below w.heap.size w w' := by
  obtain ⟨b, hb⟩ : ∃ b, rct c = b := ⟨_, rfl⟩
  rw [hb]
  have HR := hid hb
  have HB := hid (ba w (.cells #[.int .i64 c.r, .int .i64 c.n, .int .i64 c.f, .int .i64 c.t] 71))
  have hp := heap_alloc_new w (.cells #[.int .i64 c.r, .int .i64 c.n, .int .i64 c.f, .int .i64 c.t] 71)
  have k2 := fun o => ((ba (w.alloc (.cells #[.int .i64 c.r, .int .i64 c.n, .int .i64 c.f, .int .i64 c.t] 71)) o).cell (p := ⟨w.heap.size, 2, none⟩) (by simp)).trans (by rw [cell_of_row _ _ 2 _ _ _ hp]; rfl : _ = some (.int .i64 c.f))
  have k3 := fun o => ((ba (w.alloc (.cells #[.int .i64 c.r, .int .i64 c.n, .int .i64 c.f, .int .i64 c.t] 71)) o).cell (p := ⟨w.heap.size, 3, none⟩) (by simp)).trans (by rw [cell_of_row _ _ 3 _ _ _ hp]; rfl : _ = some (.int .i64 c.t))
  clear hp hb
  cases hro : ro c.r c.n
  all_goals cases h0 : decide (c.f < 0)
  all_goals cases h1 : decide (c.f < c.t)
  all_goals
    have HO := hid hro
    have H0 := hid h0
    have H1 := hid h1
    have h1' : decide (c.t ≤ c.f) = !decide (c.f < c.t) := by rw [Bool.eq_iff_iff]; simp
    rw [h1] at h1'
    go_enter Tryd.func86, Tryd.ntmps86
    go_wp2_with (go_at_call 46; refine (ro_any _ _ _).mono ?_; rintro e w2 ⟨rfl, rfl⟩; rw [hro])
    go_ret
    refine ⟨retb ?_, bt HB.out (ba _ _)⟩
    rw [← HR.out]
    have a1 := HO.out
    have a2 := H0.out
    have a3 := H1.out
    simp at a2 a3
    simp [rct, a1]
    try omega


abbrev wrongv : Value := .func (.func 86) #[] #[]

set_option maxHeartbeats 1000000 in
theorem indexf_any (v : Value) (l : List Ct) (w : World) (h : Cs w v l) :
    Calls Tryd.prog 89 #[v, wrongv] w fun e w' => ∃ n : Int, e = .returned (.int .i64 n) ∧ (0 ≤ n ↔ l.all rct = false) ∧ Below w.heap.size w w' := by
  by_cases hz : l.length = 0
  · obtain rfl := List.eq_nil_of_length_eq_zero hz
    obtain ⟨a, c, rfl, _, _⟩ := h.form
    clear h hz
    go_enter Tryd.func89, Tryd.ntmps89
    go_wp2
    refine wp_loop_rounds 1 ?_
    rw [rounds_succ]
    go_wp2
    go_ret
    exact ⟨_, rfl, by simp, Below.refl _ _⟩
  · obtain ⟨b, off, c, rfl, hlc, hcm, hbl, hc⟩ := h.inv (by omega)
    obtain ⟨n, hn⟩ : ∃ n, l.length = n := ⟨_, rfl⟩
    have HN := hid hn
    rw [hn] at hz hlc ⊢
    unfold maxLen at hcm
    have HC := hid hc
    have HBL := hid hbl
    clear hn hc h hbl
    go_enter Tryd.func89, Tryd.ntmps89
    go_wp2
    go_loopw [8] (fun i wr => ∃ k : Nat, k ≤ n ∧ i = .int .i64 k ∧ Below w.heap.size w wr ∧ ∀ j (hj : j < l.length), j < k → rct l[j] = true) (fun i _ => n - (intOf i).toNat)
    case atStart => exact ⟨0, Nat.zero_le _, rfl, Below.refl _ _, fun j _ h => absurd h (Nat.not_lt_zero _)⟩
    case round =>
      obtain ⟨k, hk, rfl, hbel, ht⟩ := hrel
      have HT := hid ht
      have HBE := hid hbel
      clear ht hbel
      by_cases hlt : k < n
      · have hkl : k < l.length := by rw [HN.out]; exact hlt
        obtain ⟨x, hx⟩ : ∃ x, l[k] = x := ⟨_, rfl⟩
        have g := HC.out k hkl
        rw [hx] at g
        have g0 := (HBE.out.cell (p := ⟨b, off + k * 4, none⟩) HBL.out).trans g.1
        have g1 := (HBE.out.cell (p := ⟨b, off + k * 4 + 1, none⟩) HBL.out).trans g.2.1
        have g2 := (HBE.out.cell (p := ⟨b, off + k * 4 + 2, none⟩) HBL.out).trans g.2.2.1
        have g3 := (HBE.out.cell (p := ⟨b, off + k * 4 + 3, none⟩) HBL.out).trans g.2.2.2
        have HX := hid hx
        clear hx g
        have b1' : (k : Int) < (n : Int) := by omega
        cases he : rct x
        · go_wp2_with fail
          refine (wrong_any x _).mono ?_
          rintro e w1 ⟨rfl, hb1⟩
          have HB1 := hid hb1
          clear hb1
          rw [he]
          have HE := hid he
          clear he
          go_wp2
          go_ret
          refine ⟨_, rfl, ?_, HBE.out.trans (HB1.out.mono HBE.out.size)⟩
          have hm : l[k] ∈ l := List.getElem_mem hkl
          rw [HX.out] at hm
          refine ⟨fun _ => ?_, fun _ => by omega⟩
          rw [List.all_eq_false]
          exact ⟨x, hm, by rw [HE.out]; decide⟩
        · go_wp2_with fail
          refine (wrong_any x _).mono ?_
          rintro e w1 ⟨rfl, hb1⟩
          have HB1 := hid hb1
          clear hb1
          rw [he]
          have HE := hid he
          clear he
          go_wp2
          go_roundw
          case rel =>
            refine ⟨k + 1, by omega, by go_num, HBE.out.trans (HB1.out.mono HBE.out.size), fun j hj hjk => ?_⟩
            by_cases e : j = k
            · subst e
              rw [HX.out]; exact HE.out
            · exact HT.out j hj (by omega)
          case measure => simp [intOf]; omega
      · have e1 : k = n := by omega
        clear HC
        go_wp2
        go_ret
        refine ⟨_, rfl, ?_, HBE.out⟩
        constructor
        · intro h; omega
        · intro hm
          rw [List.all_eq_false] at hm
          obtain ⟨x, hx, hne⟩ := hm
          obtain ⟨j, hj, e⟩ := List.getElem_of_mem hx
          have := HT.out j hj (by have := HN.out; omega)
          rw [e] at this
          exact absurd this hne

theorem containsf_any (v : Value) (l : List Ct) (w : World) (h : Cs w v l) :
    Calls Tryd.prog 87 #[v, wrongv] w fun e w' => e = .returned (.bool (!l.all rct)) ∧ Below w.heap.size w w' := by
  have HI := hid (fun W => indexf_any v l W)
  obtain ⟨a, c, rfl, _, _⟩ := h.form
  go_enter Tryd.func87, Tryd.ntmps87
  go_wp2_with fail
  refine (HI.out _ h).mono ?_
  rintro e w1 ⟨n, rfl, hn, hb⟩
  have HN := hid hn
  have HB := hid hb
  clear hn h hb
  go_wp2
  go_ret
  refine ⟨retb ?_, HB.out⟩
  have := HN.out
  simp only [decide_eq_true_eq, Bool.not_eq_true']
  exact this

theorem cuts_any (v : Value) (l : List Ct) (w : World) (h : Cs w v l) :
    Calls Tryd.prog 81 #[v] w fun e w' => e = .returned (.bool (decide (1 ≤ l.length ∧ l.length ≤ 16) && l.all rct)) ∧ Below w.heap.size w w' := by
  have HI := hid (fun W => containsf_any v l W)
  obtain ⟨a, c, rfl, _, _⟩ := h.form
  obtain ⟨b, hb⟩ : ∃ b, l.all rct = b := ⟨_, rfl⟩
  rw [hb] at HI ⊢
  clear hb
  have HH := hid h
  clear h
  obtain ⟨n, hn⟩ : ∃ n, l.length = n := ⟨_, rfl⟩
  rw [hn] at HI HH ⊢
  clear hn
  by_cases h1 : 1 ≤ n
  · by_cases h2 : n ≤ 16
    · rw [decide_eq_true ⟨h1, h2⟩]
      have h1' : decide ((1 : Int) ≤ n) = true := by simp; omega
      have h2' : decide ((n : Int) ≤ 16) = true := by simp; omega
      go_enter Tryd.func81, Tryd.ntmps81
      go_wp2_with fail
      refine (HI.out _ HH.out).mono ?_
      rintro e w1 ⟨rfl, hb⟩
      have HB := hid hb
      clear hb
      go_wp2
      go_ret
      refine ⟨retb ?_, HB.out⟩
      simp
    · rw [decide_eq_false (fun h => h2 h.2)]
      have h1' : decide ((1 : Int) ≤ n) = true := by simp; omega
      have h2' : decide ((n : Int) ≤ 16) = false := by simp; omega
      go_enter Tryd.func81, Tryd.ntmps81
      go_wp2
      go_ret
      exact ⟨rfl, Below.refl _ _⟩
  · rw [decide_eq_false (fun h => h1 h.1)]
    have h1' : decide ((1 : Int) ≤ n) = false := by simp; omega
    go_enter Tryd.func81, Tryd.ntmps81
    go_wp2
    go_ret
    exact ⟨rfl, Below.refl _ _⟩

end Go.Proofs.YtmgemgkanlpnnaaDoor
