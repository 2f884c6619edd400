/-
  Parts of the proof, one behind the other; what each proves stands at its head.
-/
import Derived.Test.YteckjkblngmenaaDoorPart3
import Derived.Deep.RegionLaw

/-
  What told, slices.Contains (of fields), rightCuts and the functions that they call answer is proved here, for all kinds, fields and cuts.
-/
namespace Go.Proofs.YteckjkblngmenaaDoor
open Go.RowKit
set_option linter.unusedVariables false
set_option maxRecDepth 100000

/-- Fields. -/
abbrev fc (l : List Nat) : List Value := l.map (fun (f : Nat) => .int .i64 f)
def Fs (w : World) (v : Value) (l : List Nat) : Prop := Sl 1 w v l.length (fc l)
theorem Fs.below {w w' : World} {v : Value} {l : List Nat} (h : Fs w v l) (hb : Below w.heap.size w w') : Fs w' v l := Sl.below h hb
theorem Fs.inv {w : World} {v : Value} {l : List Nat} (h : Fs w v l) (hn : 0 < l.length) :
    ∃ b off c, v = .slice (some ⟨b, off, none⟩) l.length c ∧ l.length ≤ c ∧ c ≤ maxLen ∧ b < w.heap.size ∧ ∀ i (hi : i < l.length), w.cell? ⟨b, off + i, none⟩ = some (.int .i64 (l[i] : Nat)) := by
  obtain ⟨b, off, c, h1, h2, h3, h4, h5⟩ := Sl.inv h hn (by decide)
  exact ⟨b, off, c, h1, h2, h3, h4, fun i hi => h5 i _ (by simp [hi])⟩

theorem told_lit (w : World) (l : List Nat) (h : l.length ≤ 9) : Fs (w.alloc (.cells (fc l).toArray 117)) (.slice (some ⟨w.heap.size, 0, none⟩) l.length l.length) l := by
  have := Sl.lit (sz := 1) w 117 (fc l).toArray l.length (by unfold maxLen; omega) (by simp)
  unfold Fs
  simpa using this

theorem told_any (k : Int) (w : World) : Calls Tryd.prog 74 #[.int .i64 k] w fun e w' => ∃ v, e = .returned v ∧ Fs w' v (told k) ∧ Below w.heap.size w w' ∧ ∀ b, v.ownBlock = some b → w.heap.size ≤ b := by
  by_cases hk : told k = []
  · rw [hk]
    have h1 : (k == 1) = false := by simp; rintro rfl; simp [told] at hk
    have h2 : (k == 2) = false := by simp; rintro rfl; simp [told] at hk
    have h3 : (k == 3) = false := by simp; rintro rfl; simp [told] at hk
    have h4 : (k == 4) = false := by simp; rintro rfl; simp [told] at hk
    have h5 : (k == 5) = false := by simp; rintro rfl; simp [told] at hk
    have h6 : (k == 6) = false := by simp; rintro rfl; simp [told] at hk
    clear hk
    go_enter Tryd.func74, Tryd.ntmps74
    go_wp2
    go_ret
    exact ⟨_, rfl, Sl.nil 1 w, Below.refl _ _, fun b hb => by cases hb⟩
  · rcases six hk with rfl | rfl | rfl | rfl | rfl | rfl
    · rw [show told 1 = [1, 2] from rfl]
      have HF := hid (told_lit w [1, 2] (by decide))
      go_enter Tryd.func74, Tryd.ntmps74
      go_wp2
      go_ret
      exact ⟨_, rfl, HF.out, ba _ _, fun b hb => by simp [Value.ownBlock] at hb; omega⟩
    · rw [show told 2 = [0, 1, 2] from rfl]
      have HF := hid (told_lit w [0, 1, 2] (by decide))
      go_enter Tryd.func74, Tryd.ntmps74
      go_wp2
      go_ret
      exact ⟨_, rfl, HF.out, ba _ _, fun b hb => by simp [Value.ownBlock] at hb; omega⟩
    · rw [show told 3 = [3, 4, 5, 6] from rfl]
      have HF := hid (told_lit w [3, 4, 5, 6] (by decide))
      go_enter Tryd.func74, Tryd.ntmps74
      go_wp2
      go_ret
      exact ⟨_, rfl, HF.out, ba _ _, fun b hb => by simp [Value.ownBlock] at hb; omega⟩
    · rw [show told 4 = [7] from rfl]
      have HF := hid (told_lit w [7] (by decide))
      go_enter Tryd.func74, Tryd.ntmps74
      go_wp2
      go_ret
      exact ⟨_, rfl, HF.out, ba _ _, fun b hb => by simp [Value.ownBlock] at hb; omega⟩
    · rw [show told 5 = [3, 4, 5, 1, 2] from rfl]
      have HF := hid (told_lit w [3, 4, 5, 1, 2] (by decide))
      go_enter Tryd.func74, Tryd.ntmps74
      go_wp2
      go_ret
      exact ⟨_, rfl, HF.out, ba _ _, fun b hb => by simp [Value.ownBlock] at hb; omega⟩
    · rw [show told 6 = [0, 8] from rfl]
      have HF := hid (told_lit w [0, 8] (by decide))
      go_enter Tryd.func74, Tryd.ntmps74
      go_wp2
      go_ret
      exact ⟨_, rfl, HF.out, ba _ _, fun b hb => by simp [Value.ownBlock] at hb; omega⟩

theorem index_any (v : Value) (l : List Nat) (f : Nat) (w : World) (h : Fs w v l) (hl : l.length ≤ 9) (hf : f ≤ 8) (hall : ∀ x ∈ l, x ≤ 8) :
    Calls Tryd.prog 97 #[v, .int .i64 f] w fun e w' => ∃ n : Int, e = .returned (.int .i64 n) ∧ (0 ≤ n ↔ f ∈ l) ∧ w = w' := by
  by_cases hz : l.length = 0
  · obtain rfl := List.eq_nil_of_length_eq_zero hz
    obtain ⟨a, c, rfl, _, _⟩ := Sl.form h
    clear h hl hall hz
    go_enter Tryd.func97, Tryd.ntmps97
    go_wp2
    refine wp_loop_rounds 1 ?_
    rw [rounds_succ]
    go_wp2
    go_ret
    exact ⟨_, rfl, by simp, rfl⟩
  · obtain ⟨b, off, c, rfl, _, _, _, hc⟩ := h.inv (by omega)
    obtain ⟨n, hn⟩ : ∃ n, l.length = n := ⟨_, rfl⟩
    have HN := hid hn
    rw [hn] at hl hz ⊢
    have HC := hid hc
    clear hn hc h hall
    go_enter Tryd.func97, Tryd.ntmps97
    go_wp2
    go_loopw [8] (fun i wr => ∃ k : Nat, k ≤ n ∧ i = .int .i64 k ∧ wr = w ∧ ∀ j (hj : j < l.length), j < k → l[j] ≠ f) (fun i _ => n - (intOf i).toNat)
    case atStart => exact ⟨0, Nat.zero_le _, rfl, rfl, fun j _ h => absurd h (Nat.not_lt_zero _)⟩
    case round =>
      obtain ⟨k, hk, rfl, rfl, ht⟩ := hrel
      have HT := hid ht
      clear ht
      by_cases hlt : k < n
      · have hkl : k < l.length := by rw [HN.out]; exact hlt
        have g1 := HC.out k hkl
        obtain ⟨x, hx⟩ : ∃ x, l[k] = x := ⟨_, rfl⟩
        rw [hx] at g1
        have HX := hid hx
        clear hx
        have b1' : (k : Int) < (n : Int) := by omega
        by_cases he : x = f
        · have he' : ((f : Int) == (x : Int)) = true := by simp [he]
          have HE := hid he
          clear he
          go_wp2
          go_ret
          refine ⟨_, rfl, ?_, rfl⟩
          have hkl : k < l.length := by rw [HN.out]; exact hlt
          have hm : l[k] ∈ l := List.getElem_mem hkl
          rw [HX.out, HE.out] at hm
          exact ⟨fun _ => hm, fun _ => by omega⟩
        · have he' : ((f : Int) == (x : Int)) = false := by simp; omega
          have HE := hid he
          clear he
          go_wp2
          go_roundw
          case rel =>
            refine ⟨k + 1, by omega, by go_num, by first | rfl | trivial, fun j hj hjk => ?_⟩
            by_cases e : j = k
            · subst e
              rw [HX.out]; exact HE.out
            · exact HT.out j hj (by omega)
          case measure => simp [intOf]; omega
      · have e1 : k = n := by omega
        clear HC
        go_wp2
        go_ret
        refine ⟨_, rfl, ?_, rfl⟩
        constructor
        · intro h; omega
        · intro hm
          obtain ⟨j, hj, e⟩ := List.getElem_of_mem hm
          exact absurd e (HT.out j hj (by have := HN.out; omega))

theorem contains_any (v : Value) (l : List Nat) (f : Nat) (w : World) (h : Fs w v l) (hl : l.length ≤ 9) (hf : f ≤ 8) (hall : ∀ x ∈ l, x ≤ 8) :
    Calls Tryd.prog 88 #[v, .int .i64 f] w fun e w' => e = .returned (.bool (decide (f ∈ l))) ∧ w = w' := by
  have HI := hid (fun W => index_any v l f W)
  obtain ⟨a, c, rfl, _, _⟩ := Sl.form h
  go_enter Tryd.func88, Tryd.ntmps88
  go_wp2_with fail
  refine (HI.out _ h hl hf hall).mono ?_
  rintro e w1 ⟨n, rfl, hn, rfl⟩
  have HN := hid hn
  clear hn h hl hf hall
  go_wp2
  go_ret
  refine ⟨retb ?_, rfl⟩
  simpa using HN.out


abbrev cutv (c : Ct) : Value := .agg #[.int .i64 c.r, .int .i64 c.n, .int .i64 c.f, .int .i64 c.t]

theorem wrong_any (c : Ct) (w : World) : Calls Tryd.prog 102 #[cutv c] w fun e w' => e = .returned (.bool (!rct c)) ∧ Below w.heap.size w w' := by
  obtain ⟨b, hb⟩ : ∃ b, rct c = b := ⟨_, rfl⟩
  rw [hb]
  have HR := hid hb
  have HB := hid (ba w (.cells #[.int .i64 c.r, .int .i64 c.n, .int .i64 c.f, .int .i64 c.t] 84))
  have hp := heap_alloc_new w (.cells #[.int .i64 c.r, .int .i64 c.n, .int .i64 c.f, .int .i64 c.t] 84)
  have k2 := fun o => ((ba (w.alloc (.cells #[.int .i64 c.r, .int .i64 c.n, .int .i64 c.f, .int .i64 c.t] 84)) o).cell (p := ⟨w.heap.size, 2, none⟩) (by simp)).trans (by rw [cell_of_row _ _ 2 _ _ _ hp]; rfl : _ = some (.int .i64 c.f))
  have k3 := fun o => ((ba (w.alloc (.cells #[.int .i64 c.r, .int .i64 c.n, .int .i64 c.f, .int .i64 c.t] 84)) o).cell (p := ⟨w.heap.size, 3, none⟩) (by simp)).trans (by rw [cell_of_row _ _ 3 _ _ _ hp]; rfl : _ = some (.int .i64 c.t))
  clear hp hb
  cases hro : ro c.r c.n
  all_goals cases h0 : decide (c.f < 0)
  all_goals cases h1 : decide (c.f < c.t)
  all_goals
    have HO := hid hro
    have H0 := hid h0
    have H1 := hid h1
    have h1' : decide (c.t ≤ c.f) = !decide (c.f < c.t) := by rw [Bool.eq_iff_iff]; simp
    rw [h1] at h1'
    go_enter Tryd.func102, Tryd.ntmps102
    go_wp2_with (go_at_call 85; refine (ro_any _ _ _).mono ?_; rintro e w2 ⟨rfl, rfl⟩; rw [hro])
    go_ret
    refine ⟨retb ?_, bt HB.out (ba _ _)⟩
    rw [← HR.out]
    have a1 := HO.out
    have a2 := H0.out
    have a3 := H1.out
    simp at a2 a3
    simp [rct, a1]
    try omega


abbrev wrongv : Value := .func (.func 102) #[] #[]

set_option maxHeartbeats 1000000 in
theorem indexf_any (v : Value) (l : List Ct) (w : World) (h : Cs w v l) :
    Calls Tryd.prog 104 #[v, wrongv] w fun e w' => ∃ n : Int, e = .returned (.int .i64 n) ∧ (0 ≤ n ↔ l.all rct = false) ∧ Below w.heap.size w w' := by
  by_cases hz : l.length = 0
  · obtain rfl := List.eq_nil_of_length_eq_zero hz
    obtain ⟨a, c, rfl, _, _⟩ := h.form
    clear h hz
    go_enter Tryd.func104, Tryd.ntmps104
    go_wp2
    refine wp_loop_rounds 1 ?_
    rw [rounds_succ]
    go_wp2
    go_ret
    exact ⟨_, rfl, by simp, Below.refl _ _⟩
  · obtain ⟨b, off, c, rfl, hlc, hcm, hbl, hc⟩ := h.inv (by omega)
    obtain ⟨n, hn⟩ : ∃ n, l.length = n := ⟨_, rfl⟩
    have HN := hid hn
    rw [hn] at hz hlc ⊢
    unfold maxLen at hcm
    have HC := hid hc
    have HBL := hid hbl
    clear hn hc h hbl
    go_enter Tryd.func104, Tryd.ntmps104
    go_wp2
    go_loopw [8] (fun i wr => ∃ k : Nat, k ≤ n ∧ i = .int .i64 k ∧ Below w.heap.size w wr ∧ ∀ j (hj : j < l.length), j < k → rct l[j] = true) (fun i _ => n - (intOf i).toNat)
    case atStart => exact ⟨0, Nat.zero_le _, rfl, Below.refl _ _, fun j _ h => absurd h (Nat.not_lt_zero _)⟩
    case round =>
      obtain ⟨k, hk, rfl, hbel, ht⟩ := hrel
      have HT := hid ht
      have HBE := hid hbel
      clear ht hbel
      by_cases hlt : k < n
      · have hkl : k < l.length := by rw [HN.out]; exact hlt
        obtain ⟨x, hx⟩ : ∃ x, l[k] = x := ⟨_, rfl⟩
        have g := HC.out k hkl
        rw [hx] at g
        have g0 := (HBE.out.cell (p := ⟨b, off + k * 4, none⟩) HBL.out).trans g.1
        have g1 := (HBE.out.cell (p := ⟨b, off + k * 4 + 1, none⟩) HBL.out).trans g.2.1
        have g2 := (HBE.out.cell (p := ⟨b, off + k * 4 + 2, none⟩) HBL.out).trans g.2.2.1
        have g3 := (HBE.out.cell (p := ⟨b, off + k * 4 + 3, none⟩) HBL.out).trans g.2.2.2
        have HX := hid hx
        clear hx g
        have b1' : (k : Int) < (n : Int) := by omega
        cases he : rct x
        · go_wp2_with fail
          refine (wrong_any x _).mono ?_
          rintro e w1 ⟨rfl, hb1⟩
          have HB1 := hid hb1
          clear hb1
          rw [he]
          have HE := hid he
          clear he
          go_wp2
          go_ret
          refine ⟨_, rfl, ?_, HBE.out.trans (HB1.out.mono HBE.out.size)⟩
          have hm : l[k] ∈ l := List.getElem_mem hkl
          rw [HX.out] at hm
          refine ⟨fun _ => ?_, fun _ => by omega⟩
          rw [List.all_eq_false]
          exact ⟨x, hm, by rw [HE.out]; decide⟩
        · go_wp2_with fail
          refine (wrong_any x _).mono ?_
          rintro e w1 ⟨rfl, hb1⟩
          have HB1 := hid hb1
          clear hb1
          rw [he]
          have HE := hid he
          clear he
          go_wp2
          go_roundw
          case rel =>
            refine ⟨k + 1, by omega, by go_num, HBE.out.trans (HB1.out.mono HBE.out.size), fun j hj hjk => ?_⟩
            by_cases e : j = k
            · subst e
              rw [HX.out]; exact HE.out
            · exact HT.out j hj (by omega)
          case measure => simp [intOf]; omega
      · have e1 : k = n := by omega
        clear HC
        go_wp2
        go_ret
        refine ⟨_, rfl, ?_, HBE.out⟩
        constructor
        · intro h; omega
        · intro hm
          rw [List.all_eq_false] at hm
          obtain ⟨x, hx, hne⟩ := hm
          obtain ⟨j, hj, e⟩ := List.getElem_of_mem hx
          have := HT.out j hj (by have := HN.out; omega)
          rw [e] at this
          exact absurd this hne

theorem containsf_any (v : Value) (l : List Ct) (w : World) (h : Cs w v l) :
    Calls Tryd.prog 103 #[v, wrongv] w fun e w' => e = .returned (.bool (!l.all rct)) ∧ Below w.heap.size w w' := by
  have HI := hid (fun W => indexf_any v l W)
  obtain ⟨a, c, rfl, _, _⟩ := h.form
  go_enter Tryd.func103, Tryd.ntmps103
  go_wp2_with fail
  refine (HI.out _ h).mono ?_
  rintro e w1 ⟨n, rfl, hn, hb⟩
  have HN := hid hn
  have HB := hid hb
  clear hn h hb
  go_wp2
  go_ret
  refine ⟨retb ?_, HB.out⟩
  have := HN.out
  simp only [decide_eq_true_eq, Bool.not_eq_true']
  exact this

theorem cuts_any (v : Value) (l : List Ct) (w : World) (h : Cs w v l) :
    Calls Tryd.prog 101 #[v] w fun e w' => e = .returned (.bool (decide (1 ≤ l.length ∧ l.length ≤ 16) && l.all rct)) ∧ Below w.heap.size w w' := by
  have HI := hid (fun W => containsf_any v l W)
  obtain ⟨a, c, rfl, _, _⟩ := h.form
  obtain ⟨b, hb⟩ : ∃ b, l.all rct = b := ⟨_, rfl⟩
  rw [hb] at HI ⊢
  clear hb
  have HH := hid h
  clear h
  obtain ⟨n, hn⟩ : ∃ n, l.length = n := ⟨_, rfl⟩
  rw [hn] at HI HH ⊢
  clear hn
  by_cases h1 : 1 ≤ n
  · by_cases h2 : n ≤ 16
    · rw [decide_eq_true ⟨h1, h2⟩]
      have h1' : decide ((1 : Int) ≤ n) = true := by simp; omega
      have h2' : decide ((n : Int) ≤ 16) = true := by simp; omega
      go_enter Tryd.func101, Tryd.ntmps101
      go_wp2_with fail
      refine (HI.out _ HH.out).mono ?_
      rintro e w1 ⟨rfl, hb⟩
      have HB := hid hb
      clear hb
      go_wp2
      go_ret
      refine ⟨retb ?_, HB.out⟩
      simp
    · rw [decide_eq_false (fun h => h2 h.2)]
      have h1' : decide ((1 : Int) ≤ n) = true := by simp; omega
      have h2' : decide ((n : Int) ≤ 16) = false := by simp; omega
      go_enter Tryd.func101, Tryd.ntmps101
      go_wp2
      go_ret
      exact ⟨rfl, Below.refl _ _⟩
  · rw [decide_eq_false (fun h => h1 h.1)]
    have h1' : decide ((1 : Int) ≤ n) = false := by simp; omega
    go_enter Tryd.func101, Tryd.ntmps101
    go_wp2
    go_ret
    exact ⟨rfl, Below.refl _ _⟩

end Go.Proofs.YteckjkblngmenaaDoor

/-
  What a reader's method cuts reads is proved here, for every cursor.
-/
namespace Go.Proofs.YteckjkblngmenaaDoor
open Go.RowKit
set_option linter.unusedVariables false
set_option maxRecDepth 100000

theorem info_cut : (Tryd.prog.info? 84).map (fun i => (i.zero, i.size, i.bytes)) = some (some (.agg #[.int .i64 0, .int .i64 0, .int .i64 0, .int .i64 0]), 4, 32) := by kernel_rfl

abbrev z64 : Value := .int .i64 0
/-- A row of cuts while it is filled. -/
def cutrow (l : List Ct) (m : Nat) : List Value := l.flatMap cutc ++ List.replicate (m * 4) z64
theorem cutrow_len (l : List Ct) (m : Nat) : (cutrow l m).length = (l.length + m) * 4 := by
  unfold cutrow
  rw [List.length_append, flat_length cutc 4 (fun _ => rfl), List.length_replicate, Nat.add_mul]
theorem cutrow_at (l : List Ct) (m : Nat) (j : Nat) (hj : j < 4) : (cutrow l (m + 1))[l.length * 4 + j]? = some z64 := by
  unfold cutrow
  rw [List.getElem?_append_right (by rw [flat_length cutc 4 (fun _ => rfl)]; omega), flat_length cutc 4 (fun _ => rfl), List.getElem?_replicate]
  rw [if_pos (by omega)]
theorem cutrow_set (l : List Ct) (m : Nat) (c : Ct) : ((((cutrow l (m + 1)).set (l.length * 4) (.int .i64 c.r)).set (l.length * 4 + 1) (.int .i64 c.n)).set (l.length * 4 + 2) (.int .i64 c.f)).set (l.length * 4 + 3) (.int .i64 c.t) = cutrow (l ++ [c]) m := by
  unfold cutrow
  have e : List.replicate ((m + 1) * 4) z64 = z64 :: z64 :: z64 :: z64 :: List.replicate (m * 4) z64 := by
    rw [show (m + 1) * 4 = m * 4 + 1 + 1 + 1 + 1 by omega]
    rfl
  have hl : (l.flatMap cutc).length = l.length * 4 := flat_length cutc 4 (fun _ => rfl) l
  rw [e, ← hl]
  simp [List.set_append_right, List.flatMap_append, cutc]
theorem made_cut (n : Nat) : (madeCells #[z64, z64, z64, z64] (n * 4)).toList = cutrow [] n := by
  refine List.ext_getElem (by simp [cutrow, madeCells]) fun j h1 h2 => ?_
  simp [madeCells, cutrow]
  rcases (by omega : j % 4 = 0 ∨ j % 4 = 1 ∨ j % 4 = 2 ∨ j % 4 = 3) with e | e | e | e <;> rw [e] <;> rfl
/-- A row that was just made. -/
theorem made_row {w : World} {B n g : Nat} (h : w.ownsRow B 84 4 (.slice (some ⟨g, 0, none⟩) n n) n (cutrow [] n)) : w.heap[g]? = some (.cells (cutrow [] n).toArray 84 (0, 0)) := by
  rcases h.2 with ⟨e, _⟩ | ⟨g', cap, cur, e, _, hg, _, _, hcs, ht⟩
  · cases e
  · simp only [Value.slice.injEq, Option.some.injEq, Addr.mk.injEq, and_true, true_and] at e
    obtain ⟨rfl, rfl⟩ := e
    rw [hg]
    have : cur.toList = cutrow [] n := by rw [← ht, List.take_of_length_le (by rw [Array.length_toList]; omega)]
    rw [← this]
theorem cs_of_row {w : World} {g : Nat} {l : List Ct} (hl : l.length ≤ maxLen) (h : w.heap[g]? = some (.cells (cutrow l 0).toArray 84 (0, 0))) : Cs w (.slice (some ⟨g, 0, none⟩) l.length l.length) l := by
  refine ⟨flat_length cutc 4 (fun _ => rfl) l, some ⟨g, 0, none⟩, l.length, rfl, Nat.le_refl _, hl, (fun e => by cases e), fun j u hu => ⟨g, 0, rfl, ?_⟩⟩
  rw [Nat.zero_add, cell_of_row w g j _ _ _ h]
  simpa [cutrow] using hu

theorem rcuts_len (B : Bnd) (j : Nat) (s : St) : (rcuts B j s).1.length = j := by
  induction j with
  | zero => rfl
  | succ j ih => unfold rcuts; simp [ih]

set_option maxHeartbeats 4000000 in
theorem cuts_r (c : Nat) (s : St) (w : World) (h : Cu w c s) (hv : K.Byt s.1) :
    Calls Tryd.prog 84 #[rdv c] w fun e w' => ∃ v, e = .returned v ∧
      Cs w' v (rcuts Bnd.own (rn 16 s).1.toNat (rn 16 s).2).1 ∧ Cu w' c (rcuts Bnd.own (rn 16 s).1.toNat (rn 16 s).2).2 ∧ Fr (fun k => k = c) w w' ∧ ∀ k, v.ownBlock = some k → w.heap.size ≤ k := by
  have hlt := h.lt
  have HA := hid (ba w (rdo c))
  have HC := hid (h.below HA.out)
  have R1 := hid (heap_alloc_new w (rdo c))
  have N1 := hid (fun W => num_s c s 16 W)
  obtain ⟨p1, hp1⟩ : ∃ p1, rn 16 s = p1 := ⟨_, rfl⟩
  have hb := rn_val (m := 16) hv
  rw [hp1] at N1 hb ⊢
  obtain ⟨n, hn⟩ : ∃ n : Nat, p1.1 = n := ⟨p1.1.toNat, by omega⟩
  have hn16 : n ≤ 16 := by have := hb.2.2 (by decide); omega
  rw [hn] at N1 ⊢
  rw [Int.toNat_natCast]
  obtain ⟨s1, hs1⟩ : ∃ s1, p1.2 = s1 := ⟨_, rfl⟩
  rw [hs1] at N1 ⊢
  obtain ⟨i0, hi, hz0, hz1, hz2⟩ := info_parts info_cut
  have hmk : i0.bytes * n ≤ 281474976710656 := by rw [hz2]; omega
  have hkm : n ≤ maxLen := by unfold maxLen; omega
  clear h hp1 hv hb hn hs1
  go_enter Tryd.func84, Tryd.ntmps84
  go_wp2_with fail
  refine (N1.out _ HC.out).mono ?_
  rintro e w1 ⟨rfl, hc1, hg1⟩
  have H1 := hid (grown_row hg1 R1.out (by omega))
  have HC1 := hid hc1
  have HF1 := hid ((Fr.of_below HA.out).trans (Fr.grown hg1) (fun _ _ h => h))
  have hs1 : w.heap.size < w1.heap.size := (Array.getElem?_eq_some_iff.1 H1.out).1
  clear hc1 hg1
  go_wp2_with (at_make; refine wpList_make_full _ rfl (.tmp 10) (.tmp 10) 55 rfl w1.heap.size 84 i0 _ 4 Tryd.underlying55 hi hz0 hz1 .i64 .i64 _ _ n rfl rfl rfl rfl hmk hkm (Nat.le_refl _) ?_; intro w2 hown hgrow)
  have hrow : w2.heap[w1.heap.size]? = some (.cells (cutrow [] n).toArray 84 (0, 0)) := made_row (by rw [← made_cut]; exact hown)
  have hb2 : Below w1.heap.size w1 w2 := (Below.refl _ w1).grown hgrow (Nat.le_refl _) (by intro k hk; cases hk)
  have HR2 := hid hrow
  have HC2 := hid (HC1.out.below hb2)
  have HF2 := hid (HF1.out.trans (Fr.of_below hb2 : Fr (fun k => k = c) _ _) (fun _ _ h => h))
  have H2 := hid (((Fr.of_below hb2 : Fr (fun k => k = c) _ _)).rows H1.out (by omega))
  clear hown hgrow hrow hb2
  go_wp2
  go_loopw [14] (fun i wr => ∃ k : Nat, k ≤ n ∧ i = .int .i64 k ∧ Cu wr c (rcuts Bnd.own k s1).2 ∧ wr.heap[w1.heap.size]? = some (.cells (cutrow (rcuts Bnd.own k s1).1 (n - k)).toArray 84 (0, 0)) ∧ wr.heap[w.heap.size]? = some (rdo c) ∧ Fr (fun k => k = c) w wr) (fun i _ => n - (intOf i).toNat)
  case atStart => exact ⟨0, Nat.zero_le _, rfl, HC2.out, HR2.out, H2.out, HF2.out⟩
  case round =>
    obtain ⟨k, hk, rfl, hck, hrk, hbk, hfk⟩ := hrel
    clear HR2 HC2 HF2 H2 HC1 HF1 HC N1
    have hlk : (rcuts Bnd.own k s1).1.length = k := rcuts_len _ _ _
    have hnext : rcuts Bnd.own (k + 1) s1 = ((rcuts Bnd.own k s1).1 ++ [(rcut Bnd.own (rcuts Bnd.own k s1).2).1], (rcut Bnd.own (rcuts Bnd.own k s1).2).2) := rfl
    obtain ⟨q, hq⟩ : ∃ q, rcuts Bnd.own k s1 = q := ⟨_, rfl⟩
    rw [hq] at hck hrk hlk hnext
    have HN := hid hnext
    have HQ := hid hq
    have HL := hid hlk
    have HCK := hid hck
    have HRK := hid hrk
    have HBK := hid hbk
    have HFK := hid hfk
    clear hnext hq hlk hck hrk hbk hfk
    by_cases hlt' : k < n
    · have b1' : (k : Int) < (n : Int) := by omega
      have N1 := hid (fun W => name_r c q.2 W)
      have hcut : rcut Bnd.own q.2 = (⟨(rn 15 q.2).1, (rn 1048576 (rn 15 q.2).2).1, (rn 64 (rn 1048576 (rn 15 q.2).2).2).1, (rn 64 (rn 64 (rn 1048576 (rn 15 q.2).2).2).2).1⟩, (rn 64 (rn 64 (rn 1048576 (rn 15 q.2).2).2).2).2) := rfl
      obtain ⟨x1, hx1⟩ : ∃ x, rn 15 q.2 = x := ⟨_, rfl⟩
      rw [hx1] at N1 hcut
      obtain ⟨x2, hx2⟩ : ∃ x, rn 1048576 x1.2 = x := ⟨_, rfl⟩
      rw [hx2] at N1 hcut
      have N2 := hid (fun W => num_s c x2.2 64 W)
      obtain ⟨x3, hx3⟩ : ∃ x, rn 64 x2.2 = x := ⟨_, rfl⟩
      rw [hx3] at N2 hcut
      have N3 := hid (fun W => num_s c x3.2 64 W)
      obtain ⟨x4, hx4⟩ : ∃ x, rn 64 x3.2 = x := ⟨_, rfl⟩
      rw [hx4] at N3 hcut
      have HCT := hid hcut
      have d1 := cell_of_row wr w.heap.size 0 _ _ _ HBK.out
      simp at d1
      have hsz : w1.heap.size < wr.heap.size := (Array.getElem?_eq_some_iff.1 HRK.out).1
      clear hx1 hx2 hx3 hx4 hcut
      go_wp2_with fail
      refine (N1.out _ HCK.out).mono ?_
      rintro e w3 ⟨rfl, hc3, hf3⟩
      have HA3 := hid (ba w3 (ido 52 x1.1 x2.1))
      have HC3 := hid (hc3.below HA3.out)
      have HF3 := hid (hf3.trans (Fr.of_below HA3.out : Fr (fun k => k = c) _ _) (fun _ _ h => h))
      have hs3 := hf3.size
      have H3 := hid (heap_alloc_new w3 (ido 52 x1.1 x2.1))
      have B3 := hid (HF3.out.rows HBK.out (by omega))
      have R3 := hid (HF3.out.rows HRK.out (by omega))
      have d2 := cell_of_row _ w.heap.size 0 _ _ _ B3.out
      simp at d2
      clear hc3 hf3 d1
      go_wp2_with fail
      refine (N2.out _ HC3.out).mono ?_
      rintro e w4 ⟨rfl, hc4, hg4⟩
      have HC4 := hid hc4
      have HF4 := hid (HF3.out.trans (Fr.grown hg4) (fun _ _ h => h))
      have H4 := hid (grown_row hg4 H3.out (by omega))
      have B4 := hid (grown_row hg4 B3.out (by omega))
      have R4 := hid (grown_row hg4 R3.out (by omega))
      have d3 := cell_of_row _ w.heap.size 0 _ _ _ B4.out
      simp at d3
      clear hc4 hg4 d2
      go_wp2_with fail
      refine (N3.out _ HC4.out).mono ?_
      rintro e w5 ⟨rfl, hc5, hg5⟩
      have HC5 := hid hc5
      have HF5 := hid (HF4.out.trans (Fr.grown hg5) (fun _ _ h => h))
      have H5 := hid (grown_row hg5 H4.out (by omega))
      have B5 := hid (grown_row hg5 B4.out (by omega))
      have R5 := hid (grown_row hg5 R4.out (by omega))
      have e0 := cell_of_row w5 w3.heap.size 0 _ _ _ H5.out
      have e1 := cell_of_row w5 w3.heap.size 1 _ _ _ H5.out
      simp at e0 e1
      have hat := fun j (hj : j < 4) => cutrow_at q.1 (n - (k + 1)) j hj
      rw [HL.out, show n - (k + 1) + 1 = n - k by omega] at hat
      have r0 : w5.cell? ⟨w1.heap.size, k * 4, none⟩ = some z64 := by rw [cell_of_row w5 w1.heap.size _ _ _ _ R5.out]; simpa using hat 0 (by decide)
      have r1 : w5.cell? ⟨w1.heap.size, k * 4 + 1, none⟩ = some z64 := by rw [cell_of_row w5 w1.heap.size _ _ _ _ R5.out]; simpa using hat 1 (by decide)
      have r2 : w5.cell? ⟨w1.heap.size, k * 4 + 2, none⟩ = some z64 := by rw [cell_of_row w5 w1.heap.size _ _ _ _ R5.out]; simpa using hat 2 (by decide)
      have r3 : w5.cell? ⟨w1.heap.size, k * 4 + 3, none⟩ = some z64 := by rw [cell_of_row w5 w1.heap.size _ _ _ _ R5.out]; simpa using hat 3 (by decide)
      have f0 := frozen_of_row w5 w1.heap.size (k * 4) _ _ R5.out
      have f1 := frozen_of_row w5 w1.heap.size (k * 4 + 1) _ _ R5.out
      have f2 := frozen_of_row w5 w1.heap.size (k * 4 + 2) _ _ R5.out
      have f3 := frozen_of_row w5 w1.heap.size (k * 4 + 3) _ _ R5.out
      have HAT := hid hat
      clear hc5 hg5 d3 hat
      go_wp2
      go_roundw
      case rel =>
        have K1 := set_row (i := k * 4) R5.out (.int .i64 x1.1)
        have K2 := set_row (i := k * 4 + 1) K1 (.int .i64 x2.1)
        have K3 := set_row (i := k * 4 + 2) K2 (.int .i64 x3.1)
        have K4 := set_row (i := k * 4 + 3) K3 (.int .i64 x4.1)
        have a0 := HAT.out 0 (by decide)
        have a1 := HAT.out 1 (by decide)
        have a2 := HAT.out 2 (by decide)
        have a3 := HAT.out 3 (by decide)
        have nb : ∀ x, z64 ≠ .int .u8 x := fun x => by simp
        have hrow : (((((cutrow q.1 (n - k)).toArray.setIfInBounds (k * 4) (.int .i64 x1.1)).setIfInBounds (k * 4 + 1) (.int .i64 x2.1)).setIfInBounds (k * 4 + 2) (.int .i64 x3.1)).setIfInBounds (k * 4 + 3) (.int .i64 x4.1)) = (cutrow (q.1 ++ [⟨x1.1, x2.1, x3.1, x4.1⟩]) (n - (k + 1))).toArray := by
          have := cutrow_set q.1 (n - (k + 1)) ⟨x1.1, x2.1, x3.1, x4.1⟩
          rw [HL.out, show n - (k + 1) + 1 = n - k by omega] at this
          rw [← this]
          simp
        refine ⟨k + 1, by omega, by go_num, ?_, ?_, ?_, ?_⟩
        · rw [HN.out, HCT.out]
          refine Cur.set_row (Cur.set_row (Cur.set_row (Cur.set_row HC5.out R5.out (by omega) ⟨z64, ?_, nb⟩ _) K1 (by omega) ⟨z64, ?_, nb⟩ _) K2 (by omega) ⟨z64, ?_, nb⟩ _) K3 (by omega) ⟨z64, ?_, nb⟩ _
          · simpa using a0
          · simp [a1]
          · simp [a2]
          · simp [a3]
        · rw [HN.out, HCT.out, ← hrow]
          exact K4
        · rw [heap_setCell_other _ _ _ _ (by simp; omega), heap_setCell_other _ _ _ _ (by simp; omega), heap_setCell_other _ _ _ _ (by simp; omega), heap_setCell_other _ _ _ _ (by simp; omega)]
          exact B5.out
        · exact (((((HFK.out.trans HF5.out (fun _ _ h => h)).set _ _ (.inl (by omega))).set _ _ (.inl (by omega))).set _ _ (.inl (by omega))).set _ _ (.inl (by omega)))
      case measure => simp [intOf]; omega
    · have e1 : k = n := by omega
      subst e1
      go_wp2
      go_ret
      refine ⟨_, rfl, ?_, by rw [HQ.out]; exact HCK.out, HFK.out, fun j hj => by simp [Value.ownBlock] at hj; omega⟩
      rw [HQ.out]
      have := HRK.out
      rw [Nat.sub_self] at this
      have h2 := cs_of_row (by rw [HL.out]; exact hkm) this
      rw [HL.out] at h2
      exact h2

end Go.Proofs.YteckjkblngmenaaDoor

/-
  What a reader's method field reads into an op is proved here, for every cursor, op and field.
-/
namespace Go.Proofs.YteckjkblngmenaaDoor
open Go.RowKit
set_option linter.unusedVariables false
set_option maxRecDepth 100000

/-- An op in a block of its own, its cuts elsewhere. -/
def Oi (B c : Nat) (w : World) (b : Nat) (o : Opn) : Prop := ∃ v, Ob w b o v ∧ Cs w v o.cuts ∧ (0 < o.cuts.length → v.ownBlock ≠ some b ∧ v.ownBlock ≠ some c) ∧ ∀ k, v.ownBlock = some k → B < k
theorem Cs.kept {w w' : World} {v : Value} {l : List Ct} (h : Cs w v l) (hb : 0 < l.length → ∀ k, v.ownBlock = some k → k < w.heap.size → w'.heap[k]? = w.heap[k]?) : Cs w' v l := by
  by_cases hl : 0 < l.length
  · exact Sl.kept h (hb hl)
  · obtain rfl := List.eq_nil_of_length_eq_zero (by omega : l.length = 0)
    obtain ⟨h0, a, c, h1, h2, h3, h4, _⟩ := h
    exact ⟨h0, a, c, h1, h2, h3, h4, fun j u hu => by simp at hu⟩
theorem Cs.fr {S : Nat → Prop} {w w' : World} {v : Value} {l : List Ct} (h : Cs w v l) (hf : Fr S w w') (hb : 0 < l.length → ∀ k, v.ownBlock = some k → ¬ S k) : Cs w' v l :=
  h.kept fun hl k hk hkl => hf.block k hkl (hb hl k hk)
theorem fr_two {b c : Nat} {w w1 w2 : World} (h : Fr (fun k => k = c) w w1) (k : Fr (fun k => k = b) w1 w2) : Fr (fun k => k = b ∨ k = c) w w2 := (h.mono (fun _ e => .inr e)).trans k (fun _ _ e => .inl e)

set_option maxHeartbeats 4000000 in
theorem field_r (f : Nat) (hf : f ≤ 8) (B c b : Nat) (o : Opn) (s : St) (w : World) (hBw : B < w.heap.size) (hO : Oi B c w b o) (h : Cu w c s) (hbc : b ≠ c) (hv : K.Byt s.1) :
    Calls Tryd.prog 75 #[rdv c, .pointer (some ⟨b, 0, none⟩), .int .i64 f] w fun e w' => e = .returned (.tuple #[]) ∧
      Oi B c w' b (rdF Bnd.own f (o, s)).1 ∧ Cu w' c (rdF Bnd.own f (o, s)).2 ∧ Fr (fun k => k = b ∨ k = c) w w' := by
  obtain ⟨v, hob, hcs, hvb, hvB⟩ := hO
  have HVB := hid hvB
  clear hvB
  have hlt := h.lt
  have hbl := hob.lt
  have HA := hid (ba w (rdo c))
  have HC := hid (h.below HA.out)
  have HO := hid (hob.below HA.out)
  have HS := hid (hcs.below HA.out)
  have HV := hid hvb
  have HY := hid hv
  have q0 : (w.alloc (rdo c)).cell? ⟨w.heap.size, 0, none⟩ = some (.pointer (some ⟨c, 0, none⟩)) := cell_of_row _ _ 0 _ _ _ (heap_alloc_new w (rdo c))
  clear h hob hcs hvb hv
  have nb1 : ∀ (n x : Int), (Value.int .i64 n) ≠ .int .u8 x := fun n x => by simp
  have nb2 : ∀ (t : ByteArray) (x : Int), (Value.string t) ≠ .int .u8 x := fun t x => by simp
  have nb3 : ∀ (t : Bool) (x : Int), (Value.bool t) ≠ .int .u8 x := fun t x => by simp
  rcases nine hf with rfl | rfl | rfl | rfl | rfl | rfl | rfl | rfl | rfl
  · have N1 := hid (fun W => name_r c s W)
    have hrd : rdF Bnd.own 0 (o, s) = ({ o with br := (rn 15 s).1, bm := (rn 1048576 (rn 15 s).2).1 }, (rn 1048576 (rn 15 s).2).2) := rfl
    obtain ⟨p1, hp1⟩ : ∃ p, rn 15 s = p := ⟨_, rfl⟩
    rw [hp1] at N1 hrd
    obtain ⟨p2, hp2⟩ : ∃ p, rn 1048576 p1.2 = p := ⟨_, rfl⟩
    rw [hp2] at N1 hrd
    rw [hrd]
    clear hrd hp1 hp2
    go_enter Tryd.func75, Tryd.ntmps75
    go_wp2_with fail
    refine (N1.out _ HC.out).mono ?_
    rintro e w1 ⟨rfl, hc1, hf1⟩
    have HF1 := hid (hf1)
    have HC1 := hid hc1
    have HO1 := hid (HF1.out.rows HO.out (by omega))
    have c4 := Ob.cell (w := w1) HO1.out 4
    have f4 := Ob.frozen (w := w1) HO1.out 4
    have c5 := Ob.cell (w := w1) HO1.out 5
    have f5 := Ob.frozen (w := w1) HO1.out 5
    simp at c4 c5
    clear hc1 hf1 q0
    go_wp2
    go_end0
    have K0 := set_row (i := 4) HO1.out (.int .i64 p1.1)
    have K1 := set_row (i := 5) K0 (.int .i64 p2.1)
    have hFr : Fr (fun k => k = b ∨ k = c) w _ := fr_two ((Fr.of_below HA.out).trans HF1.out (fun _ _ h => h)) ((Fr.of_set w1 b 4 (.int .i64 p1.1)).set 5 (.int .i64 p2.1) (.inr rfl))
    refine ⟨rfl, ⟨v, K1, ?_, HV.out, HVB.out⟩, ?_, hFr⟩
    · refine Cs.fr HS.out (S := fun k => k = b ∨ k = c) ?_ (fun hl k hk hs => ?_)
      · exact fr_two HF1.out ((Fr.of_set w1 b 4 (.int .i64 p1.1)).set 5 (.int .i64 p2.1) (.inr rfl))
      · have := HV.out hl
        rcases hs with rfl | rfl
        · exact this.1 hk
        · exact this.2 hk
    · exact (Cur.set_row (Cur.set_row HC1.out HO1.out hbc ⟨_, rfl, nb1 _⟩ _) K0 hbc ⟨_, rfl, nb1 _⟩ _)
  · have N1 := hid (fun W => name_r c s W)
    have hrd : rdF Bnd.own 1 (o, s) = ({ o with pr := (rn 15 s).1, pm := (rn 1048576 (rn 15 s).2).1 }, (rn 1048576 (rn 15 s).2).2) := rfl
    obtain ⟨p1, hp1⟩ : ∃ p, rn 15 s = p := ⟨_, rfl⟩
    rw [hp1] at N1 hrd
    obtain ⟨p2, hp2⟩ : ∃ p, rn 1048576 p1.2 = p := ⟨_, rfl⟩
    rw [hp2] at N1 hrd
    rw [hrd]
    clear hrd hp1 hp2
    go_enter Tryd.func75, Tryd.ntmps75
    go_wp2_with fail
    refine (N1.out _ HC.out).mono ?_
    rintro e w1 ⟨rfl, hc1, hf1⟩
    have HF1 := hid (hf1)
    have HC1 := hid hc1
    have HO1 := hid (HF1.out.rows HO.out (by omega))
    have c6 := Ob.cell (w := w1) HO1.out 6
    have f6 := Ob.frozen (w := w1) HO1.out 6
    have c7 := Ob.cell (w := w1) HO1.out 7
    have f7 := Ob.frozen (w := w1) HO1.out 7
    simp at c6 c7
    clear hc1 hf1 q0
    go_wp2
    go_end0
    have K0 := set_row (i := 6) HO1.out (.int .i64 p1.1)
    have K1 := set_row (i := 7) K0 (.int .i64 p2.1)
    have hFr : Fr (fun k => k = b ∨ k = c) w _ := fr_two ((Fr.of_below HA.out).trans HF1.out (fun _ _ h => h)) ((Fr.of_set w1 b 6 (.int .i64 p1.1)).set 7 (.int .i64 p2.1) (.inr rfl))
    refine ⟨rfl, ⟨v, K1, ?_, HV.out, HVB.out⟩, ?_, hFr⟩
    · refine Cs.fr HS.out (S := fun k => k = b ∨ k = c) ?_ (fun hl k hk hs => ?_)
      · exact fr_two HF1.out ((Fr.of_set w1 b 6 (.int .i64 p1.1)).set 7 (.int .i64 p2.1) (.inr rfl))
      · have := HV.out hl
        rcases hs with rfl | rfl
        · exact this.1 hk
        · exact this.2 hk
    · exact (Cur.set_row (Cur.set_row HC1.out HO1.out hbc ⟨_, rfl, nb1 _⟩ _) K0 hbc ⟨_, rfl, nb1 _⟩ _)
  · have N1 := hid (fun W => text_s c s 32 W)
    have hrd : rdF Bnd.own 2 (o, s) = ({ o with key := (rt 32 s).1 }, (rt 32 s).2) := rfl
    obtain ⟨p1, hp1⟩ : ∃ p, rt 32 s = p := ⟨_, rfl⟩
    rw [hp1] at N1 hrd
    rw [hrd]
    clear hrd hp1
    go_enter Tryd.func75, Tryd.ntmps75
    go_wp2_with fail
    refine (N1.out _ HC.out).mono ?_
    rintro e w1 ⟨rfl, hc1, hf1⟩
    have HF1 := hid (Fr.grown hf1)
    have HC1 := hid hc1
    have HO1 := hid (HF1.out.rows HO.out (by omega))
    have c8 := Ob.cell (w := w1) HO1.out 8
    have f8 := Ob.frozen (w := w1) HO1.out 8
    simp at c8
    clear hc1 hf1 q0
    go_wp2
    go_end0
    have K0 := set_row (i := 8) HO1.out (.string p1.1)
    have hFr : Fr (fun k => k = b ∨ k = c) w _ := fr_two ((Fr.of_below HA.out).trans HF1.out (fun _ _ h => h)) (Fr.of_set w1 b 8 (.string p1.1))
    refine ⟨rfl, ⟨v, K0, ?_, HV.out, HVB.out⟩, ?_, hFr⟩
    · refine Cs.fr HS.out (S := fun k => k = b ∨ k = c) ?_ (fun hl k hk hs => ?_)
      · exact fr_two HF1.out (Fr.of_set w1 b 8 (.string p1.1))
      · have := HV.out hl
        rcases hs with rfl | rfl
        · exact this.1 hk
        · exact this.2 hk
    · exact (Cur.set_row HC1.out HO1.out hbc ⟨_, rfl, nb2 _⟩ _)
  · have N1 := hid (fun W => name_r c s W)
    have hrd : rdF Bnd.own 3 (o, s) = ({ o with sr := (rn 15 s).1, sm := (rn 1048576 (rn 15 s).2).1 }, (rn 1048576 (rn 15 s).2).2) := rfl
    obtain ⟨p1, hp1⟩ : ∃ p, rn 15 s = p := ⟨_, rfl⟩
    rw [hp1] at N1 hrd
    obtain ⟨p2, hp2⟩ : ∃ p, rn 1048576 p1.2 = p := ⟨_, rfl⟩
    rw [hp2] at N1 hrd
    rw [hrd]
    clear hrd hp1 hp2
    go_enter Tryd.func75, Tryd.ntmps75
    go_wp2_with fail
    refine (N1.out _ HC.out).mono ?_
    rintro e w1 ⟨rfl, hc1, hf1⟩
    have HF1 := hid (hf1)
    have HC1 := hid hc1
    have HO1 := hid (HF1.out.rows HO.out (by omega))
    have c9 := Ob.cell (w := w1) HO1.out 9
    have f9 := Ob.frozen (w := w1) HO1.out 9
    have c10 := Ob.cell (w := w1) HO1.out 10
    have f10 := Ob.frozen (w := w1) HO1.out 10
    simp at c9 c10
    clear hc1 hf1 q0
    go_wp2
    go_end0
    have K0 := set_row (i := 9) HO1.out (.int .i64 p1.1)
    have K1 := set_row (i := 10) K0 (.int .i64 p2.1)
    have hFr : Fr (fun k => k = b ∨ k = c) w _ := fr_two ((Fr.of_below HA.out).trans HF1.out (fun _ _ h => h)) ((Fr.of_set w1 b 9 (.int .i64 p1.1)).set 10 (.int .i64 p2.1) (.inr rfl))
    refine ⟨rfl, ⟨v, K1, ?_, HV.out, HVB.out⟩, ?_, hFr⟩
    · refine Cs.fr HS.out (S := fun k => k = b ∨ k = c) ?_ (fun hl k hk hs => ?_)
      · exact fr_two HF1.out ((Fr.of_set w1 b 9 (.int .i64 p1.1)).set 10 (.int .i64 p2.1) (.inr rfl))
      · have := HV.out hl
        rcases hs with rfl | rfl
        · exact this.1 hk
        · exact this.2 hk
    · exact (Cur.set_row (Cur.set_row HC1.out HO1.out hbc ⟨_, rfl, nb1 _⟩ _) K0 hbc ⟨_, rfl, nb1 _⟩ _)
  · have N1 := hid (fun W => char_r c s W)
    have hrd : rdF Bnd.own 4 (o, s) = ({ o with lr := (rn 15 s).1, lm := (rn 1048576 (rn 15 s).2).1, li := (rn 63 (rn 1048576 (rn 15 s).2).2).1 }, (rn 63 (rn 1048576 (rn 15 s).2).2).2) := rfl
    obtain ⟨p1, hp1⟩ : ∃ p, rn 15 s = p := ⟨_, rfl⟩
    rw [hp1] at N1 hrd
    obtain ⟨p2, hp2⟩ : ∃ p, rn 1048576 p1.2 = p := ⟨_, rfl⟩
    rw [hp2] at N1 hrd
    obtain ⟨p3, hp3⟩ : ∃ p, rn 63 p2.2 = p := ⟨_, rfl⟩
    rw [hp3] at N1 hrd
    rw [hrd]
    clear hrd hp1 hp2 hp3
    go_enter Tryd.func75, Tryd.ntmps75
    go_wp2_with fail
    refine (N1.out _ HC.out).mono ?_
    rintro e w1 ⟨rfl, hc1, hf1⟩
    have HF1 := hid (hf1)
    have HC1 := hid hc1
    have HO1 := hid (HF1.out.rows HO.out (by omega))
    have c11 := Ob.cell (w := w1) HO1.out 11
    have f11 := Ob.frozen (w := w1) HO1.out 11
    have c12 := Ob.cell (w := w1) HO1.out 12
    have f12 := Ob.frozen (w := w1) HO1.out 12
    have c13 := Ob.cell (w := w1) HO1.out 13
    have f13 := Ob.frozen (w := w1) HO1.out 13
    simp at c11 c12 c13
    clear hc1 hf1 q0
    go_wp2
    go_end0
    have K0 := set_row (i := 11) HO1.out (.int .i64 p1.1)
    have K1 := set_row (i := 12) K0 (.int .i64 p2.1)
    have K2 := set_row (i := 13) K1 (.int .i64 p3.1)
    have hFr : Fr (fun k => k = b ∨ k = c) w _ := fr_two ((Fr.of_below HA.out).trans HF1.out (fun _ _ h => h)) (((Fr.of_set w1 b 11 (.int .i64 p1.1)).set 12 (.int .i64 p2.1) (.inr rfl)).set 13 (.int .i64 p3.1) (.inr rfl))
    refine ⟨rfl, ⟨v, K2, ?_, HV.out, HVB.out⟩, ?_, hFr⟩
    · refine Cs.fr HS.out (S := fun k => k = b ∨ k = c) ?_ (fun hl k hk hs => ?_)
      · exact fr_two HF1.out (((Fr.of_set w1 b 11 (.int .i64 p1.1)).set 12 (.int .i64 p2.1) (.inr rfl)).set 13 (.int .i64 p3.1) (.inr rfl))
      · have := HV.out hl
        rcases hs with rfl | rfl
        · exact this.1 hk
        · exact this.2 hk
    · exact (Cur.set_row (Cur.set_row (Cur.set_row HC1.out HO1.out hbc ⟨_, rfl, nb1 _⟩ _) K0 hbc ⟨_, rfl, nb1 _⟩ _) K1 hbc ⟨_, rfl, nb1 _⟩ _)
  · have N1 := hid (fun W => char_r c s W)
    have hrd : rdF Bnd.own 5 (o, s) = ({ o with gr := (rn 15 s).1, gm := (rn 1048576 (rn 15 s).2).1, gi := (rn 63 (rn 1048576 (rn 15 s).2).2).1 }, (rn 63 (rn 1048576 (rn 15 s).2).2).2) := rfl
    obtain ⟨p1, hp1⟩ : ∃ p, rn 15 s = p := ⟨_, rfl⟩
    rw [hp1] at N1 hrd
    obtain ⟨p2, hp2⟩ : ∃ p, rn 1048576 p1.2 = p := ⟨_, rfl⟩
    rw [hp2] at N1 hrd
    obtain ⟨p3, hp3⟩ : ∃ p, rn 63 p2.2 = p := ⟨_, rfl⟩
    rw [hp3] at N1 hrd
    rw [hrd]
    clear hrd hp1 hp2 hp3
    go_enter Tryd.func75, Tryd.ntmps75
    go_wp2_with fail
    refine (N1.out _ HC.out).mono ?_
    rintro e w1 ⟨rfl, hc1, hf1⟩
    have HF1 := hid (hf1)
    have HC1 := hid hc1
    have HO1 := hid (HF1.out.rows HO.out (by omega))
    have c14 := Ob.cell (w := w1) HO1.out 14
    have f14 := Ob.frozen (w := w1) HO1.out 14
    have c15 := Ob.cell (w := w1) HO1.out 15
    have f15 := Ob.frozen (w := w1) HO1.out 15
    have c16 := Ob.cell (w := w1) HO1.out 16
    have f16 := Ob.frozen (w := w1) HO1.out 16
    simp at c14 c15 c16
    clear hc1 hf1 q0
    go_wp2
    go_end0
    have K0 := set_row (i := 14) HO1.out (.int .i64 p1.1)
    have K1 := set_row (i := 15) K0 (.int .i64 p2.1)
    have K2 := set_row (i := 16) K1 (.int .i64 p3.1)
    have hFr : Fr (fun k => k = b ∨ k = c) w _ := fr_two ((Fr.of_below HA.out).trans HF1.out (fun _ _ h => h)) (((Fr.of_set w1 b 14 (.int .i64 p1.1)).set 15 (.int .i64 p2.1) (.inr rfl)).set 16 (.int .i64 p3.1) (.inr rfl))
    refine ⟨rfl, ⟨v, K2, ?_, HV.out, HVB.out⟩, ?_, hFr⟩
    · refine Cs.fr HS.out (S := fun k => k = b ∨ k = c) ?_ (fun hl k hk hs => ?_)
      · exact fr_two HF1.out (((Fr.of_set w1 b 14 (.int .i64 p1.1)).set 15 (.int .i64 p2.1) (.inr rfl)).set 16 (.int .i64 p3.1) (.inr rfl))
      · have := HV.out hl
        rcases hs with rfl | rfl
        · exact this.1 hk
        · exact this.2 hk
    · exact (Cur.set_row (Cur.set_row (Cur.set_row HC1.out HO1.out hbc ⟨_, rfl, nb1 _⟩ _) K0 hbc ⟨_, rfl, nb1 _⟩ _) K1 hbc ⟨_, rfl, nb1 _⟩ _)
  · have N1 := hid (fun W => text_s c s 64 W)
    have hrd : rdF Bnd.own 6 (o, s) = ({ o with text := (rt 64 s).1 }, (rt 64 s).2) := rfl
    obtain ⟨p1, hp1⟩ : ∃ p, rt 64 s = p := ⟨_, rfl⟩
    rw [hp1] at N1 hrd
    rw [hrd]
    clear hrd hp1
    go_enter Tryd.func75, Tryd.ntmps75
    go_wp2_with fail
    refine (N1.out _ HC.out).mono ?_
    rintro e w1 ⟨rfl, hc1, hf1⟩
    have HF1 := hid (Fr.grown hf1)
    have HC1 := hid hc1
    have HO1 := hid (HF1.out.rows HO.out (by omega))
    have c17 := Ob.cell (w := w1) HO1.out 17
    have f17 := Ob.frozen (w := w1) HO1.out 17
    simp at c17
    clear hc1 hf1 q0
    go_wp2
    go_end0
    have K0 := set_row (i := 17) HO1.out (.string p1.1)
    have hFr : Fr (fun k => k = b ∨ k = c) w _ := fr_two ((Fr.of_below HA.out).trans HF1.out (fun _ _ h => h)) (Fr.of_set w1 b 17 (.string p1.1))
    refine ⟨rfl, ⟨v, K0, ?_, HV.out, HVB.out⟩, ?_, hFr⟩
    · refine Cs.fr HS.out (S := fun k => k = b ∨ k = c) ?_ (fun hl k hk hs => ?_)
      · exact fr_two HF1.out (Fr.of_set w1 b 17 (.string p1.1))
      · have := HV.out hl
        rcases hs with rfl | rfl
        · exact this.1 hk
        · exact this.2 hk
    · exact (Cur.set_row HC1.out HO1.out hbc ⟨_, rfl, nb2 _⟩ _)
  · have N1 := hid (fun W => cuts_r c s W)
    have hrd : rdF Bnd.own 7 (o, s) = ({ o with cuts := (rcuts Bnd.own (rn 16 s).1.toNat (rn 16 s).2).1 }, (rcuts Bnd.own (rn 16 s).1.toNat (rn 16 s).2).2) := rfl
    obtain ⟨p1, hp1⟩ : ∃ p, rcuts Bnd.own (rn 16 s).1.toNat (rn 16 s).2 = p := ⟨_, rfl⟩
    rw [hp1] at N1 hrd
    rw [hrd]
    clear hrd hp1
    go_enter Tryd.func75, Tryd.ntmps75
    go_wp2_with fail
    refine (N1.out _ HC.out HY.out).mono ?_
    rintro e w1 ⟨u, rfl, hcu, hc1, hf1, hfr⟩
    obtain ⟨ua, uc, rfl, _, _⟩ := hcu.form
    have HU := hid hcu
    have HFR := hid hfr
    have HF1 := hid hf1
    have HC1 := hid hc1
    have HO1 := hid (HF1.out.rows HO.out (by omega))
    have c18 := Ob.cell (w := w1) HO1.out 18
    have f18 := Ob.frozen (w := w1) HO1.out 18
    simp at c18
    clear hc1 hf1 q0 hcu hfr
    have hvs : ∃ va vc, v = .slice va o.cuts.length vc := by
      obtain ⟨va, vc, e, _⟩ := HS.out.form
      exact ⟨va, vc, e⟩
    obtain ⟨va, vc, rfl⟩ := hvs
    go_wp2
    go_end0
    have K0 := set_row (i := 18) HO1.out (.slice ua p1.1.length uc)
    have hsz : (w.alloc (rdo c)).heap.size = w.heap.size + 1 := by simp
    have hne : ∀ k, Value.ownBlock (.slice ua p1.1.length uc) = some k → k ≠ b ∧ k ≠ c := fun k hk => by
      have := HFR.out k hk
      omega
    refine ⟨rfl, ⟨.slice ua p1.1.length uc, K0, ?_, fun _ => ⟨fun e => (hne b e).1 rfl, fun e => (hne c e).2 rfl⟩, fun k hk => by have := HFR.out k hk; omega⟩, ?_, fr_two ((Fr.of_below HA.out).trans HF1.out (fun _ _ h => h)) (Fr.of_set w1 b 18 _)⟩
    · refine Cs.fr HU.out (Fr.of_set w1 b 18 _) (fun hl k hk hs => ?_)
      exact (hne k hk).1 hs
    · exact Cur.set_row HC1.out HO1.out hbc ⟨_, rfl, fun x => by simp⟩ _
  · have N1 := hid (fun W => num_s c s 1 W)
    have hrd : rdF Bnd.own 8 (o, s) = ({ o with flag := (rn 1 s).1 == 1 }, (rn 1 s).2) := rfl
    obtain ⟨p1, hp1⟩ : ∃ p, rn 1 s = p := ⟨_, rfl⟩
    rw [hp1] at N1 hrd
    rw [hrd]
    clear hrd hp1
    go_enter Tryd.func75, Tryd.ntmps75
    go_wp2_with fail
    refine (N1.out _ HC.out).mono ?_
    rintro e w1 ⟨rfl, hc1, hf1⟩
    have HF1 := hid (Fr.grown hf1)
    have HC1 := hid hc1
    have HO1 := hid (HF1.out.rows HO.out (by omega))
    have c19 := Ob.cell (w := w1) HO1.out 19
    have f19 := Ob.frozen (w := w1) HO1.out 19
    simp at c19
    clear hc1 hf1 q0
    go_wp2
    go_end0
    have K0 := set_row (i := 19) HO1.out (.bool (p1.1 == 1))
    have hFr : Fr (fun k => k = b ∨ k = c) w _ := fr_two ((Fr.of_below HA.out).trans HF1.out (fun _ _ h => h)) (Fr.of_set w1 b 19 (.bool (p1.1 == 1)))
    refine ⟨rfl, ⟨v, K0, ?_, HV.out, HVB.out⟩, ?_, hFr⟩
    · refine Cs.fr HS.out (S := fun k => k = b ∨ k = c) ?_ (fun hl k hk hs => ?_)
      · exact fr_two HF1.out (Fr.of_set w1 b 19 (.bool (p1.1 == 1)))
      · have := HV.out hl
        rcases hs with rfl | rfl
        · exact this.1 hk
        · exact this.2 hk
    · exact (Cur.set_row HC1.out HO1.out hbc ⟨_, rfl, nb3 _⟩ _)

end Go.Proofs.YteckjkblngmenaaDoor

/-
  What an append of bytes to a row of the call's own comes to, as one step of a region whose order is drawn.
-/
namespace Go.Proofs.YteckjkblngmenaaDoor
open Go.RowKit
set_option linter.unusedVariables false
set_option maxRecDepth 100000

/-- An append of bytes, as one step of a region whose order is drawn. -/
theorem step_append_bs {w : World} {ops : Array Oper} {o : Oper} {a : Act} {K : Act → World → Prop} {Q : Exit → Act → World → Prop} {E : Prop} (hgd : o.guard = none) (s x : Operand)
    (ho : o.op = .call { callee := .builtin .append, args := #[s, x], argTypes := #[45, 45] })
    (base : Nat) (v : Value) (n : Nat) (xs : List Int) (hs : a.eval s = v) (hown : w.ownsRow base 5 1 v n (cs xs)) (u : Value) (ys : List Int) (hx : a.eval x = u) (hu : Bs w u ys)
    (hb : n + ys.length ≤ 140737488355328) (hbase : base ≤ w.heap.size)
    (h : ∀ v' w', w'.ownsRow base 5 1 v' (n + ys.length) (cs (xs ++ ys)) → w.grownBy w' v.ownBlock → (v'.ownBlock = v.ownBlock ∨ v'.ownBlock = some w.heap.size) → K (a.put o.dst v') w') :
    if Region.wanted o (yielded ops a.tmps) = true then Oper.wp Tryd.prog o a w K Q else E := by
  have hw : Region.wanted o (yielded ops a.tmps) = true := by simp [Region.wanted, hgd]
  rw [if_pos hw]
  obtain ⟨i0, hi, hz0, hz1, hz2⟩ := info_parts info_u8
  have hf : ∃ A c, u = .slice A ys.length c := by
    obtain ⟨A, c, e, _⟩ := hu
    exact ⟨A, c, e⟩
  obtain ⟨A, c, rfl⟩ := hf
  cases A with
  | none =>
    obtain ⟨rfl, _, rfl⟩ := hu.none_nil
    have hrun := run_append_owned_none (P := Tryd.prog) (w := w) base 45 o.type 5 i0 1 Tryd.underlying45 hi v n (cs xs) hown
    unfold Oper.wp
    simp [execOp, ho, resolve, invoke, builtin, hs, hx, hrun, Result.andThen]
    exact h v w (by simpa using hown) (World.grownBy.rfl' _ _) (Or.inl rfl)
  | some A =>
    obtain ⟨v', w', hr, h2, h3, h4, h5⟩ := run_append_own_at (P := Tryd.prog) w base 45 o.type 5 i0 (.int .u8 0) 1 1 Tryd.underlying45 hi hz0 hz1 hz2 rfl (by decide) v n (cs xs) hown A ys.length c (cs ys) (by simp) (cells_at hu) (ints_oneCell .u8 ys) (by unfold maxLen; omega) (by omega) hbase
    unfold Oper.wp execOp
    simp only [ho, resolve, invoke, builtin, Sem.run_bind, Sem.run_pure, Result.andThen_ok, List.map_toArray, List.map_cons, List.map_nil, hs, hx, hr]
    exact h v' w' (by simpa using h2) h3 h5

end Go.Proofs.YteckjkblngmenaaDoor

/-
  What a writer's methods text, name, char, flag and cuts write is proved here, for all right numbers and texts.
-/
namespace Go.Proofs.YteckjkblngmenaaDoor
open Go.RowKit
set_option linter.unusedVariables false
set_option maxRecDepth 100000

set_option maxHeartbeats 2000000 in
theorem text_w (B b : Nat) (v : Value) (xs : List Int) (s : ByteArray) (w : World) (h : Wr B w b v xs) (hB : B ≤ w.heap.size) (hs : s.size ≤ 1099511627776) (hlen : xs.length ≤ 1099511627776) :
    Calls Tryd.prog 64 #[.pointer (some ⟨b, 0, none⟩), .string s] w fun e w' =>
      e = .returned (.tuple #[]) ∧ ∃ v', Wr B w' b v' (xs ++ M.encText s) ∧ Wx b v v' w w' := by
  have HW := hid h
  obtain ⟨hc, hfz, a, c, rfl, _⟩ := h.cell
  have hlx : xs.length + (M.encText s).length ≤ 140737488355328 := by
    rw [encText_length]
    have := (M.sz_pos s.size).2
    omega
  have HE := hid (encText_byte s (by omega))
  clear h
  go_enter Tryd.func64, Tryd.ntmps64
  go_wp2_with fail
  go_region_law (first
    | (go_simp; go_at_call 78; refine (puttext_bs s _ (by omega)).mono ?_; rintro e w2 ⟨u, rfl, hu, hb2⟩; have HW2 := hid (Wr.below (w := w.drew) (w' := w2) HW.out hb2); have HU := hid hu; have hc2 := HW2.out.cell.1; have HB2 := hid hb2)
    | (refine step_append_bs rfl _ _ rfl B _ _ xs rfl HW2.out.2.1 _ (M.encText s) rfl HU.out hlx (Nat.le_trans hB HB2.out.size) ?_; intro v3 w3 hown3 hg3 hv3; rw [← List.length_append] at hown3; have hp := HW2.out.put hown3 hg3 HE.out hv3; have HP := hid hp; obtain ⟨a3, c3, rfl, _⟩ := own_form hown3; simp only [List.length_append] at HP; have hc3 := hg3.cell HW2.out.cell.1 (Ne.symm (HW2.out.far HW2.out.1 (by decide))); have hfz3 : w3.frozen? ⟨b, 0, none⟩ = false := (World.frozen?_of_block (w := w2) (hg3.block b HW2.out.lt (Ne.symm (HW2.out.far HW2.out.1 (by decide))))).trans HW2.out.cell.2.1))
  all_goals
    go_wp2
    go_end0
    refine ⟨rfl, _, HP.out.1, ?_⟩
    exact Wx.trans (Wx.of_below (((Below.refl _ w).drew).trans HB2.out)) HP.out.2


/-- A list of numbers that was just laid. -/
theorem ints_new (w : World) (ns : List Int) : (w.alloc (.cells (ns.map (Value.int .i64)).toArray 3)).heap[w.heap.size]? = some (.cells (ns.map (Value.int .i64)).toArray 3 (0, 0)) := heap_alloc_new w _
/-- Numbers written off a list that was just laid. -/
theorem numbers_new (B b : Nat) (v : Value) (xs ns : List Int) (w : World) (h : Wr B w b v xs) (hB : B ≤ w.heap.size) (hns : ∀ n ∈ ns, Num49 n) (hlen : xs.length ≤ 1099511627776) (hpos : 0 < ns.length) (h9 : ns.length ≤ 9) :
    Calls Tryd.prog 62 #[.pointer (some ⟨b, 0, none⟩), .slice (some ⟨w.heap.size, 0, none⟩) ns.length ns.length] (w.alloc (.cells (ns.map (Value.int .i64)).toArray 3)) fun e w' =>
      e = .returned (.tuple #[]) ∧ ∃ v', Wr B w' b v' (xs ++ ns.flatMap M.enc) ∧ Wx b v v' w w' :=
  (numbers_any B b v xs ns w.heap.size _ (h.below (ba _ _)) (Nat.le_trans hB (ba w _).size) hns (by omega) hpos (ints_new w ns)).mono fun _ _ ⟨he, v', h1, h2⟩ => ⟨he, v', h1, (Wx.of_below (ba _ _)).trans h2⟩

theorem name_w (B b : Nat) (v : Value) (xs : List Int) (r n : Int) (w : World) (h : Wr B w b v xs) (hB : B ≤ w.heap.size) (h1 : Num49 r) (h2 : Num49 n) (hlen : xs.length ≤ 1099511627776) :
    Calls Tryd.prog 90 #[.pointer (some ⟨b, 0, none⟩), idv r n] w fun e w' =>
      e = .returned (.tuple #[]) ∧ ∃ v', Wr B w' b v' (xs ++ en2 r n) ∧ Wx b v v' w w' := by
  have HX := hid (ba w (ido 52 r n))
  have HC := hid (numbers_new B b v xs [r, n] _ (h.below HX.out) (Nat.le_trans hB HX.out.size) (by intro x hx; simp at hx; rcases hx with rfl | rfl <;> assumption) hlen (by simp) (by simp))
  rw [show (w.alloc (ido 52 r n)).heap.size = w.heap.size + 1 by simp] at HC
  clear h
  go_enter Tryd.func90, Tryd.ntmps90
  go_wp2_with fail
  refine HC.out.mono ?_
  rintro e w1 ⟨rfl, v', hW, hx⟩
  have HW := hid hW
  have HY := hid hx
  clear hW hx
  go_wp2
  go_end0
  refine ⟨rfl, v', ?_, (Wx.of_below HX.out).trans HY.out⟩
  have := HW.out
  simpa [en2] using this

theorem char_w (B b : Nat) (v : Value) (xs : List Int) (r n i : Int) (w : World) (h : Wr B w b v xs) (hB : B ≤ w.heap.size) (h1 : Num49 r) (h2 : Num49 n) (h3 : Num49 i) (hlen : xs.length ≤ 1099511627776) :
    Calls Tryd.prog 91 #[.pointer (some ⟨b, 0, none⟩), .agg #[.int .i64 r, .int .i64 n, .int .i64 i]] w fun e w' =>
      e = .returned (.tuple #[]) ∧ ∃ v', Wr B w' b v' (xs ++ en3 r n i) ∧ Wx b v v' w w' := by
  have HX := hid (ba w (.cells #[.int .i64 r, .int .i64 n, .int .i64 i] 54))
  have HC := hid (numbers_new B b v xs [r, n, i] _ (h.below HX.out) (Nat.le_trans hB HX.out.size) (by intro x hx; simp at hx; rcases hx with rfl | rfl | rfl <;> assumption) hlen (by simp) (by simp))
  rw [show (w.alloc (.cells #[.int .i64 r, .int .i64 n, .int .i64 i] 54)).heap.size = w.heap.size + 1 by simp] at HC
  clear h
  go_enter Tryd.func91, Tryd.ntmps91
  go_wp2_with fail
  refine HC.out.mono ?_
  rintro e w1 ⟨rfl, v', hW, hx⟩
  have HW := hid hW
  have HY := hid hx
  clear hW hx
  go_wp2
  go_end0
  refine ⟨rfl, v', ?_, (Wx.of_below HX.out).trans HY.out⟩
  have := HW.out
  simpa [en3] using this

theorem flag_w (B b : Nat) (v : Value) (xs : List Int) (f : Bool) (w : World) (h : Wr B w b v xs) (hB : B ≤ w.heap.size) (hlen : xs.length ≤ 1099511627776) :
    Calls Tryd.prog 93 #[.pointer (some ⟨b, 0, none⟩), .bool f] w fun e w' =>
      e = .returned (.tuple #[]) ∧ ∃ v', Wr B w' b v' (xs ++ M.enc (if f then 1 else 0)) ∧ Wx b v v' w w' := by
  cases f
  · have HC := hid (numbers_new B b v xs [0] _ h hB (by intro x hx; simp at hx; subst hx; unfold Num49; decide) hlen (by decide) (by decide))
    clear h
    go_enter Tryd.func93, Tryd.ntmps93
    go_wp2_with fail
    refine HC.out.mono ?_
    rintro e w1 ⟨rfl, v', hW, hx⟩
    have HW := hid hW
    have HY := hid hx
    clear hW hx
    go_wp2
    go_end0
    refine ⟨rfl, v', ?_, HY.out⟩
    have := HW.out
    simpa using this
  · have HC := hid (numbers_new B b v xs [1] _ h hB (by intro x hx; simp at hx; subst hx; unfold Num49; decide) hlen (by decide) (by decide))
    clear h
    go_enter Tryd.func93, Tryd.ntmps93
    go_wp2_with fail
    refine HC.out.mono ?_
    rintro e w1 ⟨rfl, v', hW, hx⟩
    have HW := hid hW
    have HY := hid hx
    clear hW hx
    go_wp2
    go_end0
    refine ⟨rfl, v', ?_, HY.out⟩
    have := HW.out
    simpa using this

end Go.Proofs.YteckjkblngmenaaDoor
