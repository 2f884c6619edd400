/-
  What the arguments' readings give: a row of calls ('Zc'), a character's name, a cut.
-/
import Derived.Test.YtkaphlpohhaacaaPart19
import Derived.Deep.SlicePairs
import Derived.ProofKit
import Derived.OpenShut
import Derived.ShutString
import Derived.ChangeOld
import Derived.Below
namespace Go.Proofs.Ytkaphlpohhaacaa
open Go.RowKit Go.ChangeShapes Go.WideShapes Go.ChangeAt
set_option linter.unusedVariables false
set_option linter.unusedSimpArgs false
set_option maxRecDepth 100000

theorem Sl.of_rows {sz : Nat} {W : World} {x : Addr} {len cap : Nat} (hs : 0 < sz) (hl : len ≤ cap) (hm : cap ≤ maxLen) (R : Nat → List Value)
    (h : ∀ i, i < len → (R i).length = sz ∧ ∀ j u, (R i)[j]? = some u → W.cell? (x.add (i * sz + j)) = some u) : Sl sz W (.slice (some x) len cap) len ((List.range len).flatMap R) := by
  have hlen : ∀ n, n ≤ len → ((List.range n).flatMap R).length = n * sz := by
    intro n
    induction n with
    | zero => intro _; simp
    | succ n ih => intro hn; rw [List.range_succ, List.flatMap_append, List.length_append, ih (by omega)]; simp [(h n (by omega)).1, Nat.add_mul]
  have hat : ∀ n, n ≤ len → ∀ j u, ((List.range n).flatMap R)[j]? = some u → W.cell? (x.add j) = some u := by
    intro n
    induction n with
    | zero => intro _ j u hj; simp at hj
    | succ n ih =>
      intro hn j u hj
      rw [List.range_succ, List.flatMap_append] at hj
      by_cases hjl : j < n * sz
      · rw [List.getElem?_append_left (by rw [hlen n (by omega)]; exact hjl)] at hj
        exact ih (by omega) j u hj
      · rw [List.getElem?_append_right (by rw [hlen n (by omega)]; omega), hlen n (by omega)] at hj
        simp at hj
        have := (h n (by omega)).2 _ u hj
        rw [show n * sz + (j - n * sz) = j from by omega] at this
        exact this
  refine ⟨hlen len (Nat.le_refl _), some x, cap, rfl, hl, hm, fun h => (by cases h), fun j u hu => ?_⟩
  have h1 := hat len (Nat.le_refl _) j u hu
  have hpos : 0 < len := by
    rcases Nat.eq_zero_or_pos len with e | e
    · subst e; simp at hu
    · exact e
  obtain ⟨b, off, spot⟩ := x
  have hs0 : spot = none := by
    obtain ⟨h0, h0'⟩ := h 0 hpos
    obtain ⟨u0, hu0⟩ : ∃ u0, (R 0)[0]? = some u0 := ⟨_, List.getElem?_eq_getElem (by omega)⟩
    have := World.cell?_spot (h0' 0 u0 hu0)
    simpa [Addr.add] using this
  subst hs0
  rw [Addr.add_lit] at h1
  exact ⟨b, off, rfl, h1⟩

theorem cells_cutU : Try.prog.cellsOf 38 = 4 := by kernel_rfl
theorem cells_idU : Try.prog.cellsOf 24 = 2 := by kernel_rfl
theorem cells_charU : Try.prog.cellsOf 26 = 3 := by kernel_rfl
theorem cells_intU : Try.prog.cellsOf 3 = 1 := by kernel_rfl
theorem cells_strU : Try.prog.cellsOf 9 = 1 := by kernel_rfl
theorem cells_boolU : Try.prog.cellsOf 4 = 1 := by kernel_rfl
theorem cells_itemU : Try.prog.cellsOf 36 = 13 := by kernel_rfl
theorem cells_callU : Try.prog.cellsOf 40 = 19 := by kernel_rfl
theorem listU_2 {α : Type} {l : List α} (h : l.length = 2) : ∃ v0 v1, l = [v0, v1] := by
  match l, h with
  | [v0, v1], _ => exact ⟨v0, v1, rfl⟩
theorem listU_3 {α : Type} {l : List α} (h : l.length = 3) : ∃ v0 v1 v2, l = [v0, v1, v2] := by
  match l, h with
  | [v0, v1, v2], _ => exact ⟨v0, v1, v2, rfl⟩
theorem listU_4 {α : Type} {l : List α} (h : l.length = 4) : ∃ v0 v1 v2 v3, l = [v0, v1, v2, v3] := by
  match l, h with
  | [v0, v1, v2, v3], _ => exact ⟨v0, v1, v2, v3, rfl⟩
theorem listU_13 {α : Type} {l : List α} (h : l.length = 13) : ∃ v0 v1 v2 v3 v4 v5 v6 v7 v8 v9 v10 v11 v12, l = [v0, v1, v2, v3, v4, v5, v6, v7, v8, v9, v10, v11, v12] := by
  match l, h with
  | [v0, v1, v2, v3, v4, v5, v6, v7, v8, v9, v10, v11, v12], _ => exact ⟨v0, v1, v2, v3, v4, v5, v6, v7, v8, v9, v10, v11, v12, rfl⟩
theorem listU_19 {α : Type} {l : List α} (h : l.length = 19) : ∃ v0 v1 v2 v3 v4 v5 v6 v7 v8 v9 v10 v11 v12 v13 v14 v15 v16 v17 v18, l = [v0, v1, v2, v3, v4, v5, v6, v7, v8, v9, v10, v11, v12, v13, v14, v15, v16, v17, v18] := by
  match l, h with
  | [v0, v1, v2, v3, v4, v5, v6, v7, v8, v9, v10, v11, v12, v13, v14, v15, v16, v17, v18], _ => exact ⟨v0, v1, v2, v3, v4, v5, v6, v7, v8, v9, v10, v11, v12, v13, v14, v15, v16, v17, v18, rfl⟩

section
variable {H : Type} {enc : TypeId × Value → H} {W : World} {held : Bool}
theorem trodU_id {n : Nat} {cs : List Value} {x : DataW H × List MemPlace} (h : DataW.trod enc Try.prog W 0 (fun _ => true) held n 24 cs = some x) : ∃ r m, cs = [.int .i64 r, .int .i64 m] := by
  obtain ⟨xs, k, hk, hxy, hlen, hxl, hfl⟩ := DataW.trod_struct Try.underlying24 h
  rw [cells_idU] at hlen
  obtain ⟨v0, v1, rfl⟩ := listU_2 hlen
  have hsz : xs.length = 2 := hxl
  have hat : ∀ i, i < 2 → ∃ y, xs[i]? = some y := fun i hi => ⟨_, List.getElem?_eq_getElem (by omega)⟩
  obtain ⟨z0, k0⟩ := hat 0 (by decide)
  obtain ⟨z1, k1⟩ := hat 1 (by decide)
  have g0 := (hfl 0 _ rfl).trans k0
  have g1 := (hfl 1 _ rfl).trans k1
  simp [cells_intU] at g0
  simp [cells_intU] at g1
  obtain ⟨a0, e0, _⟩ := DataW.trod_int Try.underlying3 g0
  obtain ⟨a1, e1, _⟩ := DataW.trod_int Try.underlying3 g1
  obtain rfl : v0 = _ := by simpa using e0
  obtain rfl : v1 = _ := by simpa using e1
  exact ⟨a0, a1, rfl⟩
theorem trodU_char {n : Nat} {cs : List Value} {x : DataW H × List MemPlace} (h : DataW.trod enc Try.prog W 0 (fun _ => true) held n 26 cs = some x) : ∃ r m i, cs = [.int .i64 r, .int .i64 m, .int .i64 i] := by
  obtain ⟨xs, k, hk, hxy, hlen, hxl, hfl⟩ := DataW.trod_struct Try.underlying26 h
  rw [cells_charU] at hlen
  obtain ⟨v0, v1, v2, rfl⟩ := listU_3 hlen
  have hsz : xs.length = 2 := hxl
  have hat : ∀ i, i < 2 → ∃ y, xs[i]? = some y := fun i hi => ⟨_, List.getElem?_eq_getElem (by omega)⟩
  obtain ⟨z0, k0⟩ := hat 0 (by decide)
  obtain ⟨z1, k1⟩ := hat 1 (by decide)
  have g0 := (hfl 0 _ rfl).trans k0
  have g1 := (hfl 1 _ rfl).trans k1
  simp [cells_idU] at g0
  simp [cells_intU] at g1
  obtain ⟨a0, a1, e0⟩ := trodU_id g0
  simp at e0
  obtain ⟨rfl, rfl⟩ := e0
  obtain ⟨a2, e2, _⟩ := DataW.trod_int Try.underlying3 g1
  obtain rfl : v2 = _ := by simpa using e2
  exact ⟨a0, a1, a2, rfl⟩
theorem trodU_cut {n : Nat} {cs : List Value} {x : DataW H × List MemPlace} (h : DataW.trod enc Try.prog W 0 (fun _ => true) held n 38 cs = some x) : ∃ r m f t, cs = [.int .i64 r, .int .i64 m, .int .i64 f, .int .i64 t] := by
  obtain ⟨xs, k, hk, hxy, hlen, hxl, hfl⟩ := DataW.trod_struct Try.underlying38 h
  rw [cells_cutU] at hlen
  obtain ⟨v0, v1, v2, v3, rfl⟩ := listU_4 hlen
  have hsz : xs.length = 3 := hxl
  have hat : ∀ i, i < 3 → ∃ y, xs[i]? = some y := fun i hi => ⟨_, List.getElem?_eq_getElem (by omega)⟩
  obtain ⟨z0, k0⟩ := hat 0 (by decide)
  obtain ⟨z1, k1⟩ := hat 1 (by decide)
  obtain ⟨z2, k2⟩ := hat 2 (by decide)
  have g0 := (hfl 0 _ rfl).trans k0
  have g1 := (hfl 1 _ rfl).trans k1
  have g2 := (hfl 2 _ rfl).trans k2
  simp [cells_idU] at g0
  simp [cells_intU] at g1
  simp [cells_intU] at g2
  obtain ⟨a0, a1, e0⟩ := trodU_id g0
  simp at e0
  obtain ⟨rfl, rfl⟩ := e0
  obtain ⟨a2, e2, _⟩ := DataW.trod_int Try.underlying3 g1
  obtain ⟨a3, e3, _⟩ := DataW.trod_int Try.underlying3 g2
  obtain rfl : v2 = _ := by simpa using e2
  obtain rfl : v3 = _ := by simpa using e3
  exact ⟨a0, a1, a2, a3, rfl⟩
theorem trodU_item {n : Nat} {cs : List Value} {x : DataW H × List MemPlace} (h : DataW.trod enc Try.prog W 0 (fun _ => true) held n 36 cs = some x) : ∃ x : Un, cs = unc x := by
  obtain ⟨xs, k, hk, hxy, hlen, hxl, hfl⟩ := DataW.trod_struct Try.underlying36 h
  rw [cells_itemU] at hlen
  obtain ⟨v0, v1, v2, v3, v4, v5, v6, v7, v8, v9, v10, v11, v12, rfl⟩ := listU_13 hlen
  have hsz : xs.length = 8 := hxl
  have hat : ∀ i, i < 8 → ∃ y, xs[i]? = some y := fun i hi => ⟨_, List.getElem?_eq_getElem (by omega)⟩
  obtain ⟨z0, k0⟩ := hat 0 (by decide)
  obtain ⟨z1, k1⟩ := hat 1 (by decide)
  obtain ⟨z2, k2⟩ := hat 2 (by decide)
  obtain ⟨z3, k3⟩ := hat 3 (by decide)
  obtain ⟨z4, k4⟩ := hat 4 (by decide)
  obtain ⟨z5, k5⟩ := hat 5 (by decide)
  obtain ⟨z6, k6⟩ := hat 6 (by decide)
  obtain ⟨z7, k7⟩ := hat 7 (by decide)
  have g0 := (hfl 0 _ rfl).trans k0
  have g1 := (hfl 1 _ rfl).trans k1
  have g2 := (hfl 2 _ rfl).trans k2
  have g3 := (hfl 3 _ rfl).trans k3
  have g4 := (hfl 4 _ rfl).trans k4
  have g5 := (hfl 5 _ rfl).trans k5
  have g6 := (hfl 6 _ rfl).trans k6
  have g7 := (hfl 7 _ rfl).trans k7
  simp [cells_idU] at g0
  simp [cells_intU] at g1
  simp [cells_intU] at g2
  simp [cells_charU] at g3
  simp [cells_charU] at g4
  simp [cells_boolU] at g5
  simp [cells_boolU] at g6
  simp [cells_strU] at g7
  obtain ⟨a0, a1, e0⟩ := trodU_id g0
  simp at e0
  obtain ⟨rfl, rfl⟩ := e0
  obtain ⟨a2, e2, _⟩ := DataW.trod_int Try.underlying3 g1
  obtain ⟨a3, e3, _⟩ := DataW.trod_int Try.underlying3 g2
  obtain ⟨a4, a5, a6, e4⟩ := trodU_char g3
  simp at e4
  obtain ⟨rfl, rfl, rfl⟩ := e4
  obtain ⟨a7, a8, a9, e7⟩ := trodU_char g4
  simp at e7
  obtain ⟨rfl, rfl, rfl⟩ := e7
  obtain ⟨a10, e10, _⟩ := DataW.trod_bool Try.underlying4 g5
  obtain ⟨a11, e11, _⟩ := DataW.trod_bool Try.underlying4 g6
  obtain ⟨a12, e12, _⟩ := DataW.trod_string Try.underlying9 g7
  obtain rfl : v2 = _ := by simpa using e2
  obtain rfl : v3 = _ := by simpa using e3
  obtain rfl : v10 = _ := by simpa using e10
  obtain rfl : v11 = _ := by simpa using e11
  obtain rfl : v12 = _ := by simpa using e12
  exact ⟨⟨a0, a1, a2, a3, a4, a5, a6, a7, a8, a9, a10, a11, a12⟩, rfl⟩
theorem trodU_call {n : Nat} {cs : List Value} {x : DataW H × List MemPlace} (h : DataW.trod enc Try.prog W 0 (fun _ => true) held n 40 cs = some x) : ∃ q : Zq, cs = zqc q := by
  obtain ⟨xs, k, hk, hxy, hlen, hxl, hfl⟩ := DataW.trod_struct Try.underlying40 h
  rw [cells_callU] at hlen
  obtain ⟨v0, v1, v2, v3, v4, v5, v6, v7, v8, v9, v10, v11, v12, v13, v14, v15, v16, v17, v18, rfl⟩ := listU_19 hlen
  have hsz : xs.length = 4 := hxl
  have hat : ∀ i, i < 4 → ∃ y, xs[i]? = some y := fun i hi => ⟨_, List.getElem?_eq_getElem (by omega)⟩
  obtain ⟨z0, k0⟩ := hat 0 (by decide)
  obtain ⟨z1, k1⟩ := hat 1 (by decide)
  obtain ⟨z2, k2⟩ := hat 2 (by decide)
  obtain ⟨z3, k3⟩ := hat 3 (by decide)
  have g0 := (hfl 0 _ rfl).trans k0
  have g1 := (hfl 1 _ rfl).trans k1
  have g2 := (hfl 2 _ rfl).trans k2
  have g3 := (hfl 3 _ rfl).trans k3
  simp [cells_intU] at g0
  simp [cells_intU] at g1
  simp [cells_itemU] at g2
  simp [cells_cutU] at g3
  obtain ⟨a0, e0, _⟩ := DataW.trod_int Try.underlying3 g0
  obtain ⟨a1, e1, _⟩ := DataW.trod_int Try.underlying3 g1
  obtain ⟨a2, e2⟩ := trodU_item g2
  simp at e2
  obtain ⟨rfl, rfl, rfl, rfl, rfl, rfl, rfl, rfl, rfl, rfl, rfl, rfl, rfl⟩ := e2
  obtain ⟨a15, a16, a17, a18, e15⟩ := trodU_cut g3
  simp at e15
  obtain ⟨rfl, rfl, rfl, rfl⟩ := e15
  obtain rfl : v0 = _ := by simpa using e0
  obtain rfl : v1 = _ := by simpa using e1
  exact ⟨⟨a0, a1, a2, a15, a16, a17, a18⟩, rfl⟩
theorem open_charU {b0 : Nat} {v : Value} {d : DataW H} {p : List MemPlace} (hv : Value.okWide Try.prog W .any b0 26 v) (h : DataW.Trod enc Try.prog W 0 (fun _ => true) held 26 v d p) : ∃ r n i, v = chu r n i := by
  obtain ⟨cs, rfl, hsz⟩ := okWide_struct Try.underlying26 hv
  obtain ⟨fuel, hf⟩ := h
  obtain ⟨r, n, i, e⟩ := trodU_char hf
  obtain ⟨l⟩ := cs
  have e' : l = [.int .i64 r, .int .i64 n, .int .i64 i] := by simpa [Value.cells] using e
  exact ⟨r, n, i, by rw [e']⟩
theorem Zc.open {a : Option Addr} {len cap : Nat} {d : DataW H} {p : List MemPlace}
    (h : DataW.Trod enc Try.prog W 0 (fun _ => true) held 22 (.slice a len cap) d p) : ∃ qs, Zc W (.slice a len cap) qs := by
  obtain ⟨fuel, hf⟩ := h
  rcases Go.Deep.open_slice Try.underlying22 hf with ⟨hcs, _⟩ | ⟨x, l, c, m, n, D, Pl, hcs, _, hl, hm, hmm, _, hx⟩
  · simp [Value.cells] at hcs
    obtain ⟨rfl, rfl, rfl⟩ := hcs
    exact ⟨[], Zc.nil W⟩
  · simp [Value.cells] at hcs
    obtain ⟨rfl, rfl, rfl⟩ := hcs
    simp at hmm
    subst hmm
    rw [cells_callU] at hx
    have each : ∀ i, i < len → ∃ q : Zq, W.cells? 0 (x.add (i * 19)) 19 = some (zqc q) := fun i hi => by
      obtain ⟨cs', h1, h2⟩ := hx i (by omega)
      obtain ⟨q, rfl⟩ := trodU_call h2
      exact ⟨q, h1⟩
    have hinh : Inhabited Zq := ⟨⟨0, 0, Un.zero, 0, 0, 0, 0⟩⟩
    obtain ⟨q, hq⟩ := Go.Deep.choose_lt each
    refine ⟨(List.range len).map q, ?_⟩
    have := Sl.of_rows (sz := 19) (W := W) (x := x) (by decide) hl hm (fun i => zqc (q i)) (fun i hi => ⟨rfl, fun j u hu => by
      obtain ⟨_, _, hcell⟩ := World.cells?_some (hq i hi)
      have hj : j < 19 := (List.getElem?_eq_some_iff.1 hu).1
      have := hcell j hj
      rw [Go.Deep.add_add] at this
      rw [this, hu]⟩)
    unfold Zc
    rw [List.length_map, List.length_range, List.flatMap_map]
    exact this
end

end Go.Proofs.Ytkaphlpohhaacaa
