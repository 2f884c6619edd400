/-
  Parts of the proof, one behind the other; what each proves stands at its head.
-/
import Derived.WalkKit
import Derived.WalkSpells
import Derived.WalkLawsBesides

/-
  Bytes and cursors in memory: 'Bs w v xs': the slice v reads as the bytes xs; 'Cur T w b xs lost': block b is a cursor (of the struct type T) over xs. Nothing of the program is imported.
-/
namespace Go.Proofs.Ytkaphlpohhaacaa
open Go.RowKit
set_option linter.unusedVariables false
set_option linter.unusedSimpArgs false
set_option maxRecDepth 100000

/-- A fact that the walk shall not take for a rule. -/
theorem hid {p : Prop} (h : p) : Hid p := h

/-- Bytes as cells. -/
abbrev cs (l : List Int) : List Value := l.map (Value.int .u8)

/-- Steps that write nothing that was there, one behind the other. -/
theorem bt {a b c : World} (h : Below a.heap.size a b) (k : Below b.heap.size b c) : Below a.heap.size a c := h.trans (k.mono h.size)
theorem ba (w : World) (o : Obj) : Below w.heap.size w (w.alloc o) := (Below.refl _ _).alloc (Nat.le_refl _) _
theorem bd (w : World) (n : Nat) : Below w.heap.size w (w.drewN n) := below_drewN (Below.refl _ _) n

theorem bg {a b c : World} {k : Nat} (h : Below a.heap.size a b) (hg : b.grownBy c (some k)) (hk : a.heap.size ≤ k) : Below a.heap.size a c :=
  h.grown hg h.size (by intro j hj; simp only [Option.some.injEq] at hj; omega)

/-- The slice v reads as the bytes xs. -/
def Bs (w : World) (v : Value) (xs : List Int) : Prop :=
  ∃ a c, v = .slice a xs.length c ∧ xs.length ≤ c ∧ c ≤ maxLen ∧ (a = none → c = 0) ∧
    (∀ i, i < xs.length → ∃ b off, a = some ⟨b, off, none⟩ ∧ w.cell? ⟨b, off + i, none⟩ = some (.int .u8 (xs.getD i 0))) ∧ ∀ x ∈ xs, 0 ≤ x ∧ x < 256

/-- Cells of numbers are kept. -/
def Keeps (w w' : World) : Prop := ∀ a k x, w.cell? a = some (.int k x) → w'.cell? a = some (.int k x)

theorem Keeps.refl (w : World) : Keeps w w := fun _ _ _ h => h
theorem Keeps.trans {a b c : World} (h : Keeps a b) (k : Keeps b c) : Keeps a c := fun p j x e => k p j x (h p j x e)
theorem Keeps.drewN {a b : World} (h : Keeps a b) (n : Nat) : Keeps a (b.drewN n) := h
theorem Keeps.below {w w' : World} (h : Below w.heap.size w w') : Keeps w w' := fun a k x e => by
  rw [h.cell (World.block_lt_of_cell? _ _ e)]; exact e
theorem Bs.keeps {w w' : World} {v : Value} {xs : List Int} (h : Bs w v xs) (hk : Keeps w w') : Bs w' v xs := by
  obtain ⟨a, c, h1, h2, h3, h4, h5, h6⟩ := h
  refine ⟨a, c, h1, h2, h3, h4, fun i hi => ?_, h6⟩
  obtain ⟨b, off, e1, e2⟩ := h5 i hi
  exact ⟨b, off, e1, hk _ _ _ e2⟩
theorem Bs.below {w w' : World} {v : Value} {xs : List Int} (h : Bs w v xs) (hb : Below w.heap.size w w') : Bs w' v xs := h.keeps (Keeps.below hb)
theorem Bs.drewN {w : World} {v : Value} {xs : List Int} (h : Bs w v xs) (n : Nat) : Bs (w.drewN n) v xs := h
theorem Bs.drew {w : World} {v : Value} {xs : List Int} (h : Bs w v xs) : Bs w.drew v xs := h

theorem Bs.nil (w : World) : Bs w (.slice none 0 0) [] := ⟨none, 0, rfl, Nat.le_refl _, Nat.zero_le _, fun _ => rfl, fun i hi => absurd hi (Nat.not_lt_zero _), fun x hx => by cases hx⟩

/-- Without a byte: whatever the address. -/
theorem Bs.inv_nil {w : World} {v : Value} (h : Bs w v []) : ∃ a c, v = .slice a 0 c ∧ c ≤ maxLen ∧ (a = none → c = 0) := by
  obtain ⟨a, c, h1, _, h3, h4, _⟩ := h
  exact ⟨a, c, h1, h3, h4⟩
/-- With one: an address, and the cells there. -/
theorem Bs.inv {w : World} {v : Value} {xs : List Int} (h : Bs w v xs) (hx : 0 < xs.length) :
    ∃ b off c, v = .slice (some ⟨b, off, none⟩) xs.length c ∧ xs.length ≤ c ∧ c ≤ maxLen ∧ ∀ i, i < xs.length → w.cell? ⟨b, off + i, none⟩ = some (.int .u8 (xs.getD i 0)) := by
  obtain ⟨a, c, h1, h2, h3, _, h5, _⟩ := h
  obtain ⟨b, off, e1, _⟩ := h5 0 hx
  refine ⟨b, off, c, by rw [h1, e1], h2, h3, fun i hi => ?_⟩
  obtain ⟨b', off', e2, e3⟩ := h5 i hi
  rw [e1] at e2
  simp only [Option.some.injEq, Addr.mk.injEq, and_true] at e2
  obtain ⟨rfl, rfl⟩ := e2
  exact e3
theorem Bs.range {w : World} {v : Value} {xs : List Int} (h : Bs w v xs) : ∀ x ∈ xs, 0 ≤ x ∧ x < 256 := by
  obtain ⟨a, c, _, _, _, _, _, h6⟩ := h
  exact h6
theorem Bs.form {w : World} {v : Value} {xs : List Int} (h : Bs w v xs) : ∃ a c, v = .slice a xs.length c := by
  obtain ⟨a, c, e, _⟩ := h
  exact ⟨a, c, e⟩
theorem Bs.len {w : World} {v : Value} {xs : List Int} (h : Bs w v xs) : xs.length ≤ maxLen := by
  obtain ⟨a, c, _, h2, h3, _⟩ := h
  exact Nat.le_trans h2 h3

theorem Bs.of_own {w : World} {base e : Nat} {v : Value} {n : Nat} {xs : List Int} (h : w.ownsRow base e 1 v n (cs xs)) (hr : ∀ x ∈ xs, 0 ≤ x ∧ x < 256) : Bs w v xs := by
  have hl : xs.length = n := by simpa using h.1
  rcases h.2 with ⟨rfl, rfl⟩ | ⟨g, cap, cur, rfl, hb, hg, hnc, hcm, hcs, htake⟩
  · have : xs = [] := List.eq_nil_of_length_eq_zero hl
    subst this
    exact Bs.nil w
  · refine ⟨some ⟨g, 0, none⟩, cap, by rw [hl], by omega, hcm, (fun e => by cases e), fun i hi => ⟨g, 0, rfl, ?_⟩, hr⟩
    have := h.cellAt (g := g) i (by omega)
    rw [Nat.zero_add, this]
    simp [hi]

/-- A row of bytes that came in. -/
theorem Bs.of_row {w : World} {x : Addr} {len cap : Nat} {zs : List Int} (hl : len ≤ cap) (hm : cap ≤ maxLen) (hz : zs.length = cap)
    (hcell : ∀ i, i < zs.length → w.cell? (x.add i) = some (.int .u8 (zs.getD i 0))) (hwz : ∀ n ∈ zs, (Lit.int .u8 n).wf = true) : Bs w (.slice (some x) len cap) (zs.take len) := by
  have hlen : (zs.take len).length = len := by rw [List.length_take]; omega
  refine ⟨some x, cap, by rw [hlen], by omega, hm, (fun e => by cases e), fun i hi => ?_, fun n hn => ?_⟩
  · rw [hlen] at hi
    have h0 := hcell 0 (by omega)
    have hc := hcell i (by omega)
    obtain ⟨b, off, spot⟩ := x
    have hs : spot = none := by simpa [Addr.add] using World.cell?_spot h0
    subst hs
    refine ⟨b, off, rfl, ?_⟩
    rw [Addr.add_lit] at hc
    rw [hc]
    simp [List.getD, hi]
  · have := hwz n (List.mem_of_mem_take hn)
    simp [Lit.wf, IntKind.min, IntKind.max, IntKind.signed, IntKind.bits] at this
    omega

/-- A literal. -/
theorem Bs.lit (w : World) (e : Nat) (xs : List Int) (hl : xs.length ≤ maxLen) (hr : ∀ x ∈ xs, 0 ≤ x ∧ x < 256) :
    Bs (w.alloc (.cells (cs xs).toArray e)) (.slice (some ⟨w.heap.size, 0, none⟩) xs.length xs.length) xs :=
  Bs.of_own (base := w.heap.size) (e := e) (n := xs.length) (by
    have := World.ownsRow_lit (base := w.heap.size) (e := e) (size := 1) w (cs xs).toArray xs.length (Nat.le_refl _) hl (by simp)
    simpa using this) hr

/-- A cut from l on, l at most the length: what the model's slicing leaves. -/
theorem Bs.drop {w : World} {a : Option Addr} {xs : List Int} {n c : Nat} (h : Bs w (.slice a n c) xs) (l : Nat) (hl : l ≤ n) :
    Bs w (.slice (if c = l then a else a.map (·.add l)) (n - l) (c - l)) (xs.drop l) := by
  obtain ⟨a', c', h1, h2, h3, h4, h5, h6⟩ := h
  simp only [Value.slice.injEq] at h1
  obtain ⟨rfl, rfl, rfl⟩ := h1
  refine ⟨_, c - l, by rw [List.length_drop], by rw [List.length_drop]; omega, by omega, ?_, ?_, fun x hx => h6 x (List.mem_of_mem_drop hx)⟩
  · intro e
    split at e
    · have := h4 e; omega
    · simp at e; have := h4 e; omega
  · intro i hi
    rw [List.length_drop] at hi
    obtain ⟨b, off, e1, e2⟩ := h5 (l + i) (by omega)
    have hcl : c ≠ l := by omega
    rw [if_neg hcl, e1]
    refine ⟨b, off + l, ?_, ?_⟩
    · simp [Addr.add]
      try (intro h; simp [h])
    · rw [Nat.add_assoc, e2]; simp [List.getD, List.getElem?_drop]
/-- A cut up to h, h at most the length. -/
theorem Bs.take {w : World} {a : Option Addr} {xs : List Int} {n c : Nat} (h : Bs w (.slice a n c) xs) (l : Nat) (hl : l ≤ n) : Bs w (.slice a l c) (xs.take l) := by
  obtain ⟨a', c', h1, h2, h3, h4, h5, h6⟩ := h
  simp only [Value.slice.injEq] at h1
  obtain ⟨rfl, rfl, rfl⟩ := h1
  have hlen : (xs.take l).length = l := by rw [List.length_take]; omega
  refine ⟨a, c, by rw [hlen], by omega, h3, h4, fun i hi => ?_, fun x hx => h6 x (List.mem_of_mem_take hx)⟩
  obtain ⟨b, off, e1, e2⟩ := h5 i (by omega)
  exact ⟨b, off, e1, by rw [e2]; simp [List.getD, show i < l by omega]⟩

/-- Block b is a cursor over xs. -/
def Cur (T : Nat) (w : World) (b : Nat) (xs : List Int) (lost : Bool) : Prop :=
  ∃ v, w.heap[b]? = some (.cells #[v, .bool lost] T (0, 0)) ∧ Bs w v xs

theorem Cur.lt {T : Nat} {w : World} {b : Nat} {xs : List Int} {lost : Bool} (h : Cur T w b xs lost) : b < w.heap.size := by
  obtain ⟨v, h1, _⟩ := h
  exact (Array.getElem?_eq_some_iff.1 h1).1
theorem Cur.below {T : Nat} {w w' : World} {b : Nat} {xs : List Int} {lost : Bool} (h : Cur T w b xs lost) (hb : Below w.heap.size w w') : Cur T w' b xs lost := by
  have hl := h.lt
  obtain ⟨v, h1, h2⟩ := h
  exact ⟨v, by rw [hb.block b hl]; exact h1, h2.below hb⟩
theorem Cur.drewN {T : Nat} {w : World} {b : Nat} {xs : List Int} {lost : Bool} (h : Cur T w b xs lost) (n : Nat) : Cur T (w.drewN n) b xs lost := h

/-- Whatever is done to a cursor's block alone keeps all bytes. -/
theorem Cur.keeps {T : Nat} {w w' : World} {b : Nat} {xs : List Int} {lost : Bool} (h : Cur T w b xs lost) (hg : w.grownBy w' (some b)) : Keeps w w' := by
  intro a k x e
  obtain ⟨v, h1, a', c', hv, _⟩ := h
  refine hg.cell e ?_
  intro hab
  simp only [Option.some.injEq] at hab
  have : w.cell? ⟨b, a.off, none⟩ = some (.int k x) := by
    have hs := World.cell?_spot e
    cases a
    simp_all
  rw [cell_of_row w b a.off _ T (0, 0) h1, hv] at this
  match hoff : a.off with
  | 0 => rw [hoff] at this; simp at this
  | 1 => rw [hoff] at this; simp at this
  | n + 2 => rw [hoff] at this; simp at this
theorem Cur.other {T U : Nat} {w w' : World} {b b' : Nat} {xs ys : List Int} {lost l' : Bool} (h : Cur T w b xs lost) (h' : Cur U w b' ys l') (hne : b' ≠ b) (hg : w.grownBy w' (some b)) : Cur U w' b' ys l' := by
  have hk := h.keeps hg
  have hl := h'.lt
  obtain ⟨v, h1, h2⟩ := h'
  exact ⟨v, by rw [hg.block b' hl (by simpa using hne)]; exact h1, h2.keeps hk⟩

/-- A store into a cursor's first cell. -/
theorem Cur.set0 {T : Nat} {w : World} {b : Nat} {xs ys : List Int} {lost : Bool} {v : Value} (h : Cur T w b xs lost) (hv : Bs w v ys) :
    Cur T (w.setCell ⟨b, 0, none⟩ v) b ys lost ∧ w.grownBy (w.setCell ⟨b, 0, none⟩ v) (some b) := by
  have hg : w.grownBy (w.setCell ⟨b, 0, none⟩ v) (some b) := ⟨rfl, rfl, rfl, by simp [World.setCell], fun k _ hk => heap_setCell_other w ⟨b, 0, none⟩ k v (fun e => hk (by simp [e]))⟩
  refine ⟨?_, hg⟩
  have hk := h.keeps hg
  obtain ⟨v0, h1, _⟩ := h
  exact ⟨v, by rw [heap_setCell_same w b 0 _ T v h1]; simp, hv.keeps hk⟩
theorem Cur.set1 {T : Nat} {w : World} {b : Nat} {xs : List Int} {lost l' : Bool} (h : Cur T w b xs lost) :
    Cur T (w.setCell ⟨b, 1, none⟩ (.bool l')) b xs l' ∧ w.grownBy (w.setCell ⟨b, 1, none⟩ (.bool l')) (some b) := by
  have hg : w.grownBy (w.setCell ⟨b, 1, none⟩ (.bool l')) (some b) := ⟨rfl, rfl, rfl, by simp [World.setCell], fun k _ hk => heap_setCell_other w ⟨b, 1, none⟩ k _ (fun e => hk (by simp [e]))⟩
  refine ⟨?_, hg⟩
  have hk := h.keeps hg
  obtain ⟨v0, h1, h2⟩ := h
  exact ⟨v0, by rw [heap_setCell_same w b 1 _ T _ h1]; simp, h2.keeps hk⟩
/-- What a walk over a cursor reads and writes. -/
theorem Cur.cells {T : Nat} {w : World} {b : Nat} {xs : List Int} {lost : Bool} (h : Cur T w b xs lost) :
    ∃ a c, Bs w (.slice a xs.length c) xs ∧ w.cell? ⟨b, 0, none⟩ = some (.slice a xs.length c) ∧ w.cell? ⟨b, 1, none⟩ = some (.bool lost) ∧ w.frozen? ⟨b, 0, none⟩ = false ∧ w.frozen? ⟨b, 1, none⟩ = false := by
  obtain ⟨v, h1, h2⟩ := h
  have h3 := h2
  obtain ⟨a, c, rfl, _⟩ := h3
  exact ⟨a, c, h2, by rw [cell_of_row w b 0 _ T _ h1]; rfl, by rw [cell_of_row w b 1 _ T _ h1]; rfl, frozen_of_row w b 0 _ T h1, frozen_of_row w b 1 _ T h1⟩

theorem World.grownBy.trans {a b c : World} {row : Option Nat} (h : a.grownBy b row) (k : b.grownBy c row) : a.grownBy c row :=
  ⟨k.os.trans h.os, k.tape.trans h.tape, k.output.trans h.output, Nat.le_trans h.size k.size, fun i hi hn => (k.block i (Nat.lt_of_lt_of_le hi h.size) hn).trans (h.block i hi hn)⟩
theorem World.grownBy.of_drewN {a b : World} {row : Option Nat} {n : Nat} (h : (a.drewN n).grownBy b row) : a.grownBy b row := ⟨h.os, h.tape, h.output, h.size, h.block⟩
theorem World.grownBy.drewN {a b : World} {row : Option Nat} (h : a.grownBy b row) (n : Nat) : a.grownBy (b.drewN n) row := ⟨h.os, h.tape, h.output, h.size, h.block⟩
theorem World.grownBy.of_below {a b : World} {row : Option Nat} (h : Below a.heap.size a b) : a.grownBy b row :=
  ⟨h.os, h.tape, h.output, h.size, fun i hi _ => h.block i hi⟩

end Go.Proofs.Ytkaphlpohhaacaa

/-
  Runs and items as values: thirteen cells; a text's parts.
-/
namespace Go.Proofs.Ytkaphlpohhaacaa
open Go.RowKit
set_option linter.unusedVariables false
set_option linter.unusedSimpArgs false
set_option maxRecDepth 100000

/-- Some characters: their op's name, the first one's number, how many; left and right; gone, a mark; the text. -/
structure Un where
  r : Int
  n : Int
  f : Int
  l : Int
  a : Int
  b : Int
  c : Int
  d : Int
  e : Int
  h : Int
  g : Bool
  m : Bool
  t : ByteArray
def Un.zero : Un := ⟨0, 0, 0, 0, 0, 0, 0, 0, 0, 0, false, false, ⟨#[]⟩⟩

abbrev unl (x : Un) : Array Value :=
  #[.int .i64 x.r, .int .i64 x.n, .int .i64 x.f, .int .i64 x.l, .int .i64 x.a, .int .i64 x.b, .int .i64 x.c, .int .i64 x.d, .int .i64 x.e, .int .i64 x.h, .bool x.g, .bool x.m, .string x.t]
abbrev unv (x : Un) : Value := .agg (unl x)
abbrev unc (x : Un) : List Value :=
  [.int .i64 x.r, .int .i64 x.n, .int .i64 x.f, .int .i64 x.l, .int .i64 x.a, .int .i64 x.b, .int .i64 x.c, .int .i64 x.d, .int .i64 x.e, .int .i64 x.h, .bool x.g, .bool x.m, .string x.t]
theorem unc_len (x : Un) : (unc x).length = 13 := rfl
theorem unl_one (x : Un) : ∀ u ∈ unc x, u.oneCell' = true := by
  intro u hu
  simp at hu
  rcases hu with rfl | rfl | rfl | rfl | rfl | rfl | rfl | rfl | rfl | rfl | rfl | rfl | rfl <;> rfl
theorem flat_one (xs : List Un) : ∀ u ∈ xs.flatMap unc, u.oneCell' = true := fun u hu => by
  obtain ⟨x, _, h⟩ := List.mem_flatMap.1 hu
  exact unl_one x u h

/-- Parts of a text. -/
theorem ba_ext {s t : ByteArray} (h : s.data.toList = t.data.toList) : s = t := by
  apply ByteArray.ext
  exact Array.toList_inj.1 h
theorem ba_cut (s : ByteArray) (i j : Nat) : (s.extract i j).data.toList = (s.data.toList.drop i).take (j - i) := by
  rw [ByteArray.data_extract]
  simp [Array.toList_extract, List.extract_eq_take_drop]
theorem ba_size (s : ByteArray) : s.size = s.data.toList.length := by rw [Array.length_toList]; rfl
theorem ba_app (s t : ByteArray) : (s ++ t).data.toList = s.data.toList ++ t.data.toList := by
  rw [ByteArray.data_append]; simp
theorem ba_cut_size {s : ByteArray} {i j : Nat} (hj : j ≤ s.size) : (s.extract i j).size = j - i := by
  rw [ba_size, ba_cut, List.length_take, List.length_drop, ← ba_size]; omega
theorem ba_cut_cut (s : ByteArray) {i j k l : Nat} (h : i + l ≤ j) : (s.extract i j).extract k l = s.extract (i + k) (i + l) := by
  apply ba_ext
  rw [ba_cut, ba_cut, ba_cut, List.drop_take, List.drop_drop, List.take_take]
  congr 1
  omega
theorem ba_cut_app (s : ByteArray) {i j k : Nat} (h : i ≤ j) (h2 : j ≤ k) : s.extract i j ++ s.extract j k = s.extract i k := by
  apply ba_ext
  rw [ba_app, ba_cut, ba_cut, ba_cut]
  have e : s.data.toList.drop j = (s.data.toList.drop i).drop (j - i) := by rw [List.drop_drop]; congr 1; omega
  rw [e, show k - i = (j - i) + (k - j) by omega, List.take_add]
theorem ba_whole (s : ByteArray) : s.extract 0 s.size = s := by
  apply ba_ext
  rw [ba_cut, List.drop_zero, Nat.sub_zero, ba_size, List.take_length]
theorem ba_app_l (s t : ByteArray) {i j : Nat} (h : j ≤ s.size) : (s ++ t).extract i j = s.extract i j := by
  apply ba_ext
  rw [ba_cut, ba_cut, ba_app]
  rw [ba_size] at h
  by_cases hi : i ≤ j
  · rw [List.drop_append_of_le_length (by omega), List.take_append_of_le_length (by rw [List.length_drop]; omega)]
  · rw [show j - i = 0 by omega]; simp
theorem ba_app_r (s t : ByteArray) {i j : Nat} : (s ++ t).extract (s.size + i) (s.size + j) = t.extract i j := by
  apply ba_ext
  have e1 : s.data.toList.drop (s.data.toList.length + i) = [] := List.drop_eq_nil_of_le (by omega)
  rw [ba_cut, ba_cut, ba_app, ba_size, List.drop_append, e1, List.nil_append, show s.data.toList.length + j - (s.data.toList.length + i) = j - i by omega, show s.data.toList.length + i - s.data.toList.length = i by omega]
theorem ba_nil {s : ByteArray} (h : s.size = 0) : s = ⟨#[]⟩ := by
  apply ba_ext
  rw [ba_size] at h
  simpa using List.eq_nil_of_length_eq_zero h
theorem ba_nil_app (s : ByteArray) : (⟨#[]⟩ : ByteArray) ++ s = s := by apply ba_ext; rw [ba_app]; simp

end Go.Proofs.Ytkaphlpohhaacaa

/-
  What a call leaves as it was: all blocks that were there but for some.
-/
namespace Go.Proofs.Ytkaphlpohhaacaa
open Go.RowKit
set_option linter.unusedVariables false
set_option linter.unusedSimpArgs false
set_option maxRecDepth 100000

/-- Blocks that were there are as they were, but for some. -/
structure Fr (S : Nat → Prop) (w w' : World) : Prop where
  os : w'.os = w.os
  tape : w'.tape = w.tape
  output : w'.output = w.output
  size : w.heap.size ≤ w'.heap.size
  block : ∀ k, k < w.heap.size → ¬ S k → w'.heap[k]? = w.heap[k]?
theorem Fr.refl (S : Nat → Prop) (w : World) : Fr S w w := ⟨rfl, rfl, rfl, Nat.le_refl _, fun _ _ _ => rfl⟩
theorem Fr.trans {S T : Nat → Prop} {a b c : World} (h : Fr S a b) (k : Fr T b c) (hs : ∀ i, i < a.heap.size → T i → S i) : Fr S a c :=
  ⟨k.os.trans h.os, k.tape.trans h.tape, k.output.trans h.output, Nat.le_trans h.size k.size, fun i hi hn => (k.block i (Nat.lt_of_lt_of_le hi h.size) (fun ht => hn (hs i hi ht))).trans (h.block i hi hn)⟩
theorem Fr.of_below {S : Nat → Prop} {w w' : World} (h : Below w.heap.size w w') : Fr S w w' := ⟨h.os, h.tape, h.output, h.size, fun k hk _ => h.block k hk⟩
theorem Fr.of_grown {S : Nat → Prop} {w w' : World} {row : Option Nat} (h : w.grownBy w' row) (hs : ∀ k, row = some k → S k) : Fr S w w' := ⟨h.os, h.tape, h.output, h.size, fun k hk hn => h.block k hk (fun e => hn (hs k e.symm))⟩
theorem Fr.mono {S T : Nat → Prop} {w w' : World} (h : Fr S w w') (hs : ∀ k, S k → T k) : Fr T w w' := ⟨h.os, h.tape, h.output, h.size, fun k hk hn => h.block k hk (fun e => hn (hs k e))⟩
theorem Fr.of_set (w : World) (b i : Nat) (v : Value) : Fr (fun k => k = b) w (w.setCell ⟨b, i, none⟩ v) :=
  ⟨rfl, rfl, rfl, by simp [World.setCell], fun k _ hn => heap_setCell_other w ⟨b, i, none⟩ k v hn⟩
theorem Fr.drewN {S : Nat → Prop} {a w : World} (h : Fr S a w) (n : Nat) : Fr S a (w.drewN n) := ⟨h.os, h.tape, h.output, h.size, h.block⟩
/-- Where all that changes is new. -/
theorem Fr.below {S : Nat → Prop} {B : Nat} {w w' : World} (h : Fr S w w') (hs : ∀ k, k < B → ¬ S k) (hB : B ≤ w.heap.size) : Below B w w' :=
  ⟨h.os, h.tape, h.output, h.size, fun k hk => h.block k (by omega) (hs k hk)⟩

end Go.Proofs.Ytkaphlpohhaacaa
