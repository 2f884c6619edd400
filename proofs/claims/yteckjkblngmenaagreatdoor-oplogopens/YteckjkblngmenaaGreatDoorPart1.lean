/-
  Parts of the proof, one behind the other; what each proves stands at its head.
-/
import Derived.WalkKit
import Derived.WalkSpells
import Derived.WalkLawsBesides
import Derived.Test.YteckjkblngmenaaGreatDoorRows
import Derived.Maps.AppendAt
import Derived.Laws.AppendOwnNone
import Derived.Lib.Strings
import Derived.Laws.BytesString

/-
  Bytes and cursors in memory: 'Bs w v xs': the slice v reads as the bytes xs; 'Cur T w b xs lost': block b is a cursor (of the struct type T) over xs. Nothing of the program is imported.
-/
namespace Go.Proofs.YteckjkblngmenaaGreatDoor
open Go.RowKit
set_option linter.unusedVariables false
set_option maxRecDepth 100000

/-- A fact that the walk shall not take for a rule. -/
theorem hid {p : Prop} (h : p) : Hid p := h

/-- Bytes as cells. -/
abbrev cs (l : List Int) : List Value := l.map (Value.int .u8)

/-- Steps that write nothing that was there, one behind the other. -/
theorem bt {a b c : World} (h : Below a.heap.size a b) (k : Below b.heap.size b c) : Below a.heap.size a c := h.trans (k.mono h.size)
theorem ba (w : World) (o : Obj) : Below w.heap.size w (w.alloc o) := (Below.refl _ _).alloc (Nat.le_refl _) _
theorem bd (w : World) (n : Nat) : Below w.heap.size w (w.drewN n) := below_drewN (Below.refl _ _) n

theorem bg {a b c : World} {k : Nat} (h : Below a.heap.size a b) (hg : b.grownBy c (some k)) (hk : a.heap.size ≤ k) : Below a.heap.size a c :=
  h.grown hg h.size (by intro j hj; simp only [Option.some.injEq] at hj; omega)

/-- The slice v reads as the bytes xs. -/
def Bs (w : World) (v : Value) (xs : List Int) : Prop :=
  ∃ a c, v = .slice a xs.length c ∧ xs.length ≤ c ∧ c ≤ maxLen ∧ (a = none → c = 0) ∧
    (∀ i, i < xs.length → ∃ b off, a = some ⟨b, off, none⟩ ∧ w.cell? ⟨b, off + i, none⟩ = some (.int .u8 (xs.getD i 0))) ∧ ∀ x ∈ xs, 0 ≤ x ∧ x < 256

/-- Cells of numbers are kept. -/
def Keeps (w w' : World) : Prop := ∀ a k x, w.cell? a = some (.int k x) → w'.cell? a = some (.int k x)

theorem Keeps.below {w w' : World} (h : Below w.heap.size w w') : Keeps w w' := fun a k x e => by
  rw [h.cell (World.block_lt_of_cell? _ _ e)]; exact e
theorem Bs.keeps {w w' : World} {v : Value} {xs : List Int} (h : Bs w v xs) (hk : Keeps w w') : Bs w' v xs := by
  obtain ⟨a, c, h1, h2, h3, h4, h5, h6⟩ := h
  refine ⟨a, c, h1, h2, h3, h4, fun i hi => ?_, h6⟩
  obtain ⟨b, off, e1, e2⟩ := h5 i hi
  exact ⟨b, off, e1, hk _ _ _ e2⟩
theorem Bs.below {w w' : World} {v : Value} {xs : List Int} (h : Bs w v xs) (hb : Below w.heap.size w w') : Bs w' v xs := h.keeps (Keeps.below hb)
theorem Bs.drewN {w : World} {v : Value} {xs : List Int} (h : Bs w v xs) (n : Nat) : Bs (w.drewN n) v xs := h
theorem Bs.nil (w : World) : Bs w (.slice none 0 0) [] := ⟨none, 0, rfl, Nat.le_refl _, Nat.zero_le _, fun _ => rfl, fun i hi => absurd hi (Nat.not_lt_zero _), fun x hx => by cases hx⟩

/-- Without a byte: whatever the address. -/
theorem Bs.inv_nil {w : World} {v : Value} (h : Bs w v []) : ∃ a c, v = .slice a 0 c ∧ c ≤ maxLen ∧ (a = none → c = 0) := by
  obtain ⟨a, c, h1, _, h3, h4, _⟩ := h
  exact ⟨a, c, h1, h3, h4⟩
/-- With one: an address, and the cells there. -/
theorem Bs.inv {w : World} {v : Value} {xs : List Int} (h : Bs w v xs) (hx : 0 < xs.length) :
    ∃ b off c, v = .slice (some ⟨b, off, none⟩) xs.length c ∧ xs.length ≤ c ∧ c ≤ maxLen ∧ ∀ i, i < xs.length → w.cell? ⟨b, off + i, none⟩ = some (.int .u8 (xs.getD i 0)) := by
  obtain ⟨a, c, h1, h2, h3, _, h5, _⟩ := h
  obtain ⟨b, off, e1, _⟩ := h5 0 hx
  refine ⟨b, off, c, by rw [h1, e1], h2, h3, fun i hi => ?_⟩
  obtain ⟨b', off', e2, e3⟩ := h5 i hi
  rw [e1] at e2
  simp only [Option.some.injEq, Addr.mk.injEq, and_true] at e2
  obtain ⟨rfl, rfl⟩ := e2
  exact e3
theorem Bs.range {w : World} {v : Value} {xs : List Int} (h : Bs w v xs) : ∀ x ∈ xs, 0 ≤ x ∧ x < 256 := by
  obtain ⟨a, c, _, _, _, _, _, h6⟩ := h
  exact h6
theorem Bs.form {w : World} {v : Value} {xs : List Int} (h : Bs w v xs) : ∃ a c, v = .slice a xs.length c := by
  obtain ⟨a, c, e, _⟩ := h
  exact ⟨a, c, e⟩
theorem Bs.len {w : World} {v : Value} {xs : List Int} (h : Bs w v xs) : xs.length ≤ maxLen := by
  obtain ⟨a, c, _, h2, h3, _⟩ := h
  exact Nat.le_trans h2 h3

theorem Bs.of_own {w : World} {base e : Nat} {v : Value} {n : Nat} {xs : List Int} (h : w.ownsRow base e 1 v n (cs xs)) (hr : ∀ x ∈ xs, 0 ≤ x ∧ x < 256) : Bs w v xs := by
  have hl : xs.length = n := by simpa using h.1
  rcases h.2 with ⟨rfl, rfl⟩ | ⟨g, cap, cur, rfl, hb, hg, hnc, hcm, hcs, htake⟩
  · have : xs = [] := List.eq_nil_of_length_eq_zero hl
    subst this
    exact Bs.nil w
  · refine ⟨some ⟨g, 0, none⟩, cap, by rw [hl], by omega, hcm, (fun e => by cases e), fun i hi => ⟨g, 0, rfl, ?_⟩, hr⟩
    have := h.cellAt (g := g) i (by omega)
    rw [Nat.zero_add, this]
    simp [hi]

/-- A row of bytes that came in. -/
theorem Bs.of_row {w : World} {x : Addr} {len cap : Nat} {zs : List Int} (hl : len ≤ cap) (hm : cap ≤ maxLen) (hz : zs.length = cap)
    (hcell : ∀ i, i < zs.length → w.cell? (x.add i) = some (.int .u8 (zs.getD i 0))) (hwz : ∀ n ∈ zs, (Lit.int .u8 n).wf = true) : Bs w (.slice (some x) len cap) (zs.take len) := by
  have hlen : (zs.take len).length = len := by rw [List.length_take]; omega
  refine ⟨some x, cap, by rw [hlen], by omega, hm, (fun e => by cases e), fun i hi => ?_, fun n hn => ?_⟩
  · rw [hlen] at hi
    have h0 := hcell 0 (by omega)
    have hc := hcell i (by omega)
    obtain ⟨b, off, spot⟩ := x
    have hs : spot = none := by simpa [Addr.add] using World.cell?_spot h0
    subst hs
    refine ⟨b, off, rfl, ?_⟩
    rw [Addr.add_lit] at hc
    rw [hc]
    simp [List.getD, hi]
  · have := hwz n (List.mem_of_mem_take hn)
    simp [Lit.wf, IntKind.min, IntKind.max, IntKind.signed, IntKind.bits] at this
    omega

/-- A cut from l on, l at most the length: what the model's slicing leaves. -/
theorem Bs.drop {w : World} {a : Option Addr} {xs : List Int} {n c : Nat} (h : Bs w (.slice a n c) xs) (l : Nat) (hl : l ≤ n) :
    Bs w (.slice (if c = l then a else a.map (·.add l)) (n - l) (c - l)) (xs.drop l) := by
  obtain ⟨a', c', h1, h2, h3, h4, h5, h6⟩ := h
  simp only [Value.slice.injEq] at h1
  obtain ⟨rfl, rfl, rfl⟩ := h1
  refine ⟨_, c - l, by rw [List.length_drop], by rw [List.length_drop]; omega, by omega, ?_, ?_, fun x hx => h6 x (List.mem_of_mem_drop hx)⟩
  · intro e
    split at e
    · have := h4 e; omega
    · simp at e; have := h4 e; omega
  · intro i hi
    rw [List.length_drop] at hi
    obtain ⟨b, off, e1, e2⟩ := h5 (l + i) (by omega)
    have hcl : c ≠ l := by omega
    rw [if_neg hcl, e1]
    refine ⟨b, off + l, ?_, ?_⟩
    · simp [Addr.add]
      try (intro h; simp [h])
    · rw [Nat.add_assoc, e2]; simp [List.getD, List.getElem?_drop]
/-- A cut up to h, h at most the length. -/
theorem Bs.take {w : World} {a : Option Addr} {xs : List Int} {n c : Nat} (h : Bs w (.slice a n c) xs) (l : Nat) (hl : l ≤ n) : Bs w (.slice a l c) (xs.take l) := by
  obtain ⟨a', c', h1, h2, h3, h4, h5, h6⟩ := h
  simp only [Value.slice.injEq] at h1
  obtain ⟨rfl, rfl, rfl⟩ := h1
  have hlen : (xs.take l).length = l := by rw [List.length_take]; omega
  refine ⟨a, c, by rw [hlen], by omega, h3, h4, fun i hi => ?_, fun x hx => h6 x (List.mem_of_mem_take hx)⟩
  obtain ⟨b, off, e1, e2⟩ := h5 i (by omega)
  exact ⟨b, off, e1, by rw [e2]; simp [List.getD, show i < l by omega]⟩

/-- Block b is a cursor over xs. -/
def Cur (T : Nat) (w : World) (b : Nat) (xs : List Int) (lost : Bool) : Prop :=
  ∃ v, w.heap[b]? = some (.cells #[v, .bool lost] T (0, 0)) ∧ Bs w v xs

theorem Cur.lt {T : Nat} {w : World} {b : Nat} {xs : List Int} {lost : Bool} (h : Cur T w b xs lost) : b < w.heap.size := by
  obtain ⟨v, h1, _⟩ := h
  exact (Array.getElem?_eq_some_iff.1 h1).1
theorem Cur.below {T : Nat} {w w' : World} {b : Nat} {xs : List Int} {lost : Bool} (h : Cur T w b xs lost) (hb : Below w.heap.size w w') : Cur T w' b xs lost := by
  have hl := h.lt
  obtain ⟨v, h1, h2⟩ := h
  exact ⟨v, by rw [hb.block b hl]; exact h1, h2.below hb⟩
theorem Cur.drewN {T : Nat} {w : World} {b : Nat} {xs : List Int} {lost : Bool} (h : Cur T w b xs lost) (n : Nat) : Cur T (w.drewN n) b xs lost := h

/-- Whatever is done to a cursor's block alone keeps all bytes. -/
theorem Cur.keeps {T : Nat} {w w' : World} {b : Nat} {xs : List Int} {lost : Bool} (h : Cur T w b xs lost) (hg : w.grownBy w' (some b)) : Keeps w w' := by
  intro a k x e
  obtain ⟨v, h1, a', c', hv, _⟩ := h
  refine hg.cell e ?_
  intro hab
  simp only [Option.some.injEq] at hab
  have : w.cell? ⟨b, a.off, none⟩ = some (.int k x) := by
    have hs := World.cell?_spot e
    cases a
    simp_all
  rw [cell_of_row w b a.off _ T (0, 0) h1, hv] at this
  match hoff : a.off with
  | 0 => rw [hoff] at this; simp at this
  | 1 => rw [hoff] at this; simp at this
  | n + 2 => rw [hoff] at this; simp at this
/-- A store into a cursor's first cell. -/
theorem Cur.set0 {T : Nat} {w : World} {b : Nat} {xs ys : List Int} {lost : Bool} {v : Value} (h : Cur T w b xs lost) (hv : Bs w v ys) :
    Cur T (w.setCell ⟨b, 0, none⟩ v) b ys lost ∧ w.grownBy (w.setCell ⟨b, 0, none⟩ v) (some b) := by
  have hg : w.grownBy (w.setCell ⟨b, 0, none⟩ v) (some b) := ⟨rfl, rfl, rfl, by simp [World.setCell], fun k _ hk => heap_setCell_other w ⟨b, 0, none⟩ k v (fun e => hk (by simp [e]))⟩
  refine ⟨?_, hg⟩
  have hk := h.keeps hg
  obtain ⟨v0, h1, _⟩ := h
  exact ⟨v, by rw [heap_setCell_same w b 0 _ T v h1]; simp, hv.keeps hk⟩
theorem Cur.set1 {T : Nat} {w : World} {b : Nat} {xs : List Int} {lost l' : Bool} (h : Cur T w b xs lost) :
    Cur T (w.setCell ⟨b, 1, none⟩ (.bool l')) b xs l' ∧ w.grownBy (w.setCell ⟨b, 1, none⟩ (.bool l')) (some b) := by
  have hg : w.grownBy (w.setCell ⟨b, 1, none⟩ (.bool l')) (some b) := ⟨rfl, rfl, rfl, by simp [World.setCell], fun k _ hk => heap_setCell_other w ⟨b, 1, none⟩ k _ (fun e => hk (by simp [e]))⟩
  refine ⟨?_, hg⟩
  have hk := h.keeps hg
  obtain ⟨v0, h1, h2⟩ := h
  exact ⟨v0, by rw [heap_setCell_same w b 1 _ T _ h1]; simp, h2.keeps hk⟩
/-- What a walk over a cursor reads and writes. -/
theorem Cur.cells {T : Nat} {w : World} {b : Nat} {xs : List Int} {lost : Bool} (h : Cur T w b xs lost) :
    ∃ a c, Bs w (.slice a xs.length c) xs ∧ w.cell? ⟨b, 0, none⟩ = some (.slice a xs.length c) ∧ w.cell? ⟨b, 1, none⟩ = some (.bool lost) ∧ w.frozen? ⟨b, 0, none⟩ = false ∧ w.frozen? ⟨b, 1, none⟩ = false := by
  obtain ⟨v, h1, h2⟩ := h
  have h3 := h2
  obtain ⟨a, c, rfl, _⟩ := h3
  exact ⟨a, c, h2, by rw [cell_of_row w b 0 _ T _ h1]; rfl, by rw [cell_of_row w b 1 _ T _ h1]; rfl, frozen_of_row w b 0 _ T h1, frozen_of_row w b 1 _ T h1⟩

theorem World.grownBy.trans {a b c : World} {row : Option Nat} (h : a.grownBy b row) (k : b.grownBy c row) : a.grownBy c row :=
  ⟨k.os.trans h.os, k.tape.trans h.tape, k.output.trans h.output, Nat.le_trans h.size k.size, fun i hi hn => (k.block i (Nat.lt_of_lt_of_le hi h.size) hn).trans (h.block i hi hn)⟩
theorem World.grownBy.of_drewN {a b : World} {row : Option Nat} {n : Nat} (h : (a.drewN n).grownBy b row) : a.grownBy b row := ⟨h.os, h.tape, h.output, h.size, h.block⟩
theorem World.grownBy.drewN {a b : World} {row : Option Nat} (h : a.grownBy b row) (n : Nat) : a.grownBy (b.drewN n) row := ⟨h.os, h.tape, h.output, h.size, h.block⟩
theorem World.grownBy.of_below {a b : World} {row : Option Nat} (h : Below a.heap.size a b) : a.grownBy b row :=
  ⟨h.os, h.tape, h.output, h.size, fun i hi _ => h.block i hi⟩

end Go.Proofs.YteckjkblngmenaaGreatDoor

/-
  Bytes in memory as cells: what the laws of append and of a conversion ask of a slice that reads as bytes.
-/
namespace Go.Proofs.YteckjkblngmenaaGreatDoor
open Go.RowKit
set_option linter.unusedVariables false
set_option maxRecDepth 100000

theorem info_u8 : (Tryz.prog.info? 5).map (fun i => (i.zero, i.size, i.bytes)) = some (some (.int .u8 0), 1, 1) := by kernel_rfl

theorem cells_at {w : World} {A : Addr} {n c : Nat} {xs : List Int} (h : Bs w (.slice (some A) n c) xs) : ∀ j u, (cs xs)[j]? = some u → w.cell? (A.add j) = some u := by
  intro j u hu
  obtain ⟨a', c', h1, _, _, _, h5, _⟩ := h
  simp only [Value.slice.injEq] at h1
  obtain ⟨rfl, rfl, rfl⟩ := h1
  have hj : j < xs.length := by have := (List.getElem?_eq_some_iff.1 hu).1; simpa using this
  obtain ⟨b, off, e1, e2⟩ := h5 j hj
  simp only [Option.some.injEq] at e1
  subst e1
  have e3 : (⟨b, off, none⟩ : Addr).add j = ⟨b, off + j, none⟩ := by
    unfold Addr.add; split <;> simp_all
  rw [e3, e2]
  simp [hj] at hu
  simp [hj, hu]

theorem Bs.none_nil {w : World} {n c : Nat} {xs : List Int} (h : Bs w (.slice none n c) xs) : xs = [] ∧ n = 0 ∧ c = 0 := by
  obtain ⟨a', c', h1, h2, _, h4, _⟩ := h
  simp only [Value.slice.injEq] at h1
  have := h4 h1.1.symm
  have e : xs.length = 0 := by omega
  exact ⟨List.eq_nil_of_length_eq_zero e, by omega, by omega⟩
theorem own_below {w w' : World} {base e : Nat} {v : Value} {n : Nat} {xs : List Value} (h : w.ownsRow base e 1 v n xs) (hb : Below w.heap.size w w') : w'.ownsRow base e 1 v n xs := by
  refine ⟨h.1, ?_⟩
  rcases h.2 with h0 | ⟨g, cap, cur, hv, hg, hh, r⟩
  · exact .inl h0
  · exact .inr ⟨g, cap, cur, hv, hg, by rw [hb.block g (Array.getElem?_eq_some_iff.1 hh).1]; exact hh, r⟩

/-- A slice that lies in a block from B on. -/
def Fresh (B : Nat) (v : Value) : Prop := ∀ x n c, v = .slice (some x) n c → B ≤ x.block

theorem Fresh.of_own {w : World} {base e : Nat} {v : Value} {n : Nat} {xs : List Value} (h : w.ownsRow base e 1 v n xs) : Fresh base v := by
  intro x m c hv
  exact (h.lt x.block (by rw [hv]; rfl)).1

end Go.Proofs.YteckjkblngmenaaGreatDoor

/-
  What an append of bytes, wherever they lie (nil, too), to a row of the call's own comes to: for the walk.
-/
namespace Go.Proofs.YteckjkblngmenaaGreatDoor
open Go.RowKit
set_option linter.unusedVariables false
set_option maxRecDepth 100000

theorem World.grownBy.rfl' (w : World) (row : Option Nat) : w.grownBy w row := ⟨rfl, rfl, rfl, Nat.le_refl _, fun _ _ _ => rfl⟩

theorem own_form {w : World} {B e n : Nat} {v : Value} {xs : List Value} (h : w.ownsRow B e 1 v n xs) : ∃ a c, v = .slice a n c ∧ n ≤ c := by
  rcases h.2 with ⟨rfl, h0⟩ | ⟨g, cap, cur, rfl, _, _, h3, _⟩
  · exact ⟨none, 0, by rw [h0], by omega⟩
  · exact ⟨_, _, rfl, h3⟩

theorem wpList_append_bs {w : World} {ops : Array Oper} {rest : List Oper} {o : Oper} {a : Act} {Q : Exit → Act → World → Prop} (hgd : o.guard = none) (s x : Operand)
    (ho : o.op = .call { callee := .builtin .append, args := #[s, x], argTypes := #[36, 36] })
    (base : Nat) (v : Value) (n : Nat) (xs : List Int) (hs : a.eval s = v) (hown : w.ownsRow base 5 1 v n (cs xs)) (u : Value) (ys : List Int) (hx : a.eval x = u) (hu : Bs w u ys)
    (hb : n + ys.length ≤ 140737488355328) (hbase : base ≤ w.heap.size)
    (h : ∀ v' w', w'.ownsRow base 5 1 v' (n + ys.length) (cs (xs ++ ys)) → w.grownBy w' v.ownBlock → (v'.ownBlock = v.ownBlock ∨ v'.ownBlock = some w.heap.size) → wpList Tryz.prog ops Q rest (a.put o.dst v') w') :
    wpList Tryz.prog ops Q (o :: rest) a w := by
  obtain ⟨i0, hi, hz0, hz1, hz2⟩ := info_parts info_u8
  have hf : ∃ A c, u = .slice A ys.length c := by
    obtain ⟨A, c, e, _⟩ := hu
    exact ⟨A, c, e⟩
  obtain ⟨A, c, rfl⟩ := hf
  cases A with
  | none =>
    obtain ⟨rfl, _, rfl⟩ := hu.none_nil
    refine wpList_append_own_none hgd s x 36 ho base 5 i0 1 Tryz.underlying36 hi v n (cs xs) hs hown hx ?_
    exact h v w (by simpa using hown) (World.grownBy.rfl' _ _) (Or.inl rfl)
  | some A =>
    refine wpList_append_own_at _ hgd s x 36 ho base 5 i0 (.int .u8 0) 1 1 Tryz.underlying36 hi hz0 hz1 hz2 rfl (by decide) v n (cs xs) hs hown A ys.length c (cs ys) hx (by simp) (cells_at hu) (ints_oneCell .u8 ys) (by unfold maxLen; omega) (by omega) hbase ?_
    intro v' w' h1 h2 _ h4
    exact h v' w' (by simpa using h1) h2 h4

end Go.Proofs.YteckjkblngmenaaGreatDoor

/-
  What a call leaves as it was: all blocks that were there but for some.
-/
namespace Go.Proofs.YteckjkblngmenaaGreatDoor
open Go.RowKit
set_option linter.unusedVariables false
set_option maxRecDepth 100000

/-- Blocks that were there are as they were, but for some. -/
structure Fr (S : Nat → Prop) (w w' : World) : Prop where
  os : w'.os = w.os
  tape : w'.tape = w.tape
  output : w'.output = w.output
  size : w.heap.size ≤ w'.heap.size
  block : ∀ k, k < w.heap.size → ¬ S k → w'.heap[k]? = w.heap[k]?
theorem Fr.refl (S : Nat → Prop) (w : World) : Fr S w w := ⟨rfl, rfl, rfl, Nat.le_refl _, fun _ _ _ => rfl⟩
theorem Fr.trans {S T : Nat → Prop} {a b c : World} (h : Fr S a b) (k : Fr T b c) (hs : ∀ i, i < a.heap.size → T i → S i) : Fr S a c :=
  ⟨k.os.trans h.os, k.tape.trans h.tape, k.output.trans h.output, Nat.le_trans h.size k.size, fun i hi hn => (k.block i (Nat.lt_of_lt_of_le hi h.size) (fun ht => hn (hs i hi ht))).trans (h.block i hi hn)⟩
theorem Fr.of_below {S : Nat → Prop} {w w' : World} (h : Below w.heap.size w w') : Fr S w w' := ⟨h.os, h.tape, h.output, h.size, fun k hk _ => h.block k hk⟩
theorem Fr.of_grown {S : Nat → Prop} {w w' : World} {row : Option Nat} (h : w.grownBy w' row) (hs : ∀ k, row = some k → S k) : Fr S w w' := ⟨h.os, h.tape, h.output, h.size, fun k hk hn => h.block k hk (fun e => hn (hs k e.symm))⟩
theorem Fr.mono {S T : Nat → Prop} {w w' : World} (h : Fr S w w') (hs : ∀ k, S k → T k) : Fr T w w' := ⟨h.os, h.tape, h.output, h.size, fun k hk hn => h.block k hk (fun e => hn (hs k e))⟩
theorem Fr.of_set (w : World) (b i : Nat) (v : Value) : Fr (fun k => k = b) w (w.setCell ⟨b, i, none⟩ v) :=
  ⟨rfl, rfl, rfl, by simp [World.setCell], fun k _ hn => heap_setCell_other w ⟨b, i, none⟩ k v hn⟩
theorem Fr.drewN {S : Nat → Prop} {a w : World} (h : Fr S a w) (n : Nat) : Fr S a (w.drewN n) := ⟨h.os, h.tape, h.output, h.size, h.block⟩
/-- Where all that changes is new. -/
theorem Fr.below {S : Nat → Prop} {B : Nat} {w w' : World} (h : Fr S w w') (hs : ∀ k, k < B → ¬ S k) (hB : B ≤ w.heap.size) : Below B w w' :=
  ⟨h.os, h.tape, h.output, h.size, fun k hk => h.block k (by omega) (hs k hk)⟩

end Go.Proofs.YteckjkblngmenaaGreatDoor

/-
  A file in memory ('Fi'), what may change while it is used ('Fx'), and what slices.Clone returns, for all slices that read as bytes.
-/
namespace Go.Proofs.YteckjkblngmenaaGreatDoor
open Go.RowKit
set_option linter.unusedVariables false
set_option maxRecDepth 100000

/-- The bytes' range. -/
def Byt (xs : List Int) : Prop := ∀ x ∈ xs, 0 ≤ x ∧ x < 256
theorem Byt.append {xs ys : List Int} (h : Byt xs) (k : Byt ys) : Byt (xs ++ ys) := fun x hx => (List.mem_append.1 hx).elim (h x) (k x)
theorem Byt.take {xs : List Int} (h : Byt xs) (n : Nat) : Byt (xs.take n) := fun x hx => h x (List.mem_of_mem_take hx)
theorem Byt.nil : Byt [] := fun x hx => by cases hx

abbrev Ow (B : Nat) (w : World) (v : Value) (xs : List Int) : Prop := w.ownsRow B 5 1 v xs.length (cs xs)

theorem Ow.mono {B C : Nat} {w : World} {v : Value} {xs : List Int} (h : Ow B w v xs) (hc : C ≤ B) : Ow C w v xs := by
  refine ⟨h.1, ?_⟩
  rcases h.2 with h0 | ⟨g, cap, cur, hv, hg, r⟩
  · exact .inl h0
  · exact .inr ⟨g, cap, cur, hv, Nat.le_trans hc hg, r⟩
theorem Ow.nil (B : Nat) (w : World) : Ow B w (.slice none 0 0) [] := World.ownsRow_nil _ _ _ _
theorem Ow.form {B : Nat} {w : World} {v : Value} {xs : List Int} (h : Ow B w v xs) : ∃ a c, v = .slice a xs.length c ∧ xs.length ≤ c := own_form h
/-- A cut up to l. -/
theorem Ow.take {B : Nat} {w : World} {a : Option Addr} {n c : Nat} {xs : List Int} (h : Ow B w (.slice a n c) xs) (l : Nat) (hl : l ≤ xs.length) : Ow B w (.slice a l c) (xs.take l) := by
  have hlen : (xs.take l).length = l := by rw [List.length_take]; omega
  unfold Ow
  rw [hlen]
  refine ⟨by simp [hl], ?_⟩
  rcases h.2 with ⟨h0, h1⟩ | ⟨g, cap, cur, hv, hg, hh, h3, h4, h5, h6⟩
  · simp only [Value.slice.injEq] at h0
    obtain ⟨rfl, _, rfl⟩ := h0
    have : l = 0 := by omega
    subst this
    exact .inl ⟨rfl, rfl⟩
  · simp only [Value.slice.injEq] at hv
    obtain ⟨rfl, _, rfl⟩ := hv
    refine .inr ⟨g, c, cur, rfl, hg, hh, by omega, h4, h5, ?_⟩
    have : cs (xs.take l) = (cs xs).take l := by simp [cs, List.map_take]
    rw [this, ← h6, List.take_take]
    congr 1
    omega
theorem Ow.of_block {B : Nat} {w w' : World} {v : Value} {xs : List Int} (h : Ow B w v xs) (hb : ∀ k, v.ownBlock = some k → w'.heap[k]? = w.heap[k]?) : Ow B w' v xs := by
  refine ⟨h.1, ?_⟩
  rcases h.2 with h0 | ⟨g, cap, cur, hv, hg, hh, r⟩
  · exact .inl h0
  · exact .inr ⟨g, cap, cur, hv, hg, by rw [hb g (by rw [hv]; rfl)]; exact hh, r⟩
theorem Ow.far {B : Nat} {w : World} {v : Value} {xs : List Int} (h : Ow B w v xs) {k : Nat} {c : Array Value} {T : TypeId} {fr : Nat × Nat} (hk : w.heap[k]? = some (.cells c T fr)) (hT : T ≠ 5) : v.ownBlock ≠ some k := by
  intro e
  rcases h.2 with ⟨rfl, _⟩ | ⟨g, cap, cur, rfl, _, hg, _⟩
  · cases e
  · simp [Value.ownBlock] at e
    subst e
    rw [hg] at hk
    simp at hk
    exact hT hk.2.1.symm
theorem Ow.bs {B : Nat} {w : World} {v : Value} {xs : List Int} (h : Ow B w v xs) (hr : Byt xs) : Bs w v xs := Bs.of_own h hr

/-- A file's block, whose row of bytes is the call's own. -/
def Fi (B : Nat) (w : World) (b : Nat) (v : Value) (xs : List Int) (n R : Nat) : Prop :=
  w.heap[b]? = some (.cells #[v, .int .i64 n, .int .i64 R] 98 (0, 0)) ∧ B ≤ b ∧ Ow B w v xs ∧ Byt xs ∧ n ≤ R ∧ xs.length ≤ R ∧ R ≤ 1048576
/-- What a file's use changes: its block, its row's. -/
def Fx (b : Nat) (v v' : Value) (w w' : World) : Prop :=
  Fr (fun k => k = b ∨ v.ownBlock = some k) w w' ∧ ∀ k, v'.ownBlock = some k → v.ownBlock = some k ∨ w.heap.size ≤ k
theorem Fx.refl (b : Nat) (v : Value) (w : World) : Fx b v v w w := ⟨Fr.refl _ _, fun _ h => .inl h⟩
theorem Fx.of_below {b : Nat} {v : Value} {w w' : World} (h : Below w.heap.size w w') : Fx b v v w w' := ⟨Fr.of_below h, fun _ h => .inl h⟩
theorem Fx.drewN {b : Nat} {v v' : Value} {w w' : World} (h : Fx b v v' w w') (m : Nat) : Fx b v v' w (w'.drewN m) := ⟨h.1.drewN m, h.2⟩
theorem Fx.size {b : Nat} {v v' : Value} {w w' : World} (h : Fx b v v' w w') : w.heap.size ≤ w'.heap.size := h.1.size
theorem Fx.trans {b : Nat} {u v x : Value} {w w1 w2 : World} (h : Fx b u v w w1) (k : Fx b v x w1 w2) : Fx b u x w w2 := by
  refine ⟨h.1.trans k.1 ?_, ?_⟩
  · intro i hi hs
    rcases hs with hs | hs
    · exact .inl hs
    · rcases h.2 i hs with e | e
      · exact .inr e
      · omega
  · intro i hi
    have := h.1.size
    rcases k.2 i hi with e | e
    · exact h.2 i e
    · exact .inr (by omega)
theorem Fx.block {b : Nat} {v v' : Value} {w w' : World} (h : Fx b v v' w w') {k : Nat} (hk : k < w.heap.size) (hb : k ≠ b) (hv : v.ownBlock ≠ some k) : w'.heap[k]? = w.heap[k]? := h.1.block k hk (fun h => h.elim hb hv)
theorem Fi.lt {B : Nat} {w : World} {b : Nat} {v : Value} {xs : List Int} {n R : Nat} (h : Fi B w b v xs n R) : b < w.heap.size := (Array.getElem?_eq_some_iff.1 h.1).1
theorem Fi.own {B : Nat} {w : World} {b : Nat} {v : Value} {xs : List Int} {n R : Nat} (h : Fi B w b v xs n R) : Ow B w v xs := h.2.2.1
theorem Fi.byt {B : Nat} {w : World} {b : Nat} {v : Value} {xs : List Int} {n R : Nat} (h : Fi B w b v xs n R) : Byt xs := h.2.2.2.1
theorem Fi.ne {B : Nat} {w : World} {b : Nat} {v : Value} {xs : List Int} {n R : Nat} (h : Fi B w b v xs n R) : v.ownBlock ≠ some b := h.own.far h.1 (by decide)
theorem Fi.nums {B : Nat} {w : World} {b : Nat} {v : Value} {xs : List Int} {n R : Nat} (h : Fi B w b v xs n R) : n ≤ R ∧ xs.length ≤ R ∧ R ≤ 1048576 := h.2.2.2.2
theorem Fi.bs {B : Nat} {w : World} {b : Nat} {v : Value} {xs : List Int} {n R : Nat} (h : Fi B w b v xs n R) : Bs w v xs := h.own.bs h.byt
/-- Where nothing of it is changed. -/
theorem Fi.of_block {B : Nat} {w w' : World} {b : Nat} {v : Value} {xs : List Int} {n R : Nat} (h : Fi B w b v xs n R) (hb : ∀ k, k = b ∨ v.ownBlock = some k → w'.heap[k]? = w.heap[k]?) : Fi B w' b v xs n R :=
  ⟨by rw [hb b (.inl rfl)]; exact h.1, h.2.1, h.own.of_block (fun k hk => hb k (.inr hk)), h.2.2.2⟩
theorem Fi.below {B : Nat} {w w' : World} {b : Nat} {v : Value} {xs : List Int} {n R : Nat} (h : Fi B w b v xs n R) (hb : Below w.heap.size w w') : Fi B w' b v xs n R :=
  h.of_block (fun k hk => hb.block k (by
    rcases hk with rfl | hk
    · exact h.lt
    · exact (h.own.lt k hk).2))
theorem Fi.drewN {B : Nat} {w : World} {b : Nat} {v : Value} {xs : List Int} {n R : Nat} (h : Fi B w b v xs n R) (m : Nat) : Fi B (w.drewN m) b v xs n R := h
/-- What the walk reads. -/
theorem Fi.cells {B : Nat} {w : World} {b : Nat} {v : Value} {xs : List Int} {n R : Nat} (h : Fi B w b v xs n R) :
    ∃ a c, v = .slice a xs.length c ∧ xs.length ≤ c ∧ w.cell? ⟨b, 0, none⟩ = some (.slice a xs.length c) ∧ w.cell? ⟨b, 1, none⟩ = some (.int .i64 n) ∧ w.cell? ⟨b, 2, none⟩ = some (.int .i64 R) ∧ w.frozen? ⟨b, 0, none⟩ = false ∧ w.frozen? ⟨b, 1, none⟩ = false := by
  obtain ⟨a, c, e, hc⟩ := h.own.form
  refine ⟨a, c, e, hc, ?_, ?_, ?_, frozen_of_row w b 0 _ _ h.1, frozen_of_row w b 1 _ _ h.1⟩
  · rw [cell_of_row w b 0 _ _ _ h.1, ← e]; rfl
  · rw [cell_of_row w b 1 _ _ _ h.1]; rfl
  · rw [cell_of_row w b 2 _ _ _ h.1]; rfl
/-- All that a file's use changes is new. -/
theorem Fx.below {b C : Nat} {v v' : Value} {w w' : World} (h : Fx b v v' w w') (hC : C ≤ w.heap.size) (hb : C ≤ b) (hv : ∀ k, v.ownBlock = some k → C ≤ k) : Below C w w' :=
  h.1.below (fun k hk hs => by
    rcases hs with e | e
    · omega
    · have := hv k e; omega) hC
theorem Fi.fr {B b : Nat} {v v' : Value} {w0 w' : World} {xs : List Int} {n R : Nat} (h : Fi B w0 b v xs n R) (k : Fx b v v' w0 w') (hB : B ≤ w0.heap.size) : Below B w0 w' := k.below hB h.2.1 (fun i hi => (h.own.lt i hi).1)
/-- A store of the row, in a world in which the row was changed alone. -/
theorem Fi.put {B : Nat} {w w' : World} {b : Nat} {v v' : Value} {xs ys : List Int} {n R : Nat} (h : Fi B w b v xs n R) (hown : Ow B w' v' ys) (hfr : Fr (fun k => v.ownBlock = some k) w w') (hy : Byt ys) (hl : ys.length ≤ R)
    (hv : ∀ k, v'.ownBlock = some k → v.ownBlock = some k ∨ w.heap.size ≤ k) : Fi B (w'.setCell ⟨b, 0, none⟩ v') b v' ys n R ∧ Fx b v v' w (w'.setCell ⟨b, 0, none⟩ v') := by
  have hne := h.ne
  have hb' : w'.heap[b]? = some (.cells #[v, .int .i64 n, .int .i64 R] 98 (0, 0)) := by rw [hfr.block b h.lt hne]; exact h.1
  have hne' : v'.ownBlock ≠ some b := by
    intro e
    rcases hv b e with e | e
    · exact hne e
    · have := h.lt; omega
  refine ⟨⟨by rw [heap_setCell_same w' b 0 _ _ v' hb']; simp, h.2.1, ownsRow_setCell_other hown hne' _, hy, h.nums.1, hl, h.nums.2.2⟩, ?_, hv⟩
  exact (hfr.mono (fun k e => .inr e)).trans ((Fr.of_set w' b 0 v').mono (fun k e => .inl e)) (fun _ _ h => h)
/-- A store of how many are synced. -/
theorem Fi.mark {B : Nat} {w : World} {b : Nat} {v : Value} {xs : List Int} {n R : Nat} (h : Fi B w b v xs n R) (m : Nat) (hm : m ≤ R) :
    Fi B (w.setCell ⟨b, 1, none⟩ (.int .i64 m)) b v xs m R ∧ Fx b v v w (w.setCell ⟨b, 1, none⟩ (.int .i64 m)) :=
  ⟨⟨by rw [heap_setCell_same w b 1 _ _ _ h.1]; simp, h.2.1, ownsRow_setCell_other h.own h.ne _, h.byt, hm, h.nums.2.1, h.nums.2.2⟩, (Fr.of_set w b 1 _).mono (fun k e => .inl e), fun _ h => .inl h⟩

/-- What calls on a file answer (an error's number, the bytes, how many are synced). -/
def appS (R : Nat) (ys xs : List Int) (n : Nat) : Int × List Int × Nat := if xs.length + ys.length ≤ R then (0, xs ++ ys, n) else (14, xs, n)
def repS (R : Nat) (ys xs : List Int) (n : Nat) : Int × List Int × Nat := if ys.length ≤ R then (0, ys, ys.length) else (14, xs, n)
def trimS (k : Int) (xs : List Int) (n : Nat) : Int × List Int × Nat := if 0 ≤ k ∧ k ≤ xs.length then (0, xs.take k.toNat, min n k.toNat) else (11, xs, n)
/-- How many a crash leaves. -/
def left (k : Int) (xs : List Int) (n : Nat) : Nat := n + min k.toNat (xs.length - n)
def crashS (k : Int) (xs : List Int) (n : Nat) : Int × List Int × Nat := (0, xs.take (left k xs n), left k xs n)
/-- A call on a file did this. -/
def Fo (B b R : Nat) (v : Value) (w : World) (r : Int × List Int × Nat) (w' : World) : Prop := ∃ v', Fi B w' b v' r.2.1 r.2.2 R ∧ Fx b v v' w w'
theorem Fo.mk {B b R : Nat} {v v' : Value} {w w' : World} {r : Int × List Int × Nat} {xs : List Int} {n : Nat} {z : Int} (h : Fi B w' b v' xs n R) (k : Fx b v v' w w') (hr : r = (z, xs, n)) : Fo B b R v w r w' := by subst hr; exact ⟨v', h, k⟩
def Fe (r : Int × List Int × Nat) (e : Ending) : Prop := e = .returned (.int .i64 r.1)
theorem Fe.mk {r : Int × List Int × Nat} {xs : List Int} {n : Nat} {z : Int} (hr : r = (z, xs, n)) : Fe r (.returned (.int .i64 z)) := by subst hr; rfl

theorem Fe.out {r : Int × List Int × Nat} {xs : List Int} {n : Nat} {z : Int} {e : Ending} (h : Fe r e) (hr : r = (z, xs, n)) : e = .returned (.int .i64 z) := by subst hr; exact h
theorem Fo.out {B b R : Nat} {v : Value} {w w' : World} {r : Int × List Int × Nat} {xs : List Int} {n : Nat} {z : Int} (h : Fo B b R v w r w') (hr : r = (z, xs, n)) : ∃ v', Fi B w' b v' xs n R ∧ Fx b v v' w w' := by subst hr; exact h

set_option maxHeartbeats 1000000 in
theorem sclone_any (v : Value) (xs : List Int) (w : World) (h : Bs w v xs) (hn : xs.length ≤ 140737488355328) :
    Calls Tryz.prog 68 #[v] w fun e w' => ∃ v', e = .returned v' ∧ Ow w.heap.size w' v' xs ∧ Below w.heap.size w w' := by
  have h' := h
  obtain ⟨a, c, rfl, _⟩ := h
  cases a with
  | none =>
    obtain ⟨rfl, -, rfl⟩ := h'.none_nil
    clear h'
    have q : ∀ (w : World) (n c : Nat), (binOp .eql 36 (.slice none n c) (.slice none 0 0)).run Tryz.prog w = .ok (.bool true) w := fun _ _ _ => rfl
    go_enter Tryz.func68, Tryz.ntmps68
    go_wp2
    go_ret
    exact ⟨_, rfl, Ow.nil _ _, Below.refl _ _⟩
  | some A =>
    have q : ∀ w : World, (binOp .eql 36 (.slice (some A) xs.length c) (.slice none 0 0)).run Tryz.prog w = .ok (.bool false) w := fun _ => rfl
    have HB := hid h'
    clear h'
    have hown0 : (w.alloc (.cells #[] 5)).ownsRow w.heap.size 5 1 (.slice (some ⟨w.heap.size, 0, none⟩) 0 0) 0 (cs []) := World.ownsRow_made w #[] 0 (Nat.le_refl _) (Nat.zero_le _) rfl
    go_enter Tryz.func68, Tryz.ntmps68
    go_wp2_with (at_builtin; refine wpList_append_bs rfl (.tmp 5) (.tmp 6) rfl w.heap.size (.slice (some ⟨w.heap.size, 0, none⟩) 0 0) 0 [] rfl hown0 _ xs rfl (HB.out.below (ba _ _)) (by omega) (by simp) ?_; intro v' w1 hown hgrow _)
    have hb : Below w.heap.size w w1 := (ba w _).grown hgrow (by simp) (by intro k hk; simp [Value.ownBlock] at hk; omega)
    have hO : Ow w.heap.size w1 v' xs := by simpa [Ow] using hown
    clear hown hgrow hown0
    go_wp2
    go_ret
    exact ⟨_, rfl, hO, hb⟩

end Go.Proofs.YteckjkblngmenaaGreatDoor

/-
  Plain mathematics of numbers as bytes: how many bytes a number takes, which ones, and back. Nothing of the program is imported.
-/
namespace Go.Proofs.YteckjkblngmenaaGreatDoor.M

theorem ipow_le (a : Nat) {b c : Nat} (ha : 0 < a) (h : b ≤ c) : (a : Int) ^ b ≤ (a : Int) ^ c := by
  have := Nat.pow_le_pow_right ha h
  rw [← Int.natCast_pow, ← Int.natCast_pow]
  omega
theorem pow2_le {b c : Nat} (h : b ≤ c) : (2 : Int) ^ b ≤ 2 ^ c := ipow_le 2 (by decide) h
theorem pow256_le {b c : Nat} (h : b ≤ c) : (256 : Int) ^ b ≤ 256 ^ c := ipow_le 256 (by decide) h

/-- With c bytes the numbers below it can be told. -/
def bd (c : Nat) : Int := 128 ^ c

/-- How many bytes a number takes. -/
def sz (n : Int) : Nat :=
  if n < 128 then 1 else if n < 16384 then 2 else if n < 2097152 then 3 else if n < 268435456 then 4 else if n < 34359738368 then 5 else if n < 4398046511104 then 6 else 7

theorem sz_pos (n : Int) : 1 ≤ sz n ∧ sz n ≤ 7 := by unfold sz; constructor <;> (repeat' split) <;> omega

theorem sz_of {n : Int} {k : Nat} (h1 : 1 ≤ k) (h7 : k ≤ 7) (hl : k = 1 ∨ bd (k - 1) ≤ n) (hu : k = 7 ∨ n < bd k) : sz n = k := by
  have : k = 1 ∨ k = 2 ∨ k = 3 ∨ k = 4 ∨ k = 5 ∨ k = 6 ∨ k = 7 := by omega
  unfold bd at hl hu
  rcases this with rfl | rfl | rfl | rfl | rfl | rfl | rfl <;> simp at hl hu <;> unfold sz <;> (repeat' split) <;> omega

/-- The lowest k bytes of a number, the highest first. -/
def be : Nat → Int → List Int
  | 0, _ => []
  | k + 1, n => (n / 256 ^ k) % 256 :: be k n

theorem be_length (k : Nat) (n : Int) : (be k n).length = k := by
  induction k with
  | zero => rfl
  | succ k ih => simp [be, ih]

theorem be_byte (k : Nat) (n : Int) : ∀ x ∈ be k n, 0 ≤ x ∧ x < 256 := by
  induction k with
  | zero => intro x hx; cases hx
  | succ k ih =>
    intro x hx
    simp only [be, List.mem_cons] at hx
    rcases hx with rfl | hx
    · exact ⟨Int.emod_nonneg _ (by decide), Int.emod_lt_of_pos _ (by decide)⟩
    · exact ih x hx

/-- What is added to the first of k bytes. -/
def mask (k : Nat) : Int := 256 - 2 ^ (9 - k)

/-- A number's bytes, k of them. -/
def encK (k : Nat) (n : Int) : List Int :=
  match be k n with
  | [] => []
  | x :: r => (x + mask k) :: r

/-- A number's bytes. -/
def enc (n : Int) : List Int := encK (sz n) n

theorem pow_le_of {j : Nat} {n : Int} (h : sz n = j) (hn : n < 562949953421312) : n < 128 ^ j := by
  subst h
  unfold sz
  (repeat' split) <;> simp <;> omega

/-- The highest byte leaves room for what is added to it. -/
theorem be_head {j : Nat} {n x : Int} {r : List Int} (h0 : 0 ≤ n) (hn : n < 562949953421312) (hj : sz n = j) (hx : be j n = x :: r) : 0 ≤ x ∧ x < 2 ^ (8 - j) := by
  have h1 := sz_pos n
  have h2 := pow_le_of hj hn
  rw [hj] at h1
  have : j = 1 ∨ j = 2 ∨ j = 3 ∨ j = 4 ∨ j = 5 ∨ j = 6 ∨ j = 7 := by omega
  rcases this with rfl | rfl | rfl | rfl | rfl | rfl | rfl <;> simp [be] at hx h2 ⊢ <;> omega

theorem enc_byte (n : Int) (h0 : 0 ≤ n) (hn : n < 562949953421312) : ∀ x ∈ enc n, 0 ≤ x ∧ x < 256 := by
  unfold enc encK
  have h1 := sz_pos n
  have hb := be_byte (sz n) n
  obtain ⟨j, hj⟩ : ∃ j, sz n = j := ⟨_, rfl⟩
  rw [hj] at hb h1 ⊢
  split
  · intro x hx; cases hx
  · rename_i y r hx
    have hh := be_head h0 hn hj hx
    rw [hx] at hb
    intro x hm
    simp only [List.mem_cons] at hm
    rcases hm with rfl | hm
    · have : j = 1 ∨ j = 2 ∨ j = 3 ∨ j = 4 ∨ j = 5 ∨ j = 6 ∨ j = 7 := by omega
      unfold mask
      rcases this with rfl | rfl | rfl | rfl | rfl | rfl | rfl <;> simp at hh ⊢ <;> omega
    · exact hb x (by simp [hm])

def right (n : Int) : Bool := decide (0 ≤ n ∧ n < 562949953421312)

theorem encK_length (k : Nat) (n : Int) : (encK k n).length = k := by
  unfold encK
  have := be_length k n
  split
  · rename_i h; rw [h] at this; exact this
  · rename_i h; rw [h] at this; simpa using this

theorem enc_length (n : Int) : (enc n).length = sz n := encK_length _ _

/-- How many bytes a number has whose first byte is b (8 and 9: none has). -/
def cnt (b : Int) : Nat :=
  if b < 128 then 1 else if b < 192 then 2 else if b < 224 then 3 else if b < 240 then 4 else if b < 248 then 5 else if b < 252 then 6 else if b < 254 then 7 else if b < 255 then 8 else 9

theorem cnt_pos (b : Int) : 1 ≤ cnt b ∧ cnt b ≤ 9 := by unfold cnt; constructor <;> (repeat' split) <;> omega

/-- Bytes behind a number, the highest first. -/
def fold (n : Int) (l : List Int) : Int := l.foldl (fun n x => n * 256 + x) n

/-- The number that bytes begin with, and how many of them it takes. -/
def first : List Int → Option (Int × Nat)
  | [] => none
  | b :: r => if 7 < cnt b ∨ r.length + 1 < cnt b then none else
      if sz (fold (b % 2 ^ (8 - cnt b)) (r.take (cnt b - 1))) = cnt b then some (fold (b % 2 ^ (8 - cnt b)) (r.take (cnt b - 1)), cnt b) else none

/-- The three answers of 'first'. -/
def fn (xs : List Int) : Int := match first xs with | some p => p.1 | none => 0
def fc (xs : List Int) : Nat := match first xs with | some p => p.2 | none => 0
def fo (xs : List Int) : Bool := (first xs).isSome

theorem fo_spec {xs : List Int} (h : fo xs = true) : 1 ≤ fc xs ∧ fc xs ≤ xs.length ∧ sz (fn xs) = fc xs := by
  unfold fo at h
  cases xs with
  | nil => simp [first] at h
  | cons b r =>
    by_cases h1 : 7 < cnt b ∨ r.length + 1 < cnt b
    · simp [first, h1] at h
    · by_cases h2 : sz (fold (b % 2 ^ (8 - cnt b)) (r.take (cnt b - 1))) = cnt b
      · have e : first (b :: r) = some (fold (b % 2 ^ (8 - cnt b)) (r.take (cnt b - 1)), cnt b) := by rw [first, if_neg h1, if_pos h2]
        simp only [fn, fc, e]
        have := cnt_pos b
        exact ⟨by omega, by simp; omega, h2⟩
      · simp [first, h1, h2] at h

/-- What a cursor over xs answers, and what it is then over: the next number .. -/
def numOk (most : Int) (xs : List Int) : Bool := fo xs && decide (fn xs ≤ most)
def numV (most : Int) (xs : List Int) : Int := if numOk most xs then fn xs else 0
def numS (most : Int) (xs : List Int) : List Int := if numOk most xs then xs.drop (fc xs) else []
def numL (most : Int) (xs : List Int) (lost : Bool) : Bool := if numOk most xs then lost else true
/-- .. so many next bytes. -/
def takeOk (n : Int) (xs : List Int) : Bool := decide (0 ≤ n ∧ n ≤ xs.length)
def takeV (n : Int) (xs : List Int) : List Int := if takeOk n xs then xs.take n.toNat else []
def takeS (n : Int) (xs : List Int) : List Int := if takeOk n xs then xs.drop n.toNat else []
def takeL (n : Int) (xs : List Int) (lost : Bool) : Bool := if takeOk n xs then lost else true
/-- Bytes as a text. -/
def str (xs : List Int) : ByteArray := xs.foldl (fun r n => r.push (UInt8.ofNat n.toNat)) ByteArray.empty

theorem fold_bound (m : Int) (l : List Int) (hl : ∀ x ∈ l, 0 ≤ x ∧ x < 256) : ∀ n : Int, 0 ≤ n → n < m → 0 ≤ fold n l ∧ fold n l < m * 256 ^ l.length := by
  induction l generalizing m with
  | nil => intro n h0 h1; simpa [fold] using ⟨h0, h1⟩
  | cons x r ih =>
    intro n h0 h1
    have hx := hl x (by simp)
    have := ih (m * 256) (fun y hy => hl y (by simp [hy])) (n * 256 + x) (by omega) (by omega)
    simp only [fold, List.foldl_cons, List.length_cons] at this ⊢
    rw [Int.pow_succ, Int.mul_comm (256 ^ r.length) 256, ← Int.mul_assoc]
    exact this

theorem fold_snoc (n : Int) (l : List Int) (x : Int) : fold n (l ++ [x]) = fold n l * 256 + x := by simp [fold]

end Go.Proofs.YteckjkblngmenaaGreatDoor.M

/-
  Plain mathematics: what was put is taken again, and there is one way to tell a number.
-/
namespace Go.Proofs.YteckjkblngmenaaGreatDoor.M

theorem fold_be (k : Nat) (n : Int) : fold (n / 256 ^ k) (be k n) = n := by
  induction k with
  | zero => simp [fold, be]
  | succ k ih =>
    have hP : (0 : Int) ≤ 256 ^ k := Int.le_of_lt (Int.pow_pos (by decide))
    have e : n / 256 ^ (k + 1) * 256 + n / 256 ^ k % 256 = n / 256 ^ k := by
      rw [Int.pow_succ, ← Int.ediv_ediv_of_nonneg hP]
      omega
    simp only [be, fold, List.foldl_cons]
    rw [e]
    exact ih

theorem seven {k : Nat} (h : 1 ≤ k ∧ k ≤ 7) : k = 1 ∨ k = 2 ∨ k = 3 ∨ k = 4 ∨ k = 5 ∨ k = 6 ∨ k = 7 := by omega

theorem cnt_mask {k : Nat} {x : Int} (hk : 1 ≤ k ∧ k ≤ 7) (h0 : 0 ≤ x) (h1 : x < 2 ^ (8 - k)) : cnt (x + mask k) = k ∧ (x + mask k) % 2 ^ (8 - k) = x := by
  rcases seven hk with rfl | rfl | rfl | rfl | rfl | rfl | rfl <;> simp [mask] at h1 ⊢ <;> refine ⟨?_, by omega⟩ <;> unfold cnt <;> (repeat' split) <;> omega

/-- What was put is taken again. -/
theorem first_enc {n : Int} (h0 : 0 ≤ n) (hn : n < 562949953421312) (r : List Int) : first (enc n ++ r) = some (n, sz n) := by
  have hk := sz_pos n
  obtain ⟨k, e⟩ : ∃ k, sz n = k + 1 := ⟨sz n - 1, by omega⟩
  have hx : be (sz n) n = (n / 256 ^ k % 256) :: be k n := by rw [e]; rfl
  have hh := be_head h0 hn rfl hx
  have hc := cnt_mask hk hh.1 hh.2
  have e1 : enc n = (n / 256 ^ k % 256 + mask (sz n)) :: be k n := by unfold enc encK; rw [hx]
  have hl := be_length k n
  have hq : n / 256 ^ k % 256 = n / 256 ^ k := by
    have hp := pow_le_of (n := n) rfl hn
    refine Int.emod_eq_of_lt (Int.ediv_nonneg h0 (Int.le_of_lt (Int.pow_pos (by decide)))) ?_
    refine Int.ediv_lt_of_lt_mul (Int.pow_pos (by decide)) ?_
    have h2 := ipow_le 128 (b := k + 1) (c := k + 1) (by decide) (Nat.le_refl _)
    have h3 : (128 : Int) ^ (k + 1) ≤ 256 ^ (k + 1) := by
      have := Nat.pow_le_pow_left (show 128 ≤ 256 by decide) (k + 1)
      have e1 : ((128 ^ (k + 1) : Nat) : Int) = (128 : Int) ^ (k + 1) := by rw [Int.natCast_pow]; rfl
      have e2 : ((256 ^ (k + 1) : Nat) : Int) = (256 : Int) ^ (k + 1) := by rw [Int.natCast_pow]; rfl
      omega
    rw [e] at hp
    rw [Int.pow_succ] at h3
    rw [Int.mul_comm]
    omega
  rw [e1, List.cons_append, first, hc.1, hc.2, if_neg (by simp [hl]; omega)]
  have e2 : (be k n ++ r).take (sz n - 1) = be k n := by
    rw [List.take_append_of_le_length (by omega), List.take_of_length_le (by omega)]
  have e3 : fold (n / 256 ^ k % 256) (be k n) = n := by rw [hq]; exact fold_be k n
  rw [e2, e3, if_pos rfl]

theorem fold_div (t : List Int) (ht : ∀ x ∈ t, 0 ≤ x ∧ x < 256) : ∀ n : Int, fold n t / 256 ^ t.length = n ∧ be t.length (fold n t) = t := by
  induction t with
  | nil => intro n; simp [fold, be]
  | cons y t ih =>
    intro n
    have hy := ht y (by simp)
    have := ih (fun x hx => ht x (by simp [hx])) (n * 256 + y)
    have hP : (0 : Int) ≤ 256 ^ t.length := Int.le_of_lt (Int.pow_pos (by decide))
    have e : fold n (y :: t) = fold (n * 256 + y) t := rfl
    rw [e]
    simp only [List.length_cons, be]
    rw [this.1, this.2]
    refine ⟨?_, by congr 1; omega⟩
    rw [Int.pow_succ, ← Int.ediv_ediv_of_nonneg hP, this.1]
    omega

theorem mask_of_cnt {b : Int} (h0 : 0 ≤ b) (h1 : b < 256) (hk : cnt b ≤ 7) : b % 2 ^ (8 - cnt b) + mask (cnt b) = b ∧ b % 2 ^ (8 - cnt b) < 2 ^ (8 - cnt b) := by
  have hp := cnt_pos b
  obtain ⟨k, e⟩ : ∃ k, cnt b = k := ⟨_, rfl⟩
  have e' := e
  unfold cnt at e'
  rw [e] at hk hp ⊢
  refine ⟨?_, Int.emod_lt_of_pos _ (Int.pow_pos (by decide))⟩
  rcases seven ⟨hp.1, hk⟩ with rfl | rfl | rfl | rfl | rfl | rfl | rfl <;> simp [mask] <;> (repeat' split at e') <;> omega

/-- There is one way to tell a number. -/
theorem enc_first_eq {xs : List Int} {n : Int} {k : Nat} (hx : ∀ x ∈ xs, 0 ≤ x ∧ x < 256) (h : first xs = some (n, k)) :
    0 ≤ n ∧ n < 562949953421312 ∧ sz n = k ∧ enc n = xs.take k ∧ k ≤ xs.length := by
  cases xs with
  | nil => simp [first] at h
  | cons b r =>
    by_cases h1 : 7 < cnt b ∨ r.length + 1 < cnt b
    · simp [first, h1] at h
    · by_cases h2 : sz (fold (b % 2 ^ (8 - cnt b)) (r.take (cnt b - 1))) = cnt b
      · rw [first, if_neg h1, if_pos h2] at h
        simp only [Option.some.injEq, Prod.mk.injEq] at h
        obtain ⟨rfl, rfl⟩ := h
        have hp := cnt_pos b
        have hb := hx b (by simp)
        have hm := mask_of_cnt hb.1 hb.2 (by omega)
        have hr : ∀ x ∈ r.take (cnt b - 1), 0 ≤ x ∧ x < 256 := fun x hx' => hx x (by simp [List.mem_of_mem_take hx'])
        have hl : (r.take (cnt b - 1)).length = cnt b - 1 := by rw [List.length_take]; omega
        have hf := fold_div (r.take (cnt b - 1)) hr (b % 2 ^ (8 - cnt b))
        have h0 : 0 ≤ b % 2 ^ (8 - cnt b) := Int.emod_nonneg _ (Int.ne_of_gt (Int.pow_pos (by decide)))
        have hbd := fold_bound (2 ^ (8 - cnt b)) (r.take (cnt b - 1)) hr (b % 2 ^ (8 - cnt b)) h0 hm.2
        rw [hl] at hf hbd
        have hlt : (2 : Int) ^ (8 - cnt b) * 256 ^ (cnt b - 1) ≤ 562949953421312 := by
          rcases seven (show 1 ≤ cnt b ∧ cnt b ≤ 7 by omega) with e | e | e | e | e | e | e <;> rw [e] <;> decide
        refine ⟨hbd.1, by omega, h2, ?_, by simp; omega⟩
        unfold enc encK
        rw [h2]
        obtain ⟨k, e⟩ : ∃ k, cnt b = k + 1 := ⟨cnt b - 1, by omega⟩
        have hlt8 : (2 : Int) ^ (8 - cnt b) ≤ 2 ^ 7 := pow2_le (by omega)
        have e3 : be (cnt b) (fold (b % 2 ^ (8 - cnt b)) (r.take (cnt b - 1))) = (b % 2 ^ (8 - cnt b)) :: r.take (cnt b - 1) := by
          have e4 : cnt b - 1 = k := by omega
          rw [e4] at hf ⊢
          rw [e] at hf ⊢
          simp only [be]
          rw [hf.1, hf.2, Int.emod_eq_of_lt (by rw [← e]; exact h0) (by rw [← e]; have := hm.2; omega)]
        rw [e3]
        show (b % 2 ^ (8 - cnt b) + mask (cnt b)) :: r.take (cnt b - 1) = _
        rw [hm.1, e]
        simp
      · simp [first, h1, h2] at h

/-- A text's bytes. -/
def ofStr (s : ByteArray) : List Int := s.data.toList.map (fun b => (b.toNat : Int))

theorem ofStr_length (s : ByteArray) : (ofStr s).length = s.size := by
  unfold ofStr; rw [List.length_map, Array.length_toList]; rfl
theorem ofStr_byte (s : ByteArray) : ∀ x ∈ ofStr s, 0 ≤ x ∧ x < 256 := by
  intro x hx
  unfold ofStr at hx
  obtain ⟨b, _, rfl⟩ := List.mem_map.1 hx
  have := b.toNat_lt
  omega

theorem foldl_push (l : List UInt8) : ∀ s : ByteArray, (l.map (fun b => (b.toNat : Int))).foldl (fun r n => r.push (UInt8.ofNat n.toNat)) s = ⟨s.data ++ l.toArray⟩ := by
  induction l with
  | nil => intro s; simp
  | cons b l ih =>
    intro s
    simp only [List.map_cons, List.foldl_cons]
    rw [ih]
    simp [ByteArray.push]
theorem str_ofStr (s : ByteArray) : str (ofStr s) = s := by
  unfold str ofStr
  rw [foldl_push]
  cases s
  simp [ByteArray.empty, ByteArray.emptyWithCapacity]
  rfl

/-- A text, put: its length, then its bytes. -/
def encText (s : ByteArray) : List Int := enc s.size ++ ofStr s

end Go.Proofs.YteckjkblngmenaaGreatDoor.M

/-
  Plain mathematics of keys: their order, which are right, the key between two, byte by byte, and a row of keys. Nothing of the program is imported.
-/
namespace Go.Proofs.YteckjkblngmenaaGreatDoor.K

/-- Is one key below the other? -/
def lt : List Int → List Int → Bool
  | _, [] => false
  | [], _ :: _ => true
  | a :: x, b :: y => decide (a < b) || (decide (a = b) && lt x y)
/-- The last byte. -/
def lst (k : List Int) : Int := k.getD (k.length - 1) 0
def right (k : List Int) : Bool := decide (1 ≤ k.length ∧ k.length ≤ 32 ∧ lst k ≠ 0)
/-- All are bytes. -/
def Byt (k : List Int) : Prop := ∀ x ∈ k, 0 ≤ x ∧ x < 256
/-- May a key be looked for between the two? -/
def fine (a b : List Int) : Bool := (decide (a = []) || right a) && (decide (b = []) || right b) && (decide (b = []) || lt a b)

def step (x y : Int) : Int := if y = 256 then min ((y - x) / 2) 8 else (y - x) / 2
/-- The key between two, of at most so many bytes. -/
def btw : Nat → List Int → List Int → Option (List Int)
  | 0, _, _ => none
  | n + 1, lo, hi =>
    if lo.headD 0 + 1 < hi.headD 256 then some [lo.headD 0 + step (lo.headD 0) (hi.headD 256)]
    else if hi.headD 256 = lo.headD 0 + 1 then (btw n lo.tail []).map (lo.headD 0 :: ·)
    else (btw n lo.tail hi.tail).map (lo.headD 0 :: ·)
/-- What Between answers: the key, and is there one? -/
def key (a b : List Int) : Option (List Int) := if fine a b = true then btw 32 a b else none

theorem Byt.nil : Byt [] := fun x hx => by cases hx
end Go.Proofs.YteckjkblngmenaaGreatDoor.K

/-
  Texts as lists of bytes: the order of texts is the order of keys, and what a text's byte at a place is. Nothing of the program is imported.
-/
namespace Go.Proofs.YteckjkblngmenaaGreatDoor
open Go.RowKit
set_option linter.unusedVariables false
set_option maxRecDepth 100000

/-- A text's bytes. -/
def tx (s : ByteArray) : List Int := s.data.toList.map (fun b => (b.toNat : Int))

theorem tx_length (s : ByteArray) : (tx s).length = s.size := by
  unfold tx; rw [List.length_map, Array.length_toList]; rfl
theorem push_str (l : List UInt8) : ∀ s : ByteArray, (l.map (fun b => (b.toNat : Int))).foldl (fun r n => r.push (UInt8.ofNat n.toNat)) s = ⟨s.data ++ l.toArray⟩ := by
  induction l with
  | nil => intro s; simp
  | cons b l ih =>
    intro s
    simp only [List.map_cons, List.foldl_cons]
    rw [ih]
    simp [ByteArray.push]
theorem str_tx (s : ByteArray) : M.str (tx s) = s := by
  unfold M.str tx
  rw [push_str]
  cases s
  simp [ByteArray.empty, ByteArray.emptyWithCapacity]
  rfl
theorem tx_inj {s t : ByteArray} (h : tx s = tx t) : s = t := by rw [← str_tx s, ← str_tx t, h]
theorem tx_str {k : List Int} (h : K.Byt k) : tx (M.str k) = k := by
  have e : k = (k.map (fun x => UInt8.ofNat x.toNat)).map (fun b => (b.toNat : Int)) := by
    rw [List.map_map]
    conv => lhs; rw [← List.map_id k]
    refine List.map_congr_left fun x hx => ?_
    have := h x hx
    simp only [Function.comp, id, UInt8.toNat_ofNat']
    omega
  have : M.str k = ⟨((k.map (fun x => UInt8.ofNat x.toNat))).toArray⟩ := by
    conv => lhs; rw [e]
    unfold M.str
    rw [push_str]
    simp [ByteArray.empty, ByteArray.emptyWithCapacity]
    rfl
  rw [this]
  unfold tx
  simp only
  exact e.symm
theorem size_str {k : List Int} (h : K.Byt k) : (M.str k).size = k.length := by rw [← tx_length, tx_str h]

/-- The model's order of texts. -/
theorem less_list : ∀ (x y : List UInt8), Op.bytesLess x y = K.lt (x.map (fun b => (b.toNat : Int))) (y.map (fun b => (b.toNat : Int)))
  | [], [] => rfl
  | _ :: _, [] => rfl
  | [], _ :: _ => rfl
  | a :: x, b :: y => by
    rw [Op.bytesLess, less_list x y]
    simp only [List.map_cons, K.lt]
    congr 1
    · rw [decide_eq_decide, UInt8.lt_iff_toNat_lt]; omega
    · congr 1
      rw [Bool.eq_iff_iff]
      simp only [beq_iff_eq, decide_eq_true_eq]
      rw [← UInt8.toNat_inj]
      omega
theorem beq_tx (s t : ByteArray) : (s.toList == t.toList) = decide (tx s = tx t) := by
  rw [Bool.eq_iff_iff]
  simp only [beq_iff_eq, decide_eq_true_eq, Lib.toList_data]
  constructor
  · intro h; unfold tx; rw [h]
  · intro h; rw [tx_inj h]
theorem tx_getD {s : ByteArray} {k : Nat} (h : k < s.size) : (tx s).getD k 0 = ((s[k]).toNat : Int) := by
  rw [List.getD_eq_getElem?_getD, List.getElem?_eq_getElem (by rw [tx_length]; exact h)]
  simp [tx]
  rfl
end Go.Proofs.YteckjkblngmenaaGreatDoor

/-
  What RightOp, RightStamp and rightReplica answer is proved here, of the program and of the reference, for all names and stamps.
-/
namespace Go.Proofs.YteckjkblngmenaaGreatDoor
open Go.RowKit
set_option linter.unusedVariables false
set_option maxRecDepth 100000

/-- A name, a stamp as values (two numbers). -/
abbrev idv (r n : Int) : Value := .agg #[.int .i64 r, .int .i64 n]
abbrev ido (T : Nat) (r n : Int) : Obj := .cells #[.int .i64 r, .int .i64 n] T
/-- A replica; an op's name; a stamp that is right. -/
def rr (r : Int) : Bool := decide (0 ≤ r ∧ r < 16)
def ro (r n : Int) : Bool := decide (0 ≤ r ∧ r < 16 ∧ 1 ≤ n ∧ n ≤ 1048576)
def rs (t r : Int) : Bool := decide (0 ≤ r ∧ r < 16 ∧ 1 ≤ t ∧ t ≤ 1099511627776)

theorem retb {a b : Bool} (h : a = true ↔ b = true) : Ending.returned (.bool a) = .returned (.bool b) := by rw [Bool.eq_iff_iff.2 h]

theorem rr_any (r : Int) (w : World) : Calls Tryz.prog 143 #[.int .i64 r] w fun e w' => e = .returned (.bool (rr r)) ∧ w = w' := by
  obtain ⟨b, hb⟩ : ∃ b, rr r = b := ⟨_, rfl⟩
  rw [hb]
  have HB := hid hb
  clear hb
  cases h0 : decide (0 ≤ r)
  all_goals
    go_enter Tryz.func143, Tryz.ntmps143
    go_wp2
    go_ret
    refine ⟨retb ?_, rfl⟩
    rw [← HB.out]
    simp at h0
    simp [rr]
    try omega

theorem ro_any (r n : Int) (w : World) : Calls Tryz.prog 132 #[idv r n] w fun e w' => e = .returned (.bool (ro r n)) ∧ w' = w.alloc (ido 72 r n) := by
  obtain ⟨b, hb⟩ : ∃ b, ro r n = b := ⟨_, rfl⟩
  rw [hb]
  have HB := hid hb
  clear hb
  cases hr : rr r
  all_goals cases h0 : decide (1 ≤ n)
  all_goals
    have HR := hid hr
    go_enter Tryz.func132, Tryz.ntmps132
    go_wp2_with (go_at_call 143; refine (rr_any r _).mono ?_; rintro e w' ⟨rfl, rfl⟩; rw [hr])
    go_ret
    refine ⟨retb ?_, rfl⟩
    rw [← HB.out]
    have := HR.out
    simp [rr] at this h0
    simp [ro]
    try omega

theorem rs_any (t r : Int) (w : World) : Calls Tryz.prog 133 #[idv t r] w fun e w' => e = .returned (.bool (rs t r)) ∧ w' = w.alloc (ido 164 t r) := by
  obtain ⟨b, hb⟩ : ∃ b, rs t r = b := ⟨_, rfl⟩
  rw [hb]
  have HB := hid hb
  clear hb
  cases hr : rr r
  all_goals cases h0 : decide (1 ≤ t)
  all_goals
    have HR := hid hr
    go_enter Tryz.func133, Tryz.ntmps133
    go_wp2_with (go_at_call 143; refine (rr_any r _).mono ?_; rintro e w' ⟨rfl, rfl⟩; rw [hr])
    go_ret
    refine ⟨retb ?_, rfl⟩
    rw [← HB.out]
    have := HR.out
    simp [rr] at this h0
    simp [rs]
    try omega

theorem xro_any (r n : Int) (w : World) : Calls Tryz.prog 78 #[idv r n] w fun e w' => e = .returned (.bool (ro r n)) ∧ w' = w.alloc (ido 72 r n) := by
  obtain ⟨b, hb⟩ : ∃ b, ro r n = b := ⟨_, rfl⟩
  rw [hb]
  have HB := hid hb
  clear hb
  cases h0 : decide (0 ≤ r)
  all_goals cases h1 : decide (r ≤ 15)
  all_goals cases h2 : decide (1 ≤ n)
  all_goals
    go_enter Tryz.func78, Tryz.ntmps78
    go_wp2
    go_ret
    refine ⟨retb ?_, rfl⟩
    rw [← HB.out]
    simp at h0 h1 h2
    simp [ro]
    try omega

end Go.Proofs.YteckjkblngmenaaGreatDoor

/-
  What bytes.Clone returns is proved here, for all slices that read as bytes, of at most 2^47 of them: a copy in new memory.
-/
namespace Go.Proofs.YteckjkblngmenaaGreatDoor
open Go.RowKit
set_option linter.unusedVariables false
set_option maxRecDepth 100000

set_option maxHeartbeats 1000000 in
theorem clone_fresh (v : Value) (xs : List Int) (w : World) (h : Bs w v xs) (hn : xs.length ≤ 140737488355328) :
    Calls Tryz.prog 90 #[v] w fun e w' => ∃ v', e = .returned v' ∧ Bs w' v' xs ∧ Below w.heap.size w w' ∧ Fresh w.heap.size v' := by
  have h' := h
  obtain ⟨a, c, rfl, _⟩ := h
  cases a with
  | none =>
    have hx : xs.length = 0 := by
      obtain ⟨a', c', h1, h2, _, h4, _⟩ := h'
      simp only [Value.slice.injEq] at h1
      have := h4 h1.1.symm
      omega
    have e1 : xs = [] := List.eq_nil_of_length_eq_zero hx
    subst e1
    clear h'
    have q : ∀ (w : World) (n c : Nat), (binOp .eql 36 (.slice none n c) (.slice none 0 0)).run Tryz.prog w = .ok (.bool true) w := fun _ _ _ => rfl
    go_enter Tryz.func90, Tryz.ntmps90
    go_wp2
    go_ret
    exact ⟨_, rfl, Bs.nil _, Below.refl _ _, fun x n c e => by cases e⟩
  | some A =>
    obtain ⟨i0, hi, hz0, hz1, hz2⟩ := info_parts info_u8
    have q : ∀ w : World, (binOp .eql 36 (.slice (some A) xs.length c) (.slice none 0 0)).run Tryz.prog w = .ok (.bool false) w := fun _ => rfl
    have hcell := cells_at h'
    have HC := hid hcell
    have HB := hid h'
    clear hcell h'
    have hown0 : (w.alloc (.cells #[] 5)).ownsRow w.heap.size 5 1 (.slice (some ⟨w.heap.size, 0, none⟩) 0 0) 0 [] := World.ownsRow_made w #[] 0 (Nat.le_refl _) (Nat.zero_le _) rfl
    go_enter Tryz.func90, Tryz.ntmps90
    go_wp2_with (at_builtin; refine wpList_append_own _ rfl (.tmp 5) (.tmp 6) 36 rfl w.heap.size 5 i0 (.int .u8 0) 1 1 Tryz.underlying36 hi hz0 hz1 hz2 rfl (by decide) _ _ _ rfl hown0 A xs.length c (cs xs) rfl ?c0 ?c1 (ints_oneCell .u8 xs) ?c3 ?c4 ?c5 ?_)
    case c0 => simp
    case c1 =>
      intro j u hu
      have h1 := HC.out j u hu
      have hb := World.block_lt_of_cell? _ _ h1
      rw [((Below.refl w.heap.size w).alloc (Nat.le_refl _) _).cell hb]
      exact h1
    case c3 => unfold maxLen; omega
    case c4 => omega
    case c5 => simp
    intro v' w1 hown hgrow _
    have hb : Below w.heap.size w w1 := ((Below.refl _ w).alloc (Nat.le_refl _) (.cells #[] 5)).grown hgrow (by simp) (by intro k hk; simp [Value.ownBlock] at hk; omega)
    have hB : Bs w1 v' xs := Bs.of_own (by simpa using hown) (Bs.range HB.out)
    have hF : Fresh w.heap.size v' := Fresh.of_own hown
    clear hown hgrow hown0
    go_wp2
    go_ret
    exact ⟨_, rfl, hB, hb, hF⟩

end Go.Proofs.YteckjkblngmenaaGreatDoor

/-
  What num.At returns is proved here, for all slices that read as bytes, of at most 2^47 of them: a cursor over a copy.
-/
namespace Go.Proofs.YteckjkblngmenaaGreatDoor
open Go.RowKit
set_option linter.unusedVariables false
set_option maxRecDepth 100000

set_option maxHeartbeats 400000 in
theorem at_fresh (v : Value) (xs : List Int) (w : World) (h : Bs w v xs) (hn : xs.length ≤ 140737488355328) :
    Calls Tryz.prog 91 #[v] w fun e w' => ∃ b, e = .returned (.pointer (some ⟨b, 0, none⟩)) ∧ w.heap.size ≤ b ∧ Below w.heap.size w w' ∧
      ∃ v', w'.heap[b]? = some (.cells #[v', .bool false] 143 (0, 0)) ∧ Bs w' v' xs ∧ Fresh w.heap.size v' := by
  go_enter Tryz.func91, Tryz.ntmps91
  go_wp2_with fail
  refine (clone_fresh v xs _ h hn).mono ?_
  rintro e w1 ⟨v', rfl, hB, hb, hF⟩
  have hB' := hB
  obtain ⟨a, c, rfl, _⟩ := hB
  go_wp2
  go_ret
  have ha : Below w1.heap.size w1 (w1.alloc (.cells #[.slice a xs.length c, .bool false] 143)) := (Below.refl _ _).alloc (Nat.le_refl _) _
  exact ⟨w1.heap.size, rfl, hb.size, hb.trans (ha.mono hb.size), _, heap_alloc_new w1 _, hB'.below ha, hF⟩

theorem at_any (v : Value) (xs : List Int) (w : World) (h : Bs w v xs) (hn : xs.length ≤ 140737488355328) :
    Calls Tryz.prog 91 #[v] w fun e w' => ∃ b, e = .returned (.pointer (some ⟨b, 0, none⟩)) ∧ w.heap.size ≤ b ∧ Cur 143 w' b xs false ∧ Below w.heap.size w w' :=
  (at_fresh v xs w h hn).mono fun _ _ ⟨b, he, h1, h2, v', h3, h4, _⟩ => ⟨b, he, h1, ⟨v', h3, h4⟩, h2⟩

end Go.Proofs.YteckjkblngmenaaGreatDoor

/-
  What a conversion of bytes to a text comes to, for all slices that read as bytes.
-/
namespace Go.Proofs.YteckjkblngmenaaGreatDoor
open Go.RowKit
set_option linter.unusedVariables false
set_option maxRecDepth 100000

/-- A conversion of bytes to a text. -/
theorem conv_str {w : World} {v : Value} {xs : List Int} (h : Bs w v xs) : (convert 36 9 v).run Tryz.prog w = .ok (.string (M.str xs)) w := by
  have h' := h
  obtain ⟨a, c, rfl, _⟩ := h
  rw [run_convert_bytes_string w 36 9 5 a xs.length c Tryz.underlying36 Tryz.underlying5 Tryz.underlying9]
  cases a with
  | none =>
    have hx : xs.length = 0 := by
      obtain ⟨a', c', h1, h2, _, h4, _⟩ := h'
      simp only [Value.slice.injEq] at h1
      have := h4 h1.1.symm
      omega
    have e1 : xs = [] := List.eq_nil_of_length_eq_zero hx
    subst e1
    rfl
  | some A =>
    have hl := run_loadCells_list (P := Tryz.prog) w A (cs xs) (cells_at h')
    rw [List.length_map] at hl
    rw [run_bytesToString w A xs.length c xs hl]
    rfl

end Go.Proofs.YteckjkblngmenaaGreatDoor
