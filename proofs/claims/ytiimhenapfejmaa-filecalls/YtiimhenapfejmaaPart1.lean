/-
  Parts of the proof, one behind the other; what each proves stands at its head.
-/
import Derived.WalkKit
import Derived.WalkSpells
import Derived.WalkLawsBesides
import Derived.Test.YtiimhenapfejmaaRows
import Derived.Maps.AppendAt
import Derived.Laws.AppendOwnNone
import Derived.Deep.QuietTactic
import Derived.BigQuiet
import Derived.RegionTactic
import Derived.Laws.BytesString

/-
  Bytes and cursors in memory: 'Bs w v xs': the slice v reads as the bytes xs; 'Cur T w b xs lost': block b is a cursor (of the struct type T) over xs. Nothing of the program is imported.
-/
namespace Go.Proofs.Ytiimhenapfejmaa
open Go.RowKit
set_option linter.unusedVariables false
set_option maxRecDepth 100000

/-- A fact that the walk shall not take for a rule. -/
theorem hid {p : Prop} (h : p) : Hid p := h

/-- Bytes as cells. -/
abbrev cs (l : List Int) : List Value := l.map (Value.int .u8)

/-- Steps that write nothing that was there, one behind the other. -/
theorem bt {a b c : World} (h : Below a.heap.size a b) (k : Below b.heap.size b c) : Below a.heap.size a c := h.trans (k.mono h.size)
theorem ba (w : World) (o : Obj) : Below w.heap.size w (w.alloc o) := (Below.refl _ _).alloc (Nat.le_refl _) _
theorem bd (w : World) (n : Nat) : Below w.heap.size w (w.drewN n) := below_drewN (Below.refl _ _) n

theorem bg {a b c : World} {k : Nat} (h : Below a.heap.size a b) (hg : b.grownBy c (some k)) (hk : a.heap.size ≤ k) : Below a.heap.size a c :=
  h.grown hg h.size (by intro j hj; simp only [Option.some.injEq] at hj; omega)

/-- The slice v reads as the bytes xs. -/
def Bs (w : World) (v : Value) (xs : List Int) : Prop :=
  ∃ a c, v = .slice a xs.length c ∧ xs.length ≤ c ∧ c ≤ maxLen ∧ (a = none → c = 0) ∧
    (∀ i, i < xs.length → ∃ b off, a = some ⟨b, off, none⟩ ∧ w.cell? ⟨b, off + i, none⟩ = some (.int .u8 (xs.getD i 0))) ∧ ∀ x ∈ xs, 0 ≤ x ∧ x < 256

/-- Cells of numbers are kept. -/
def Keeps (w w' : World) : Prop := ∀ a k x, w.cell? a = some (.int k x) → w'.cell? a = some (.int k x)

theorem Keeps.refl (w : World) : Keeps w w := fun _ _ _ h => h
theorem Keeps.trans {a b c : World} (h : Keeps a b) (k : Keeps b c) : Keeps a c := fun p j x e => k p j x (h p j x e)
theorem Keeps.drewN {a b : World} (h : Keeps a b) (n : Nat) : Keeps a (b.drewN n) := h
theorem Keeps.below {w w' : World} (h : Below w.heap.size w w') : Keeps w w' := fun a k x e => by
  rw [h.cell (World.block_lt_of_cell? _ _ e)]; exact e
theorem Bs.keeps {w w' : World} {v : Value} {xs : List Int} (h : Bs w v xs) (hk : Keeps w w') : Bs w' v xs := by
  obtain ⟨a, c, h1, h2, h3, h4, h5, h6⟩ := h
  refine ⟨a, c, h1, h2, h3, h4, fun i hi => ?_, h6⟩
  obtain ⟨b, off, e1, e2⟩ := h5 i hi
  exact ⟨b, off, e1, hk _ _ _ e2⟩
theorem Bs.below {w w' : World} {v : Value} {xs : List Int} (h : Bs w v xs) (hb : Below w.heap.size w w') : Bs w' v xs := h.keeps (Keeps.below hb)
theorem Bs.drewN {w : World} {v : Value} {xs : List Int} (h : Bs w v xs) (n : Nat) : Bs (w.drewN n) v xs := h
theorem Bs.drew {w : World} {v : Value} {xs : List Int} (h : Bs w v xs) : Bs w.drew v xs := h

theorem Bs.nil (w : World) : Bs w (.slice none 0 0) [] := ⟨none, 0, rfl, Nat.le_refl _, Nat.zero_le _, fun _ => rfl, fun i hi => absurd hi (Nat.not_lt_zero _), fun x hx => by cases hx⟩

/-- Without a byte: whatever the address. -/
theorem Bs.inv_nil {w : World} {v : Value} (h : Bs w v []) : ∃ a c, v = .slice a 0 c ∧ c ≤ maxLen ∧ (a = none → c = 0) := by
  obtain ⟨a, c, h1, _, h3, h4, _⟩ := h
  exact ⟨a, c, h1, h3, h4⟩
/-- With one: an address, and the cells there. -/
theorem Bs.inv {w : World} {v : Value} {xs : List Int} (h : Bs w v xs) (hx : 0 < xs.length) :
    ∃ b off c, v = .slice (some ⟨b, off, none⟩) xs.length c ∧ xs.length ≤ c ∧ c ≤ maxLen ∧ ∀ i, i < xs.length → w.cell? ⟨b, off + i, none⟩ = some (.int .u8 (xs.getD i 0)) := by
  obtain ⟨a, c, h1, h2, h3, _, h5, _⟩ := h
  obtain ⟨b, off, e1, _⟩ := h5 0 hx
  refine ⟨b, off, c, by rw [h1, e1], h2, h3, fun i hi => ?_⟩
  obtain ⟨b', off', e2, e3⟩ := h5 i hi
  rw [e1] at e2
  simp only [Option.some.injEq, Addr.mk.injEq, and_true] at e2
  obtain ⟨rfl, rfl⟩ := e2
  exact e3
theorem Bs.range {w : World} {v : Value} {xs : List Int} (h : Bs w v xs) : ∀ x ∈ xs, 0 ≤ x ∧ x < 256 := by
  obtain ⟨a, c, _, _, _, _, _, h6⟩ := h
  exact h6
theorem Bs.form {w : World} {v : Value} {xs : List Int} (h : Bs w v xs) : ∃ a c, v = .slice a xs.length c := by
  obtain ⟨a, c, e, _⟩ := h
  exact ⟨a, c, e⟩
theorem Bs.len {w : World} {v : Value} {xs : List Int} (h : Bs w v xs) : xs.length ≤ maxLen := by
  obtain ⟨a, c, _, h2, h3, _⟩ := h
  exact Nat.le_trans h2 h3

theorem Bs.of_own {w : World} {base e : Nat} {v : Value} {n : Nat} {xs : List Int} (h : w.ownsRow base e 1 v n (cs xs)) (hr : ∀ x ∈ xs, 0 ≤ x ∧ x < 256) : Bs w v xs := by
  have hl : xs.length = n := by simpa using h.1
  rcases h.2 with ⟨rfl, rfl⟩ | ⟨g, cap, cur, rfl, hb, hg, hnc, hcm, hcs, htake⟩
  · have : xs = [] := List.eq_nil_of_length_eq_zero hl
    subst this
    exact Bs.nil w
  · refine ⟨some ⟨g, 0, none⟩, cap, by rw [hl], by omega, hcm, (fun e => by cases e), fun i hi => ⟨g, 0, rfl, ?_⟩, hr⟩
    have := h.cellAt (g := g) i (by omega)
    rw [Nat.zero_add, this]
    simp [hi]

/-- A row of bytes that came in. -/
theorem Bs.of_row {w : World} {x : Addr} {len cap : Nat} {zs : List Int} (hl : len ≤ cap) (hm : cap ≤ maxLen) (hz : zs.length = cap)
    (hcell : ∀ i, i < zs.length → w.cell? (x.add i) = some (.int .u8 (zs.getD i 0))) (hwz : ∀ n ∈ zs, (Lit.int .u8 n).wf = true) : Bs w (.slice (some x) len cap) (zs.take len) := by
  have hlen : (zs.take len).length = len := by rw [List.length_take]; omega
  refine ⟨some x, cap, by rw [hlen], by omega, hm, (fun e => by cases e), fun i hi => ?_, fun n hn => ?_⟩
  · rw [hlen] at hi
    have h0 := hcell 0 (by omega)
    have hc := hcell i (by omega)
    obtain ⟨b, off, spot⟩ := x
    have hs : spot = none := by simpa [Addr.add] using World.cell?_spot h0
    subst hs
    refine ⟨b, off, rfl, ?_⟩
    rw [Addr.add_lit] at hc
    rw [hc]
    simp [List.getD, hi]
  · have := hwz n (List.mem_of_mem_take hn)
    simp [Lit.wf, IntKind.min, IntKind.max, IntKind.signed, IntKind.bits] at this
    omega

/-- A literal. -/
theorem Bs.lit (w : World) (e : Nat) (xs : List Int) (hl : xs.length ≤ maxLen) (hr : ∀ x ∈ xs, 0 ≤ x ∧ x < 256) :
    Bs (w.alloc (.cells (cs xs).toArray e)) (.slice (some ⟨w.heap.size, 0, none⟩) xs.length xs.length) xs :=
  Bs.of_own (base := w.heap.size) (e := e) (n := xs.length) (by
    have := World.ownsRow_lit (base := w.heap.size) (e := e) (size := 1) w (cs xs).toArray xs.length (Nat.le_refl _) hl (by simp)
    simpa using this) hr

/-- A cut from l on, l at most the length: what the model's slicing leaves. -/
theorem Bs.drop {w : World} {a : Option Addr} {xs : List Int} {n c : Nat} (h : Bs w (.slice a n c) xs) (l : Nat) (hl : l ≤ n) :
    Bs w (.slice (if c = l then a else a.map (·.add l)) (n - l) (c - l)) (xs.drop l) := by
  obtain ⟨a', c', h1, h2, h3, h4, h5, h6⟩ := h
  simp only [Value.slice.injEq] at h1
  obtain ⟨rfl, rfl, rfl⟩ := h1
  refine ⟨_, c - l, by rw [List.length_drop], by rw [List.length_drop]; omega, by omega, ?_, ?_, fun x hx => h6 x (List.mem_of_mem_drop hx)⟩
  · intro e
    split at e
    · have := h4 e; omega
    · simp at e; have := h4 e; omega
  · intro i hi
    rw [List.length_drop] at hi
    obtain ⟨b, off, e1, e2⟩ := h5 (l + i) (by omega)
    have hcl : c ≠ l := by omega
    rw [if_neg hcl, e1]
    refine ⟨b, off + l, ?_, ?_⟩
    · simp [Addr.add]
      try (intro h; simp [h])
    · rw [Nat.add_assoc, e2]; simp [List.getD, List.getElem?_drop]
/-- A cut up to h, h at most the length. -/
theorem Bs.take {w : World} {a : Option Addr} {xs : List Int} {n c : Nat} (h : Bs w (.slice a n c) xs) (l : Nat) (hl : l ≤ n) : Bs w (.slice a l c) (xs.take l) := by
  obtain ⟨a', c', h1, h2, h3, h4, h5, h6⟩ := h
  simp only [Value.slice.injEq] at h1
  obtain ⟨rfl, rfl, rfl⟩ := h1
  have hlen : (xs.take l).length = l := by rw [List.length_take]; omega
  refine ⟨a, c, by rw [hlen], by omega, h3, h4, fun i hi => ?_, fun x hx => h6 x (List.mem_of_mem_take hx)⟩
  obtain ⟨b, off, e1, e2⟩ := h5 i (by omega)
  exact ⟨b, off, e1, by rw [e2]; simp [List.getD, show i < l by omega]⟩

/-- Block b is a cursor over xs. -/
def Cur (T : Nat) (w : World) (b : Nat) (xs : List Int) (lost : Bool) : Prop :=
  ∃ v, w.heap[b]? = some (.cells #[v, .bool lost] T (0, 0)) ∧ Bs w v xs

theorem Cur.lt {T : Nat} {w : World} {b : Nat} {xs : List Int} {lost : Bool} (h : Cur T w b xs lost) : b < w.heap.size := by
  obtain ⟨v, h1, _⟩ := h
  exact (Array.getElem?_eq_some_iff.1 h1).1
theorem Cur.below {T : Nat} {w w' : World} {b : Nat} {xs : List Int} {lost : Bool} (h : Cur T w b xs lost) (hb : Below w.heap.size w w') : Cur T w' b xs lost := by
  have hl := h.lt
  obtain ⟨v, h1, h2⟩ := h
  exact ⟨v, by rw [hb.block b hl]; exact h1, h2.below hb⟩
theorem Cur.drewN {T : Nat} {w : World} {b : Nat} {xs : List Int} {lost : Bool} (h : Cur T w b xs lost) (n : Nat) : Cur T (w.drewN n) b xs lost := h

/-- Whatever is done to a cursor's block alone keeps all bytes. -/
theorem Cur.keeps {T : Nat} {w w' : World} {b : Nat} {xs : List Int} {lost : Bool} (h : Cur T w b xs lost) (hg : w.grownBy w' (some b)) : Keeps w w' := by
  intro a k x e
  obtain ⟨v, h1, a', c', hv, _⟩ := h
  refine hg.cell e ?_
  intro hab
  simp only [Option.some.injEq] at hab
  have : w.cell? ⟨b, a.off, none⟩ = some (.int k x) := by
    have hs := World.cell?_spot e
    cases a
    simp_all
  rw [cell_of_row w b a.off _ T (0, 0) h1, hv] at this
  match hoff : a.off with
  | 0 => rw [hoff] at this; simp at this
  | 1 => rw [hoff] at this; simp at this
  | n + 2 => rw [hoff] at this; simp at this
theorem Cur.other {T U : Nat} {w w' : World} {b b' : Nat} {xs ys : List Int} {lost l' : Bool} (h : Cur T w b xs lost) (h' : Cur U w b' ys l') (hne : b' ≠ b) (hg : w.grownBy w' (some b)) : Cur U w' b' ys l' := by
  have hk := h.keeps hg
  have hl := h'.lt
  obtain ⟨v, h1, h2⟩ := h'
  exact ⟨v, by rw [hg.block b' hl (by simpa using hne)]; exact h1, h2.keeps hk⟩

/-- A store into a cursor's first cell. -/
theorem Cur.set0 {T : Nat} {w : World} {b : Nat} {xs ys : List Int} {lost : Bool} {v : Value} (h : Cur T w b xs lost) (hv : Bs w v ys) :
    Cur T (w.setCell ⟨b, 0, none⟩ v) b ys lost ∧ w.grownBy (w.setCell ⟨b, 0, none⟩ v) (some b) := by
  have hg : w.grownBy (w.setCell ⟨b, 0, none⟩ v) (some b) := ⟨rfl, rfl, rfl, by simp [World.setCell], fun k _ hk => heap_setCell_other w ⟨b, 0, none⟩ k v (fun e => hk (by simp [e]))⟩
  refine ⟨?_, hg⟩
  have hk := h.keeps hg
  obtain ⟨v0, h1, _⟩ := h
  exact ⟨v, by rw [heap_setCell_same w b 0 _ T v h1]; simp, hv.keeps hk⟩
theorem Cur.set1 {T : Nat} {w : World} {b : Nat} {xs : List Int} {lost l' : Bool} (h : Cur T w b xs lost) :
    Cur T (w.setCell ⟨b, 1, none⟩ (.bool l')) b xs l' ∧ w.grownBy (w.setCell ⟨b, 1, none⟩ (.bool l')) (some b) := by
  have hg : w.grownBy (w.setCell ⟨b, 1, none⟩ (.bool l')) (some b) := ⟨rfl, rfl, rfl, by simp [World.setCell], fun k _ hk => heap_setCell_other w ⟨b, 1, none⟩ k _ (fun e => hk (by simp [e]))⟩
  refine ⟨?_, hg⟩
  have hk := h.keeps hg
  obtain ⟨v0, h1, h2⟩ := h
  exact ⟨v0, by rw [heap_setCell_same w b 1 _ T _ h1]; simp, h2.keeps hk⟩
/-- What a walk over a cursor reads and writes. -/
theorem Cur.cells {T : Nat} {w : World} {b : Nat} {xs : List Int} {lost : Bool} (h : Cur T w b xs lost) :
    ∃ a c, Bs w (.slice a xs.length c) xs ∧ w.cell? ⟨b, 0, none⟩ = some (.slice a xs.length c) ∧ w.cell? ⟨b, 1, none⟩ = some (.bool lost) ∧ w.frozen? ⟨b, 0, none⟩ = false ∧ w.frozen? ⟨b, 1, none⟩ = false := by
  obtain ⟨v, h1, h2⟩ := h
  have h3 := h2
  obtain ⟨a, c, rfl, _⟩ := h3
  exact ⟨a, c, h2, by rw [cell_of_row w b 0 _ T _ h1]; rfl, by rw [cell_of_row w b 1 _ T _ h1]; rfl, frozen_of_row w b 0 _ T h1, frozen_of_row w b 1 _ T h1⟩

theorem World.grownBy.trans {a b c : World} {row : Option Nat} (h : a.grownBy b row) (k : b.grownBy c row) : a.grownBy c row :=
  ⟨k.os.trans h.os, k.tape.trans h.tape, k.output.trans h.output, Nat.le_trans h.size k.size, fun i hi hn => (k.block i (Nat.lt_of_lt_of_le hi h.size) hn).trans (h.block i hi hn)⟩
theorem World.grownBy.of_drewN {a b : World} {row : Option Nat} {n : Nat} (h : (a.drewN n).grownBy b row) : a.grownBy b row := ⟨h.os, h.tape, h.output, h.size, h.block⟩
theorem World.grownBy.drewN {a b : World} {row : Option Nat} (h : a.grownBy b row) (n : Nat) : a.grownBy (b.drewN n) row := ⟨h.os, h.tape, h.output, h.size, h.block⟩
theorem World.grownBy.of_below {a b : World} {row : Option Nat} (h : Below a.heap.size a b) : a.grownBy b row :=
  ⟨h.os, h.tape, h.output, h.size, fun i hi _ => h.block i hi⟩

end Go.Proofs.Ytiimhenapfejmaa

/-
  Bytes in memory as cells: what the laws of append and of a conversion ask of a slice that reads as bytes.
-/
namespace Go.Proofs.Ytiimhenapfejmaa
open Go.RowKit
set_option linter.unusedVariables false
set_option maxRecDepth 100000

theorem info_u8 : (Try.prog.info? 5).map (fun i => (i.zero, i.size, i.bytes)) = some (some (.int .u8 0), 1, 1) := by kernel_rfl

theorem cells_at {w : World} {A : Addr} {n c : Nat} {xs : List Int} (h : Bs w (.slice (some A) n c) xs) : ∀ j u, (cs xs)[j]? = some u → w.cell? (A.add j) = some u := by
  intro j u hu
  obtain ⟨a', c', h1, _, _, _, h5, _⟩ := h
  simp only [Value.slice.injEq] at h1
  obtain ⟨rfl, rfl, rfl⟩ := h1
  have hj : j < xs.length := by have := (List.getElem?_eq_some_iff.1 hu).1; simpa using this
  obtain ⟨b, off, e1, e2⟩ := h5 j hj
  simp only [Option.some.injEq] at e1
  subst e1
  have e3 : (⟨b, off, none⟩ : Addr).add j = ⟨b, off + j, none⟩ := by
    unfold Addr.add; split <;> simp_all
  rw [e3, e2]
  simp [hj] at hu
  simp [hj, hu]

theorem Bs.none_nil {w : World} {n c : Nat} {xs : List Int} (h : Bs w (.slice none n c) xs) : xs = [] ∧ n = 0 ∧ c = 0 := by
  obtain ⟨a', c', h1, h2, _, h4, _⟩ := h
  simp only [Value.slice.injEq] at h1
  have := h4 h1.1.symm
  have e : xs.length = 0 := by omega
  exact ⟨List.eq_nil_of_length_eq_zero e, by omega, by omega⟩
theorem own_below {w w' : World} {base e : Nat} {v : Value} {n : Nat} {xs : List Value} (h : w.ownsRow base e 1 v n xs) (hb : Below w.heap.size w w') : w'.ownsRow base e 1 v n xs := by
  refine ⟨h.1, ?_⟩
  rcases h.2 with h0 | ⟨g, cap, cur, hv, hg, hh, r⟩
  · exact .inl h0
  · exact .inr ⟨g, cap, cur, hv, hg, by rw [hb.block g (Array.getElem?_eq_some_iff.1 hh).1]; exact hh, r⟩

/-- A slice that lies in a block from B on. -/
def Fresh (B : Nat) (v : Value) : Prop := ∀ x n c, v = .slice (some x) n c → B ≤ x.block

theorem Fresh.of_own {w : World} {base e : Nat} {v : Value} {n : Nat} {xs : List Value} (h : w.ownsRow base e 1 v n xs) : Fresh base v := by
  intro x m c hv
  exact (h.lt x.block (by rw [hv]; rfl)).1

end Go.Proofs.Ytiimhenapfejmaa

/-
  What an append of bytes, wherever they lie (nil, too), to a row of the call's own comes to: for the walk.
-/
namespace Go.Proofs.Ytiimhenapfejmaa
open Go.RowKit
set_option linter.unusedVariables false
set_option maxRecDepth 100000

theorem World.grownBy.rfl' (w : World) (row : Option Nat) : w.grownBy w row := ⟨rfl, rfl, rfl, Nat.le_refl _, fun _ _ _ => rfl⟩

theorem own_form {w : World} {B e n : Nat} {v : Value} {xs : List Value} (h : w.ownsRow B e 1 v n xs) : ∃ a c, v = .slice a n c ∧ n ≤ c := by
  rcases h.2 with ⟨rfl, h0⟩ | ⟨g, cap, cur, rfl, _, _, h3, _⟩
  · exact ⟨none, 0, by rw [h0], by omega⟩
  · exact ⟨_, _, rfl, h3⟩

theorem wpList_append_bs {w : World} {ops : Array Oper} {rest : List Oper} {o : Oper} {a : Act} {Q : Exit → Act → World → Prop} (hgd : o.guard = none) (s x : Operand)
    (ho : o.op = .call { callee := .builtin .append, args := #[s, x], argTypes := #[32, 32] })
    (base : Nat) (v : Value) (n : Nat) (xs : List Int) (hs : a.eval s = v) (hown : w.ownsRow base 5 1 v n (cs xs)) (u : Value) (ys : List Int) (hx : a.eval x = u) (hu : Bs w u ys)
    (hb : n + ys.length ≤ 140737488355328) (hbase : base ≤ w.heap.size)
    (h : ∀ v' w', w'.ownsRow base 5 1 v' (n + ys.length) (cs (xs ++ ys)) → w.grownBy w' v.ownBlock → (v'.ownBlock = v.ownBlock ∨ v'.ownBlock = some w.heap.size) → wpList Try.prog ops Q rest (a.put o.dst v') w') :
    wpList Try.prog ops Q (o :: rest) a w := by
  obtain ⟨i0, hi, hz0, hz1, hz2⟩ := info_parts info_u8
  have hf : ∃ A c, u = .slice A ys.length c := by
    obtain ⟨A, c, e, _⟩ := hu
    exact ⟨A, c, e⟩
  obtain ⟨A, c, rfl⟩ := hf
  cases A with
  | none =>
    obtain ⟨rfl, _, rfl⟩ := hu.none_nil
    refine wpList_append_own_none hgd s x 32 ho base 5 i0 1 Try.underlying32 hi v n (cs xs) hs hown hx ?_
    exact h v w (by simpa using hown) (World.grownBy.rfl' _ _) (Or.inl rfl)
  | some A =>
    refine wpList_append_own_at _ hgd s x 32 ho base 5 i0 (.int .u8 0) 1 1 Try.underlying32 hi hz0 hz1 hz2 rfl (by decide) v n (cs xs) hs hown A ys.length c (cs ys) hx (by simp) (cells_at hu) (ints_oneCell .u8 ys) (by unfold maxLen; omega) (by omega) hbase ?_
    intro v' w' h1 h2 _ h4
    exact h v' w' (by simpa using h1) h2 h4

end Go.Proofs.Ytiimhenapfejmaa

/-
  What a call leaves as it was: all blocks that were there but for some.
-/
namespace Go.Proofs.Ytiimhenapfejmaa
open Go.RowKit
set_option linter.unusedVariables false
set_option maxRecDepth 100000

/-- Blocks that were there are as they were, but for some. -/
structure Fr (S : Nat → Prop) (w w' : World) : Prop where
  os : w'.os = w.os
  tape : w'.tape = w.tape
  output : w'.output = w.output
  size : w.heap.size ≤ w'.heap.size
  block : ∀ k, k < w.heap.size → ¬ S k → w'.heap[k]? = w.heap[k]?
theorem Fr.refl (S : Nat → Prop) (w : World) : Fr S w w := ⟨rfl, rfl, rfl, Nat.le_refl _, fun _ _ _ => rfl⟩
theorem Fr.trans {S T : Nat → Prop} {a b c : World} (h : Fr S a b) (k : Fr T b c) (hs : ∀ i, i < a.heap.size → T i → S i) : Fr S a c :=
  ⟨k.os.trans h.os, k.tape.trans h.tape, k.output.trans h.output, Nat.le_trans h.size k.size, fun i hi hn => (k.block i (Nat.lt_of_lt_of_le hi h.size) (fun ht => hn (hs i hi ht))).trans (h.block i hi hn)⟩
theorem Fr.of_below {S : Nat → Prop} {w w' : World} (h : Below w.heap.size w w') : Fr S w w' := ⟨h.os, h.tape, h.output, h.size, fun k hk _ => h.block k hk⟩
theorem Fr.of_grown {S : Nat → Prop} {w w' : World} {row : Option Nat} (h : w.grownBy w' row) (hs : ∀ k, row = some k → S k) : Fr S w w' := ⟨h.os, h.tape, h.output, h.size, fun k hk hn => h.block k hk (fun e => hn (hs k e.symm))⟩
theorem Fr.mono {S T : Nat → Prop} {w w' : World} (h : Fr S w w') (hs : ∀ k, S k → T k) : Fr T w w' := ⟨h.os, h.tape, h.output, h.size, fun k hk hn => h.block k hk (fun e => hn (hs k e))⟩
theorem Fr.of_set (w : World) (b i : Nat) (v : Value) : Fr (fun k => k = b) w (w.setCell ⟨b, i, none⟩ v) :=
  ⟨rfl, rfl, rfl, by simp [World.setCell], fun k _ hn => heap_setCell_other w ⟨b, i, none⟩ k v hn⟩
theorem Fr.drewN {S : Nat → Prop} {a w : World} (h : Fr S a w) (n : Nat) : Fr S a (w.drewN n) := ⟨h.os, h.tape, h.output, h.size, h.block⟩
/-- Where all that changes is new. -/
theorem Fr.below {S : Nat → Prop} {B : Nat} {w w' : World} (h : Fr S w w') (hs : ∀ k, k < B → ¬ S k) (hB : B ≤ w.heap.size) : Below B w w' :=
  ⟨h.os, h.tape, h.output, h.size, fun k hk => h.block k (by omega) (hs k hk)⟩

end Go.Proofs.Ytiimhenapfejmaa

/-
  A file in memory ('Fi'), what may change while it is used ('Fx'), and what slices.Clone returns, for all slices that read as bytes.
-/
namespace Go.Proofs.Ytiimhenapfejmaa
open Go.RowKit
set_option linter.unusedVariables false
set_option maxRecDepth 100000

/-- The bytes' range. -/
def Byt (xs : List Int) : Prop := ∀ x ∈ xs, 0 ≤ x ∧ x < 256
theorem Byt.append {xs ys : List Int} (h : Byt xs) (k : Byt ys) : Byt (xs ++ ys) := fun x hx => (List.mem_append.1 hx).elim (h x) (k x)
theorem Byt.take {xs : List Int} (h : Byt xs) (n : Nat) : Byt (xs.take n) := fun x hx => h x (List.mem_of_mem_take hx)
theorem Byt.nil : Byt [] := fun x hx => by cases hx

abbrev Ow (B : Nat) (w : World) (v : Value) (xs : List Int) : Prop := w.ownsRow B 5 1 v xs.length (cs xs)

theorem Ow.mono {B C : Nat} {w : World} {v : Value} {xs : List Int} (h : Ow B w v xs) (hc : C ≤ B) : Ow C w v xs := by
  refine ⟨h.1, ?_⟩
  rcases h.2 with h0 | ⟨g, cap, cur, hv, hg, r⟩
  · exact .inl h0
  · exact .inr ⟨g, cap, cur, hv, Nat.le_trans hc hg, r⟩
theorem Ow.nil (B : Nat) (w : World) : Ow B w (.slice none 0 0) [] := World.ownsRow_nil _ _ _ _
theorem Ow.form {B : Nat} {w : World} {v : Value} {xs : List Int} (h : Ow B w v xs) : ∃ a c, v = .slice a xs.length c ∧ xs.length ≤ c := own_form h
/-- A cut up to l. -/
theorem Ow.take {B : Nat} {w : World} {a : Option Addr} {n c : Nat} {xs : List Int} (h : Ow B w (.slice a n c) xs) (l : Nat) (hl : l ≤ xs.length) : Ow B w (.slice a l c) (xs.take l) := by
  have hlen : (xs.take l).length = l := by rw [List.length_take]; omega
  unfold Ow
  rw [hlen]
  refine ⟨by simp [hl], ?_⟩
  rcases h.2 with ⟨h0, h1⟩ | ⟨g, cap, cur, hv, hg, hh, h3, h4, h5, h6⟩
  · simp only [Value.slice.injEq] at h0
    obtain ⟨rfl, _, rfl⟩ := h0
    have : l = 0 := by omega
    subst this
    exact .inl ⟨rfl, rfl⟩
  · simp only [Value.slice.injEq] at hv
    obtain ⟨rfl, _, rfl⟩ := hv
    refine .inr ⟨g, c, cur, rfl, hg, hh, by omega, h4, h5, ?_⟩
    have : cs (xs.take l) = (cs xs).take l := by simp [cs, List.map_take]
    rw [this, ← h6, List.take_take]
    congr 1
    omega
theorem Ow.of_block {B : Nat} {w w' : World} {v : Value} {xs : List Int} (h : Ow B w v xs) (hb : ∀ k, v.ownBlock = some k → w'.heap[k]? = w.heap[k]?) : Ow B w' v xs := by
  refine ⟨h.1, ?_⟩
  rcases h.2 with h0 | ⟨g, cap, cur, hv, hg, hh, r⟩
  · exact .inl h0
  · exact .inr ⟨g, cap, cur, hv, hg, by rw [hb g (by rw [hv]; rfl)]; exact hh, r⟩
theorem Ow.far {B : Nat} {w : World} {v : Value} {xs : List Int} (h : Ow B w v xs) {k : Nat} {c : Array Value} {T : TypeId} {fr : Nat × Nat} (hk : w.heap[k]? = some (.cells c T fr)) (hT : T ≠ 5) : v.ownBlock ≠ some k := by
  intro e
  rcases h.2 with ⟨rfl, _⟩ | ⟨g, cap, cur, rfl, _, hg, _⟩
  · cases e
  · simp [Value.ownBlock] at e
    subst e
    rw [hg] at hk
    simp at hk
    exact hT hk.2.1.symm
theorem Ow.bs {B : Nat} {w : World} {v : Value} {xs : List Int} (h : Ow B w v xs) (hr : Byt xs) : Bs w v xs := Bs.of_own h hr

/-- A file's block, whose row of bytes is the call's own. -/
def Fi (B : Nat) (w : World) (b : Nat) (v : Value) (xs : List Int) (n R : Nat) : Prop :=
  w.heap[b]? = some (.cells #[v, .int .i64 n, .int .i64 R] 54 (0, 0)) ∧ B ≤ b ∧ Ow B w v xs ∧ Byt xs ∧ n ≤ R ∧ xs.length ≤ R ∧ R ≤ 1048576
/-- What a file's use changes: its block, its row's. -/
def Fx (b : Nat) (v v' : Value) (w w' : World) : Prop :=
  Fr (fun k => k = b ∨ v.ownBlock = some k) w w' ∧ ∀ k, v'.ownBlock = some k → v.ownBlock = some k ∨ w.heap.size ≤ k
theorem Fx.refl (b : Nat) (v : Value) (w : World) : Fx b v v w w := ⟨Fr.refl _ _, fun _ h => .inl h⟩
theorem Fx.of_below {b : Nat} {v : Value} {w w' : World} (h : Below w.heap.size w w') : Fx b v v w w' := ⟨Fr.of_below h, fun _ h => .inl h⟩
theorem Fx.drewN {b : Nat} {v v' : Value} {w w' : World} (h : Fx b v v' w w') (m : Nat) : Fx b v v' w (w'.drewN m) := ⟨h.1.drewN m, h.2⟩
theorem Fx.size {b : Nat} {v v' : Value} {w w' : World} (h : Fx b v v' w w') : w.heap.size ≤ w'.heap.size := h.1.size
theorem Fx.trans {b : Nat} {u v x : Value} {w w1 w2 : World} (h : Fx b u v w w1) (k : Fx b v x w1 w2) : Fx b u x w w2 := by
  refine ⟨h.1.trans k.1 ?_, ?_⟩
  · intro i hi hs
    rcases hs with hs | hs
    · exact .inl hs
    · rcases h.2 i hs with e | e
      · exact .inr e
      · omega
  · intro i hi
    have := h.1.size
    rcases k.2 i hi with e | e
    · exact h.2 i e
    · exact .inr (by omega)
theorem Fx.block {b : Nat} {v v' : Value} {w w' : World} (h : Fx b v v' w w') {k : Nat} (hk : k < w.heap.size) (hb : k ≠ b) (hv : v.ownBlock ≠ some k) : w'.heap[k]? = w.heap[k]? := h.1.block k hk (fun h => h.elim hb hv)
theorem Fi.lt {B : Nat} {w : World} {b : Nat} {v : Value} {xs : List Int} {n R : Nat} (h : Fi B w b v xs n R) : b < w.heap.size := (Array.getElem?_eq_some_iff.1 h.1).1
theorem Fi.own {B : Nat} {w : World} {b : Nat} {v : Value} {xs : List Int} {n R : Nat} (h : Fi B w b v xs n R) : Ow B w v xs := h.2.2.1
theorem Fi.byt {B : Nat} {w : World} {b : Nat} {v : Value} {xs : List Int} {n R : Nat} (h : Fi B w b v xs n R) : Byt xs := h.2.2.2.1
theorem Fi.ne {B : Nat} {w : World} {b : Nat} {v : Value} {xs : List Int} {n R : Nat} (h : Fi B w b v xs n R) : v.ownBlock ≠ some b := h.own.far h.1 (by decide)
theorem Fi.nums {B : Nat} {w : World} {b : Nat} {v : Value} {xs : List Int} {n R : Nat} (h : Fi B w b v xs n R) : n ≤ R ∧ xs.length ≤ R ∧ R ≤ 1048576 := h.2.2.2.2
theorem Fi.bs {B : Nat} {w : World} {b : Nat} {v : Value} {xs : List Int} {n R : Nat} (h : Fi B w b v xs n R) : Bs w v xs := h.own.bs h.byt
/-- Where nothing of it is changed. -/
theorem Fi.of_block {B : Nat} {w w' : World} {b : Nat} {v : Value} {xs : List Int} {n R : Nat} (h : Fi B w b v xs n R) (hb : ∀ k, k = b ∨ v.ownBlock = some k → w'.heap[k]? = w.heap[k]?) : Fi B w' b v xs n R :=
  ⟨by rw [hb b (.inl rfl)]; exact h.1, h.2.1, h.own.of_block (fun k hk => hb k (.inr hk)), h.2.2.2⟩
theorem Fi.below {B : Nat} {w w' : World} {b : Nat} {v : Value} {xs : List Int} {n R : Nat} (h : Fi B w b v xs n R) (hb : Below w.heap.size w w') : Fi B w' b v xs n R :=
  h.of_block (fun k hk => hb.block k (by
    rcases hk with rfl | hk
    · exact h.lt
    · exact (h.own.lt k hk).2))
theorem Fi.drewN {B : Nat} {w : World} {b : Nat} {v : Value} {xs : List Int} {n R : Nat} (h : Fi B w b v xs n R) (m : Nat) : Fi B (w.drewN m) b v xs n R := h
/-- What the walk reads. -/
theorem Fi.cells {B : Nat} {w : World} {b : Nat} {v : Value} {xs : List Int} {n R : Nat} (h : Fi B w b v xs n R) :
    ∃ a c, v = .slice a xs.length c ∧ xs.length ≤ c ∧ w.cell? ⟨b, 0, none⟩ = some (.slice a xs.length c) ∧ w.cell? ⟨b, 1, none⟩ = some (.int .i64 n) ∧ w.cell? ⟨b, 2, none⟩ = some (.int .i64 R) ∧ w.frozen? ⟨b, 0, none⟩ = false ∧ w.frozen? ⟨b, 1, none⟩ = false := by
  obtain ⟨a, c, e, hc⟩ := h.own.form
  refine ⟨a, c, e, hc, ?_, ?_, ?_, frozen_of_row w b 0 _ _ h.1, frozen_of_row w b 1 _ _ h.1⟩
  · rw [cell_of_row w b 0 _ _ _ h.1, ← e]; rfl
  · rw [cell_of_row w b 1 _ _ _ h.1]; rfl
  · rw [cell_of_row w b 2 _ _ _ h.1]; rfl
/-- All that a file's use changes is new. -/
theorem Fx.below {b C : Nat} {v v' : Value} {w w' : World} (h : Fx b v v' w w') (hC : C ≤ w.heap.size) (hb : C ≤ b) (hv : ∀ k, v.ownBlock = some k → C ≤ k) : Below C w w' :=
  h.1.below (fun k hk hs => by
    rcases hs with e | e
    · omega
    · have := hv k e; omega) hC
theorem Fi.fr {B b : Nat} {v v' : Value} {w0 w' : World} {xs : List Int} {n R : Nat} (h : Fi B w0 b v xs n R) (k : Fx b v v' w0 w') (hB : B ≤ w0.heap.size) : Below B w0 w' := k.below hB h.2.1 (fun i hi => (h.own.lt i hi).1)
/-- A store of the row, in a world in which the row was changed alone. -/
theorem Fi.put {B : Nat} {w w' : World} {b : Nat} {v v' : Value} {xs ys : List Int} {n R : Nat} (h : Fi B w b v xs n R) (hown : Ow B w' v' ys) (hfr : Fr (fun k => v.ownBlock = some k) w w') (hy : Byt ys) (hl : ys.length ≤ R)
    (hv : ∀ k, v'.ownBlock = some k → v.ownBlock = some k ∨ w.heap.size ≤ k) : Fi B (w'.setCell ⟨b, 0, none⟩ v') b v' ys n R ∧ Fx b v v' w (w'.setCell ⟨b, 0, none⟩ v') := by
  have hne := h.ne
  have hb' : w'.heap[b]? = some (.cells #[v, .int .i64 n, .int .i64 R] 54 (0, 0)) := by rw [hfr.block b h.lt hne]; exact h.1
  have hne' : v'.ownBlock ≠ some b := by
    intro e
    rcases hv b e with e | e
    · exact hne e
    · have := h.lt; omega
  refine ⟨⟨by rw [heap_setCell_same w' b 0 _ _ v' hb']; simp, h.2.1, ownsRow_setCell_other hown hne' _, hy, h.nums.1, hl, h.nums.2.2⟩, ?_, hv⟩
  exact (hfr.mono (fun k e => .inr e)).trans ((Fr.of_set w' b 0 v').mono (fun k e => .inl e)) (fun _ _ h => h)
/-- A store of how many are synced. -/
theorem Fi.mark {B : Nat} {w : World} {b : Nat} {v : Value} {xs : List Int} {n R : Nat} (h : Fi B w b v xs n R) (m : Nat) (hm : m ≤ R) :
    Fi B (w.setCell ⟨b, 1, none⟩ (.int .i64 m)) b v xs m R ∧ Fx b v v w (w.setCell ⟨b, 1, none⟩ (.int .i64 m)) :=
  ⟨⟨by rw [heap_setCell_same w b 1 _ _ _ h.1]; simp, h.2.1, ownsRow_setCell_other h.own h.ne _, h.byt, hm, h.nums.2.1, h.nums.2.2⟩, (Fr.of_set w b 1 _).mono (fun k e => .inl e), fun _ h => .inl h⟩

/-- What calls on a file answer (an error's number, the bytes, how many are synced). -/
def appS (R : Nat) (ys xs : List Int) (n : Nat) : Int × List Int × Nat := if xs.length + ys.length ≤ R then (0, xs ++ ys, n) else (14, xs, n)
def repS (R : Nat) (ys xs : List Int) (n : Nat) : Int × List Int × Nat := if ys.length ≤ R then (0, ys, ys.length) else (14, xs, n)
def trimS (k : Int) (xs : List Int) (n : Nat) : Int × List Int × Nat := if 0 ≤ k ∧ k ≤ xs.length then (0, xs.take k.toNat, min n k.toNat) else (11, xs, n)
/-- How many a crash leaves. -/
def left (k : Int) (xs : List Int) (n : Nat) : Nat := n + min k.toNat (xs.length - n)
def crashS (k : Int) (xs : List Int) (n : Nat) : Int × List Int × Nat := (0, xs.take (left k xs n), left k xs n)
/-- A call on a file did this. -/
def Fo (B b R : Nat) (v : Value) (w : World) (r : Int × List Int × Nat) (w' : World) : Prop := ∃ v', Fi B w' b v' r.2.1 r.2.2 R ∧ Fx b v v' w w'
theorem Fo.mk {B b R : Nat} {v v' : Value} {w w' : World} {r : Int × List Int × Nat} {xs : List Int} {n : Nat} {z : Int} (h : Fi B w' b v' xs n R) (k : Fx b v v' w w') (hr : r = (z, xs, n)) : Fo B b R v w r w' := by subst hr; exact ⟨v', h, k⟩
def Fe (r : Int × List Int × Nat) (e : Ending) : Prop := e = .returned (.int .i64 r.1)
theorem Fe.mk {r : Int × List Int × Nat} {xs : List Int} {n : Nat} {z : Int} (hr : r = (z, xs, n)) : Fe r (.returned (.int .i64 z)) := by subst hr; rfl

theorem Fe.out {r : Int × List Int × Nat} {xs : List Int} {n : Nat} {z : Int} {e : Ending} (h : Fe r e) (hr : r = (z, xs, n)) : e = .returned (.int .i64 z) := by subst hr; exact h
theorem Fo.out {B b R : Nat} {v : Value} {w w' : World} {r : Int × List Int × Nat} {xs : List Int} {n : Nat} {z : Int} (h : Fo B b R v w r w') (hr : r = (z, xs, n)) : ∃ v', Fi B w' b v' xs n R ∧ Fx b v v' w w' := by subst hr; exact h

set_option maxHeartbeats 1000000 in
theorem sclone_any (v : Value) (xs : List Int) (w : World) (h : Bs w v xs) (hn : xs.length ≤ 140737488355328) :
    Calls Try.prog 33 #[v] w fun e w' => ∃ v', e = .returned v' ∧ Ow w.heap.size w' v' xs ∧ Below w.heap.size w w' := by
  have h' := h
  obtain ⟨a, c, rfl, _⟩ := h
  cases a with
  | none =>
    obtain ⟨rfl, -, rfl⟩ := h'.none_nil
    clear h'
    have q : ∀ (w : World) (n c : Nat), (binOp .eql 32 (.slice none n c) (.slice none 0 0)).run Try.prog w = .ok (.bool true) w := fun _ _ _ => rfl
    go_enter Try.func33, Try.ntmps33
    go_wp2
    go_ret
    exact ⟨_, rfl, Ow.nil _ _, Below.refl _ _⟩
  | some A =>
    have q : ∀ w : World, (binOp .eql 32 (.slice (some A) xs.length c) (.slice none 0 0)).run Try.prog w = .ok (.bool false) w := fun _ => rfl
    have HB := hid h'
    clear h'
    have hown0 : (w.alloc (.cells #[] 5)).ownsRow w.heap.size 5 1 (.slice (some ⟨w.heap.size, 0, none⟩) 0 0) 0 (cs []) := World.ownsRow_made w #[] 0 (Nat.le_refl _) (Nat.zero_le _) rfl
    go_enter Try.func33, Try.ntmps33
    go_wp2_with (at_builtin; refine wpList_append_bs rfl (.tmp 5) (.tmp 6) rfl w.heap.size (.slice (some ⟨w.heap.size, 0, none⟩) 0 0) 0 [] rfl hown0 _ xs rfl (HB.out.below (ba _ _)) (by omega) (by simp) ?_; intro v' w1 hown hgrow _)
    have hb : Below w.heap.size w w1 := (ba w _).grown hgrow (by simp) (by intro k hk; simp [Value.ownBlock] at hk; omega)
    have hO : Ow w.heap.size w1 v' xs := by simpa [Ow] using hown
    clear hown hgrow hown0
    go_wp2
    go_ret
    exact ⟨_, rfl, hO, hb⟩

end Go.Proofs.Ytiimhenapfejmaa

/-
  What a file's Room, Size, Synced, Sync, Append, Replace and Bytes do is proved here, for all files and bytes.
-/
namespace Go.Proofs.Ytiimhenapfejmaa
open Go.RowKit
set_option linter.unusedVariables false
set_option maxRecDepth 100000

section
variable {B : Nat} {w : World} {b : Nat} {v : Value} {xs : List Int} {n R : Nat}

set_option maxHeartbeats 1000000 in
theorem room_any (h : Fi B w b v xs n R) : Calls Try.prog 23 #[.pointer (some ⟨b, 0, none⟩)] w fun e w' => e = .returned (.int .i64 ((R : Int) - xs.length)) ∧ ∃ m, w' = w.drewN m := by
  obtain ⟨hn, hl, hR⟩ := h.nums
  obtain ⟨a, c, rfl, hc, c0, c1, c2, -, -⟩ := h.cells
  clear h
  go_enter Try.func23, Try.ntmps23
  go_wp2
  go_quiet (fail)
  go_wp2
  go_ret
  exact ⟨rfl, _, rfl⟩

set_option maxHeartbeats 1000000 in
theorem size_any (h : Fi B w b v xs n R) : Calls Try.prog 21 #[.pointer (some ⟨b, 0, none⟩)] w fun e w' => e = .returned (.int .i64 xs.length) ∧ w = w' := by
  obtain ⟨a, c, rfl, hc, c0, c1, c2, -, -⟩ := h.cells
  clear h
  go_enter Try.func21, Try.ntmps21
  go_wp2
  go_ret
  exact ⟨rfl, rfl⟩

set_option maxHeartbeats 1000000 in
theorem synced_any (h : Fi B w b v xs n R) : Calls Try.prog 22 #[.pointer (some ⟨b, 0, none⟩)] w fun e w' => e = .returned (.int .i64 n) ∧ w = w' := by
  obtain ⟨a, c, rfl, hc, c0, c1, c2, -, -⟩ := h.cells
  clear h
  go_enter Try.func22, Try.ntmps22
  go_wp2
  go_ret
  exact ⟨rfl, rfl⟩

set_option maxHeartbeats 1000000 in
theorem sync_any (h : Fi B w b v xs n R) : Calls Try.prog 30 #[.pointer (some ⟨b, 0, none⟩)] w fun e w' => e = .returned (.tuple #[]) ∧ Fi B w' b v xs xs.length R ∧ Fx b v v w w' := by
  have HF := hid h
  obtain ⟨a, c, rfl, hc, c0, c1, c2, f0, f1⟩ := h.cells
  clear h
  go_enter Try.func30, Try.ntmps30
  go_wp2
  go_end0
  exact ⟨rfl, HF.out.mark _ HF.out.nums.2.1⟩

set_option maxHeartbeats 1000000 in
theorem bytes_any (h : Fi B w b v xs n R) : Calls Try.prog 19 #[.pointer (some ⟨b, 0, none⟩)] w fun e w' => ∃ v', e = .returned v' ∧ Ow w.heap.size w' v' xs ∧ Below w.heap.size w w' := by
  have HF := hid h
  obtain ⟨hn, hl, hR⟩ := h.nums
  obtain ⟨a, c, rfl, hc, c0, c1, c2, -, -⟩ := h.cells
  clear h
  go_enter Try.func19, Try.ntmps19
  go_wp2_with fail
  refine (sclone_any _ xs w HF.out.bs (by omega)).mono ?_
  rintro e w1 ⟨v1, rfl, hO, hb⟩
  have HO := hid hO
  have HB := hid hb
  clear hO hb
  go_wp2
  go_ret
  exact ⟨_, rfl, HO.out, HB.out⟩

set_option maxHeartbeats 2000000 in
theorem fappend_any (hB : B ≤ w.heap.size) (h : Fi B w b v xs n R) (u : Value) (ys : List Int) (hu : Bs w u ys) :
    Calls Try.prog 29 #[.pointer (some ⟨b, 0, none⟩), u] w fun e w' =>
      Fe (appS R ys xs n) e ∧ Fo B b R v w (appS R ys xs n) w' := by
  have HF := hid h
  have HU := hid hu
  obtain ⟨hn, hl, hR⟩ := h.nums
  have hm := hu.len
  unfold maxLen at hm
  obtain ⟨ua, uc, rfl⟩ := hu.form
  obtain ⟨N, hN⟩ : ∃ N, xs.length = N := ⟨_, rfl⟩
  obtain ⟨M, hM⟩ : ∃ M, ys.length = M := ⟨_, rfl⟩
  have HN := hid hN
  have HM := hid hM
  by_cases hlt : (R : Int) - N < M
  · rw [hN] at hl
    rw [hM] at hm ⊢
    clear h hu hN hM
    go_enter Try.func29, Try.ntmps29
    go_wp2_with fail
    refine (room_any HF.out).mono ?_
    rintro e w1 ⟨rfl, m, rfl⟩
    rw [HN.out]
    go_wp2
    go_ret
    have hr : appS R ys xs n = (14, xs, n) := if_neg (by rw [HN.out, HM.out]; omega)
    exact ⟨Fe.mk hr, Fo.mk (HF.out.drewN _) (Fx.of_below (bd _ _)) hr⟩
  · have hlt' : ¬ (R : Int) - N < M := hlt
    have hle : N + M ≤ R := by omega
    obtain ⟨a, c, rfl, hc, c0, c1, c2, f0, f1⟩ := h.cells
    have HO := hid h.own
    rw [hN] at hl hc c0 HO HF ⊢
    rw [hM] at hm HU ⊢
    clear h hu hN hM
    go_enter Try.func29, Try.ntmps29
    go_wp2_with fail
    refine (room_any HF.out).mono ?_
    rintro e w1 ⟨rfl, m, rfl⟩
    rw [HN.out]
    go_wp2_with (at_builtin; refine wpList_append_bs rfl (.tmp 14) (.tmp 15) rfl B (.slice a N c) N xs rfl ?c0 _ ys rfl ?c1 ?c2 ?c3 ?_)
    case c0 => have := HO.out; rw [Ow, HN.out] at this; exact this
    case c1 => exact HU.out
    case c2 => rw [HM.out]; omega
    case c3 => exact hB
    intro v1 w1 hown hgrow hv
    have hO : Ow B w1 v1 (xs ++ ys) := by rw [Ow, List.length_append, HN.out]; simpa [cs] using hown
    have hP := HF.out.put (w' := w1) (v' := v1) (ys := xs ++ ys) hO (Fr.of_grown (World.grownBy.of_drewN hgrow) (fun k hk => hk)) (HF.out.byt.append HU.out.range) (by rw [List.length_append, HN.out, HM.out]; omega) (fun k hk => by
      rcases hv with e | e
      · exact .inl (by rw [← e]; exact hk)
      · rw [e] at hk; simp at hk; exact .inr (by rw [← hk]; exact Nat.le_refl _))
    have HP := hid hP
    have qb := hgrow.block b HF.out.lt (Ne.symm HF.out.ne)
    have q1 : w1.frozen? ⟨b, 0, none⟩ = false := (World.frozen?_of_block (a := ⟨b, 0, none⟩) qb).trans f0
    have q2 : w1.cell? ⟨b, 0, none⟩ = some (.slice a N c) := (World.cell?_of_block (a := ⟨b, 0, none⟩) qb).trans c0
    clear qb
    obtain ⟨a1, k1, rfl, -⟩ := hO.form
    clear hown hgrow hv hO hP c0 c1 c2 f0 f1
    go_wp2
    go_ret
    have hr : appS R ys xs n = (0, xs ++ ys, n) := if_pos (by rw [HN.out, HM.out]; omega)
    have hP := HP.out
    rw [List.length_append] at hP
    exact ⟨Fe.mk hr, Fo.mk hP.1 hP.2 hr⟩

set_option maxHeartbeats 2000000 in
theorem freplace_any (hB : B ≤ w.heap.size) (h : Fi B w b v xs n R) (u : Value) (ys : List Int) (hu : Bs w u ys) :
    Calls Try.prog 31 #[.pointer (some ⟨b, 0, none⟩), u] w fun e w' =>
      Fe (repS R ys xs n) e ∧ Fo B b R v w (repS R ys xs n) w' := by
  have HF := hid h
  have HU := hid hu
  obtain ⟨hn, hl, hR⟩ := h.nums
  have hm := hu.len
  unfold maxLen at hm
  obtain ⟨ua, uc, rfl⟩ := hu.form
  obtain ⟨a, c, rfl, hc, c0, c1, c2, f0, f1⟩ := h.cells
  obtain ⟨M, hM⟩ : ∃ M, ys.length = M := ⟨_, rfl⟩
  have HM := hid hM
  rw [hM] at hm HU ⊢
  clear h hu hM
  by_cases hlt : (R : Int) < M
  · go_enter Try.func31, Try.ntmps31
    go_wp2
    go_ret
    have hr : repS R ys xs n = (14, xs, n) := if_neg (by rw [HM.out]; omega)
    exact ⟨Fe.mk hr, Fo.mk HF.out (Fx.refl _ _ _) hr⟩
  · have hlt' : ¬ (R : Int) < M := hlt
    go_enter Try.func31, Try.ntmps31
    go_wp2_with fail
    refine (sclone_any _ ys w HU.out (by rw [HM.out]; omega)).mono ?_
    rintro e w1 ⟨v1, rfl, hO, hb⟩
    have hF : ∀ k, v1.ownBlock = some k → w.heap.size ≤ k := fun k hk => (hO.lt k hk).1
    have hP := HF.out.put (w' := w1) (v' := v1) (ys := ys) (n := n) (hO.mono hB) (Fr.of_below hb) HU.out.range (by rw [HM.out]; omega) (fun k hk => .inr (hF k hk))
    have HP := hid hP
    have q1 : w1.frozen? ⟨b, 0, none⟩ = false := (World.frozen?_of_block (a := ⟨b, 0, none⟩) (hb.block b HF.out.lt)).trans f0
    have q2 : w1.cell? ⟨b, 0, none⟩ = some (.slice a xs.length c) := (World.cell?_of_block (a := ⟨b, 0, none⟩) (hb.block b HF.out.lt)).trans c0
    obtain ⟨a1, k1, rfl, -⟩ := hO.form
    clear hO hb hF hP c0 c1 c2 f0 f1
    go_wp2_with fail
    refine (sync_any HP.out.1).mono ?_
    rintro e w2 ⟨rfl, hF2, hX2⟩
    have HF2 := hid hF2
    have HX2 := hid hX2
    clear hF2 hX2
    go_wp2
    go_ret
    have hr : repS R ys xs n = (0, ys, ys.length) := if_pos (by rw [HM.out]; omega)
    exact ⟨Fe.mk hr, Fo.mk HF2.out (HP.out.2.trans HX2.out) hr⟩
end
end Go.Proofs.Ytiimhenapfejmaa

/-
  What file.Load and file.New return is proved here, for all rooms and bytes.
-/
namespace Go.Proofs.Ytiimhenapfejmaa
open Go.RowKit
set_option linter.unusedVariables false
set_option maxRecDepth 100000

/-- A file that is new. -/
theorem Fi.new (w : World) (R : Nat) (hR : R ≤ 1048576) : Fi w.heap.size (w.alloc (.cells #[.slice none 0 0, .int .i64 0, .int .i64 R] 54 (0, 0))) w.heap.size (.slice none 0 0) [] 0 R :=
  ⟨heap_alloc_new w _, Nat.le_refl _, Ow.nil _ _, Byt.nil, Nat.zero_le _, Nat.zero_le _, hR⟩

/-- Which error there is. -/
def loadE (m : Nat) (R : Int) : Int := if R < 0 ∨ 1048576 < R then 11 else if R < m then 14 else 0

section
variable {w : World}

set_option maxHeartbeats 2000000 in
theorem load_bad (u : Value) (R : Int) (h : R < 0 ∨ 1048576 < R) : Calls Try.prog 25 #[u, .int .i64 R] w fun e w' => e = .returned (.tuple #[.pointer none, .int .i64 11]) ∧ w = w' := by
  by_cases h1 : R < 0
  · go_enter Try.func25, Try.ntmps25
    go_wp2
    go_ret2
    exact ⟨rfl, rfl⟩
  · have h1' : decide (R < 0) = false := by simp; omega
    have h2 : (1048576 : Int) < R := by omega
    go_enter Try.func25, Try.ntmps25
    go_wp2
    go_ret2
    exact ⟨rfl, rfl⟩

set_option maxHeartbeats 2000000 in
theorem load_full (u : Value) (ys : List Int) (R : Nat) (hR : R ≤ 1048576) (hu : Bs w u ys) (h : R < ys.length) : Calls Try.prog 25 #[u, .int .i64 R] w fun e w' => e = .returned (.tuple #[.pointer none, .int .i64 14]) ∧ Below w.heap.size w w' := by
  have HF := hid (Fi.new w R hR)
  have HU := hid (hu.below (ba w (.cells #[.slice none 0 0, .int .i64 0, .int .i64 R] 54 (0, 0))))
  have hr : repS R ys [] 0 = (14, [], 0) := if_neg (by omega)
  have HR := hid hr
  obtain ⟨ua, uc, rfl⟩ := hu.form
  have h1 : decide ((R : Int) < 0) = false := by simp
  have h2 : decide ((1048576 : Int) < (R : Int)) = false := by simp; omega
  clear hr hu
  go_enter Try.func25, Try.ntmps25
  go_wp2_with fail
  refine (freplace_any (by simp) HF.out _ ys HU.out).mono ?_
  rintro e w1 ⟨he, hf⟩
  obtain rfl := he.out HR.out
  obtain ⟨v1, hf1, hx1⟩ := hf.out HR.out
  have HX := hid hx1
  clear hf1 hx1 he hf
  go_wp2
  go_ret2
  exact ⟨rfl, (ba w _).trans (HF.out.fr HX.out (by simp))⟩

set_option maxHeartbeats 2000000 in
theorem load_ok (u : Value) (ys : List Int) (R : Nat) (hR : R ≤ 1048576) (hu : Bs w u ys) (h : ys.length ≤ R) : Calls Try.prog 25 #[u, .int .i64 R] w fun e w' =>
    e = .returned (.tuple #[.pointer (some ⟨w.heap.size, 0, none⟩), .int .i64 0]) ∧ Below w.heap.size w w' ∧ ∃ v, Fi w.heap.size w' w.heap.size v ys ys.length R := by
  have HF := hid (Fi.new w R hR)
  have HU := hid (hu.below (ba w (.cells #[.slice none 0 0, .int .i64 0, .int .i64 R] 54 (0, 0))))
  have hr : repS R ys [] 0 = (0, ys, ys.length) := if_pos h
  have HR := hid hr
  obtain ⟨ua, uc, rfl⟩ := hu.form
  have h1 : decide ((R : Int) < 0) = false := by simp
  have h2 : decide ((1048576 : Int) < (R : Int)) = false := by simp; omega
  clear hr hu
  go_enter Try.func25, Try.ntmps25
  go_wp2_with fail
  refine (freplace_any (by simp) HF.out _ ys HU.out).mono ?_
  rintro e w1 ⟨he, hf⟩
  obtain rfl := he.out HR.out
  obtain ⟨v1, hf1, hx1⟩ := hf.out HR.out
  have HX := hid hx1
  have HF1 := hid hf1
  clear hf1 hx1 he hf
  go_wp2
  go_ret2
  exact ⟨rfl, (ba w _).trans (HF.out.fr HX.out (by simp)), _, HF1.out⟩

set_option maxHeartbeats 2000000 in
theorem new_bad (R : Int) (h : R < 0 ∨ 1048576 < R) : Calls Try.prog 9 #[.int .i64 R] w fun e w' => e = .returned (.tuple #[.pointer none, .int .i64 11]) ∧ w = w' := by
  have H := hid h
  clear h
  go_enter Try.func9, Try.ntmps9
  go_wp2_with fail
  refine (load_bad _ R H.out).mono ?_
  rintro e w1 ⟨rfl, rfl⟩
  go_wp2
  go_ret2
  exact ⟨rfl, rfl⟩

set_option maxHeartbeats 2000000 in
theorem new_ok (R : Nat) (hR : R ≤ 1048576) : Calls Try.prog 9 #[.int .i64 R] w fun e w' =>
    e = .returned (.tuple #[.pointer (some ⟨w.heap.size, 0, none⟩), .int .i64 0]) ∧ Below w.heap.size w w' ∧ ∃ v, Fi w.heap.size w' w.heap.size v [] 0 R := by
  go_enter Try.func9, Try.ntmps9
  go_wp2_with fail
  refine (load_ok _ [] R hR (Bs.nil w) (Nat.zero_le _)).mono ?_
  rintro e w1 ⟨rfl, hb, v, hf⟩
  have HB := hid hb
  have HF := hid hf
  clear hb hf
  go_wp2
  go_ret2
  exact ⟨rfl, HB.out, v, HF.out⟩
end
end Go.Proofs.Ytiimhenapfejmaa

/-
  What a file's Trim and Crash do, and what file.Load and file.New return, is proved here, for all files, numbers and bytes.
-/
namespace Go.Proofs.Ytiimhenapfejmaa
open Go.RowKit
set_option linter.unusedVariables false
set_option maxRecDepth 100000

section
variable {B : Nat} {w : World} {b : Nat} {v : Value} {xs : List Int} {n R : Nat}

set_option maxHeartbeats 2000000 in
theorem ftrim_any (h : Fi B w b v xs n R) (k : Int) :
    Calls Try.prog 32 #[.pointer (some ⟨b, 0, none⟩), .int .i64 k] w fun e w' =>
      Fe (trimS k xs n) e ∧ Fo B b R v w (trimS k xs n) w' := by
  have HF := hid h
  obtain ⟨hn, hl, hR⟩ := h.nums
  obtain ⟨a, c, rfl, hc, c0, c1, c2, f0, f1⟩ := h.cells
  obtain ⟨N, hN⟩ : ∃ N, xs.length = N := ⟨_, rfl⟩
  have HN := hid hN
  rw [hN] at hl hc c0 HF ⊢
  clear h hN
  by_cases h1 : k < 0
  · go_enter Try.func32, Try.ntmps32
    go_wp2
    go_ret
    have hr : trimS k xs n = (11, xs, n) := if_neg (by rw [HN.out]; omega)
    exact ⟨Fe.mk hr, Fo.mk HF.out (Fx.refl _ _ _) hr⟩
  · have h1' : decide (k < 0) = false := by simp; omega
    by_cases h2 : (N : Int) < k
    · go_enter Try.func32, Try.ntmps32
      go_wp2
      go_ret
      have hr : trimS k xs n = (11, xs, n) := if_neg (by rw [HN.out]; omega)
      exact ⟨Fe.mk hr, Fo.mk HF.out (Fx.refl _ _ _) hr⟩
    · have h2' : decide ((N : Int) < k) = false := by simp; omega
      obtain ⟨m, rfl⟩ : ∃ m : Nat, k = m := ⟨k.toNat, by omega⟩
      have hm : m ≤ N := by omega
      go_enter Try.func32, Try.ntmps32
      go_wp2
      all_goals go_ret
      all_goals
        have hr : trimS (m : Int) xs n = (0, xs.take m, min n m) := if_pos ⟨by omega, by rw [HN.out]; omega⟩
        have hP := HF.out.put (w' := w) (v' := .slice a m c) (ys := xs.take m) (HF.out.own.take m (by rw [HN.out]; exact hm)) (Fr.refl _ _) (HF.out.byt.take m) (by rw [List.length_take, HN.out]; omega) (fun k hk => .inl (by cases a <;> exact hk))
        have hQ := hP.1.mark (min n m) (by omega)
        refine ⟨Fe.mk hr, Fo.mk (v' := .slice a m c) ?_ ?_ hr⟩
      · rw [show ((m : Nat) : Int) = ((min n m : Nat) : Int) by omega]; exact hQ.1
      · rw [show ((m : Nat) : Int) = ((min n m : Nat) : Int) by omega]; exact hP.2.trans hQ.2
      · rw [show ((n : Nat) : Int) = ((min n m : Nat) : Int) by omega]; exact hQ.1
      · rw [show ((n : Nat) : Int) = ((min n m : Nat) : Int) by omega]; exact hP.2.trans hQ.2

set_option maxHeartbeats 2000000 in
theorem fcrash_any (h : Fi B w b v xs n R) (hx : n ≤ xs.length) (k : Int) :
    Calls Try.prog 27 #[.pointer (some ⟨b, 0, none⟩), .int .i64 k] w fun e w' =>
      e = .returned (.tuple #[]) ∧ Fo B b R v w (crashS k xs n) w' := by
  have HF := hid h
  obtain ⟨hn, hl, hR⟩ := h.nums
  obtain ⟨a, c, rfl, hc, c0, c1, c2, f0, f1⟩ := h.cells
  obtain ⟨N, hN⟩ : ∃ N, xs.length = N := ⟨_, rfl⟩
  have HN := hid hN
  rw [hN] at hl hx hc c0 HF ⊢
  clear h hN
  by_cases h1 : k < 0
  · have HJ : Hid (left k xs n = n) := by
      show left k xs n = n
      unfold left; omega
    have h2 : ¬ (N : Int) - n < 0 := by omega
    go_enter Try.func27, Try.ntmps27
    go_wp2
    go_region
    go_wp2
    go_region
    all_goals
      have hP := HF.out.put (w' := w) (v' := .slice a (n) c) (ys := xs.take (n)) (HF.out.own.take (n) (by rw [HN.out]; omega)) (Fr.refl _ _) (HF.out.byt.take (n)) (by rw [List.length_take, HN.out]; omega) (fun k hk => .inl (by cases a <;> exact hk))
      have HP := hid hP
      clear hP
      go_wp2_with fail
      refine (sync_any (HP.out.1.drewN 2)).mono ?_
      rintro e w2 ⟨rfl, hF2, hX2⟩
      have HF2 := hid hF2
      have HX2 := hid hX2
      clear hF2 hX2
      go_wp2
      go_end0
      have hr : crashS k xs n = (0, xs.take (n), n) := by unfold crashS; rw [HJ.out]
      have hl2 : (xs.take (n)).length = n := by rw [List.length_take, HN.out]; omega
      have hF := HF2.out
      rw [hl2] at hF
      exact ⟨rfl, Fo.mk hF ((HP.out.2.drewN 2).trans HX2.out) hr⟩
  · obtain ⟨m, rfl⟩ : ∃ m : Nat, k = m := ⟨k.toNat, by omega⟩
    have h1' : ¬ (m : Int) < 0 := h1
    by_cases h2 : (N : Int) - n < m
    · have HJ : Hid (left (m : Int) xs n = N) := by
        show left (m : Int) xs n = N
        unfold left; rw [HN.out]; omega
      have h3 : (n : Int) + (N - n) = N := by omega
      go_enter Try.func27, Try.ntmps27
      go_wp2
      go_region
      go_wp2
      go_region
      all_goals
        have hP := HF.out.put (w' := w) (v' := .slice a (N) c) (ys := xs.take (N)) (HF.out.own.take (N) (by rw [HN.out]; omega)) (Fr.refl _ _) (HF.out.byt.take (N)) (by rw [List.length_take, HN.out]; omega) (fun k hk => .inl (by cases a <;> exact hk))
        have HP := hid hP
        clear hP
        go_wp2_with fail
        refine (sync_any (HP.out.1.drewN 2)).mono ?_
        rintro e w2 ⟨rfl, hF2, hX2⟩
        have HF2 := hid hF2
        have HX2 := hid hX2
        clear hF2 hX2
        go_wp2
        go_end0
        have hr : crashS (m : Int) xs n = (0, xs.take (N), N) := by unfold crashS; rw [HJ.out]
        have hl2 : (xs.take (N)).length = N := by rw [List.length_take, HN.out]; omega
        have hF := HF2.out
        rw [hl2] at hF
        exact ⟨rfl, Fo.mk hF ((HP.out.2.drewN 2).trans HX2.out) hr⟩
    · have HJ : Hid (left (m : Int) xs n = n + m) := by
        show left (m : Int) xs n = n + m
        unfold left; rw [HN.out]; omega
      have h2' : ¬ (N : Int) - n < m := h2
      have h3 : n + m ≤ N := by omega
      go_enter Try.func27, Try.ntmps27
      go_wp2
      go_region
      go_wp2
      go_region
      all_goals
        have hP := HF.out.put (w' := w) (v' := .slice a (n + m) c) (ys := xs.take (n + m)) (HF.out.own.take (n + m) (by rw [HN.out]; omega)) (Fr.refl _ _) (HF.out.byt.take (n + m)) (by rw [List.length_take, HN.out]; omega) (fun k hk => .inl (by cases a <;> exact hk))
        have HP := hid hP
        clear hP
        go_wp2_with fail
        refine (sync_any (HP.out.1.drewN 2)).mono ?_
        rintro e w2 ⟨rfl, hF2, hX2⟩
        have HF2 := hid hF2
        have HX2 := hid hX2
        clear hF2 hX2
        go_wp2
        go_end0
        have hr : crashS (m : Int) xs n = (0, xs.take (n + m), n + m) := by unfold crashS; rw [HJ.out]
        have hl2 : (xs.take (n + m)).length = n + m := by rw [List.length_take, HN.out]; omega
        have hF := HF2.out
        rw [hl2] at hF
        exact ⟨rfl, Fo.mk hF ((HP.out.2.drewN 2).trans HX2.out) hr⟩

end
end Go.Proofs.Ytiimhenapfejmaa

/-
  Plain mathematics of numbers as bytes: how many bytes a number takes, which ones, and back. Nothing of the program is imported.
-/
namespace Go.Proofs.Ytiimhenapfejmaa.M

theorem ipow_le (a : Nat) {b c : Nat} (ha : 0 < a) (h : b ≤ c) : (a : Int) ^ b ≤ (a : Int) ^ c := by
  have := Nat.pow_le_pow_right ha h
  rw [← Int.natCast_pow, ← Int.natCast_pow]
  omega
theorem pow2_le {b c : Nat} (h : b ≤ c) : (2 : Int) ^ b ≤ 2 ^ c := ipow_le 2 (by decide) h
theorem pow256_le {b c : Nat} (h : b ≤ c) : (256 : Int) ^ b ≤ 256 ^ c := ipow_le 256 (by decide) h

/-- With c bytes the numbers below it can be told. -/
def bd (c : Nat) : Int := 128 ^ c

/-- How many bytes a number takes. -/
def sz (n : Int) : Nat :=
  if n < 128 then 1 else if n < 16384 then 2 else if n < 2097152 then 3 else if n < 268435456 then 4 else if n < 34359738368 then 5 else if n < 4398046511104 then 6 else 7

theorem sz_pos (n : Int) : 1 ≤ sz n ∧ sz n ≤ 7 := by unfold sz; constructor <;> (repeat' split) <;> omega

theorem sz_of {n : Int} {k : Nat} (h1 : 1 ≤ k) (h7 : k ≤ 7) (hl : k = 1 ∨ bd (k - 1) ≤ n) (hu : k = 7 ∨ n < bd k) : sz n = k := by
  have : k = 1 ∨ k = 2 ∨ k = 3 ∨ k = 4 ∨ k = 5 ∨ k = 6 ∨ k = 7 := by omega
  unfold bd at hl hu
  rcases this with rfl | rfl | rfl | rfl | rfl | rfl | rfl <;> simp at hl hu <;> unfold sz <;> (repeat' split) <;> omega

/-- The lowest k bytes of a number, the highest first. -/
def be : Nat → Int → List Int
  | 0, _ => []
  | k + 1, n => (n / 256 ^ k) % 256 :: be k n

theorem be_length (k : Nat) (n : Int) : (be k n).length = k := by
  induction k with
  | zero => rfl
  | succ k ih => simp [be, ih]

theorem be_byte (k : Nat) (n : Int) : ∀ x ∈ be k n, 0 ≤ x ∧ x < 256 := by
  induction k with
  | zero => intro x hx; cases hx
  | succ k ih =>
    intro x hx
    simp only [be, List.mem_cons] at hx
    rcases hx with rfl | hx
    · exact ⟨Int.emod_nonneg _ (by decide), Int.emod_lt_of_pos _ (by decide)⟩
    · exact ih x hx

/-- What is added to the first of k bytes. -/
def mask (k : Nat) : Int := 256 - 2 ^ (9 - k)

/-- A number's bytes, k of them. -/
def encK (k : Nat) (n : Int) : List Int :=
  match be k n with
  | [] => []
  | x :: r => (x + mask k) :: r

/-- A number's bytes. -/
def enc (n : Int) : List Int := encK (sz n) n

theorem pow_le_of {j : Nat} {n : Int} (h : sz n = j) (hn : n < 562949953421312) : n < 128 ^ j := by
  subst h
  unfold sz
  (repeat' split) <;> simp <;> omega

/-- The highest byte leaves room for what is added to it. -/
theorem be_head {j : Nat} {n x : Int} {r : List Int} (h0 : 0 ≤ n) (hn : n < 562949953421312) (hj : sz n = j) (hx : be j n = x :: r) : 0 ≤ x ∧ x < 2 ^ (8 - j) := by
  have h1 := sz_pos n
  have h2 := pow_le_of hj hn
  rw [hj] at h1
  have : j = 1 ∨ j = 2 ∨ j = 3 ∨ j = 4 ∨ j = 5 ∨ j = 6 ∨ j = 7 := by omega
  rcases this with rfl | rfl | rfl | rfl | rfl | rfl | rfl <;> simp [be] at hx h2 ⊢ <;> omega

theorem enc_byte (n : Int) (h0 : 0 ≤ n) (hn : n < 562949953421312) : ∀ x ∈ enc n, 0 ≤ x ∧ x < 256 := by
  unfold enc encK
  have h1 := sz_pos n
  have hb := be_byte (sz n) n
  obtain ⟨j, hj⟩ : ∃ j, sz n = j := ⟨_, rfl⟩
  rw [hj] at hb h1 ⊢
  split
  · intro x hx; cases hx
  · rename_i y r hx
    have hh := be_head h0 hn hj hx
    rw [hx] at hb
    intro x hm
    simp only [List.mem_cons] at hm
    rcases hm with rfl | hm
    · have : j = 1 ∨ j = 2 ∨ j = 3 ∨ j = 4 ∨ j = 5 ∨ j = 6 ∨ j = 7 := by omega
      unfold mask
      rcases this with rfl | rfl | rfl | rfl | rfl | rfl | rfl <;> simp at hh ⊢ <;> omega
    · exact hb x (by simp [hm])

def right (n : Int) : Bool := decide (0 ≤ n ∧ n < 562949953421312)

theorem encK_length (k : Nat) (n : Int) : (encK k n).length = k := by
  unfold encK
  have := be_length k n
  split
  · rename_i h; rw [h] at this; exact this
  · rename_i h; rw [h] at this; simpa using this

theorem enc_length (n : Int) : (enc n).length = sz n := encK_length _ _

/-- How many bytes a number has whose first byte is b (8 and 9: none has). -/
def cnt (b : Int) : Nat :=
  if b < 128 then 1 else if b < 192 then 2 else if b < 224 then 3 else if b < 240 then 4 else if b < 248 then 5 else if b < 252 then 6 else if b < 254 then 7 else if b < 255 then 8 else 9

theorem cnt_pos (b : Int) : 1 ≤ cnt b ∧ cnt b ≤ 9 := by unfold cnt; constructor <;> (repeat' split) <;> omega

/-- Bytes behind a number, the highest first. -/
def fold (n : Int) (l : List Int) : Int := l.foldl (fun n x => n * 256 + x) n

/-- The number that bytes begin with, and how many of them it takes. -/
def first : List Int → Option (Int × Nat)
  | [] => none
  | b :: r => if 7 < cnt b ∨ r.length + 1 < cnt b then none else
      if sz (fold (b % 2 ^ (8 - cnt b)) (r.take (cnt b - 1))) = cnt b then some (fold (b % 2 ^ (8 - cnt b)) (r.take (cnt b - 1)), cnt b) else none

/-- The three answers of 'first'. -/
def fn (xs : List Int) : Int := match first xs with | some p => p.1 | none => 0
def fc (xs : List Int) : Nat := match first xs with | some p => p.2 | none => 0
def fo (xs : List Int) : Bool := (first xs).isSome

theorem fo_spec {xs : List Int} (h : fo xs = true) : 1 ≤ fc xs ∧ fc xs ≤ xs.length ∧ sz (fn xs) = fc xs := by
  unfold fo at h
  cases xs with
  | nil => simp [first] at h
  | cons b r =>
    by_cases h1 : 7 < cnt b ∨ r.length + 1 < cnt b
    · simp [first, h1] at h
    · by_cases h2 : sz (fold (b % 2 ^ (8 - cnt b)) (r.take (cnt b - 1))) = cnt b
      · have e : first (b :: r) = some (fold (b % 2 ^ (8 - cnt b)) (r.take (cnt b - 1)), cnt b) := by rw [first, if_neg h1, if_pos h2]
        simp only [fn, fc, e]
        have := cnt_pos b
        exact ⟨by omega, by simp; omega, h2⟩
      · simp [first, h1, h2] at h

/-- What a cursor over xs answers, and what it is then over: the next number .. -/
def numOk (most : Int) (xs : List Int) : Bool := fo xs && decide (fn xs ≤ most)
def numV (most : Int) (xs : List Int) : Int := if numOk most xs then fn xs else 0
def numS (most : Int) (xs : List Int) : List Int := if numOk most xs then xs.drop (fc xs) else []
def numL (most : Int) (xs : List Int) (lost : Bool) : Bool := if numOk most xs then lost else true
/-- .. so many next bytes. -/
def takeOk (n : Int) (xs : List Int) : Bool := decide (0 ≤ n ∧ n ≤ xs.length)
def takeV (n : Int) (xs : List Int) : List Int := if takeOk n xs then xs.take n.toNat else []
def takeS (n : Int) (xs : List Int) : List Int := if takeOk n xs then xs.drop n.toNat else []
def takeL (n : Int) (xs : List Int) (lost : Bool) : Bool := if takeOk n xs then lost else true
/-- Bytes as a text. -/
def str (xs : List Int) : ByteArray := xs.foldl (fun r n => r.push (UInt8.ofNat n.toNat)) ByteArray.empty

theorem fold_bound (m : Int) (l : List Int) (hl : ∀ x ∈ l, 0 ≤ x ∧ x < 256) : ∀ n : Int, 0 ≤ n → n < m → 0 ≤ fold n l ∧ fold n l < m * 256 ^ l.length := by
  induction l generalizing m with
  | nil => intro n h0 h1; simpa [fold] using ⟨h0, h1⟩
  | cons x r ih =>
    intro n h0 h1
    have hx := hl x (by simp)
    have := ih (m * 256) (fun y hy => hl y (by simp [hy])) (n * 256 + x) (by omega) (by omega)
    simp only [fold, List.foldl_cons, List.length_cons] at this ⊢
    rw [Int.pow_succ, Int.mul_comm (256 ^ r.length) 256, ← Int.mul_assoc]
    exact this

theorem fold_snoc (n : Int) (l : List Int) (x : Int) : fold n (l ++ [x]) = fold n l * 256 + x := by simp [fold]

end Go.Proofs.Ytiimhenapfejmaa.M

/-
  What a conversion of bytes to a text comes to, for all slices that read as bytes.
-/
namespace Go.Proofs.Ytiimhenapfejmaa
open Go.RowKit
set_option linter.unusedVariables false
set_option maxRecDepth 100000

/-- A conversion of bytes to a text. -/
theorem conv_str {w : World} {v : Value} {xs : List Int} (h : Bs w v xs) : (convert 32 9 v).run Try.prog w = .ok (.string (M.str xs)) w := by
  have h' := h
  obtain ⟨a, c, rfl, _⟩ := h
  rw [run_convert_bytes_string w 32 9 5 a xs.length c Try.underlying32 Try.underlying5 Try.underlying9]
  cases a with
  | none =>
    have hx : xs.length = 0 := by
      obtain ⟨a', c', h1, h2, _, h4, _⟩ := h'
      simp only [Value.slice.injEq] at h1
      have := h4 h1.1.symm
      omega
    have e1 : xs = [] := List.eq_nil_of_length_eq_zero hx
    subst e1
    rfl
  | some A =>
    have hl := run_loadCells_list (P := Try.prog) w A (cs xs) (cells_at h')
    rw [List.length_map] at hl
    rw [run_bytesToString w A xs.length c xs hl]
    rfl

end Go.Proofs.Ytiimhenapfejmaa
