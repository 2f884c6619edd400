/-
  How a function's results are read where the first is two numbers in a block of their own.
-/
import Derived.Test.YtbcodkokacpioaaDoorSClk
namespace Go.Proofs.YtbcodkokacpioaaDoor
open Go.RowKit
set_option linter.unusedVariables false

theorem loadVar_id {w : World} {s : Nat} {r n : Int} (h : Pr 23 w s r n) : (loadVar 23 ⟨s, 0, none⟩).run Tryd.prog w = .ok (idv r n) w := by
  have c0 := h.c0
  have c1 := h.c1
  simp [loadVar, go_sem, c0, c1]
theorem results_id3 {fn : Func} {p u v : Tmp} (h : fn.results = #[.cell p 23, .tmp u, .tmp v]) (tmps : Array Value) (w : World) {s : Nat} {r n : Int} (hp : tmps.getD p undef = .pointer (some ⟨s, 0, none⟩)) (hs : Pr 23 w s r n) :
    (results fn tmps).run Tryd.prog w = .ok (.tuple #[idv r n, tmps.getD u undef, tmps.getD v undef]) w := by
  have hl := loadVar_id hs
  have hp' : tmps[p]?.getD undef = .pointer (some ⟨s, 0, none⟩) := by simpa using hp
  simp [results, h, hp', asAddr, hl]
theorem results_id2 {fn : Func} {p u : Tmp} (h : fn.results = #[.cell p 23, .tmp u]) (tmps : Array Value) (w : World) {s : Nat} {r n : Int} (hp : tmps.getD p undef = .pointer (some ⟨s, 0, none⟩)) (hs : Pr 23 w s r n) :
    (results fn tmps).run Tryd.prog w = .ok (.tuple #[idv r n, tmps.getD u undef]) w := by
  have hl := loadVar_id hs
  have hp' : tmps[p]?.getD undef = .pointer (some ⟨s, 0, none⟩) := by simpa using hp
  simp [results, h, hp', asAddr, hl]

/-- Below block number B the world is as it was, but for block b. -/
structure Gb (B b : Nat) (w w' : World) : Prop where
  os : w'.os = w.os
  tape : w'.tape = w.tape
  output : w'.output = w.output
  size : w.heap.size ≤ w'.heap.size
  block : ∀ k, k < B → k ≠ b → w'.heap[k]? = w.heap[k]?
theorem Gb.refl (B b : Nat) (w : World) : Gb B b w w := ⟨rfl, rfl, rfl, Nat.le_refl _, fun _ _ _ => rfl⟩
theorem Gb.below {B b : Nat} {a w w' : World} (h : Gb B b a w) (k : Below w.heap.size w w') (hB : B ≤ w.heap.size) : Gb B b a w' :=
  ⟨k.os.trans h.os, k.tape.trans h.tape, k.output.trans h.output, Nat.le_trans h.size k.size, fun i hi hn => (k.block i (by omega)).trans (h.block i hi hn)⟩
theorem Gb.grown {B b : Nat} {a w w' : World} (h : Gb B b a w) (k : w.grownBy w' (some b)) (hB : B ≤ w.heap.size) : Gb B b a w' :=
  ⟨k.os.trans h.os, k.tape.trans h.tape, k.output.trans h.output, Nat.le_trans h.size k.size, fun i hi hn => (k.block i (by omega) (by simpa using hn)).trans (h.block i hi hn)⟩
theorem Gb.set {B b : Nat} {a w : World} (h : Gb B b a w) {s : Nat} (hs : B ≤ s) (i : Nat) (v : Value) : Gb B b a (w.setCell ⟨s, i, none⟩ v) :=
  ⟨h.os, h.tape, h.output, by simpa [World.setCell] using h.size, fun k hk hn => (heap_setCell_other w ⟨s, i, none⟩ k v (by simp; omega)).trans (h.block k hk hn)⟩
theorem Gb.drewN {B b : Nat} {a w : World} (h : Gb B b a w) (n : Nat) : Gb B b a (w.drewN n) := ⟨h.os, h.tape, h.output, h.size, h.block⟩
theorem Gb.drew {B b : Nat} {a w : World} (h : Gb B b a w) : Gb B b a w.drew := ⟨h.os, h.tape, h.output, h.size, h.block⟩
theorem Ck.drew {w : World} {b : Nat} {r l x : Int} (h : Ck w b r l x) : Ck w.drew b r l x := h
theorem Pr.drew {T : Nat} {w : World} {b : Nat} {r n : Int} (h : Pr T w b r n) : Pr T w.drew b r n := h
theorem size_drew (w : World) : w.drew.heap.size = w.heap.size := rfl
theorem size_set (w : World) (a : Addr) (v : Value) : (w.setCell a v).heap.size = w.heap.size := by simp [World.setCell]
theorem Gb.alloc {B b : Nat} {a w : World} (h : Gb B b a w) (o : Obj) (hB : B ≤ w.heap.size) : Gb B b a (w.alloc o) := h.below (ba w o) hB
theorem Gb.done {b : Nat} {w w' : World} (h : Gb w.heap.size b w w') : w.grownBy w' (some b) := ⟨h.os, h.tape, h.output, h.size, fun k hk hn => h.block k hk (by simpa using hn)⟩

/-- It ends as it should, and so. -/
def Nrm (R : Act → World → Prop) : Exit → Act → World → Prop
  | .normal, a, w => R a w
  | _, _, _ => False
theorem wp_norm {P : Program} {c : Code} {Q : Exit → Act → World → Prop} {a A : Act} {w W : World} (h : c.wp P (Nrm fun a' w' => a' = A ∧ w' = W) a w) (hq : Q .normal A W) : c.wp P Q a w :=
  wp_mono h fun e a' w' k => by
    cases e <;> first | exact k.elim | (obtain ⟨rfl, rfl⟩ := k; exact hq)
end Go.Proofs.YtbcodkokacpioaaDoor
