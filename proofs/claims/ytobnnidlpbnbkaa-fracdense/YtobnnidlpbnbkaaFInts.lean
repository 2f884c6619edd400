/-
  A slice of numbers that came in: 'Is w v zs': the slice v reads as the numbers zs; the low ten bits of a number. Nothing of the program is imported.
-/
import Derived.Test.YtobnnidlpbnbkaaMem
import Derived.Laws.BitsLemmas
namespace Go.Proofs.Ytobnnidlpbnbkaa
open Go.RowKit
set_option linter.unusedVariables false

theorem and1023 (n : Int) : bits .and .i64 n 1023 = n % 1024 := by
  have h : (BitVec.ofInt 64 1023).toNat = 2 ^ 10 - 1 := by decide
  have key : (BitVec.ofInt 64 n &&& BitVec.ofInt 64 1023).toNat = (n % ((2 ^ 64 : Nat) : Int)).toNat % 2 ^ 10 := by
    rw [BitVec.toNat_and, BitVec.toNat_ofInt, h, Nat.and_two_pow_sub_one_eq_mod]
  show IntKind.i64.wrap ((BitVec.ofInt 64 n &&& BitVec.ofInt 64 1023).toNat : Nat) = n % 1024
  rw [key, IntKind.wrap_i64]
  omega

def Is (w : World) (v : Value) (zs : List Int) : Prop :=
  ∃ a c, v = .slice a zs.length c ∧ zs.length ≤ c ∧ c ≤ maxLen ∧
    ∀ i, i < zs.length → ∃ b off, a = some ⟨b, off, none⟩ ∧ w.cell? ⟨b, off + i, none⟩ = some (.int .i64 (zs.getD i 0))

theorem Is.nil (w : World) : Is w (.slice none 0 0) [] := ⟨none, 0, rfl, Nat.le_refl _, Nat.zero_le _, fun i hi => absurd hi (Nat.not_lt_zero _)⟩
theorem Is.form {w : World} {v : Value} {zs : List Int} (h : Is w v zs) : ∃ a c, v = .slice a zs.length c ∧ zs.length ≤ c ∧ c ≤ maxLen := by
  obtain ⟨a, c, e, h2, h3, _⟩ := h
  exact ⟨a, c, e, h2, h3⟩
theorem Is.below {w w' : World} {v : Value} {zs : List Int} (h : Is w v zs) (hb : Below w.heap.size w w') : Is w' v zs := by
  obtain ⟨a, c, h1, h2, h3, h5⟩ := h
  refine ⟨a, c, h1, h2, h3, fun i hi => ?_⟩
  obtain ⟨b, off, e1, e2⟩ := h5 i hi
  exact ⟨b, off, e1, by rw [hb.cell (World.block_lt_of_cell? _ _ e2)]; exact e2⟩
theorem Is.inv {w : World} {v : Value} {zs : List Int} (h : Is w v zs) (hx : 0 < zs.length) :
    ∃ b off c, v = .slice (some ⟨b, off, none⟩) zs.length c ∧ zs.length ≤ c ∧ c ≤ maxLen ∧ ∀ i, i < zs.length → w.cell? ⟨b, off + i, none⟩ = some (.int .i64 (zs.getD i 0)) := by
  obtain ⟨a, c, h1, h2, h3, h5⟩ := h
  obtain ⟨b, off, e1, _⟩ := h5 0 hx
  refine ⟨b, off, c, by rw [h1, e1], h2, h3, fun i hi => ?_⟩
  obtain ⟨b', off', e2, e3⟩ := h5 i hi
  rw [e1] at e2
  simp only [Option.some.injEq, Addr.mk.injEq, and_true] at e2
  obtain ⟨rfl, rfl⟩ := e2
  exact e3
/-- A row of numbers that came in. -/
theorem Is.of_row {w : World} {x : Addr} {len cap : Nat} {zs : List Int} (hl : len ≤ cap) (hm : cap ≤ maxLen) (hz : zs.length = cap)
    (hcell : ∀ i, i < zs.length → w.cell? (x.add i) = some (.int .i64 (zs.getD i 0))) : Is w (.slice (some x) len cap) (zs.take len) := by
  have hlen : (zs.take len).length = len := by rw [List.length_take]; omega
  refine ⟨some x, cap, by rw [hlen], by omega, hm, fun i hi => ?_⟩
  rw [hlen] at hi
  have h0 := hcell 0 (by omega)
  have hc := hcell i (by omega)
  obtain ⟨b, off, spot⟩ := x
  have hs : spot = none := by simpa [Addr.add] using World.cell?_spot h0
  subst hs
  refine ⟨b, off, rfl, ?_⟩
  rw [Addr.add_lit] at hc
  rw [hc]
  simp [List.getD, hi]

end Go.Proofs.Ytobnnidlpbnbkaa
