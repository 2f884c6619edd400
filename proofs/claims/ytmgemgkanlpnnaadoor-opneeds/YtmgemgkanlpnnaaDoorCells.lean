/-
  Bytes in memory as cells: what the laws of append and of a conversion ask of a slice that reads as bytes.
-/
import Derived.Test.YtmgemgkanlpnnaaDoorRows
import Derived.Test.YtmgemgkanlpnnaaDoorMem
namespace Go.Proofs.YtmgemgkanlpnnaaDoor
open Go.RowKit
set_option linter.unusedVariables false
set_option maxRecDepth 100000

theorem info_u8 : (Tryd.prog.info? 5).map (fun i => (i.zero, i.size, i.bytes)) = some (some (.int .u8 0), 1, 1) := by kernel_rfl

theorem cells_at {w : World} {A : Addr} {n c : Nat} {xs : List Int} (h : Bs w (.slice (some A) n c) xs) : ∀ j u, (cs xs)[j]? = some u → w.cell? (A.add j) = some u := by
  intro j u hu
  obtain ⟨a', c', h1, _, _, _, h5, _⟩ := h
  simp only [Value.slice.injEq] at h1
  obtain ⟨rfl, rfl, rfl⟩ := h1
  have hj : j < xs.length := by have := (List.getElem?_eq_some_iff.1 hu).1; simpa using this
  obtain ⟨b, off, e1, e2⟩ := h5 j hj
  simp only [Option.some.injEq] at e1
  subst e1
  have e3 : (⟨b, off, none⟩ : Addr).add j = ⟨b, off + j, none⟩ := by
    unfold Addr.add; split <;> simp_all
  rw [e3, e2]
  simp [hj] at hu
  simp [hj, hu]

theorem Bs.none_nil {w : World} {n c : Nat} {xs : List Int} (h : Bs w (.slice none n c) xs) : xs = [] ∧ n = 0 ∧ c = 0 := by
  obtain ⟨a', c', h1, h2, _, h4, _⟩ := h
  simp only [Value.slice.injEq] at h1
  have := h4 h1.1.symm
  have e : xs.length = 0 := by omega
  exact ⟨List.eq_nil_of_length_eq_zero e, by omega, by omega⟩
theorem own_below {w w' : World} {base e : Nat} {v : Value} {n : Nat} {xs : List Value} (h : w.ownsRow base e 1 v n xs) (hb : Below w.heap.size w w') : w'.ownsRow base e 1 v n xs := by
  refine ⟨h.1, ?_⟩
  rcases h.2 with h0 | ⟨g, cap, cur, hv, hg, hh, r⟩
  · exact .inl h0
  · exact .inr ⟨g, cap, cur, hv, hg, by rw [hb.block g (Array.getElem?_eq_some_iff.1 hh).1]; exact hh, r⟩

/-- A slice that lies in a block from B on. -/
def Fresh (B : Nat) (v : Value) : Prop := ∀ x n c, v = .slice (some x) n c → B ≤ x.block

theorem Fresh.of_own {w : World} {base e : Nat} {v : Value} {n : Nat} {xs : List Value} (h : w.ownsRow base e 1 v n xs) : Fresh base v := by
  intro x m c hv
  exact (h.lt x.block (by rw [hv]; rfl)).1

end Go.Proofs.YtmgemgkanlpnnaaDoor
