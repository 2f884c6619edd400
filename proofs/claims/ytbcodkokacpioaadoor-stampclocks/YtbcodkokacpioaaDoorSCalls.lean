/-
  A list of what a clock is told, in memory: 'Cq w v qs': the slice v reads as qs (what, time, replica, number).
-/
import Derived.Test.YtbcodkokacpioaaDoorRows
import Derived.Test.YtbcodkokacpioaaDoorMem
import Derived.Deep.SlicePairs
namespace Go.Proofs.YtbcodkokacpioaaDoor
open Go.RowKit
set_option linter.unusedVariables false

structure Qu where
  (q t r n : Int)
def Qu.zero : Qu := ⟨0, 0, 0, 0⟩

def Cq (w : World) (v : Value) (qs : List Qu) : Prop :=
  ∃ a c, v = .slice a qs.length c ∧ qs.length ≤ c ∧ c ≤ maxLen ∧
    ∀ i, i < qs.length → ∃ b off, a = some ⟨b, off, none⟩ ∧ w.cell? ⟨b, off + i * 4, none⟩ = some (.int .i64 (qs.getD i Qu.zero).q) ∧ w.cell? ⟨b, off + i * 4 + 1, none⟩ = some (.int .i64 (qs.getD i Qu.zero).t) ∧
      w.cell? ⟨b, off + i * 4 + 2, none⟩ = some (.int .i64 (qs.getD i Qu.zero).r) ∧ w.cell? ⟨b, off + i * 4 + 3, none⟩ = some (.int .i64 (qs.getD i Qu.zero).n)

theorem Cq.nil (w : World) : Cq w (.slice none 0 0) [] := ⟨none, 0, rfl, Nat.le_refl _, Nat.zero_le _, fun i hi => absurd hi (Nat.not_lt_zero _)⟩
theorem Cq.len {w : World} {v : Value} {qs : List Qu} (h : Cq w v qs) : qs.length ≤ maxLen := by
  obtain ⟨a, c, _, h2, h3, _⟩ := h
  exact Nat.le_trans h2 h3
theorem Cq.inv_nil {w : World} {v : Value} (h : Cq w v []) : ∃ a c, v = .slice a 0 c := by
  obtain ⟨a, c, h1, _⟩ := h
  exact ⟨a, c, h1⟩
theorem Cq.inv {w : World} {v : Value} {qs : List Qu} (h : Cq w v qs) (hx : 0 < qs.length) :
    ∃ b off c, v = .slice (some ⟨b, off, none⟩) qs.length c ∧ b < w.heap.size ∧ ∀ i, i < qs.length → w.cell? ⟨b, off + i * 4, none⟩ = some (.int .i64 (qs.getD i Qu.zero).q) ∧ w.cell? ⟨b, off + i * 4 + 1, none⟩ = some (.int .i64 (qs.getD i Qu.zero).t) ∧
      w.cell? ⟨b, off + i * 4 + 2, none⟩ = some (.int .i64 (qs.getD i Qu.zero).r) ∧ w.cell? ⟨b, off + i * 4 + 3, none⟩ = some (.int .i64 (qs.getD i Qu.zero).n) := by
  obtain ⟨a, c, h1, h2, h3, h5⟩ := h
  obtain ⟨b, off, e1, e2, _⟩ := h5 0 hx
  refine ⟨b, off, c, by rw [h1, e1], World.block_lt_of_cell? _ _ e2, fun i hi => ?_⟩
  obtain ⟨b', off', e3, e4⟩ := h5 i hi
  rw [e1] at e3
  simp only [Option.some.injEq, Addr.mk.injEq, and_true] at e3
  obtain ⟨rfl, rfl⟩ := e3
  exact e4

theorem list_3 {α : Type} {l : List α} (h : l.length = 3) : ∃ a b c, l = [a, b, c] := by
  rcases l with _ | ⟨a, _ | ⟨b, _ | ⟨c, _ | ⟨d, l⟩⟩⟩⟩
  · cases h
  · cases h
  · cases h
  · exact ⟨a, b, c, rfl⟩
  · simp at h
theorem list_4 {α : Type} {l : List α} (h : l.length = 4) : ∃ a b c d, l = [a, b, c, d] := by
  rcases l with _ | ⟨a, l⟩
  · cases h
  · obtain ⟨b, c, d, rfl⟩ := list_3 (l := l) (by simpa using h)
    exact ⟨a, b, c, d, rfl⟩

theorem cells_call : Tryd.prog.cellsOf 49 = 4 := by kernel_rfl
theorem cells_id : Tryd.prog.cellsOf 23 = 2 := by kernel_rfl
theorem cells_int : Tryd.prog.cellsOf 3 = 1 := by kernel_rfl

/-- A list that came in. -/
theorem Cq.open {H : Type} {enc : TypeId × Value → H} {W : World} {a : Option Addr} {len cap : Nat} {d : DataW H} {p : List MemPlace}
    (h : DataW.Trod enc Tryd.prog W 0 (fun _ => true) true 40 (.slice a len cap) d p) : ∃ qs, Cq W (.slice a len cap) qs := by
  obtain ⟨fuel, hf⟩ := h
  rcases Go.Deep.open_slice Tryd.underlying40 hf with ⟨hcs, _⟩ | ⟨x, l, c, m, n, D, Pl, hcs, _, hl, hm, hmm, _, hx⟩
  · simp [Value.cells] at hcs
    obtain ⟨rfl, rfl, rfl⟩ := hcs
    exact ⟨[], Cq.nil W⟩
  · simp [Value.cells] at hcs
    obtain ⟨rfl, rfl, rfl⟩ := hcs
    simp at hmm
    subst hmm
    have each : ∀ i, i < len → ∃ q : Qu, W.cell? (x.add (i * 4)) = some (.int .i64 q.q) ∧ W.cell? (x.add (i * 4 + 1)) = some (.int .i64 q.t) ∧ W.cell? (x.add (i * 4 + 2)) = some (.int .i64 q.r) ∧ W.cell? (x.add (i * 4 + 3)) = some (.int .i64 q.n) := by
      intro i hi
      obtain ⟨cs', h1, h2⟩ := hx i (by omega)
      rw [cells_call] at h1
      obtain ⟨_, hlen, hcell⟩ := World.cells?_some h1
      obtain ⟨xs, k, hk, hxy, _, hxl, hfl⟩ := DataW.trod_struct Tryd.underlying49 h2
      obtain ⟨y0, y1, y2, rfl⟩ := list_3 hxl
      obtain ⟨v0, v1, v2, v3, rfl⟩ := list_4 hlen
      · have g0 := hfl 0 _ rfl
        have g1 := hfl 1 _ rfl
        have g2 := hfl 2 _ rfl
        simp [cells_int, cells_id] at g0 g1 g2
        obtain ⟨n0, e0, _⟩ := DataW.trod_int Tryd.underlying3 g0
        obtain ⟨n1, e1, _⟩ := DataW.trod_int Tryd.underlying3 g1
        obtain ⟨z0, z1, k2, _, _, j0, j1⟩ := Go.ChangeShapes.trod_struct2 Tryd.underlying23 g2
        simp [cells_int] at j0 j1
        obtain ⟨n2, e2, _⟩ := DataW.trod_int Tryd.underlying3 j0
        obtain ⟨n3, e3, _⟩ := DataW.trod_int Tryd.underlying3 j1
        simp at e0 e1 e2 e3
        subst e0; subst e1; subst e2; subst e3
        have c0 := hcell 0 (by omega)
        have c1 := hcell 1 (by omega)
        have c2 := hcell 2 (by omega)
        have c3 := hcell 3 (by omega)
        rw [Go.Deep.add_add] at c0 c1 c2 c3
        exact ⟨⟨n0, n1, n2, n3⟩, by simpa using c0, by simpa using c1, by simpa using c2, by simpa using c3⟩
    have hinh : Inhabited Qu := ⟨Qu.zero⟩
    obtain ⟨q, hq⟩ := Go.Deep.choose_lt each
    refine ⟨(List.range len).map q, some x, m, by simp, by simpa using hl, hm, fun i hi => ?_⟩
    simp at hi
    obtain ⟨g0, g1, g2, g3⟩ := hq i (by omega)
    obtain ⟨b, off, spot⟩ := x
    have hs : spot = none := by
      have := World.cell?_spot (hq 0 (by omega)).1
      simpa [Addr.add] using this
    subst hs
    rw [Addr.add_lit] at g0 g1 g2 g3
    rw [← Nat.add_assoc] at g1 g2 g3
    refine ⟨b, off, rfl, ?_, ?_, ?_, ?_⟩
    · rw [g0]; simp [List.getD, hi]
    · rw [g1]; simp [List.getD, hi]
    · rw [g2]; simp [List.getD, hi]
    · rw [g3]; simp [List.getD, hi]

end Go.Proofs.YtbcodkokacpioaaDoor
