/-
  From a walk to the given statement: what the arguments' readings give (names, stamps, characters), and a world for the witness.
-/
import Derived.Test.YtbcodkokacpioaaDoorCards
import Derived.Test.YtbcodkokacpioaaDoorTie
import Derived.Test.YtbcodkokacpioaaDoorSBlock
import Derived.Test.YtbcodkokacpioaaDoorSCalls
import Derived.LaidMore
import Derived.Deep.DeepWitnessRowRef
import Derived.SevenTiedAt
namespace Go.Proofs.YtbcodkokacpioaaDoor
open Go.RowKit Go.ChangeShapes Go.WideShapes Go.ChangeAt
set_option linter.unusedVariables false
set_option maxRecDepth 100000

theorem own : ownKnob Tryd.prog.godebug = none := by kernel_rfl
theorem laidOut : laidOutB Tryd.prog = true := by kernel_rfl

section
variable {H : Type} {enc : TypeId × Value → H} {W : World} {base b0 : Nat} {spare : Nat → Bool} {held : Bool}
theorem open_id {v : Value} {d : DataW H} {p : List MemPlace} (hv : Value.okWide Tryd.prog W .any b0 23 v) (h : DataW.Trod enc Tryd.prog W base spare held 23 v d p) : ∃ x y, v = idv x y := by
  obtain ⟨cs, rfl, hsz⟩ := okWide_struct Tryd.underlying23 hv
  obtain ⟨fuel, hf⟩ := h
  obtain ⟨y0, y1, n, _, hl, h0, h1⟩ := trod_struct2 Tryd.underlying23 hf
  rw [cells_id] at hl
  obtain ⟨l⟩ := cs
  obtain ⟨v0, v1, rfl⟩ := list_two (l := l) (by simpa [Value.cells] using hl)
  simp [Value.cells, cells_int] at h0 h1
  obtain ⟨a, e0, _⟩ := DataW.trod_int Tryd.underlying3 h0
  obtain ⟨b, e1, _⟩ := DataW.trod_int Tryd.underlying3 h1
  simp at e0 e1
  subst e0; subst e1
  exact ⟨a, b, rfl⟩
theorem cells_stamp : Tryd.prog.cellsOf 25 = 2 := by kernel_rfl
theorem open_stamp {v : Value} {d : DataW H} {p : List MemPlace} (hv : Value.okWide Tryd.prog W .any b0 25 v) (h : DataW.Trod enc Tryd.prog W base spare held 25 v d p) : ∃ x y, v = idv x y := by
  obtain ⟨cs, rfl, hsz⟩ := okWide_struct Tryd.underlying25 hv
  obtain ⟨fuel, hf⟩ := h
  obtain ⟨y0, y1, n, _, hl, h0, h1⟩ := trod_struct2 Tryd.underlying25 hf
  rw [cells_stamp] at hl
  obtain ⟨l⟩ := cs
  obtain ⟨v0, v1, rfl⟩ := list_two (l := l) (by simpa [Value.cells] using hl)
  simp [Value.cells, cells_int] at h0 h1
  obtain ⟨a, e0, _⟩ := DataW.trod_int Tryd.underlying3 h0
  obtain ⟨b, e1, _⟩ := DataW.trod_int Tryd.underlying3 h1
  simp at e0 e1
  subst e0; subst e1
  exact ⟨a, b, rfl⟩
theorem cells_char : Tryd.prog.cellsOf 27 = 3 := by kernel_rfl
theorem open_char {v : Value} {d : DataW H} {p : List MemPlace} (hv : Value.okWide Tryd.prog W .any b0 27 v) (h : DataW.Trod enc Tryd.prog W base spare held 27 v d p) : ∃ x y z, v = chv x y z := by
  obtain ⟨cs, rfl, hsz⟩ := okWide_struct Tryd.underlying27 hv
  obtain ⟨fuel, hf⟩ := h
  obtain ⟨y0, y1, n, _, hl, h0, h1⟩ := trod_struct2 Tryd.underlying27 hf
  rw [cells_char] at hl
  obtain ⟨l⟩ := cs
  obtain ⟨v0, v1, v2, rfl⟩ := list_3 (l := l) (by simpa [Value.cells] using hl)
  simp [Value.cells, cells_int, cells_id] at h0 h1
  obtain ⟨z0, z1, n', _, _, j0, j1⟩ := trod_struct2 Tryd.underlying23 h0
  simp [cells_int] at j0 j1
  obtain ⟨a, e0, _⟩ := DataW.trod_int Tryd.underlying3 j0
  obtain ⟨b, e1, _⟩ := DataW.trod_int Tryd.underlying3 j1
  obtain ⟨c, e2, _⟩ := DataW.trod_int Tryd.underlying3 h1
  simp at e0 e1 e2
  subst e0; subst e1; subst e2
  exact ⟨a, b, c, rfl⟩
end

/-- The heap that the program's own text lays meets the list. -/
theorem door_met (os : Os) (args : Array Value) : laidMetH Tryd.prog Rows.stampAsksRow.laid ((World.doorLaid Tryd.prog 72 os).forCall (fun _ _ => 0) ⟨#[], args, []⟩).memory := by
  rw [MakeChecks.laidMetH_plain _ _ _ (by kernel_rfl)]
  exact laidMet_of_run' 8 (by kernel_rfl) (by kernel_rfl)

end Go.Proofs.YtbcodkokacpioaaDoor
