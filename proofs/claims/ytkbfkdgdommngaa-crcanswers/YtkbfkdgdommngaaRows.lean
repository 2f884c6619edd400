/-
  No cell of these rows narrows 'for every input' (looked for: loops, veiled, ifaces, maps, wideKeys, modest, calm, conditions, laid).
  DERIVED. THE GIVEN ROWS OF THIS SEAT. 5 by the template 'for every input the law returns true; each argument reads behind the call as it read before'; 0 by the template 'total and deterministic' (their statements: YtkbfkdgdommngaaTotals.lean).
  GIVEN WITH THE SEED: the statements are not yours to turn. If you find one false, say at which input.
  Laid BY PROGRAM, IN A SANDBOX (cutbox-rows.mjs): the forced cells as the released guide's own fill.sh prints them over the translation 572e15eb945ccd0a… (all of the seat's roots in one cut). By AI agents, Wed Nov 11 2026. No macro, syntax, notation, axiom, sorry.
-/
import Derived.Test.YtkbfkdgdommngaaChecked
import GoSem.Claim
import GoSem.ClaimJoined
import GoSem.ClaimMapViews
import Derived.JoinedTies
import Derived.KernelRfl
namespace Go.Proofs.Ytkbfkdgdommngaa
/- THE CELL 'sum', in the pinned program and in every row, IS THE sha256 OF THE DUMP (.gsa) THAT YtkbfkdgdommngaaProg.lean LOADS. Nothing in Lean hashes anything: it is a label: what it is worth is what the hold of that sum in a sandbox is worth. -/
noncomputable def Try.pinned : Pinned := { name := "ytkbfkdgdommngaa", sum := "572e15eb945ccd0ab9b3d1df7822427f34a1b4c4956f935f75a4b7d1ed09042c", checked := Try.checked }
namespace Rows
def none {H : Type} : Left H := { results := [], args := [] }

/-- 'offshootlaw02.CrcAnswers': WHATEVER THE INPUT: true; the input reads as it did. -/
def crcAnswersSpec : ChangeSpec := { name := "crcAnswers", fn := fun _ => fun
  | [d1, d2] => { results := [.lit (.bool true)], args := [d1, d2] }
  | _ => none }
def crcAnswersRow : OpenClaim := { program := "ytkbfkdgdommngaa", sum := "572e15eb945ccd0ab9b3d1df7822427f34a1b4c4956f935f75a4b7d1ed09042c", func := "offshoot/offshootlaw02.CrcAnswers", spec := "crcAnswers", apart := false }
def CrcAnswersSaid : Prop := crcAnswersRow.holds Try.pinned (OpenSpec.ofChange crcAnswersSpec)

/-- ITS FALSE NEIGHBOUR: 'it returns false'. Refute it at one input. -/
def crcAnswersWrong : ChangeSpec := { name := "crcAnswers", fn := fun _ => fun
  | [d1, d2] => { results := [.lit (.bool false)], args := [d1, d2] }
  | _ => none }
def CrcAnswersWrongFalsely : Prop := crcAnswersRow.holds Try.pinned (OpenSpec.ofChange crcAnswersWrong)

/-- 'offshootlaw02.CrcBack': WHATEVER THE INPUT: true; the input reads as it did. -/
def crcBackSpec : ChangeSpec := { name := "crcBack", fn := fun _ => fun
  | [d1, d2] => { results := [.lit (.bool true)], args := [d1, d2] }
  | _ => none }
def crcBackRow : OpenClaim := { program := "ytkbfkdgdommngaa", sum := "572e15eb945ccd0ab9b3d1df7822427f34a1b4c4956f935f75a4b7d1ed09042c", func := "offshoot/offshootlaw02.CrcBack", spec := "crcBack", apart := false }
def CrcBackSaid : Prop := crcBackRow.holds Try.pinned (OpenSpec.ofChange crcBackSpec)

/-- ITS FALSE NEIGHBOUR: 'it returns false'. Refute it at one input. -/
def crcBackWrong : ChangeSpec := { name := "crcBack", fn := fun _ => fun
  | [d1, d2] => { results := [.lit (.bool false)], args := [d1, d2] }
  | _ => none }
def CrcBackWrongFalsely : Prop := crcBackRow.holds Try.pinned (OpenSpec.ofChange crcBackWrong)

/-- 'offshootlaw02.CrcBits': WHATEVER THE INPUT: true; the input reads as it did. -/
def crcBitsSpec : ChangeSpec := { name := "crcBits", fn := fun _ => fun
  | [d1, d2] => { results := [.lit (.bool true)], args := [d1, d2] }
  | _ => none }
def crcBitsRow : OpenClaim := { program := "ytkbfkdgdommngaa", sum := "572e15eb945ccd0ab9b3d1df7822427f34a1b4c4956f935f75a4b7d1ed09042c", func := "offshoot/offshootlaw02.CrcBits", spec := "crcBits", apart := false }
def CrcBitsSaid : Prop := crcBitsRow.holds Try.pinned (OpenSpec.ofChange crcBitsSpec)

/-- ITS FALSE NEIGHBOUR: 'it returns false'. Refute it at one input. -/
def crcBitsWrong : ChangeSpec := { name := "crcBits", fn := fun _ => fun
  | [d1, d2] => { results := [.lit (.bool false)], args := [d1, d2] }
  | _ => none }
def CrcBitsWrongFalsely : Prop := crcBitsRow.holds Try.pinned (OpenSpec.ofChange crcBitsWrong)

/-- 'offshootlaw02.CrcThree': WHATEVER THE INPUT: true; the input reads as it did. -/
def crcThreeSpec : ChangeSpec := { name := "crcThree", fn := fun _ => fun
  | [d1, d2, d3] => { results := [.lit (.bool true)], args := [d1, d2, d3] }
  | _ => none }
def crcThreeRow : OpenClaim := { program := "ytkbfkdgdommngaa", sum := "572e15eb945ccd0ab9b3d1df7822427f34a1b4c4956f935f75a4b7d1ed09042c", func := "offshoot/offshootlaw02.CrcThree", spec := "crcThree", apart := false }
def CrcThreeSaid : Prop := crcThreeRow.holds Try.pinned (OpenSpec.ofChange crcThreeSpec)

/-- ITS FALSE NEIGHBOUR: 'it returns false'. Refute it at one input. -/
def crcThreeWrong : ChangeSpec := { name := "crcThree", fn := fun _ => fun
  | [d1, d2, d3] => { results := [.lit (.bool false)], args := [d1, d2, d3] }
  | _ => none }
def CrcThreeWrongFalsely : Prop := crcThreeRow.holds Try.pinned (OpenSpec.ofChange crcThreeWrong)

/-- 'offshootlaw02.CrcPlaces': WHATEVER THE INPUT: true; the input reads as it did. -/
def crcPlacesSpec : ChangeSpec := { name := "crcPlaces", fn := fun _ => fun
  | [d1, d2] => { results := [.lit (.bool true)], args := [d1, d2] }
  | _ => none }
def crcPlacesRow : OpenClaim := { program := "ytkbfkdgdommngaa", sum := "572e15eb945ccd0ab9b3d1df7822427f34a1b4c4956f935f75a4b7d1ed09042c", func := "offshoot/offshootlaw02.CrcPlaces", spec := "crcPlaces", apart := false }
def CrcPlacesSaid : Prop := crcPlacesRow.holds Try.pinned (OpenSpec.ofChange crcPlacesSpec)

/-- ITS FALSE NEIGHBOUR: 'it returns false'. Refute it at one input. -/
def crcPlacesWrong : ChangeSpec := { name := "crcPlaces", fn := fun _ => fun
  | [d1, d2] => { results := [.lit (.bool false)], args := [d1, d2] }
  | _ => none }
def CrcPlacesWrongFalsely : Prop := crcPlacesRow.holds Try.pinned (OpenSpec.ofChange crcPlacesWrong)

/- THE SECOND FORM. 'bulk': how many values and letters a reading holds, each counted each time it is reached (what is shared counts as often as it is met; a slice's spare places count too). A statement '..UptoSaid' is the law's where the arguments, and the package variables that the reading takes, are together of bulk at most 1048576: NARROWER than '..Said'. Prove '..Said' where nothing that the law and all that it calls make is longer than what came in: it says more and counts as full. Else prove '..UptoSaid'. A law counts once. -/
mutual
def uptoBulk {H : Type} : DataW H → Nat
  | .lit (.string bytes) => bytes.length + 1
  | .lit _ => 1
  | .nil => 1
  | .ptr d => uptoBulk d + 1
  | .slice elems spare => uptoBulkAll elems + uptoBulkAll spare + 1
  | .agg parts => uptoBulkAll parts + 1
  | .iface _ d => uptoBulk d + 1
  | .map entries => uptoBulkEntries entries + 1
  | .held _ => 1
def uptoBulkAll {H : Type} : List (DataW H) → Nat
  | [] => 0
  | d :: r => uptoBulk d + uptoBulkAll r
def uptoBulkEntries {H : Type} : List (Lit × DataW H) → Nat
  | [] => 0
  | x :: r => uptoBulkEntry x + uptoBulkEntries r
def uptoBulkEntry {H : Type} : Lit × DataW H → Nat
  | (.string bytes, d) => bytes.length + uptoBulk d + 1
  | (_, d) => uptoBulk d + 1
 end
def uptoSmall : (H : Type) → List (DataW H) → Bool := fun _ ds => decide (uptoBulkAll ds ≤ 1048576)
def OpenSpec.upto (s : _root_.Go.ChangeSpec) : _root_.Go.OpenSpec := { _root_.Go.OpenSpec.ofChange s with cond := some uptoSmall }

/-- 'offshootlaw02.CrcAnswers', WHERE WHAT IT READS IS OF BULK AT MOST 1048576: true; the input reads as it did. -/
def crcAnswersUptoRow : OpenClaim := { program := "ytkbfkdgdommngaa", sum := "572e15eb945ccd0ab9b3d1df7822427f34a1b4c4956f935f75a4b7d1ed09042c", func := "offshoot/offshootlaw02.CrcAnswers", spec := "crcAnswers", apart := false, narrowed := true }
def CrcAnswersUptoSaid : Prop := crcAnswersUptoRow.holds Try.pinned (OpenSpec.upto crcAnswersSpec)

/-- 'offshootlaw02.CrcBack', WHERE WHAT IT READS IS OF BULK AT MOST 1048576: true; the input reads as it did. -/
def crcBackUptoRow : OpenClaim := { program := "ytkbfkdgdommngaa", sum := "572e15eb945ccd0ab9b3d1df7822427f34a1b4c4956f935f75a4b7d1ed09042c", func := "offshoot/offshootlaw02.CrcBack", spec := "crcBack", apart := false, narrowed := true }
def CrcBackUptoSaid : Prop := crcBackUptoRow.holds Try.pinned (OpenSpec.upto crcBackSpec)

/-- 'offshootlaw02.CrcBits', WHERE WHAT IT READS IS OF BULK AT MOST 1048576: true; the input reads as it did. -/
def crcBitsUptoRow : OpenClaim := { program := "ytkbfkdgdommngaa", sum := "572e15eb945ccd0ab9b3d1df7822427f34a1b4c4956f935f75a4b7d1ed09042c", func := "offshoot/offshootlaw02.CrcBits", spec := "crcBits", apart := false, narrowed := true }
def CrcBitsUptoSaid : Prop := crcBitsUptoRow.holds Try.pinned (OpenSpec.upto crcBitsSpec)

/-- 'offshootlaw02.CrcThree', WHERE WHAT IT READS IS OF BULK AT MOST 1048576: true; the input reads as it did. -/
def crcThreeUptoRow : OpenClaim := { program := "ytkbfkdgdommngaa", sum := "572e15eb945ccd0ab9b3d1df7822427f34a1b4c4956f935f75a4b7d1ed09042c", func := "offshoot/offshootlaw02.CrcThree", spec := "crcThree", apart := false, narrowed := true }
def CrcThreeUptoSaid : Prop := crcThreeUptoRow.holds Try.pinned (OpenSpec.upto crcThreeSpec)

/-- 'offshootlaw02.CrcPlaces', WHERE WHAT IT READS IS OF BULK AT MOST 1048576: true; the input reads as it did. -/
def crcPlacesUptoRow : OpenClaim := { program := "ytkbfkdgdommngaa", sum := "572e15eb945ccd0ab9b3d1df7822427f34a1b4c4956f935f75a4b7d1ed09042c", func := "offshoot/offshootlaw02.CrcPlaces", spec := "crcPlaces", apart := false, narrowed := true }
def CrcPlacesUptoSaid : Prop := crcPlacesUptoRow.holds Try.pinned (OpenSpec.upto crcPlacesSpec)

end Rows
end Go.Proofs.Ytkbfkdgdommngaa
