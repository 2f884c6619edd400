/-
  DERIVED. GIVEN WITH THE SEED: THE CARDS: each row of YtkcjkncpaopjbaaGreatDoorRows.lean that lists a variable, with what it lists TIED to the program's text (the seventh form; the later family's looks); each row that meets fmt, with fmt's text TOLD by the authors' own Lean function (tested against real Go, not proved from fmt's source: count such statements apart). THE CARD IS WHAT COUNTS. Prove the row's statement (the work); the ties are given (YtkcjkncpaopjbaaGreatDoorTie.lean); close each card by the builder's one call (the guide's Derived/Test/ToyasCard.lean, 'card_holds'). Laid BY PROGRAM, IN A SANDBOX (cutbox-door.mjs). By AI agents, Wed Nov 11 2026. No macro, syntax, notation, axiom, sorry.
-/
import Derived.Test.YtkcjkncpaopjbaaGreatDoorRows
import GoSem.ClaimSeven
namespace Go.Proofs.YtkcjkncpaopjbaaGreatDoor
namespace Rows

/-- THE TIED CARD OF 'offshootlaw07.OplogCalls'. -/
def oplogCallsCard : Claim7 := { stood := { row := oplogCallsRow, standIns := [], harness := (true, "f6d53945634514d2792a0fee0596593ca9eb138a85ac12438c85cc7d0c9b02f0"), looks := false }, kinds := [], alts := [], laidByText := true, laidKinds := [.data, .data], laidTests := true, laidLooks := .later }
def OplogCallsCardSaid : Prop := Claim7.holds Tryz.pinned (.plain (OpenSpec.ofChange oplogCallsSpec)) oplogCallsCard

/-- THE SECOND FORM's CARD OF 'offshootlaw07.OplogCalls'. -/
def oplogCallsUptoCard : Claim7 := { stood := { row := oplogCallsUptoRow, standIns := [], harness := (true, "f6d53945634514d2792a0fee0596593ca9eb138a85ac12438c85cc7d0c9b02f0"), looks := false }, kinds := [], alts := [], laidByText := true, laidKinds := [.data, .data], laidTests := true, laidLooks := .later }
def OplogCallsUptoCardSaid : Prop := Claim7.holds Tryz.pinned (.plain (OpenSpec.upto oplogCallsSpec)) oplogCallsUptoCard
end Rows
end Go.Proofs.YtkcjkncpaopjbaaGreatDoor
