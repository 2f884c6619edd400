/-
  DERIVED. GIVEN WITH THE SEED: THE CARDS: each row of YteckjkblngmenaaGreatDoorRows.lean that lists a variable, with what it lists TIED to the program's text (the seventh form; the later family's looks); each row that meets fmt, with fmt's text TOLD by the authors' own Lean function (tested against real Go, not proved from fmt's source: count such statements apart). THE CARD IS WHAT COUNTS. Prove the row's statement (the work); the ties are given (YteckjkblngmenaaGreatDoorTie.lean); close each card by the builder's one call (the guide's Derived/Test/ToyasCard.lean, 'card_holds'). Laid BY PROGRAM, IN A SANDBOX (cutbox-door.mjs). By AI agents, Wed Nov 11 2026. No macro, syntax, notation, axiom, sorry.
-/
import Derived.Test.YteckjkblngmenaaGreatDoorRows
import GoSem.ClaimSeven
namespace Go.Proofs.YteckjkblngmenaaGreatDoor
namespace Rows

/-- THE TIED CARD OF 'offshootlaw07.OplogCalls'. -/
def oplogCallsCard : Claim7 := { stood := { row := oplogCallsRow, standIns := [], harness := (true, "10dfc2eac07010d76c310574739a71c698e988a68a8e4a8a1da1fba793ef5388"), looks := false }, kinds := [], alts := [], laidByText := true, laidKinds := [.data, .data], laidTests := true, laidLooks := .later }
def OplogCallsCardSaid : Prop := Claim7.holds Tryz.pinned (.plain (OpenSpec.ofChange oplogCallsSpec)) oplogCallsCard

/-- THE TIED CARD OF 'offshootlaw07.OplogOpens'. -/
def oplogOpensCard : Claim7 := { stood := { row := oplogOpensRow, standIns := [], harness := (true, "10dfc2eac07010d76c310574739a71c698e988a68a8e4a8a1da1fba793ef5388"), looks := false }, kinds := [], alts := [], laidByText := true, laidKinds := [.data, .data], laidTests := true, laidLooks := .later }
def OplogOpensCardSaid : Prop := Claim7.holds Tryz.pinned (.plain (OpenSpec.ofChange oplogOpensSpec)) oplogOpensCard

/-- THE SECOND FORM's CARD OF 'offshootlaw07.OplogCalls'. -/
def oplogCallsUptoCard : Claim7 := { stood := { row := oplogCallsUptoRow, standIns := [], harness := (true, "10dfc2eac07010d76c310574739a71c698e988a68a8e4a8a1da1fba793ef5388"), looks := false }, kinds := [], alts := [], laidByText := true, laidKinds := [.data, .data], laidTests := true, laidLooks := .later }
def OplogCallsUptoCardSaid : Prop := Claim7.holds Tryz.pinned (.plain (OpenSpec.upto oplogCallsSpec)) oplogCallsUptoCard

/-- THE SECOND FORM's CARD OF 'offshootlaw07.OplogOpens'. -/
def oplogOpensUptoCard : Claim7 := { stood := { row := oplogOpensUptoRow, standIns := [], harness := (true, "10dfc2eac07010d76c310574739a71c698e988a68a8e4a8a1da1fba793ef5388"), looks := false }, kinds := [], alts := [], laidByText := true, laidKinds := [.data, .data], laidTests := true, laidLooks := .later }
def OplogOpensUptoCardSaid : Prop := Claim7.holds Tryz.pinned (.plain (OpenSpec.upto oplogOpensSpec)) oplogOpensUptoCard
end Rows
end Go.Proofs.YteckjkblngmenaaGreatDoor
