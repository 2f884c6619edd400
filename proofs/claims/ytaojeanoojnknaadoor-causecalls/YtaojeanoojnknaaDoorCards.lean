/-
  DERIVED. GIVEN WITH THE SEED: THE CARDS: each row of YtaojeanoojnknaaDoorRows.lean that lists a variable, with what it lists TIED to the program's text (the seventh form; the later family's looks); each row that meets fmt, with fmt's text TOLD by the authors' own Lean function (tested against real Go, not proved from fmt's source: count such statements apart). THE CARD IS WHAT COUNTS. Prove the row's statement (the work); the ties are given (YtaojeanoojnknaaDoorTie.lean); close each card by the builder's one call (the guide's Derived/Test/ToyasCard.lean, 'card_holds'). Laid BY PROGRAM, IN A SANDBOX (cutbox-door.mjs). By AI agents, Wed Nov 11 2026. No macro, syntax, notation, axiom, sorry.
-/
import Derived.Test.YtaojeanoojnknaaDoorRows
import GoSem.ClaimSeven
namespace Go.Proofs.YtaojeanoojnknaaDoor
namespace Rows

/-- THE TIED CARD OF 'offshootlaw09.CauseCalls'. -/
def causeCallsCard : Claim7 := { stood := { row := causeCallsRow, standIns := [], harness := (true, "b44c7d184e87f1497fbd0cb11c64b4d41fd976429c4949ed5b900dddcfde5bf4"), looks := false }, kinds := [], alts := [], laidByText := true, laidKinds := [.data, .data], laidTests := true, laidLooks := .later }
def CauseCallsCardSaid : Prop := Claim7.holds Tryd.pinned (.plain (OpenSpec.ofChange causeCallsSpec)) causeCallsCard

/-- THE TIED CARD OF 'offshootlaw09.CauseOrders'. -/
def causeOrdersCard : Claim7 := { stood := { row := causeOrdersRow, standIns := [], harness := (true, "b44c7d184e87f1497fbd0cb11c64b4d41fd976429c4949ed5b900dddcfde5bf4"), looks := false }, kinds := [], alts := [], laidByText := true, laidKinds := [.data, .data], laidTests := true, laidLooks := .later }
def CauseOrdersCardSaid : Prop := Claim7.holds Tryd.pinned (.plain (OpenSpec.ofChange causeOrdersSpec)) causeOrdersCard

/-- THE TIED CARD OF 'offshootlaw09.CauseReady'. -/
def causeReadyCard : Claim7 := { stood := { row := causeReadyRow, standIns := [], harness := (true, "b44c7d184e87f1497fbd0cb11c64b4d41fd976429c4949ed5b900dddcfde5bf4"), looks := false }, kinds := [], alts := [], laidByText := true, laidKinds := [.data, .data], laidTests := true, laidLooks := .later }
def CauseReadyCardSaid : Prop := Claim7.holds Tryd.pinned (.plain (OpenSpec.ofChange causeReadySpec)) causeReadyCard

/-- THE TIED CARD OF 'offshootlaw09.CauseFull'. -/
def causeFullCard : Claim7 := { stood := { row := causeFullRow, standIns := [], harness := (true, "b44c7d184e87f1497fbd0cb11c64b4d41fd976429c4949ed5b900dddcfde5bf4"), looks := false }, kinds := [], alts := [], laidByText := true, laidKinds := [.data, .data], laidTests := true, laidLooks := .later }
def CauseFullCardSaid : Prop := Claim7.holds Tryd.pinned (.plain (OpenSpec.ofChange causeFullSpec)) causeFullCard

/-- THE SECOND FORM's CARD OF 'offshootlaw09.CauseCalls'. -/
def causeCallsUptoCard : Claim7 := { stood := { row := causeCallsUptoRow, standIns := [], harness := (true, "b44c7d184e87f1497fbd0cb11c64b4d41fd976429c4949ed5b900dddcfde5bf4"), looks := false }, kinds := [], alts := [], laidByText := true, laidKinds := [.data, .data], laidTests := true, laidLooks := .later }
def CauseCallsUptoCardSaid : Prop := Claim7.holds Tryd.pinned (.plain (OpenSpec.upto causeCallsSpec)) causeCallsUptoCard

/-- THE SECOND FORM's CARD OF 'offshootlaw09.CauseOrders'. -/
def causeOrdersUptoCard : Claim7 := { stood := { row := causeOrdersUptoRow, standIns := [], harness := (true, "b44c7d184e87f1497fbd0cb11c64b4d41fd976429c4949ed5b900dddcfde5bf4"), looks := false }, kinds := [], alts := [], laidByText := true, laidKinds := [.data, .data], laidTests := true, laidLooks := .later }
def CauseOrdersUptoCardSaid : Prop := Claim7.holds Tryd.pinned (.plain (OpenSpec.upto causeOrdersSpec)) causeOrdersUptoCard

/-- THE SECOND FORM's CARD OF 'offshootlaw09.CauseReady'. -/
def causeReadyUptoCard : Claim7 := { stood := { row := causeReadyUptoRow, standIns := [], harness := (true, "b44c7d184e87f1497fbd0cb11c64b4d41fd976429c4949ed5b900dddcfde5bf4"), looks := false }, kinds := [], alts := [], laidByText := true, laidKinds := [.data, .data], laidTests := true, laidLooks := .later }
def CauseReadyUptoCardSaid : Prop := Claim7.holds Tryd.pinned (.plain (OpenSpec.upto causeReadySpec)) causeReadyUptoCard

/-- THE SECOND FORM's CARD OF 'offshootlaw09.CauseFull'. -/
def causeFullUptoCard : Claim7 := { stood := { row := causeFullUptoRow, standIns := [], harness := (true, "b44c7d184e87f1497fbd0cb11c64b4d41fd976429c4949ed5b900dddcfde5bf4"), looks := false }, kinds := [], alts := [], laidByText := true, laidKinds := [.data, .data], laidTests := true, laidLooks := .later }
def CauseFullUptoCardSaid : Prop := Claim7.holds Tryd.pinned (.plain (OpenSpec.upto causeFullSpec)) causeFullUptoCard
end Rows
end Go.Proofs.YtaojeanoojnknaaDoor
