/-
  DERIVED. GIVEN WITH THE SEED: THE CARDS: each row of YteckjkblngmenaaDoorRows.lean that lists a variable, with what it lists TIED to the program's text (the seventh form; the later family's looks); each row that meets fmt, with fmt's text TOLD by the authors' own Lean function (tested against real Go, not proved from fmt's source: count such statements apart). THE CARD IS WHAT COUNTS. Prove the row's statement (the work); the ties are given (YteckjkblngmenaaDoorTie.lean); close each card by the builder's one call (the guide's Derived/Test/ToyasCard.lean, 'card_holds'). Laid BY PROGRAM, IN A SANDBOX (cutbox-door.mjs). By AI agents, Wed Nov 11 2026. No macro, syntax, notation, axiom, sorry.
-/
import Derived.Test.YteckjkblngmenaaDoorRows
import GoSem.ClaimSeven
namespace Go.Proofs.YteckjkblngmenaaDoor
namespace Rows

/-- THE TIED CARD OF 'offshootlaw07.OplogKeeps'. -/
def oplogKeepsCard : Claim7 := { stood := { row := oplogKeepsRow, standIns := [], harness := (true, "ec4623a681bba739c9fb7c7c833a1f08182133df8142eb64a9e3066cae72dbd0"), looks := false }, kinds := [], alts := [], laidByText := true, laidKinds := [.data, .data], laidTests := true, laidLooks := .later }
def OplogKeepsCardSaid : Prop := Claim7.holds Tryd.pinned (.plain (OpenSpec.ofChange oplogKeepsSpec)) oplogKeepsCard

/-- THE TIED CARD OF 'offshootlaw07.OplogCompact'. -/
def oplogCompactCard : Claim7 := { stood := { row := oplogCompactRow, standIns := [], harness := (true, "ec4623a681bba739c9fb7c7c833a1f08182133df8142eb64a9e3066cae72dbd0"), looks := false }, kinds := [], alts := [], laidByText := true, laidKinds := [.data, .data], laidTests := true, laidLooks := .later }
def OplogCompactCardSaid : Prop := Claim7.holds Tryd.pinned (.plain (OpenSpec.ofChange oplogCompactSpec)) oplogCompactCard

/-- THE TIED CARD OF 'offshootlaw07.OplogBits'. -/
def oplogBitsCard : Claim7 := { stood := { row := oplogBitsRow, standIns := [], harness := (true, "ec4623a681bba739c9fb7c7c833a1f08182133df8142eb64a9e3066cae72dbd0"), looks := false }, kinds := [], alts := [], laidByText := true, laidKinds := [.data, .data], laidTests := true, laidLooks := .later }
def OplogBitsCardSaid : Prop := Claim7.holds Tryd.pinned (.plain (OpenSpec.ofChange oplogBitsSpec)) oplogBitsCard

/-- THE SECOND FORM's CARD OF 'offshootlaw07.OplogKeeps'. -/
def oplogKeepsUptoCard : Claim7 := { stood := { row := oplogKeepsUptoRow, standIns := [], harness := (true, "ec4623a681bba739c9fb7c7c833a1f08182133df8142eb64a9e3066cae72dbd0"), looks := false }, kinds := [], alts := [], laidByText := true, laidKinds := [.data, .data], laidTests := true, laidLooks := .later }
def OplogKeepsUptoCardSaid : Prop := Claim7.holds Tryd.pinned (.plain (OpenSpec.upto oplogKeepsSpec)) oplogKeepsUptoCard

/-- THE SECOND FORM's CARD OF 'offshootlaw07.OplogCompact'. -/
def oplogCompactUptoCard : Claim7 := { stood := { row := oplogCompactUptoRow, standIns := [], harness := (true, "ec4623a681bba739c9fb7c7c833a1f08182133df8142eb64a9e3066cae72dbd0"), looks := false }, kinds := [], alts := [], laidByText := true, laidKinds := [.data, .data], laidTests := true, laidLooks := .later }
def OplogCompactUptoCardSaid : Prop := Claim7.holds Tryd.pinned (.plain (OpenSpec.upto oplogCompactSpec)) oplogCompactUptoCard

/-- THE SECOND FORM's CARD OF 'offshootlaw07.OplogBits'. -/
def oplogBitsUptoCard : Claim7 := { stood := { row := oplogBitsUptoRow, standIns := [], harness := (true, "ec4623a681bba739c9fb7c7c833a1f08182133df8142eb64a9e3066cae72dbd0"), looks := false }, kinds := [], alts := [], laidByText := true, laidKinds := [.data, .data], laidTests := true, laidLooks := .later }
def OplogBitsUptoCardSaid : Prop := Claim7.holds Tryd.pinned (.plain (OpenSpec.upto oplogBitsSpec)) oplogBitsUptoCard
end Rows
end Go.Proofs.YteckjkblngmenaaDoor
