/-
  NARROWER THAN 'FOR EVERY INPUT', by the rows' own cells (each row's printed sentence says how): CauseCalls: laid · CauseOrders: laid · CauseReady: laid · CauseFull: laid.
  DERIVED. THE GIVEN ROWS OF THIS SEAT. 4 by the template 'for every input the law returns true; each argument reads behind the call as it read before'; 0 by the template 'total and deterministic' (their statements: YtaojeanoojnknaaDoorTotals.lean).
  GIVEN WITH THE SEED: the statements are not yours to turn. If you find one false, say at which input.
  Laid BY PROGRAM, IN A SANDBOX (cutbox-rows.mjs): the forced cells as the released guide's own fill.sh prints them over the translation ca88c9988728cb1d… (all of the seat's roots in one cut). By AI agents, Wed Nov 11 2026. No macro, syntax, notation, axiom, sorry.
-/
import Derived.Test.YtaojeanoojnknaaDoorChecked
import GoSem.Claim
import GoSem.ClaimJoined
import GoSem.ClaimMapViews
import Derived.JoinedTies
import Derived.KernelRfl
namespace Go.Proofs.YtaojeanoojnknaaDoor
/- THE CELL 'sum', in the pinned program and in every row, IS THE sha256 OF THE DUMP (.gsa) THAT YtaojeanoojnknaaDoorProg.lean LOADS. Nothing in Lean hashes anything: it is a label: what it is worth is what the hold of that sum in a sandbox is worth. -/
noncomputable def Tryd.pinned : Pinned := { name := "ytaojeanoojnknaadoor", sum := "ca88c9988728cb1de25b95bd00d7b368bdc03d6d7051cc385da7140e6b7c906d", checked := Tryd.checked }
namespace Rows
def none {H : Type} : Left H := { results := [], args := [] }

/- WHAT THE LISTED PACKAGE-LEVEL VARIABLES READ AS WHEN THE CALL BEGINS. Each datum BY PROGRAM (the guide's laid-datum.mjs) off the statement by which the dump's own 'gosem.cut.vars' lays the variable. In a bare row this is a premise. The card (YtaojeanoojnknaaDoorCards.lean) ties it to the program's text. -/
def laid_offshoot_api_Root {H : Type} : DataW H := .agg [.lit (.int .i64 0), .lit (.int .i64 0)]
def laid_offshoot_api_Trash {H : Type} : DataW H := .agg [.lit (.int .i64 1), .lit (.int .i64 0)]

/-- 'offshootlaw09.CauseCalls': WHATEVER THE INPUT: true; the input reads as it did. -/
def causeCallsSpec : ChangeSpec := { name := "causeCalls", fn := fun _ => fun
  | [d] => { results := [.lit (.bool true)], args := [d] }
  | _ => none }
def causeCallsRow : OpenClaim := { program := "ytaojeanoojnknaadoor", sum := "ca88c9988728cb1de25b95bd00d7b368bdc03d6d7051cc385da7140e6b7c906d", func := "offshoot/offshootlaw09.CauseCalls", spec := "causeCalls", unfollowed := true, recurses := true, named := ["offshoot/api.Root", "offshoot/api.Trash"], plainKeys := false, apart := false, laid := [("offshoot/api.Root", laid_offshoot_api_Root), ("offshoot/api.Trash", laid_offshoot_api_Trash)] }
def CauseCallsSaid : Prop := causeCallsRow.holds Tryd.pinned (OpenSpec.ofChange causeCallsSpec)

/-- ITS FALSE NEIGHBOUR: 'it returns false'. Refute it at one input. -/
def causeCallsWrong : ChangeSpec := { name := "causeCalls", fn := fun _ => fun
  | [d] => { results := [.lit (.bool false)], args := [d] }
  | _ => none }
def CauseCallsWrongFalsely : Prop := causeCallsRow.holds Tryd.pinned (OpenSpec.ofChange causeCallsWrong)

/-- 'offshootlaw09.CauseOrders': WHATEVER THE INPUT: true; the input reads as it did. -/
def causeOrdersSpec : ChangeSpec := { name := "causeOrders", fn := fun _ => fun
  | [d1, d2] => { results := [.lit (.bool true)], args := [d1, d2] }
  | _ => none }
def causeOrdersRow : OpenClaim := { program := "ytaojeanoojnknaadoor", sum := "ca88c9988728cb1de25b95bd00d7b368bdc03d6d7051cc385da7140e6b7c906d", func := "offshoot/offshootlaw09.CauseOrders", spec := "causeOrders", unfollowed := true, recurses := true, named := ["offshoot/api.Root", "offshoot/api.Trash"], plainKeys := false, apart := false, laid := [("offshoot/api.Root", laid_offshoot_api_Root), ("offshoot/api.Trash", laid_offshoot_api_Trash)] }
def CauseOrdersSaid : Prop := causeOrdersRow.holds Tryd.pinned (OpenSpec.ofChange causeOrdersSpec)

/-- ITS FALSE NEIGHBOUR: 'it returns false'. Refute it at one input. -/
def causeOrdersWrong : ChangeSpec := { name := "causeOrders", fn := fun _ => fun
  | [d1, d2] => { results := [.lit (.bool false)], args := [d1, d2] }
  | _ => none }
def CauseOrdersWrongFalsely : Prop := causeOrdersRow.holds Tryd.pinned (OpenSpec.ofChange causeOrdersWrong)

/-- 'offshootlaw09.CauseReady': WHATEVER THE INPUT: true; the input reads as it did. -/
def causeReadySpec : ChangeSpec := { name := "causeReady", fn := fun _ => fun
  | [d] => { results := [.lit (.bool true)], args := [d] }
  | _ => none }
def causeReadyRow : OpenClaim := { program := "ytaojeanoojnknaadoor", sum := "ca88c9988728cb1de25b95bd00d7b368bdc03d6d7051cc385da7140e6b7c906d", func := "offshoot/offshootlaw09.CauseReady", spec := "causeReady", unfollowed := true, recurses := true, named := ["offshoot/api.Root", "offshoot/api.Trash"], plainKeys := false, apart := false, laid := [("offshoot/api.Root", laid_offshoot_api_Root), ("offshoot/api.Trash", laid_offshoot_api_Trash)] }
def CauseReadySaid : Prop := causeReadyRow.holds Tryd.pinned (OpenSpec.ofChange causeReadySpec)

/-- ITS FALSE NEIGHBOUR: 'it returns false'. Refute it at one input. -/
def causeReadyWrong : ChangeSpec := { name := "causeReady", fn := fun _ => fun
  | [d] => { results := [.lit (.bool false)], args := [d] }
  | _ => none }
def CauseReadyWrongFalsely : Prop := causeReadyRow.holds Tryd.pinned (OpenSpec.ofChange causeReadyWrong)

/-- 'offshootlaw09.CauseFull': WHATEVER THE INPUT: true; the input reads as it did. -/
def causeFullSpec : ChangeSpec := { name := "causeFull", fn := fun _ => fun
  | [d] => { results := [.lit (.bool true)], args := [d] }
  | _ => none }
def causeFullRow : OpenClaim := { program := "ytaojeanoojnknaadoor", sum := "ca88c9988728cb1de25b95bd00d7b368bdc03d6d7051cc385da7140e6b7c906d", func := "offshoot/offshootlaw09.CauseFull", spec := "causeFull", unfollowed := true, recurses := true, named := ["offshoot/api.Root", "offshoot/api.Trash"], plainKeys := false, apart := false, laid := [("offshoot/api.Root", laid_offshoot_api_Root), ("offshoot/api.Trash", laid_offshoot_api_Trash)] }
def CauseFullSaid : Prop := causeFullRow.holds Tryd.pinned (OpenSpec.ofChange causeFullSpec)

/-- ITS FALSE NEIGHBOUR: 'it returns false'. Refute it at one input. -/
def causeFullWrong : ChangeSpec := { name := "causeFull", fn := fun _ => fun
  | [d] => { results := [.lit (.bool false)], args := [d] }
  | _ => none }
def CauseFullWrongFalsely : Prop := causeFullRow.holds Tryd.pinned (OpenSpec.ofChange causeFullWrong)

/- THE SECOND FORM. 'bulk': how many values and letters a reading holds, each counted each time it is reached (what is shared counts as often as it is met; a slice's spare places count too). A statement '..UptoSaid' is the law's where the arguments, and the package variables that the reading takes, are together of bulk at most 1048576: NARROWER than '..Said'. Prove '..Said' where nothing that the law and all that it calls make is longer than what came in: it says more and counts as full. Else prove '..UptoSaid'. A law counts once. -/
mutual
def uptoBulk {H : Type} : DataW H → Nat
  | .lit (.string bytes) => bytes.length + 1
  | .lit _ => 1
  | .nil => 1
  | .ptr d => uptoBulk d + 1
  | .slice elems spare => uptoBulkAll elems + uptoBulkAll spare + 1
  | .agg parts => uptoBulkAll parts + 1
  | .iface _ d => uptoBulk d + 1
  | .map entries => uptoBulkEntries entries + 1
  | .held _ => 1
def uptoBulkAll {H : Type} : List (DataW H) → Nat
  | [] => 0
  | d :: r => uptoBulk d + uptoBulkAll r
def uptoBulkEntries {H : Type} : List (Lit × DataW H) → Nat
  | [] => 0
  | x :: r => uptoBulkEntry x + uptoBulkEntries r
def uptoBulkEntry {H : Type} : Lit × DataW H → Nat
  | (.string bytes, d) => bytes.length + uptoBulk d + 1
  | (_, d) => uptoBulk d + 1
 end
def uptoSmall : (H : Type) → List (DataW H) → Bool := fun _ ds => decide (uptoBulkAll ds ≤ 1048576)
def OpenSpec.upto (s : _root_.Go.ChangeSpec) : _root_.Go.OpenSpec := { _root_.Go.OpenSpec.ofChange s with cond := some uptoSmall }

/-- 'offshootlaw09.CauseCalls', WHERE WHAT IT READS IS OF BULK AT MOST 1048576: true; the input reads as it did. -/
def causeCallsUptoRow : OpenClaim := { program := "ytaojeanoojnknaadoor", sum := "ca88c9988728cb1de25b95bd00d7b368bdc03d6d7051cc385da7140e6b7c906d", func := "offshoot/offshootlaw09.CauseCalls", spec := "causeCalls", unfollowed := true, recurses := true, named := ["offshoot/api.Root", "offshoot/api.Trash"], plainKeys := false, apart := false, laid := [("offshoot/api.Root", laid_offshoot_api_Root), ("offshoot/api.Trash", laid_offshoot_api_Trash)], narrowed := true }
def CauseCallsUptoSaid : Prop := causeCallsUptoRow.holds Tryd.pinned (OpenSpec.upto causeCallsSpec)

/-- 'offshootlaw09.CauseOrders', WHERE WHAT IT READS IS OF BULK AT MOST 1048576: true; the input reads as it did. -/
def causeOrdersUptoRow : OpenClaim := { program := "ytaojeanoojnknaadoor", sum := "ca88c9988728cb1de25b95bd00d7b368bdc03d6d7051cc385da7140e6b7c906d", func := "offshoot/offshootlaw09.CauseOrders", spec := "causeOrders", unfollowed := true, recurses := true, named := ["offshoot/api.Root", "offshoot/api.Trash"], plainKeys := false, apart := false, laid := [("offshoot/api.Root", laid_offshoot_api_Root), ("offshoot/api.Trash", laid_offshoot_api_Trash)], narrowed := true }
def CauseOrdersUptoSaid : Prop := causeOrdersUptoRow.holds Tryd.pinned (OpenSpec.upto causeOrdersSpec)

/-- 'offshootlaw09.CauseReady', WHERE WHAT IT READS IS OF BULK AT MOST 1048576: true; the input reads as it did. -/
def causeReadyUptoRow : OpenClaim := { program := "ytaojeanoojnknaadoor", sum := "ca88c9988728cb1de25b95bd00d7b368bdc03d6d7051cc385da7140e6b7c906d", func := "offshoot/offshootlaw09.CauseReady", spec := "causeReady", unfollowed := true, recurses := true, named := ["offshoot/api.Root", "offshoot/api.Trash"], plainKeys := false, apart := false, laid := [("offshoot/api.Root", laid_offshoot_api_Root), ("offshoot/api.Trash", laid_offshoot_api_Trash)], narrowed := true }
def CauseReadyUptoSaid : Prop := causeReadyUptoRow.holds Tryd.pinned (OpenSpec.upto causeReadySpec)

/-- 'offshootlaw09.CauseFull', WHERE WHAT IT READS IS OF BULK AT MOST 1048576: true; the input reads as it did. -/
def causeFullUptoRow : OpenClaim := { program := "ytaojeanoojnknaadoor", sum := "ca88c9988728cb1de25b95bd00d7b368bdc03d6d7051cc385da7140e6b7c906d", func := "offshoot/offshootlaw09.CauseFull", spec := "causeFull", unfollowed := true, recurses := true, named := ["offshoot/api.Root", "offshoot/api.Trash"], plainKeys := false, apart := false, laid := [("offshoot/api.Root", laid_offshoot_api_Root), ("offshoot/api.Trash", laid_offshoot_api_Trash)], narrowed := true }
def CauseFullUptoSaid : Prop := causeFullUptoRow.holds Tryd.pinned (OpenSpec.upto causeFullSpec)

end Rows
end Go.Proofs.YtaojeanoojnknaaDoor
