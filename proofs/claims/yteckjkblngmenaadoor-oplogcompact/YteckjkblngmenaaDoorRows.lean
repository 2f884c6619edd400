/-
  NARROWER THAN 'FOR EVERY INPUT', by the rows' own cells (each row's printed sentence says how): OplogKeeps: laid · OplogCompact: laid · OplogBits: laid.
  DERIVED. THE GIVEN ROWS OF THIS SEAT. 3 by the template 'for every input the law returns true; each argument reads behind the call as it read before'; 0 by the template 'total and deterministic' (their statements: YteckjkblngmenaaDoorTotals.lean).
  GIVEN WITH THE SEED: the statements are not yours to turn. If you find one false, say at which input.
  Laid BY PROGRAM, IN A SANDBOX (cutbox-rows.mjs): the forced cells as the released guide's own fill.sh prints them over the translation 69d5b68574145693… (all of the seat's roots in one cut). By AI agents, Wed Nov 11 2026. No macro, syntax, notation, axiom, sorry.
-/
import Derived.Test.YteckjkblngmenaaDoorChecked
import GoSem.Claim
import GoSem.ClaimJoined
import GoSem.ClaimMapViews
import Derived.JoinedTies
import Derived.KernelRfl
namespace Go.Proofs.YteckjkblngmenaaDoor
/- THE CELL 'sum', in the pinned program and in every row, IS THE sha256 OF THE DUMP (.gsa) THAT YteckjkblngmenaaDoorProg.lean LOADS. Nothing in Lean hashes anything: it is a label: what it is worth is what the hold of that sum in a sandbox is worth. -/
noncomputable def Tryd.pinned : Pinned := { name := "yteckjkblngmenaadoor", sum := "69d5b685741456935b92e276f5241d978b74ff7cc4a3aaaecb0f71d9536562ef", checked := Tryd.checked }
namespace Rows
def none {H : Type} : Left H := { results := [], args := [] }

/- WHAT THE LISTED PACKAGE-LEVEL VARIABLES READ AS WHEN THE CALL BEGINS. Each datum BY PROGRAM (the guide's laid-datum.mjs) off the statement by which the dump's own 'gosem.cut.vars' lays the variable. In a bare row this is a premise. The card (YteckjkblngmenaaDoorCards.lean) ties it to the program's text. -/
def laid_offshoot_api_Root {H : Type} : DataW H := .agg [.lit (.int .i64 0), .lit (.int .i64 0)]
def laid_offshoot_api_Trash {H : Type} : DataW H := .agg [.lit (.int .i64 1), .lit (.int .i64 0)]

/-- 'offshootlaw07.OplogKeeps': WHATEVER THE INPUT: true; the input reads as it did. -/
def oplogKeepsSpec : ChangeSpec := { name := "oplogKeeps", fn := fun _ => fun
  | [d1, d2, d3] => { results := [.lit (.bool true)], args := [d1, d2, d3] }
  | _ => none }
def oplogKeepsRow : OpenClaim := { program := "yteckjkblngmenaadoor", sum := "69d5b685741456935b92e276f5241d978b74ff7cc4a3aaaecb0f71d9536562ef", func := "offshoot/offshootlaw07.OplogKeeps", spec := "oplogKeeps", unfollowed := true, recurses := true, named := ["offshoot/api.Root", "offshoot/api.Trash"], apart := false, laid := [("offshoot/api.Root", laid_offshoot_api_Root), ("offshoot/api.Trash", laid_offshoot_api_Trash)] }
def OplogKeepsSaid : Prop := oplogKeepsRow.holds Tryd.pinned (OpenSpec.ofChange oplogKeepsSpec)

/-- ITS FALSE NEIGHBOUR: 'it returns false'. Refute it at one input. -/
def oplogKeepsWrong : ChangeSpec := { name := "oplogKeeps", fn := fun _ => fun
  | [d1, d2, d3] => { results := [.lit (.bool false)], args := [d1, d2, d3] }
  | _ => none }
def OplogKeepsWrongFalsely : Prop := oplogKeepsRow.holds Tryd.pinned (OpenSpec.ofChange oplogKeepsWrong)

/-- 'offshootlaw07.OplogCompact': WHATEVER THE INPUT: true; the input reads as it did. -/
def oplogCompactSpec : ChangeSpec := { name := "oplogCompact", fn := fun _ => fun
  | [d1, d2, d3] => { results := [.lit (.bool true)], args := [d1, d2, d3] }
  | _ => none }
def oplogCompactRow : OpenClaim := { program := "yteckjkblngmenaadoor", sum := "69d5b685741456935b92e276f5241d978b74ff7cc4a3aaaecb0f71d9536562ef", func := "offshoot/offshootlaw07.OplogCompact", spec := "oplogCompact", unfollowed := true, recurses := true, named := ["offshoot/api.Root", "offshoot/api.Trash"], apart := false, laid := [("offshoot/api.Root", laid_offshoot_api_Root), ("offshoot/api.Trash", laid_offshoot_api_Trash)] }
def OplogCompactSaid : Prop := oplogCompactRow.holds Tryd.pinned (OpenSpec.ofChange oplogCompactSpec)

/-- ITS FALSE NEIGHBOUR: 'it returns false'. Refute it at one input. -/
def oplogCompactWrong : ChangeSpec := { name := "oplogCompact", fn := fun _ => fun
  | [d1, d2, d3] => { results := [.lit (.bool false)], args := [d1, d2, d3] }
  | _ => none }
def OplogCompactWrongFalsely : Prop := oplogCompactRow.holds Tryd.pinned (OpenSpec.ofChange oplogCompactWrong)

/-- 'offshootlaw07.OplogBits': WHATEVER THE INPUT: true; the input reads as it did. -/
def oplogBitsSpec : ChangeSpec := { name := "oplogBits", fn := fun _ => fun
  | [d1, d2] => { results := [.lit (.bool true)], args := [d1, d2] }
  | _ => none }
def oplogBitsRow : OpenClaim := { program := "yteckjkblngmenaadoor", sum := "69d5b685741456935b92e276f5241d978b74ff7cc4a3aaaecb0f71d9536562ef", func := "offshoot/offshootlaw07.OplogBits", spec := "oplogBits", unfollowed := true, recurses := true, named := ["offshoot/api.Root", "offshoot/api.Trash"], apart := false, laid := [("offshoot/api.Root", laid_offshoot_api_Root), ("offshoot/api.Trash", laid_offshoot_api_Trash)] }
def OplogBitsSaid : Prop := oplogBitsRow.holds Tryd.pinned (OpenSpec.ofChange oplogBitsSpec)

/-- ITS FALSE NEIGHBOUR: 'it returns false'. Refute it at one input. -/
def oplogBitsWrong : ChangeSpec := { name := "oplogBits", fn := fun _ => fun
  | [d1, d2] => { results := [.lit (.bool false)], args := [d1, d2] }
  | _ => none }
def OplogBitsWrongFalsely : Prop := oplogBitsRow.holds Tryd.pinned (OpenSpec.ofChange oplogBitsWrong)

/- THE SECOND FORM. 'bulk': how many values and letters a reading holds, each counted each time it is reached (what is shared counts as often as it is met; a slice's spare places count too). A statement '..UptoSaid' is the law's where the arguments, and the package variables that the reading takes, are together of bulk at most 1048576: NARROWER than '..Said'. Prove '..Said' where nothing that the law and all that it calls make is longer than what came in: it says more and counts as full. Else prove '..UptoSaid'. A law counts once. -/
mutual
def uptoBulk {H : Type} : DataW H → Nat
  | .lit (.string bytes) => bytes.length + 1
  | .lit _ => 1
  | .nil => 1
  | .ptr d => uptoBulk d + 1
  | .slice elems spare => uptoBulkAll elems + uptoBulkAll spare + 1
  | .agg parts => uptoBulkAll parts + 1
  | .iface _ d => uptoBulk d + 1
  | .map entries => uptoBulkEntries entries + 1
  | .held _ => 1
def uptoBulkAll {H : Type} : List (DataW H) → Nat
  | [] => 0
  | d :: r => uptoBulk d + uptoBulkAll r
def uptoBulkEntries {H : Type} : List (Lit × DataW H) → Nat
  | [] => 0
  | x :: r => uptoBulkEntry x + uptoBulkEntries r
def uptoBulkEntry {H : Type} : Lit × DataW H → Nat
  | (.string bytes, d) => bytes.length + uptoBulk d + 1
  | (_, d) => uptoBulk d + 1
 end
def uptoSmall : (H : Type) → List (DataW H) → Bool := fun _ ds => decide (uptoBulkAll ds ≤ 1048576)
def OpenSpec.upto (s : _root_.Go.ChangeSpec) : _root_.Go.OpenSpec := { _root_.Go.OpenSpec.ofChange s with cond := some uptoSmall }

/-- 'offshootlaw07.OplogKeeps', WHERE WHAT IT READS IS OF BULK AT MOST 1048576: true; the input reads as it did. -/
def oplogKeepsUptoRow : OpenClaim := { program := "yteckjkblngmenaadoor", sum := "69d5b685741456935b92e276f5241d978b74ff7cc4a3aaaecb0f71d9536562ef", func := "offshoot/offshootlaw07.OplogKeeps", spec := "oplogKeeps", unfollowed := true, recurses := true, named := ["offshoot/api.Root", "offshoot/api.Trash"], apart := false, laid := [("offshoot/api.Root", laid_offshoot_api_Root), ("offshoot/api.Trash", laid_offshoot_api_Trash)], narrowed := true }
def OplogKeepsUptoSaid : Prop := oplogKeepsUptoRow.holds Tryd.pinned (OpenSpec.upto oplogKeepsSpec)

/-- 'offshootlaw07.OplogCompact', WHERE WHAT IT READS IS OF BULK AT MOST 1048576: true; the input reads as it did. -/
def oplogCompactUptoRow : OpenClaim := { program := "yteckjkblngmenaadoor", sum := "69d5b685741456935b92e276f5241d978b74ff7cc4a3aaaecb0f71d9536562ef", func := "offshoot/offshootlaw07.OplogCompact", spec := "oplogCompact", unfollowed := true, recurses := true, named := ["offshoot/api.Root", "offshoot/api.Trash"], apart := false, laid := [("offshoot/api.Root", laid_offshoot_api_Root), ("offshoot/api.Trash", laid_offshoot_api_Trash)], narrowed := true }
def OplogCompactUptoSaid : Prop := oplogCompactUptoRow.holds Tryd.pinned (OpenSpec.upto oplogCompactSpec)

/-- 'offshootlaw07.OplogBits', WHERE WHAT IT READS IS OF BULK AT MOST 1048576: true; the input reads as it did. -/
def oplogBitsUptoRow : OpenClaim := { program := "yteckjkblngmenaadoor", sum := "69d5b685741456935b92e276f5241d978b74ff7cc4a3aaaecb0f71d9536562ef", func := "offshoot/offshootlaw07.OplogBits", spec := "oplogBits", unfollowed := true, recurses := true, named := ["offshoot/api.Root", "offshoot/api.Trash"], apart := false, laid := [("offshoot/api.Root", laid_offshoot_api_Root), ("offshoot/api.Trash", laid_offshoot_api_Trash)], narrowed := true }
def OplogBitsUptoSaid : Prop := oplogBitsUptoRow.holds Tryd.pinned (OpenSpec.upto oplogBitsSpec)

end Rows
end Go.Proofs.YteckjkblngmenaaDoor
