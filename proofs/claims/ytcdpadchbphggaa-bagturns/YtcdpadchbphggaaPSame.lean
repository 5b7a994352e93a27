/-
  Whether two lists of pairs, or of numbers, are alike: the program's answer, and the document's reference's.
  Conditions: lists of at most 2^40 elements.
-/
import Derived.WalkKit
import Derived.WalkMore
import Derived.Lib.Hide
import Derived.Deep.RegionWith
import Derived.StillTailTactics
import Derived.Lib.QuietBelow
import Derived.Test.YtcdpadchbphggaaProg
import Derived.Test.YtcdpadchbphggaaPBase
namespace Go.Proofs.Ytcdpadchbphggaa
open Go.RowKit Go.Shelf
set_option linter.unusedVariables false

end Go.Proofs.Ytcdpadchbphggaa
