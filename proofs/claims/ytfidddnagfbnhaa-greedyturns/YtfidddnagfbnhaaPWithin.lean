/-
  Whether all pairs are within bounds: what the program answers, by a closure over the bounds.
  Conditions: lists of at most 2^40 pairs.
-/
import Derived.WalkKit
import Derived.WalkMore
import Derived.Lib.Hide
import Derived.Deep.QuietTactic
import Derived.BigQuiet
import Derived.Deep.RegionWith
import Derived.Lib.QuietBelow
import Derived.Test.YtfidddnagfbnhaaProg
import Derived.Test.YtfidddnagfbnhaaPSame
namespace Go.Proofs.Ytfidddnagfbnhaa
open Go.RowKit Go.Shelf
set_option linter.unusedVariables false

/-- a pair that is not of na and nb -/
def badP (na nb : Int) (p : Int × Int) : Bool := decide (p.1 < 0) || decide (na ≤ p.1) || decide (p.2 < 0) || decide (nb ≤ p.2)

end Go.Proofs.Ytfidddnagfbnhaa
