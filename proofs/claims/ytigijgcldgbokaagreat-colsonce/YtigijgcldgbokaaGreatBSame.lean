/-
  Whether two lists are alike but for their order: the program's answer.
  Conditions: lists of at most 2^20 Go strings.
-/
import Derived.Test.YtigijgcldgbokaaGreatProg
import Derived.Test.YtigijgcldgbokaaGreatBOver
namespace Go.Proofs.YtigijgcldgbokaaGreat
open Go.RowKit Go.Shelf Go.Maps
set_option linter.unusedVariables false

/-- alike but for their order -/
def sameB (ts us : List Txt) : Bool := decide (ts.length = us.length) && decide (overL ts us = ts.length)

end Go.Proofs.YtigijgcldgbokaaGreat
