/-
  The statement's walk, of the code that landed.
  Conditions: those of its text.
-/
import Derived.Test.YtigijgcldgbokaaGreatProg
import Derived.Test.YtigijgcldgbokaaGreatCAlign
import Derived.Test.YtigijgcldgbokaaGreatCwMoved
namespace Go.Proofs.YtigijgcldgbokaaGreat
open Go.RowKit Go.Shelf
theorem walkColsMoved : type_of% (walkColsMoved_of named_ok align_ok) := walkColsMoved_of named_ok align_ok
end Go.Proofs.YtigijgcldgbokaaGreat
