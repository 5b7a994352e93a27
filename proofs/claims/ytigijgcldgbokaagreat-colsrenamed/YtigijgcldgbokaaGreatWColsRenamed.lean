/-
  The statement's walk, of the code that landed.
  Conditions: those of its text.
-/
import Derived.Test.YtigijgcldgbokaaGreatProg
import Derived.Test.YtigijgcldgbokaaGreatCAlign
import Derived.Test.YtigijgcldgbokaaGreatCwRenamed
namespace Go.Proofs.YtigijgcldgbokaaGreat
open Go.RowKit Go.Shelf
theorem walkColsRenamed : type_of% (walkColsRenamed_of named_ok align_ok) := walkColsRenamed_of named_ok align_ok
end Go.Proofs.YtigijgcldgbokaaGreat
