/-
  The statement's walk, of the code that landed.
  Conditions: those of its text.
-/
import Derived.Test.YtigijgcldgbokaaGreatProg
import Derived.Test.YtigijgcldgbokaaGreatCAlign
import Derived.Test.YtigijgcldgbokaaGreatCwAlign
namespace Go.Proofs.YtigijgcldgbokaaGreat
open Go.RowKit Go.Shelf
theorem walkColsAlign : type_of% (walkColsAlign_of named_ok align_ok) := walkColsAlign_of named_ok align_ok
end Go.Proofs.YtigijgcldgbokaaGreat
