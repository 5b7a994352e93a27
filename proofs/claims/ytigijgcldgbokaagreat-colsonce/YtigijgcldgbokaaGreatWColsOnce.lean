/-
  The statement's walk, of the code that landed.
  Conditions: those of its text.
-/
import Derived.Test.YtigijgcldgbokaaGreatProg
import Derived.Test.YtigijgcldgbokaaGreatCAlign
import Derived.Test.YtigijgcldgbokaaGreatCwOnce
namespace Go.Proofs.YtigijgcldgbokaaGreat
open Go.RowKit Go.Shelf
theorem walkColsOnce : type_of% (walkColsOnce_of named_ok align_ok) := walkColsOnce_of named_ok align_ok
end Go.Proofs.YtigijgcldgbokaaGreat
