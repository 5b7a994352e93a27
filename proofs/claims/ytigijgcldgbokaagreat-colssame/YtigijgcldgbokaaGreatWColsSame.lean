/-
  The statement's walk, of the code that landed.
  Conditions: those of its text.
-/
import Derived.Test.YtigijgcldgbokaaGreatProg
import Derived.Test.YtigijgcldgbokaaGreatCAlign
import Derived.Test.YtigijgcldgbokaaGreatCwSame
namespace Go.Proofs.YtigijgcldgbokaaGreat
open Go.RowKit Go.Shelf
theorem walkColsSame : type_of% (walkColsSame_of named_ok align_ok) := walkColsSame_of named_ok align_ok
end Go.Proofs.YtigijgcldgbokaaGreat
