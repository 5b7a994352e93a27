/-
  A piece of a list changes places with the piece behind it: what the library's rotation makes.
  Conditions: lists of at most 2^38 pairs.
-/
import Derived.WalkKit
import Derived.WalkMore
import Derived.IntWalk
import Derived.Lib.Hide
import Derived.Test.YtmomjhnbhckhpaaDoorProg
import Derived.Test.YtmomjhnbhckhpaaDoorPRot
namespace Go.Proofs.YtmomjhnbhckhpaaDoor
open Go.RowKit Go.Shelf
set_option linter.unusedVariables false

theorem int_bne2 (n m : Nat) : ((n : Int) != (m : Int)) = decide (n ≠ m) := int_bne n m

end Go.Proofs.YtmomjhnbhckhpaaDoor
