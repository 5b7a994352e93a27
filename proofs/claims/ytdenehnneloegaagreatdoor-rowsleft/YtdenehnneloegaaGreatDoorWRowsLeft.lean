/-
  The statement's walk, of the code that landed.
  Conditions: those of its text.
-/
import Derived.Test.YtdenehnneloegaaGreatDoorProg
import Derived.Test.YtdenehnneloegaaGreatDoorPb47
import Derived.Test.YtdenehnneloegaaGreatDoorRwWLeft
namespace Go.Proofs.YtdenehnneloegaaGreatDoor
open Go.RowKit Go.Shelf
theorem walkRowsLeft : type_of% (walkRowsLeft_of by_key_ok by_look_ok rows_ok) := walkRowsLeft_of by_key_ok by_look_ok rows_ok
end Go.Proofs.YtdenehnneloegaaGreatDoor
