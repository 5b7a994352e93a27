/-
  The statement's walk, of the code that landed.
  Conditions: those of its text.
-/
import Derived.Test.YtdenehnneloegaaGreatDoorProg
import Derived.Test.YtdenehnneloegaaGreatDoorPb47
import Derived.Test.YtdenehnneloegaaGreatDoorPb40
namespace Go.Proofs.YtdenehnneloegaaGreatDoor
open Go.RowKit Go.Shelf
theorem walkRowsKeyed : type_of% (walkRowsKeyed_of usable_ok places_ok keyOf_ok compare_ok by_key_ok by_look_ok rows_ok) := walkRowsKeyed_of usable_ok places_ok keyOf_ok compare_ok by_key_ok by_look_ok rows_ok
end Go.Proofs.YtdenehnneloegaaGreatDoor
