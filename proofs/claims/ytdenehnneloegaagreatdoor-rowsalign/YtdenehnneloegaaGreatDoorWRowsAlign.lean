/-
  The statement's walk, of the code that landed.
  Conditions: those of its text.
-/
import Derived.Test.YtdenehnneloegaaGreatDoorProg
import Derived.Test.YtdenehnneloegaaGreatDoorPa45
import Derived.Test.YtdenehnneloegaaGreatDoorRwWAlign
namespace Go.Proofs.YtdenehnneloegaaGreatDoor
open Go.RowKit Go.Shelf
theorem walkRowsAlign : type_of% (walkRowsAlign_of by_key_ok by_look_ok rows_ok) := walkRowsAlign_of by_key_ok by_look_ok rows_ok
end Go.Proofs.YtdenehnneloegaaGreatDoor
