/-
  The statement's walk, of the code that landed.
  Conditions: those of its text.
-/
import Derived.Test.YtdenehnneloegaaGreatDoorProg
import Derived.Test.YtdenehnneloegaaGreatDoorPa45
import Derived.Test.YtdenehnneloegaaGreatDoorRwWBy
namespace Go.Proofs.YtdenehnneloegaaGreatDoor
open Go.RowKit Go.Shelf
theorem walkRowsBy : type_of% (walkRowsBy_of by_key_ok by_look_ok rows_ok) := walkRowsBy_of by_key_ok by_look_ok rows_ok
end Go.Proofs.YtdenehnneloegaaGreatDoor
