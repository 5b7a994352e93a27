/-
  The statement's walk, of the code that landed.
  Conditions: those of its text.
-/
import Derived.Test.YtdenehnneloegaaGreatDoorProg
import Derived.Test.YtdenehnneloegaaGreatDoorPb47
import Derived.Test.YtdenehnneloegaaGreatDoorRwWSame
namespace Go.Proofs.YtdenehnneloegaaGreatDoor
open Go.RowKit Go.Shelf
theorem walkRowsSame : type_of% (walkRowsSame_of align_ok by_key_ok by_look_ok rows_ok) := walkRowsSame_of align_ok by_key_ok by_look_ok rows_ok
end Go.Proofs.YtdenehnneloegaaGreatDoor
