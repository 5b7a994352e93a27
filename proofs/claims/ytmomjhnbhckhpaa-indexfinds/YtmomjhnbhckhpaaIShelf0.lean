/-
  The numbers at which the library's functions stand in this translation, for the library's own contracts (each line is one comparison).
  Conditions: none.
-/
import Derived.Shelf.Small.Strs
import Derived.Test.YtmomjhnbhckhpaaProg
namespace Go.Proofs.Ytmomjhnbhckhpaa
open Go.Shelf
def laysS_ren : Go.Shelf.Ren := ⟨fun | 106 => 30 | 213 => 42 | 265 => 49 | n => n, fun | 9 => 9 | 3 => 3 | n => n, fun | n => n⟩
theorem laysS : Go.Proofs.Lays.n106 Try.prog laysS_ren := {
  mixed := by kernel_rfl
  f106 := Try.func30.trans (congrArg some (by kernel_rfl))
  f213 := Try.func42.trans (congrArg some (by kernel_rfl))
  f265 := Try.func49.trans (congrArg some (by kernel_rfl))
  t3 := Try.underlying3
  a3 := Try.isAgg3
  z3 := Try.sizeOf3
  v3 := Try.zeroValue3
  t9 := Try.underlying9
  a9 := Try.isAgg9
  z9 := Try.sizeOf9
  v9 := Try.zeroValue9 }
end Go.Proofs.Ytmomjhnbhckhpaa
