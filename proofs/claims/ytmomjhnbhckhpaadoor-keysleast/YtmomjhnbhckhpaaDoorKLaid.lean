/-
  What the list of tables in a statement's row gives: the table of powers of ten; a start in which the tables lie.
  Conditions: none.
-/
import Derived.Test.YtmomjhnbhckhpaaDoorRows
import Derived.Test.YtmomjhnbhckhpaaDoorKText
import Derived.LaidLaws
import Derived.Lib.LaidTab
import Derived.Stop.LaidErr
import Derived.RowKit
namespace Go.Proofs.YtmomjhnbhckhpaaDoor
open Go.ChangeShapes Go.RowKit
set_option linter.unusedVariables false

abbrev laidL : List (String × DataW Unit) := [("math/bits.deBruijn32tab", Rows.laid_math_bits_deBruijn32tab), ("math/bits.deBruijn64tab", Rows.laid_math_bits_deBruijn64tab), ("internal/strconv.uint64pow10", Rows.laid_internal_strconv_uint64pow10)]
theorem laid_pow : (Rows.laid_internal_strconv_uint64pow10 : DataW Unit) = Lib.tabData .u64 Lib.pow10Tab := by
  unfold Rows.laid_internal_strconv_uint64pow10 Lib.tabData Lib.pow10Tab
  simp [List.range, List.range.loop]
theorem pow_of_laid {W : World} (h : laidMet Tryd.prog laidL W) : Pow W := by
  have h3 := h.tail.tail
  rw [laid_pow] at h3
  exact Lib.tabIs_of_head (g := 1) (t := 145) (e := 119) (n := 20) (by kernel_rfl) (by kernel_rfl) (by kernel_rfl) (by kernel_rfl) (by kernel_rfl) (by kernel_rfl) h3

def tab32 : List Int := [0, 1, 28, 2, 29, 14, 24, 3, 30, 22, 20, 15, 25, 17, 4, 8, 31, 27, 13, 23, 21, 19, 16, 7, 26, 12, 18, 6, 11, 5, 10, 9]
def tab64 : List Int := [0, 1, 56, 2, 57, 49, 28, 3, 61, 58, 42, 50, 38, 29, 17, 4, 62, 47, 59, 36, 45, 43, 51, 22, 53, 39, 33, 30, 24, 18, 12, 5, 63, 55, 48, 27, 60, 41, 37, 16, 46, 35, 44, 21, 52, 32, 23, 11, 54, 26, 40, 15, 34, 20, 31, 10, 25, 14, 19, 9, 13, 8, 7, 6]
def putTab (h : Array Obj) (g : Nat) (k : IntKind) (zs : List Int) : Array Obj := h.modify g fun
  | .cells _ t fr => .cells (zs.map fun z => Value.int k z).toArray t fr
  | o => o
/-- a start in which the tables lie -/
noncomputable def laidWorld (os : Os) : World :=
  let w0 := World.holding Tryd.prog os ⟨#[], #[], []⟩
  { w0 with heap := putTab (putTab (putTab w0.heap 1 .u64 Lib.pow10Tab) 2 .u8 tab32) 3 .u8 tab64 }
theorem laidWorld_met (os : Os) (args : Array Value) : laidMet Tryd.prog laidL ((laidWorld os).forCall (fun _ _ => 0) ⟨#[], args, []⟩).memory :=
  laidMet_of_run' 8 (by kernel_rfl) (by kernel_rfl)
end Go.Proofs.YtmomjhnbhckhpaaDoor
