/-
  Pairs that are turned: the program's answer, over what the library's stable sort makes.
  Conditions: lists of at most 2^30 pairs.
-/
import Derived.WalkKit
import Derived.WalkMore
import Derived.IntWalk
import Derived.OwnWalk
import Derived.OneCell
import Derived.Lib.Hide
import Derived.Deep.Cut
import Derived.Deep.Onto
import Derived.Test.YtfidddnagfbnhaaProg
import Derived.Test.YtfidddnagfbnhaaPIns
import Derived.Test.YtfidddnagfbnhaaPThrough
namespace Go.Proofs.Ytfidddnagfbnhaa
open Go.RowKit Go.Shelf
set_option linter.unusedVariables false

theorem insL_all (l : PL) : insL l 0 l.length = sortB l := by simp [insL]

def swapP (p : Int × Int) : Int × Int := (p.2, p.1)
/-- the first k of a list, turned -/
def turnK (l : PL) (k : Nat) : PL := (l.take k).map swapP ++ l.drop k
theorem turnK_at (l : PL) (k : Nat) (p : Int × Int) (h : l[k]? = some p) : (turnK l k)[k]? = some p := by
  obtain ⟨hk, e⟩ := List.getElem?_eq_some_iff.1 h
  unfold turnK
  rw [List.getElem?_append_right (by simp; omega)]
  simp [show min k l.length = k from by omega, hk, e]
theorem turnK_next (l : PL) (k : Nat) (p : Int × Int) (h : l[k]? = some p) : (turnK l k).set k (swapP p) = turnK l (k + 1) := by
  obtain ⟨hk, e⟩ := List.getElem?_eq_some_iff.1 h
  have hd : l.drop k = p :: l.drop (k + 1) := by rw [List.drop_eq_getElem_cons hk, e]
  unfold turnK
  rw [List.set_append_right _ _ (by simp; omega), List.take_succ_eq_append_getElem hk, e, hd]
  simp [show min k l.length = k from by omega]
theorem turnK_all (l : PL) : turnK l l.length = l.map swapP := by simp [turnK]
theorem turnK_zero (l : PL) : turnK l 0 = l := by simp [turnK]
/-- pairs, turned -/
def turnL (l : PL) : PL := sortB (l.map swapP)
theorem turnL_len (l : PL) : (turnL l).length = l.length := by simp [turnL, sortB_len]

end Go.Proofs.Ytfidddnagfbnhaa
