/-
  Which pairs are still: the program's answer.
  Conditions: lists of at most 2^38 pairs.
-/
import Derived.WalkKit
import Derived.WalkMore
import Derived.IntWalk
import Derived.WalkArith
import Derived.OwnWalk
import Derived.Lib.Hide
import Derived.Deep.Cut
import Derived.Deep.Onto
import Derived.Test.YtfidddnagfbnhaaProg
import Derived.Test.YtfidddnagfbnhaaPLengths
namespace Go.Proofs.Ytfidddnagfbnhaa
open Go.RowKit Go.Shelf
set_option linter.unusedVariables false

theorem addr0 (g k : Nat) : (⟨g, 0, none⟩ : Addr).add k = ⟨g, k, none⟩ := by unfold Addr.add; split <;> simp_all
theorem pick_hit (ns : List Nat) (k left : Nat) (h : ns[k]? = some left) (h0 : left ≠ 0) : pick (ns.drop k) k left = (k : Int) :: pick (ns.drop (k + 1)) (k + 1) (left - 1) := by
  obtain ⟨hk, e⟩ := List.getElem?_eq_some_iff.1 h
  rw [List.drop_eq_getElem_cons hk, e, pick, if_neg h0, if_pos rfl]
theorem pick_miss (ns : List Nat) (k left n : Nat) (h : ns[k]? = some n) (h0 : left ≠ 0) (hn : n ≠ left) : pick (ns.drop k) k left = pick (ns.drop (k + 1)) (k + 1) left := by
  obtain ⟨hk, e⟩ := List.getElem?_eq_some_iff.1 h
  rw [List.drop_eq_getElem_cons hk, e, pick, if_neg h0, if_neg hn]

end Go.Proofs.Ytfidddnagfbnhaa
