/-
  Those that are in no pair: the program's answer, and the document's reference's.
  Conditions: lists of at most 2^38 pairs of Go integers; numbers up to 2^31 - 1.
-/
import Derived.IntWalk
import Derived.WalkArith
import Derived.OwnWalk
import Derived.Deep.Cut
import Derived.Test.YtfidddnagfbnhaaProg
import Derived.Test.YtfidddnagfbnhaaPRest
namespace Go.Proofs.Ytfidddnagfbnhaa
open Go.RowKit Go.Shelf Go.Maps
set_option linter.unusedVariables false
theorem in_take_next (S : List Int) (i : Nat) (x a : Int) (h : S[i]? = some x) : decide (a ∈ S.take (i + 1)) = (decide (a ∈ S.take i) || (x == a)) := by
  obtain ⟨hk, e⟩ := List.getElem?_eq_some_iff.1 h
  rw [List.take_succ_eq_append_getElem hk, e]
  by_cases h1 : a ∈ S.take i
  · simp [h1]
  · by_cases h2 : x = a
    · subst h2; simp
    · have h3 : ¬ a = x := fun e => h2 e.symm
      simp [h1, h2, h3]

end Go.Proofs.Ytfidddnagfbnhaa
