/-
  Lists of rows with one moved: what the program's generic function makes.
  Conditions: lists of at most 2^38 elements.
-/
import Derived.WalkKit
import Derived.WalkMore
import Derived.WalkLawsBesides
import Derived.Lib.Hide
import Derived.Test.YtigijgcldgbokaaGreatProg
import Derived.Test.YtigijgcldgbokaaGreatEGenR
namespace Go.Proofs.YtigijgcldgbokaaGreat
open Go.RowKit Go.Shelf
set_option linter.unusedVariables false

theorem del_lenR {vs o : List Value} {k : Int} (h : delL vs k = .ok o) : 0 ≤ k ∧ k < (vs.length : Int) ∧ o.length ≤ vs.length ∧ ∀ u ∈ o, u ∈ vs := by
  unfold delL at h
  split at h
  · rename_i hk
    injection h with h
    subst h
    refine ⟨hk.1, hk.2, by simp; omega, fun u hu => ?_⟩
    rcases List.mem_append.1 hu with h | h
    · exact List.mem_of_mem_take h
    · exact List.mem_of_mem_drop h
  · cases h

end Go.Proofs.YtigijgcldgbokaaGreat
