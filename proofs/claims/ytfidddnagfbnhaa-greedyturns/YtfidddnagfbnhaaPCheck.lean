/-
  Whether they may be pairs: the program's answer, and the document's reference's.
  Conditions: lists of at most 2^38 pairs of Go integers.
-/
import Derived.WalkKit
import Derived.WalkMore
import Derived.IntWalk
import Derived.Lib.Hide
import Derived.StillTailTactics
import Derived.Deep.QuietTactic
import Derived.BigQuiet
import Derived.Deep.Cut
import Derived.Test.YtfidddnagfbnhaaProg
import Derived.Test.YtfidddnagfbnhaaPSort
import Derived.Test.YtfidddnagfbnhaaPTwice
import Derived.Test.YtfidddnagfbnhaaPWithin
namespace Go.Proofs.Ytfidddnagfbnhaa
open Go.RowKit Go.Shelf
set_option linter.unusedVariables false

/-- what is wrong with pairs; 0: nothing -/
def checkP (l : PL) (na nb : Int) : Int := if na < 0 ∨ nb < 0 then 1 else if l.any (badP na nb) then 11 else if twiceL l then 10 else if risesB l then 0 else 12
theorem checkP1 {l : PL} {na nb : Int} (h : na < 0 ∨ nb < 0) : checkP l na nb = 1 := by unfold checkP; rw [if_pos h]
theorem checkP2 {l : PL} {na nb : Int} (h : ¬ (na < 0 ∨ nb < 0)) (k : l.any (badP na nb) = true) : checkP l na nb = 11 := by unfold checkP; rw [if_neg h, if_pos k]
theorem checkP3 {l : PL} {na nb : Int} (h : ¬ (na < 0 ∨ nb < 0)) (k : l.any (badP na nb) = false) (m : twiceL l = true) : checkP l na nb = 10 := by unfold checkP; rw [if_neg h, k, m]; rfl
theorem checkP4 {l : PL} {na nb : Int} (h : ¬ (na < 0 ∨ nb < 0)) (k : l.any (badP na nb) = false) (m : twiceL l = false) (r : risesB l = false) : checkP l na nb = 12 := by unfold checkP; rw [if_neg h, k, m, r]; rfl
theorem checkP5 {l : PL} {na nb : Int} (h : ¬ (na < 0 ∨ nb < 0)) (k : l.any (badP na nb) = false) (m : twiceL l = false) (r : risesB l = true) : checkP l na nb = 0 := by unfold checkP; rw [if_neg h, k, m, r]; rfl

theorem any_no (f : Int × Int → Bool) (l : PL) (h : ∀ (j : Nat) p, j < l.length → l[j]? = some p → f p = false) : l.any f = false :=
  List.any_eq_false.2 (fun p hp => by
    obtain ⟨i, hi, rfl⟩ := List.getElem_of_mem hp
    rw [h i _ hi (List.getElem?_eq_getElem hi)]; simp)
theorem any_yes (f : Int × Int → Bool) (l : PL) (k : Nat) (p : Int × Int) (hp : l[k]? = some p) (h : f p = true) : l.any f = true :=
  List.any_eq_true.2 ⟨p, List.mem_of_getElem? hp, h⟩
theorem notin_next {α : Type} (xs : List α) (k : Nat) (x y : α) (hy : xs[k]? = some y) (h : x ∉ xs.take k) (hne : ¬ y = x) : x ∉ xs.take (k + 1) := by
  obtain ⟨hk, e⟩ := List.getElem?_eq_some_iff.1 hy
  rw [List.take_succ_eq_append_getElem hk, e, List.mem_append]
  rintro (h' | h')
  · exact h h'
  · simp at h'; exact hne h'.symm
theorem in_take {α : Type} (xs : List α) (k i : Nat) (x : α) (hx : xs[k]? = some x) (h : k < i) : x ∈ xs.take i := by
  refine List.mem_of_getElem? (i := k) ?_
  rw [List.getElem?_take, if_pos h, hx]

end Go.Proofs.Ytfidddnagfbnhaa
