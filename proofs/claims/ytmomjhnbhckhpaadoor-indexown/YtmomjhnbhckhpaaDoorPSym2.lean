/-
  The library's merge of a piece with one pair behind it.
  Conditions: lists of at most 2^38 pairs.
-/
import Derived.WalkKit
import Derived.WalkMore
import Derived.IntWalk
import Derived.RegionTactic
import Derived.BigRegion
import Derived.StillTailTactics
import Derived.Lib.Hide
import Derived.Deep.Cut
import Derived.Test.YtmomjhnbhckhpaaDoorProg
import Derived.Test.YtmomjhnbhckhpaaDoorPSym1
namespace Go.Proofs.YtmomjhnbhckhpaaDoor
open Go.RowKit Go.Shelf
set_option linter.unusedVariables false

theorem sortB_last (A : PL) (y : Int × Int) (c : Nat) (hA : Sorted A) (hc : c ≤ A.length) (h1 : c = 0 ∨ ∃ q, A[c - 1]? = some q ∧ q.2 ≤ y.2) (h2 : c = A.length ∨ ∃ q, A[c]? = some q ∧ y.2 < q.2) : sortB (A ++ [y]) = A.take c ++ y :: A.drop c := by
  rw [sortB_snoc, sortB_sorted hA]
  unfold putB
  rw [putK_is y A c hc h1 (fun t q ht hq => by
    rcases h2 with rfl | ⟨r, hr, hry⟩
    · have := (List.getElem?_eq_some_iff.1 hq).1; omega
    · have := sorted_le hA c t r q hr hq ht; omega)]

end Go.Proofs.YtmomjhnbhckhpaaDoor
