/-
  Two pieces of a list change places: what the library's own functions make.
  Conditions: lists of at most 2^38 pairs.
-/
import Derived.WalkKit
import Derived.WalkMore
import Derived.IntWalk
import Derived.RegionTactic
import Derived.BigRegion
import Derived.Lib.Hide
import Derived.Deep.Cut
import Derived.Test.YtmomjhnbhckhpaaDoorProg
import Derived.Test.YtmomjhnbhckhpaaDoorPIns
namespace Go.Proofs.YtmomjhnbhckhpaaDoor
open Go.RowKit Go.Shelf
set_option linter.unusedVariables false

theorem set2 (L1 L2 L3 : PL) (x y : Int × Int) : ((L1 ++ x :: (L2 ++ y :: L3)).set L1.length y).set (L1.length + 1 + L2.length) x = L1 ++ y :: (L2 ++ x :: L3) := by
  rw [List.set_append_right _ _ (Nat.le_refl _), Nat.sub_self, List.set_cons_zero, List.set_append_right _ _ (by omega), show L1.length + 1 + L2.length - L1.length = L2.length + 1 from by omega, List.set_cons_succ, List.set_append_right _ _ (Nat.le_refl _), Nat.sub_self, List.set_cons_zero]
/-- two pieces X and Y, of which the first i have changed places -/
def midL (P X M Y R : PL) (i : Nat) : PL := P ++ (Y.take i ++ X.drop i) ++ M ++ (X.take i ++ Y.drop i) ++ R
theorem mid_form (P X M Y R : PL) (i : Nat) (x y : Int × Int) (hx : X[i]? = some x) (hy : Y[i]? = some y) :
    midL P X M Y R i = (P ++ Y.take i) ++ x :: ((X.drop (i + 1) ++ M ++ X.take i) ++ y :: (Y.drop (i + 1) ++ R)) ∧ midL P X M Y R (i + 1) = (P ++ Y.take i) ++ y :: ((X.drop (i + 1) ++ M ++ X.take i) ++ x :: (Y.drop (i + 1) ++ R)) := by
  obtain ⟨h1, e1⟩ := List.getElem?_eq_some_iff.1 hx
  obtain ⟨h2, e2⟩ := List.getElem?_eq_some_iff.1 hy
  constructor
  · unfold midL; rw [List.drop_eq_getElem_cons h1, List.drop_eq_getElem_cons h2, e1, e2]; simp
  · unfold midL; rw [List.take_succ_eq_append_getElem h1, List.take_succ_eq_append_getElem h2, e1, e2]; simp
theorem mid_step (P X M Y R : PL) (i a b : Nat) (x y : Int × Int) (hx : X[i]? = some x) (hy : Y[i]? = some y) (ha : a = P.length + i) (hb : b = P.length + X.length + M.length + i) :
    (midL P X M Y R i)[a]? = some x ∧ (midL P X M Y R i)[b]? = some y ∧ ((midL P X M Y R i).set a y).set b x = midL P X M Y R (i + 1) := by
  obtain ⟨e1, e2⟩ := mid_form P X M Y R i x y hx hy
  have h1 := (List.getElem?_eq_some_iff.1 hx).1
  have h2 := (List.getElem?_eq_some_iff.1 hy).1
  have l1 : (P ++ Y.take i).length = a := by simp; omega
  have l2 : (P ++ Y.take i).length + 1 + (X.drop (i + 1) ++ M ++ X.take i).length = b := by simp; omega
  refine ⟨?_, ?_, ?_⟩
  · rw [e1, ← l1, List.getElem?_append_right (Nat.le_refl _), Nat.sub_self]; rfl
  · rw [e1, ← l2, List.getElem?_append_right (by omega), show (P ++ Y.take i).length + 1 + (X.drop (i + 1) ++ M ++ X.take i).length - (P ++ Y.take i).length = (X.drop (i + 1) ++ M ++ X.take i).length + 1 from by omega, List.getElem?_cons_succ, List.getElem?_append_right (Nat.le_refl _), Nat.sub_self]; rfl
  · rw [e1, e2, ← l2, ← l1]; exact set2 _ _ _ x y
theorem mid_zero (P X M Y R : PL) : midL P X M Y R 0 = P ++ X ++ M ++ Y ++ R := by simp [midL]
theorem mid_all (P X M Y R : PL) (h : X.length = Y.length) : midL P X M Y R X.length = P ++ Y ++ M ++ X ++ R := by
  unfold midL
  rw [List.drop_length, List.take_length, List.take_of_length_le (by omega), List.drop_eq_nil_of_le (show Y.length ≤ X.length by omega)]; simp

end Go.Proofs.YtmomjhnbhckhpaaDoor
