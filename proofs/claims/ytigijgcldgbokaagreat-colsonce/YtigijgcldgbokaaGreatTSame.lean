/-
  Whether two slices of strings, or of records, are alike: the program's answer, and the document's reference's; and whether records are few and short.
  Conditions: slices of at most 2^40 elements (the statements ask about far smaller ones).
-/
import Derived.WalkKit
import Derived.WalkMore
import Derived.Lib.Hide
import Derived.Deep.RegionWith
import Derived.StillTailTactics
import Derived.Lib.QuietBelow
import Derived.Test.YtigijgcldgbokaaGreatProg
import Derived.Test.YtigijgcldgbokaaGreatPkA
namespace Go.Proofs.YtigijgcldgbokaaGreat
open Go.RowKit Go.Shelf

def sameRow (xs ys : List ByteArray) : Bool := decide (bytesOf xs = bytesOf ys)
def sameRecs (a b : List (List ByteArray)) : Bool := decide (recsOf a = recsOf b)
theorem map_all {α β : Type} (f : α → β) (xs ys : List α) (h : xs.length = ys.length) (hall : ∀ (j : Nat) x y, xs[j]? = some x → ys[j]? = some y → f x = f y) : xs.map f = ys.map f := by
  refine List.ext_getElem? fun i => ?_
  rw [List.getElem?_map, List.getElem?_map]
  by_cases hi : i < xs.length
  · rw [List.getElem?_eq_getElem hi, List.getElem?_eq_getElem (show i < ys.length by omega)]
    exact congrArg some (hall i _ _ (List.getElem?_eq_getElem hi) (List.getElem?_eq_getElem (by omega)))
  · rw [List.getElem?_eq_none (by omega), List.getElem?_eq_none (by omega)]
theorem map_no {α β : Type} (f : α → β) (xs ys : List α) (k : Nat) (x y : α) (hx : xs[k]? = some x) (hy : ys[k]? = some y) (hne : f x ≠ f y) : xs.map f ≠ ys.map f := by
  intro e
  have := congrArg (fun l => l[k]?) e
  simp only [List.getElem?_map, hx, hy, Option.map_some, Option.some.injEq] at this
  exact hne this
theorem row_len (xs ys : List ByteArray) (h : xs.length ≠ ys.length) : sameRow xs ys = false := by
  unfold sameRow bytesOf; exact decide_eq_false (fun e => h (by simpa using congrArg List.length e))
theorem row_all (xs ys : List ByteArray) (h : xs.length = ys.length) (hall : ∀ (j : Nat) x y, j < xs.length → xs[j]? = some x → ys[j]? = some y → x.data.toList = y.data.toList) : sameRow xs ys = true :=
  decide_eq_true (map_all _ xs ys h (fun j x y hx hy => hall j x y (List.getElem?_eq_some_iff.1 hx).1 hx hy))
theorem row_no (xs ys : List ByteArray) (k : Nat) (x y : ByteArray) (hx : xs[k]? = some x) (hy : ys[k]? = some y) (hne : x.data.toList ≠ y.data.toList) : sameRow xs ys = false :=
  decide_eq_false (map_no _ xs ys k x y hx hy hne)
theorem recs_len (xs ys : List (List ByteArray)) (h : xs.length ≠ ys.length) : sameRecs xs ys = false := by
  unfold sameRecs recsOf; exact decide_eq_false (fun e => h (by simpa using congrArg List.length e))
theorem recs_all (xs ys : List (List ByteArray)) (h : xs.length = ys.length) (hall : ∀ (j : Nat) x y, j < xs.length → xs[j]? = some x → ys[j]? = some y → bytesOf x = bytesOf y) : sameRecs xs ys = true :=
  decide_eq_true (map_all _ xs ys h (fun j x y hx hy => hall j x y (List.getElem?_eq_some_iff.1 hx).1 hx hy))
theorem recs_no (xs ys : List (List ByteArray)) (k : Nat) (x y : List ByteArray) (hx : xs[k]? = some x) (hy : ys[k]? = some y) (hne : bytesOf x ≠ bytesOf y) : sameRecs xs ys = false :=
  decide_eq_false (map_no _ xs ys k x y hx hy hne)
theorem int_bne (n m : Nat) : ((n : Int) != (m : Int)) = decide (n ≠ m) := by
  by_cases h : n = m
  · subst h; simp
  · rw [decide_eq_true h, bne_iff_ne]; omega
theorem str_beq (x y : ByteArray) : (x.toList == y.toList) = decide (x.data.toList = y.data.toList) := by
  rw [ba_toList, ba_toList]
  by_cases h : x.data.toList = y.data.toList
  · rw [h]; simp
  · rw [decide_eq_false h, beq_eq_false_iff_ne]; exact h

theorem sameRow_iff (x y : List ByteArray) : (sameRow x y = true ↔ bytesOf x = bytesOf y) := by unfold sameRow; simp

end Go.Proofs.YtigijgcldgbokaaGreat
