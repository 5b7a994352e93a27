/-
  How long a choice of rising As can be from each place on: what the program reckons, by halving.
  Conditions: lists of at most 2^38 pairs.
-/
import Derived.WalkKit
import Derived.WalkMore
import Derived.IntWalk
import Derived.WalkArith
import Derived.OwnWalk
import Derived.OneCell
import Derived.Lib.Hide
import Derived.Deep.Cut
import Derived.Deep.Onto
import Derived.BigQuiet
import Derived.Deep.QuietTactic
import Derived.Test.YtfidddnagfbnhaaProg
import Derived.Test.YtfidddnagfbnhaaPSearch
namespace Go.Proofs.Ytfidddnagfbnhaa
open Go.RowKit Go.Shelf
set_option linter.unusedVariables false

theorem setBox {w : World} {B : Nat} {u v : Value} {T : TypeId} (h : w.heap[B]? = some (.cells #[u] T (0, 0))) : (w.setCell ⟨B, 0, none⟩ v).heap[B]? = some (.cells #[v] T (0, 0)) := by
  rw [heap_setCell_same w B 0 #[u] T v h]; rfl
/-- what is reckoned so far: from place s on -/
def rowK (l : List Int) (s : Nat) : List Int := List.replicate s 0 ++ (longs (l.drop s)).map (fun n : Nat => (n : Int))
theorem rowK_len (l : List Int) (s : Nat) (h : s ≤ l.length) : (rowK l s).length = l.length := by simp [rowK, longs_len]; omega
theorem rowK_next (l : List Int) (m i : Nat) (a : Int) (ha : l[m]? = some a) (hb : best a (l.drop (m + 1)) (longs (l.drop (m + 1))) = i) : (rowK l (m + 1)).set m ((i : Int) + 1) = rowK l m := by
  obtain ⟨hm, e⟩ := List.getElem?_eq_some_iff.1 ha
  unfold rowK
  rw [List.set_append_left _ _ (by simp), show l.drop m = a :: l.drop (m + 1) from by rw [List.drop_eq_getElem_cons hm, e]]
  simp only [longs, hb, List.map_cons]
  rw [List.replicate_succ', List.set_append_right _ _ (by simp)]
  simp
theorem rowK_zero (l : List Int) : rowK l 0 = (longs l).map (fun n : Nat => (n : Int)) := by simp [rowK]
theorem rowK_all (l : List Int) : rowK l l.length = List.replicate l.length 0 := by simp [rowK, longs]
theorem ints_zero (n : Nat) : (madeCells #[.int .i64 0] n).toList = (List.replicate n (0 : Int)).map (Value.int .i64) := by rw [toList_madeCells_one]; simp
theorem OwnI.ints {w : World} {base : Nat} {v : Value} {l : List Int} (h : OwnI w base v l) {ao : Option Addr} {n c : Nat} (hv : v = .slice ao n c) : IntsAt w ao l := by
  subst hv
  rcases h.2 with ⟨h1, h0⟩ | ⟨g, cap, cur, h1, _⟩
  · exact .inl (List.eq_nil_of_length_eq_zero h0)
  · cases h1
    exact .inr ⟨_, rfl, (World.ownsRow.lt h g rfl).2, fun i p hp => World.ownsRow.cells h rfl i _ (by rw [List.getElem?_map, hp]; rfl)⟩
theorem map_set_int (l : List Int) (i : Nat) (a : Int) : (l.map (Value.int .i64)).set i (.int .i64 a) = (l.set i a).map (Value.int .i64) := by rw [List.map_set]

end Go.Proofs.Ytfidddnagfbnhaa
