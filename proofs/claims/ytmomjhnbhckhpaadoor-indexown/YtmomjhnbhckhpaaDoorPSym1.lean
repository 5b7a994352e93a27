/-
  The library's merge of a piece of one pair with the piece behind it.
  Conditions: lists of at most 2^38 pairs.
-/
import Derived.WalkKit
import Derived.WalkMore
import Derived.IntWalk
import Derived.RegionTactic
import Derived.BigRegion
import Derived.StillTailTactics
import Derived.Lib.Hide
import Derived.Deep.Cut
import Derived.Test.YtmomjhnbhckhpaaDoorProg
import Derived.Test.YtmomjhnbhckhpaaDoorPMathT
namespace Go.Proofs.YtmomjhnbhckhpaaDoor
open Go.RowKit Go.Shelf
set_option linter.unusedVariables false

theorem way_swapR (P S : PL) (p q : Int × Int) (k : Nat) (R : PL) (hk : k + 1 ≤ S.length) (hq : S[k]? = some q) : (wayL P S p k R)[P.length + k + 1]? = some q ∧ ((wayL P S p k R).set (P.length + k) q).set (P.length + k + 1) p = wayL P S p (k + 1) R := by
  obtain ⟨hl, e⟩ := List.getElem?_eq_some_iff.1 hq
  have h1 : wayL P S p (k + 1) R = (P ++ S.take k) ++ q :: p :: (S.drop (k + 1) ++ R) := by
    unfold wayL; rw [List.take_succ_eq_append_getElem hl, e]; simp
  have h2 : wayL P S p k R = (P ++ S.take k) ++ p :: q :: (S.drop (k + 1) ++ R) := by
    unfold wayL; rw [List.drop_eq_getElem_cons hl, e]; simp
  have hlen : (P ++ S.take k).length = P.length + k := by simp; omega
  rw [h1, h2]
  constructor
  · rw [List.getElem?_append_right (by rw [hlen]; omega), hlen, show P.length + k + 1 - (P.length + k) = 1 from by omega]; rfl
  · rw [List.set_append_right _ _ (by rw [hlen]; exact Nat.le_refl _), List.set_append_right _ _ (by rw [hlen]; omega), hlen, Nat.sub_self, show P.length + k + 1 - (P.length + k) = 1 from by omega]
    rfl
theorem sorted_le {l : PL} (h : Sorted l) (i j : Nat) (p q : Int × Int) (hp : l[i]? = some p) (hq : l[j]? = some q) (hij : i ≤ j) : p.2 ≤ q.2 := by
  rcases Nat.lt_or_ge i j with hlt | hge
  · obtain ⟨h1, e1⟩ := List.getElem?_eq_some_iff.1 hp
    obtain ⟨h2, e2⟩ := List.getElem?_eq_some_iff.1 hq
    have := List.pairwise_iff_getElem.1 h i j h1 h2 hlt
    rw [e1, e2] at this; exact this
  · rw [show j = i from by omega, hp] at hq; cases hq; exact Int.le_refl _
theorem sorted_take {l : PL} (h : Sorted l) (k : Nat) : Sorted (l.take k) := h.sublist (List.take_sublist _ _)
theorem sorted_drop {l : PL} (h : Sorted l) (k : Nat) : Sorted (l.drop k) := h.sublist (List.drop_sublist _ _)
theorem take_at {l : PL} {c : Nat} {p : Int × Int} (h : p ∈ l.take c) : ∃ i, i < c ∧ l[i]? = some p := by
  obtain ⟨i, hi, rfl⟩ := List.getElem_of_mem h
  rw [List.length_take] at hi
  exact ⟨i, by omega, by rw [List.getElem_take]; exact List.getElem?_eq_getElem (by omega)⟩
theorem drop_at {l : PL} {c : Nat} {p : Int × Int} (h : p ∈ l.drop c) : ∃ i, c ≤ i ∧ l[i]? = some p := by
  obtain ⟨i, hi, rfl⟩ := List.getElem_of_mem h
  rw [List.length_drop] at hi
  exact ⟨c + i, by omega, by rw [List.getElem_drop]; exact List.getElem?_eq_getElem (by omega)⟩
/-- one pair, put ahead of the first one that is not less -/
theorem sortB_one (x : Int × Int) (B : PL) (c : Nat) (hB : Sorted B) (hc : c ≤ B.length) (h1 : c = 0 ∨ ∃ q, B[c - 1]? = some q ∧ q.2 < x.2) (h2 : c = B.length ∨ ∃ q, B[c]? = some q ∧ x.2 ≤ q.2) : sortB ([x] ++ B) = B.take c ++ x :: B.drop c := by
  have k1 : ∀ q ∈ B.take c, q.2 < x.2 := fun q hq => by
    obtain ⟨i, hi, e⟩ := take_at hq
    rcases h1 with rfl | ⟨r, hr, hrx⟩
    · omega
    · have := sorted_le hB i (c - 1) q r e hr (by omega); omega
  have k2 : ∀ q ∈ B.drop c, x.2 ≤ q.2 := fun q hq => by
    obtain ⟨i, hi, e⟩ := drop_at hq
    rcases h2 with rfl | ⟨r, hr, hrx⟩
    · have := (List.getElem?_eq_some_iff.1 e).1; omega
    · have := sorted_le hB c i r q hr e hi; omega
  refine (sortB_is ⟨sorted_app (sorted_take hB c) (List.pairwise_cons.2 ⟨k2, sorted_drop hB c⟩) (fun p hp q hq => ?_), fun v => ?_⟩).symm
  · have := k1 p hp
    rcases List.mem_cons.1 hq with rfl | hq
    · omega
    · have := k2 q hq; omega
  · have e : ofB v ([x] ++ B) = ofB v ([x] ++ (B.take c ++ B.drop c)) := by rw [List.take_append_drop]
    rw [e]
    simp only [ofB_app, ofB_cons]
    by_cases hv : x.2 = v
    · rw [ofB_none v (B.take c) (fun q hq => by have := k1 q hq; omega)]; simp [hv, ofB]
    · simp [hv, ofB]

end Go.Proofs.YtmomjhnbhckhpaaDoor
