/-
  What lies in memory: slices of pairs of numbers, and of numbers; small facts of lists.
  Conditions: none.
-/
import Derived.WalkKit
import Derived.WalkMore
import Derived.Lib.Hide
import Derived.Test.YtmomjhnbhckhpaaDoorProg
import Derived.Test.YtmomjhnbhckhpaaDoorTBase
namespace Go.Proofs.YtmomjhnbhckhpaaDoor
open Go.RowKit Go.Shelf
set_option linter.unusedVariables false

theorem bdn {B : Nat} {a w : World} (h : Below B a w) {n : Nat} : Below B a (w.drewN n) := ⟨h.os, h.tape, h.output, h.size, h.block⟩
theorem cell_grown {W W' : World} {row : Option Nat} {a : Addr} {v : Value} (h : W.cell? a = some v) (hg : W.grownBy W' row) (hne : some a.block ≠ row) : W'.cell? a = some v := by
  obtain ⟨_, _, _, _, hk⟩ := hg
  have := hk a.block (block_lt_of_cell h) hne
  unfold World.cell? at h ⊢; rw [this]; exact h
/-- pairs of numbers -/
abbrev PL := List (Int × Int)
/-- the cells of a slice of pairs -/
def PairsAt (w : World) (ao : Option Addr) (l : PL) : Prop := l = [] ∨ ∃ b o, ao = some ⟨b, o, none⟩ ∧ b < w.heap.size ∧ ∀ (i : Nat) p, l[i]? = some p → w.cell? ⟨b, o + i * 2, none⟩ = some (.int .i64 p.1) ∧ w.cell? ⟨b, o + i * 2 + 1, none⟩ = some (.int .i64 p.2)
theorem PairsAt.kept {w w' : World} {ao : Option Addr} {l : PL} (h : PairsAt w ao l) (hB : Below w.heap.size w w') : PairsAt w' ao l := by
  rcases h with h | ⟨b, o, h1, h2, h3⟩
  · exact .inl h
  · exact .inr ⟨b, o, h1, Nat.lt_of_lt_of_le h2 hB.size, fun i p hp => ⟨(hB.cell (p := ⟨b, o + i * 2, none⟩) h2).trans (h3 i p hp).1, (hB.cell (p := ⟨b, o + i * 2 + 1, none⟩) h2).trans (h3 i p hp).2⟩⟩
/-- the cells of a slice of numbers -/
def IntsAt (w : World) (ao : Option Addr) (ps : List Int) : Prop := ps = [] ∨ ∃ A, ao = some A ∧ A.block < w.heap.size ∧ ∀ (i : Nat) p, ps[i]? = some p → w.cell? (A.add i) = some (.int .i64 p)
theorem IntsAt.kept {w w' : World} {ao : Option Addr} {ps : List Int} (h : IntsAt w ao ps) (hB : Below w.heap.size w w') : IntsAt w' ao ps := by
  rcases h with h | ⟨A, h1, h2, h3⟩
  · exact .inl h
  · exact .inr ⟨A, h1, Nat.lt_of_lt_of_le h2 hB.size, fun i p hp => (hB.cell (p := A.add i) (by rw [add_block]; exact h2)).trans (h3 i p hp)⟩
theorem int_bne (n m : Nat) : ((n : Int) != (m : Int)) = decide (n ≠ m) := by
  by_cases h : n = m
  · subst h; simp
  · rw [decide_eq_true h, bne_iff_ne]; omega
theorem list_all {α : Type} (xs ys : List α) (h : xs.length = ys.length) (hall : ∀ (j : Nat) x y, j < xs.length → xs[j]? = some x → ys[j]? = some y → x = y) : xs = ys := by
  refine List.ext_getElem? fun i => ?_
  by_cases hi : i < xs.length
  · rw [List.getElem?_eq_getElem hi, List.getElem?_eq_getElem (show i < ys.length by omega)]
    exact congrArg some (hall i _ _ hi (List.getElem?_eq_getElem hi) (List.getElem?_eq_getElem (by omega)))
  · rw [List.getElem?_eq_none (by omega), List.getElem?_eq_none (by omega)]
/-- are two lists alike -/
def sameL {α : Type} [DecidableEq α] (xs ys : List α) : Bool := decide (xs = ys)
theorem same_len {α : Type} [DecidableEq α] (xs ys : List α) (h : xs.length ≠ ys.length) : sameL xs ys = false := decide_eq_false (fun e => h (congrArg List.length e))
theorem same_all {α : Type} [DecidableEq α] (xs ys : List α) (h : xs.length = ys.length) (hall : ∀ (j : Nat) x y, j < xs.length → xs[j]? = some x → ys[j]? = some y → x = y) : sameL xs ys = true := decide_eq_true (list_all xs ys h hall)
theorem same_no {α : Type} [DecidableEq α] (xs ys : List α) (k : Nat) (x y : α) (hx : xs[k]? = some x) (hy : ys[k]? = some y) (hne : x ≠ y) : sameL xs ys = false :=
  decide_eq_false (fun e => hne (by subst e; rw [hx] at hy; exact Option.some.inj hy))
end Go.Proofs.YtmomjhnbhckhpaaDoor
