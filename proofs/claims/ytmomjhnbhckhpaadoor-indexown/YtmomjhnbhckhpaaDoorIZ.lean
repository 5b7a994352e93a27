/-
  A slice of numbers that the code owns, each with a rank beside it.
  Conditions: lists of at most 2^30 numbers; the comparison is told by ranks, and makes memory alone.
-/
import Derived.WalkKit
import Derived.WalkMore
import Derived.IntWalk
import Derived.RegionTactic
import Derived.BigRegion
import Derived.Lib.Hide
import Derived.StillTailTactics
import Derived.BigQuiet
import Derived.Deep.QuietTactic
import Derived.Deep.Cut
import Derived.Deep.CutRange
import Derived.Test.YtmomjhnbhckhpaaDoorProg
import Derived.Test.YtmomjhnbhckhpaaDoorPIns
namespace Go.Proofs.YtmomjhnbhckhpaaDoor
open Go.RowKit Go.Shelf
set_option linter.unusedVariables false

/-- the cells of numbers -/
def cellsZ (l : PL) : List Value := l.map fun p => .int .i64 p.1
theorem cellsZ_set (l : PL) (k : Nat) (a b : Int) : (cellsZ l).set k (.int .i64 a) = cellsZ (l.set k (a, b)) := by
  unfold cellsZ; rw [List.map_set]
/-- a slice of numbers that the code owns -/
structure OwnZ (w0 : World) (Kg : Int × Int → Prop) (w : World) (base g n : Nat) (l : PL) : Prop where
  len : l.length = n
  own : w.ownsRow base 3 1 (.slice (some ⟨g, 0, none⟩) n n) n (cellsZ l)
  good : ∀ p ∈ l, Kg p
  grown : w0.grownBy w (some g)
/-- the comparison of two numbers is told by their ranks, in every world in which all but block g is as it was -/
def CmpOK (w0 : World) (g : Nat) (Kg : Int × Int → Prop) (G : FuncId) (cap0 : Value) : Prop := ∀ a b c d, Kg (a, b) → Kg (c, d) → ∀ W, w0.grownBy W (some g) →
  Calls Tryd.prog G #[.int .i64 a, .int .i64 c, cap0] W fun e w' => e = .returned (.int .i64 (cmpI b d)) ∧ Below W.heap.size W w'
theorem OwnZ.lt {w0 : World} {Kg : Int × Int → Prop} {w : World} {base g n : Nat} {l : PL} (h : OwnZ w0 Kg w base g n l) : base ≤ g ∧ g < w.heap.size := h.own.lt g rfl
theorem OwnZ.kept {w0 : World} {Kg : Int × Int → Prop} {w w' : World} {base g n : Nat} {l : PL} (h : OwnZ w0 Kg w base g n l) (hB : Below w.heap.size w w') : OwnZ w0 Kg w' base g n l := ⟨h.len, ownsRow_below h.own hB, h.good, grown_trans h.grown (grown_below hB)⟩
theorem OwnZ.at {w0 : World} {Kg : Int × Int → Prop} {w : World} {base g n : Nat} {l : PL} (h : OwnZ w0 Kg w base g n l) (k : Nat) (p : Int × Int) (hp : l[k]? = some p) : Kg p := h.good p (List.mem_of_getElem? hp)
theorem OwnZ.cell {w0 : World} {Kg : Int × Int → Prop} {w : World} {base g n : Nat} {l : PL} (h : OwnZ w0 Kg w base g n l) (k : Nat) (p : Int × Int) (hp : l[k]? = some p) : w.cell? ⟨g, k, none⟩ = some (.int .i64 p.1) := by
  obtain ⟨hk, _⟩ := List.getElem?_eq_some_iff.1 hp
  have hl := h.len
  have h1 : (cellsZ l)[k]? = some (.int .i64 p.1) := by unfold cellsZ; rw [List.getElem?_map, hp]; rfl
  exact (h.own.cellAt k (by omega)).trans h1
theorem OwnZ.frozen {w0 : World} {Kg : Int × Int → Prop} {w : World} {base g n : Nat} {l : PL} (h : OwnZ w0 Kg w base g n l) (k : Nat) : w.frozen? ⟨g, k, none⟩ = false := h.own.frozenAt k
theorem OwnZ.store {w0 : World} {Kg : Int × Int → Prop} {w : World} {base g n : Nat} {l : PL} (h : OwnZ w0 Kg w base g n l) (k : Nat) (a b : Int) (hk : Kg (a, b)) : OwnZ w0 Kg (w.setCell ⟨g, k, none⟩ (.int .i64 a)) base g n (l.set k (a, b)) := by
  refine ⟨by simp [h.len], ?_, fun p hp => ?_, grown_trans h.grown (grown_set w g k _)⟩
  · rw [← cellsZ_set l k a b]
    exact (h.own.stored k (.int .i64 a)).1
  · rcases List.mem_or_eq_of_mem_set hp with h1 | rfl
    · exact h.good p h1
    · exact hk
theorem OwnZ.swap {w0 : World} {Kg : Int × Int → Prop} {w : World} {base g n : Nat} {l : PL} (h : OwnZ w0 Kg w base g n l) (i j : Nat) (a b c d : Int) (hi : i < n) (hj : j < n) (h1 : Kg (a, b)) (h2 : Kg (c, d)) :
    OwnZ w0 Kg ((w.setCell ⟨g, i, none⟩ (.int .i64 a)).setCell ⟨g, j, none⟩ (.int .i64 c)) base g n ((l.set i (a, b)).set j (c, d)) :=
  (h.store i a b h1).store j c d h2
theorem grown_swapZ (w : World) (g i j : Nat) (a c : Value) : w.grownBy ((w.setCell ⟨g, i, none⟩ a).setCell ⟨g, j, none⟩ c) (some g) :=
  grown_trans (grown_set w g _ a) (grown_set _ g _ c)
end Go.Proofs.YtmomjhnbhckhpaaDoor
