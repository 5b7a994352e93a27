/-
  A slice of slices of strings among the arguments: its length is at most its capacity.
  Conditions: none.
-/
import Derived.Deep.Slices
import Derived.Test.YtebnmenglgadpaaCsvOpen
namespace Go.Proofs.Ytebnmenglgadpaa
open Go.ChangeShapes Go.WideShapes Go.Deep

theorem open_cap {H : Type} {enc : TypeId × Value → H} {P : Program} {w : World} {base : Nat} {held : Bool} {t e : TypeId} {fuel : Nat} {ao : Option Addr} {len cap : Nat} {x : DataW H × List MemPlace} (ht : P.underlying t = some (.slice e)) (ce : P.cellsOf e = 1)
    (h : DataW.trod enc P w base (fun _ => true) held fuel t [.slice ao len cap] = some x) : len ≤ cap := by
  rcases open_slice1 ht ce h with ⟨hcs, _⟩ | ⟨a, len', cap', m, n, V, D, Pl, hcs, hb, hl, _⟩
  · simp at hcs; obtain ⟨rfl, rfl, rfl⟩ := hcs; exact Nat.le_refl _
  · simp at hcs; obtain ⟨rfl, rfl, rfl⟩ := hcs; exact hl
end Go.Proofs.Ytebnmenglgadpaa
