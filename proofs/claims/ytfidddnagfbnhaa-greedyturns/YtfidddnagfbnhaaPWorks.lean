/-
  The document's examples of pairs: what the statements' first function answers.
  Conditions: none.
-/
import Derived.WalkKit
import Derived.WalkMore
import Derived.Lib.Hide
import Derived.Test.YtfidddnagfbnhaaProg
import Derived.Test.YtfidddnagfbnhaaPTurn
import Derived.Test.YtfidddnagfbnhaaPStill
import Derived.Test.YtfidddnagfbnhaaPRests
namespace Go.Proofs.Ytfidddnagfbnhaa
open Go.RowKit Go.Shelf
set_option linter.unusedVariables false

theorem lit_pairs (w : World) (l : PL) (T : TypeId) : PairsAt (w.alloc (.cells (cellsP l).toArray T)) (some ⟨w.heap.size, 0, none⟩) l := by
  refine .inr ⟨w.heap.size, 0, rfl, by simp, fun i p hp => ?_⟩
  obtain ⟨c1, c2⟩ := cellsP_at l i p hp
  have h := World.alloc_heap_new w (.cells (cellsP l).toArray T)
  constructor
  · rw [Lib.cell_of_heap h]; simpa using c1
  · rw [Lib.cell_of_heap h]; simpa using c2
theorem lit_ints (w : World) (l : List Int) (T : TypeId) : IntsAt (w.alloc (.cells (l.map (Value.int .i64)).toArray T)) (some ⟨w.heap.size, 0, none⟩) l :=
  .inr ⟨_, rfl, by simp, fun i c hc => by rw [new_cell]; simp [hc]⟩
theorem PairsAt.less {w : World} {ao : Option Addr} {l : PL} (h : PairsAt w ao l) (k : Nat) : PairsAt w ao (l.take k) := by
  rcases h with h | ⟨b, o, h1, h2, h3⟩
  · exact .inl (by rw [h]; simp)
  · exact .inr ⟨b, o, h1, h2, fun i p hp => h3 i p (by rw [List.getElem?_take] at hp; split at hp; exact hp; cases hp)⟩
theorem alloc_below (w : World) (o : Obj) : Below w.heap.size w (w.alloc o) := (Below.refl _ w).alloc (Nat.le_refl _) o
abbrev L4 : PL := [(2, 0), (0, 1), (1, 2), (3, 3)]
abbrev L2 : PL := [(2, 0), (0, 1)]
theorem okL4 : okP L4 := fun p hp => by
  simp only [L4, List.mem_cons, List.not_mem_nil, or_false] at hp
  rcases hp with rfl | rfl | rfl | rfl <;> exact ⟨by decide, by decide⟩

end Go.Proofs.Ytfidddnagfbnhaa
