/-
  The document's reference: what comes of an edit of rows that nothing is wrong with.
  Conditions: tables and edits as small as the statements ask about (far more is borne: lists of at most 2^38 elements).
-/
import Derived.WalkKit
import Derived.WalkMore
import Derived.Lib.Hide
import Derived.Deep.RegionWith
import Derived.Deep.RegionHeld3
import Derived.Test.YtcifjclokfnocaaGreatProg
import Derived.Test.YtcifjclokfnocaaGreatERefW
namespace Go.Proofs.YtcifjclokfnocaaGreat
open Go.RowKit Go.Shelf
set_option linter.unusedVariables false

/-- what a call leaves that makes a table -/
def TabV (t : Tab) (w : World) (e : Ending) (w' : World) : Prop := ∃ v0 v1, e = .returned (.agg #[v0, v1]) ∧ TabOut (.ok t) w (.returned (.tuple #[.agg #[v0, v1], .int .i64 0])) w'
theorem TabV.parts {t : Tab} {w w' : World} {e : Ending} (h : TabV t w e w') : ∃ (ho : Option Addr) (hc : Cap ho t.1.length) (ro : Option Addr) (rc : Cap ro t.2.length), e = .returned (.agg #[.slice ho t.1.length hc.1, .slice ro t.2.length rc.1]) ∧ StrRow w' ho t.1 ∧ RowsAt w' ro t.2 ∧ Below w.heap.size w w' ∧ ∀ A, ro = some A → w.heap.size ≤ A.block := by
  obtain ⟨v0, v1, rfl, ho, hc, ro, rc, h1, h2, h3, h4, h5⟩ := h
  injection h1 with h1
  injection h1 with h1
  have h1 := congrArg Array.toList h1
  simp only [List.cons.injEq] at h1
  exact ⟨ho, hc, ro, rc, by rw [h1.1], h2, h3, h4, h5⟩
theorem keep_at {V : World} {v0 v1 x : Value} {m : Nat} {p : Addr} (h : V.cell? p = some x) (hne : m ≠ p.block) : ((V.setCell ⟨m, 0, none⟩ v0).setCell ⟨m, 1, none⟩ v1).cell? p = some x := by
  rw [World.cell?_setCell_far _ ⟨m, 1, none⟩ p _ hne, World.cell?_setCell_far _ ⟨m, 0, none⟩ p _ hne]; exact h
theorem keep_box {V : World} {v0 v1 x : Value} {n m o : Nat} (h : V.cell? ⟨n, o, none⟩ = some x) (hne : m ≠ n) : ((V.setCell ⟨m, 0, none⟩ v0).setCell ⟨m, 1, none⟩ v1).cell? ⟨n, o, none⟩ = some x := by
  rw [World.cell?_setCell_far _ ⟨m, 1, none⟩ ⟨n, o, none⟩ _ hne, World.cell?_setCell_far _ ⟨m, 0, none⟩ ⟨n, o, none⟩ _ hne]; exact h
/-- the three boxes of the call, in a world that came of it -/
def BoxT (w : World) (W : World) (V : World) : Prop := Below W.heap.size W V ∧ Below w.heap.size w W ∧ w.heap.size + 1 + 1 < W.heap.size ∧ V.heap[w.heap.size + 1 + 1]? = some (.cells #[.slice none 0 0, .slice none 0 0] 25 (0, 0))
theorem turned_end {w W V : World} {ho ro : Option Addr} {h : List ByteArray} {r : List (List ByteArray)} (hc : Cap ho h.length) (rc : Cap ro r.length) (hB : BoxT w W V) (hH : StrRow V ho h) (hR : RowsAt V ro r) (hf : ∀ A, ro = some A → W.heap.size ≤ A.block) :
    TabV (h, r) w (.returned (.agg #[.slice ho h.length hc.1, .slice ro r.length rc.1])) ((V.setCell ⟨w.heap.size + 1 + 1, 0, none⟩ (.slice ho h.length hc.1)).setCell ⟨w.heap.size + 1 + 1, 1, none⟩ (.slice ro r.length rc.1)) :=
  ⟨_, _, rfl, TabOut.stored (W := W) (X := .ok (h, r)) ⟨ho, hc, ro, rc, rfl, hH, hR, hB.1, hf⟩ hB.2.1 hB.2.2.2 (by omega) hB.2.2.1⟩

end Go.Proofs.YtcifjclokfnocaaGreat
