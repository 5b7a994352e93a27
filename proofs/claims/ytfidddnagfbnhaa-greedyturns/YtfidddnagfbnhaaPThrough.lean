/-
  Pairs through pairs: the program's answer.
  Conditions: lists of at most 2^30 pairs of Go integers.
-/
import Derived.Maps.Own
import Derived.Maps.OwnOps
import Derived.Maps.OwnSet
import Derived.Maps.Views
import Derived.IntWalk
import Derived.WalkArith
import Derived.OwnWalk
import Derived.Deep.Cut
import Derived.Deep.Onto
import Derived.Test.YtfidddnagfbnhaaProg
import Derived.Test.YtfidddnagfbnhaaPRest
namespace Go.Proofs.Ytfidddnagfbnhaa
open Go.RowKit Go.Shelf Go.Maps
set_option linter.unusedVariables false

/-- the A of the first pair that has a B -/
def firstB (l : PL) (z : Int) : Option Int := (l.find? (fun p => p.2 == z)).map Prod.fst
theorem firstB_snoc (l : PL) (p : Int × Int) (z : Int) : firstB (l ++ [p]) z = (firstB l z).or (if p.2 = z then some p.1 else none) := by
  unfold firstB
  rw [List.find?_append]
  cases h : l.find? (fun p => p.2 == z) with
  | some q => rfl
  | none =>
    by_cases e : p.2 = z
    · simp [e]
    · simp [e]
structure FirstIs (D : DataW Unit) (l : PL) : Prop where
  map : IsMap D
  look : ∀ z, D.atKey (.int .i64 z) (.lit (.int .i64 0)) = .lit (.int .i64 ((firstB l z).getD 0))
  here : ∀ z, has D (.int .i64 z) = (firstB l z).isSome
theorem FirstIs.empty : FirstIs (.map []) [] := ⟨isMap_empty, fun z => rfl, fun z => rfl⟩
theorem FirstIs.put {D : DataW Unit} {l : PL} (h : FirstIs D l) (p : Int × Int) (hno : firstB l p.2 = none) : FirstIs (D.put (.int .i64 p.2) (.lit (.int .i64 p.1))) (l ++ [p]) := by
  refine ⟨h.map.put _ _, fun z => ?_, fun z => ?_⟩
  · rw [firstB_snoc]
    by_cases e : p.2 = z
    · subst e
      rw [atKey_put_same h.map (keyI _), hno]; simp
    · rw [atKey_put_other (fun e' => e (by injection e' with _ e2; exact e2.symm)), h.look]; simp [e]
  · rw [firstB_snoc]
    by_cases e : p.2 = z
    · subst e
      rw [has_put_same h.map (keyI _), hno]; simp
    · rw [has_put_other (fun e' => e (by injection e' with _ e2; exact e2.symm)), h.here]; simp [e]
theorem FirstIs.skip {D : DataW Unit} {l : PL} (h : FirstIs D l) (p : Int × Int) (a : Int) (hyes : firstB l p.2 = some a) : FirstIs D (l ++ [p]) := by
  have key : ∀ z, firstB (l ++ [p]) z = firstB l z := fun z => by
    rw [firstB_snoc]
    by_cases e : p.2 = z
    · subst e; rw [hyes]; rfl
    · simp [e]
  exact ⟨h.map, fun z => by rw [key]; exact h.look z, fun z => by rw [key]; exact h.here z⟩
theorem first_look {w : World} {b k : Nat} {D : DataW Unit} {l : PL} (h : w.ownsMap Try.prog 3 (plainElem Try.prog 3) b k D) (hS : FirstIs D l) (x : Int) (hx : (Lit.int .i64 x).wf = true) :
    (Instr.lookup 38 (.map (some b)) (.int .i64 x) true).run Try.prog w = .ok (.tuple #[.int .i64 ((firstB l x).getD 0), .bool (firstB l x).isSome]) w := by
  obtain ⟨v, ps, hrun, hv⟩ := h.look_ok (int_keyed Try.underlying3) Try.underlying38 (z := .int .i64 0) (Try.zeroValue3 _) (plainElem_int Try.underlying3 (by decide)) (keyOf_int_mk Try.underlying3 hx)
  obtain ⟨c, rfl, hc, _⟩ := plainElem_int_inv Try.underlying3 hv
  simp only [Prod.mk.injEq] at hc
  rw [hS.look] at hc
  have e : (firstB l x).getD 0 = c := by have := hc.1; injection this with h1; injection h1
  rw [hS.here] at hrun
  rw [e]; exact hrun
/-- pairs through pairs -/
def throughL (x y : PL) : PL := y.filterMap (fun p => (firstB x p.1).map (fun a => (a, p.2)))
theorem through_some (x y : PL) (k : Nat) (p : Int × Int) (a : Int) (hp : y[k]? = some p) (ha : firstB x p.1 = some a) : throughL x (y.take (k + 1)) = throughL x (y.take k) ++ [(a, p.2)] := by
  obtain ⟨hk, e⟩ := List.getElem?_eq_some_iff.1 hp
  unfold throughL
  rw [List.take_succ_eq_append_getElem hk, e, List.filterMap_append]
  simp [ha]
theorem through_none (x y : PL) (k : Nat) (p : Int × Int) (hp : y[k]? = some p) (ha : firstB x p.1 = none) : throughL x (y.take (k + 1)) = throughL x (y.take k) := by
  obtain ⟨hk, e⟩ := List.getElem?_eq_some_iff.1 hp
  unfold throughL
  rw [List.take_succ_eq_append_getElem hk, e, List.filterMap_append]
  simp [ha]
theorem through_len (x y : PL) : (throughL x y).length ≤ y.length := List.length_filterMap_le _ _
theorem through_le (x y : PL) (k : Nat) : (throughL x (y.take k)).length ≤ k := Nat.le_trans (through_len x _) (List.length_take_le _ _)
/-- pairs that come back -/
def PairsOut (l : PL) (w : World) (e : Ending) (w' : World) : Prop := ∃ ao cap, e = .returned (.slice ao l.length cap) ∧ PairsAt w' ao l ∧ (ao = none → cap = 0) ∧ l.length ≤ cap ∧ Below w.heap.size w w'
/-- a slice of pairs that grows -/
def OwnL (w : World) (base : Nat) (v : Value) (l : PL) : Prop := w.ownsRow base 32 2 v l.length (cellsP l)
theorem OwnL.pairsAt {w : World} {base : Nat} {v : Value} {l : PL} (h : OwnL w base v l) : ∃ ao cap, v = .slice ao l.length cap ∧ PairsAt w ao l ∧ (ao = none → cap = 0) ∧ l.length ≤ cap := by
  rcases h.2 with ⟨rfl, h0⟩ | ⟨g, cap, cur, rfl, h1, h2, h3, h4, h5, h6⟩
  · have hl : l = [] := List.eq_nil_of_length_eq_zero h0
    subst hl
    exact ⟨none, 0, rfl, .inl rfl, fun _ => rfl, Nat.le_refl _⟩
  · refine ⟨_, cap, rfl, .inr ⟨g, 0, rfl, (World.ownsRow.lt h g rfl).2, fun i p hp => ?_⟩, (fun e => by cases e), h3⟩
    obtain ⟨c1, c2⟩ := cellsP_at l i p hp
    have k1 := World.ownsRow.cells h rfl (i * 2) _ c1
    have k2 := World.ownsRow.cells h rfl (i * 2 + 1) _ c2
    have e : ∀ j, (⟨g, 0, none⟩ : Addr).add j = ⟨g, 0 + j, none⟩ := fun j => by unfold Addr.add; split <;> simp_all
    rw [e] at k1 k2
    exact ⟨k1, by rw [Nat.add_assoc]; exact k2⟩
theorem OwnL.end_ {w w' : World} {v : Value} {l : PL} (h : OwnL w' w.heap.size v l) (hB : Below w.heap.size w w') : PairsOut l w (.returned v) w' := by
  obtain ⟨ao, cap, rfl, h1, h2, h3⟩ := h.pairsAt
  exact ⟨ao, cap, rfl, h1, h2, h3, hB⟩
theorem lit_cellP (w : World) (a b : Value) (T : TypeId) : ∀ (j : Nat) u, [a, b][j]? = some u → (w.alloc (.cells #[a, b] T)).cell? ((⟨w.heap.size, 0, none⟩ : Addr).add j) = some u := fun j u hj => by
  rw [cell_row (World.alloc_heap_new w _)]
  match j, hj with
  | 0, hj => simp at hj; subst hj; rfl
  | 1, hj => simp at hj; subst hj; rfl

end Go.Proofs.Ytfidddnagfbnhaa
