/-
  A new slice of pairs that the code owns: its cells, what a store makes of it; a copy of pairs, as the program makes it.
  Conditions: lists of at most 2^38 pairs.
-/
import Derived.WalkKit
import Derived.WalkMore
import Derived.OwnWalk
import Derived.Lib.Hide
import Derived.Lib.SmallJoins
import Derived.Laws.OwnMore
import Derived.Deep.Cut
import Derived.Test.YtmomjhnbhckhpaaDoorProg
import Derived.Test.YtmomjhnbhckhpaaDoorPSame
namespace Go.Proofs.YtmomjhnbhckhpaaDoor
open Go.RowKit Go.Shelf
set_option linter.unusedVariables false

theorem ownsRow_below {w w' : World} {base : Nat} {e : TypeId} {size : Nat} {v : Value} {n : Nat} {xs : List Value} (h : w.ownsRow base e size v n xs) (hB : Below w.heap.size w w') : w'.ownsRow base e size v n xs :=
  h.kept (row := none) ⟨hB.os, hB.tape, hB.output, hB.size, fun k hk _ => hB.block k hk⟩ (by cases h' : v.ownBlock <;> simp)
/-- the cells of pairs -/
def cellsP (l : PL) : List Value := l.flatMap fun p => [.int .i64 p.1, .int .i64 p.2]
theorem cellsP_cons (p : Int × Int) (l : PL) : cellsP (p :: l) = .int .i64 p.1 :: .int .i64 p.2 :: cellsP l := rfl
theorem cellsP_length (l : PL) : (cellsP l).length = l.length * 2 := by
  induction l with
  | nil => rfl
  | cons p l ih => rw [cellsP_cons]; simp only [List.length_cons, ih]; omega
theorem cellsP_app (l m : PL) : cellsP (l ++ m) = cellsP l ++ cellsP m := by simp [cellsP]
theorem cellsP_at (l : PL) (k : Nat) (p : Int × Int) (h : l[k]? = some p) : (cellsP l)[k * 2]? = some (.int .i64 p.1) ∧ (cellsP l)[k * 2 + 1]? = some (.int .i64 p.2) := by
  induction l generalizing k with
  | nil => simp at h
  | cons q l ih =>
    cases k with
    | zero => simp at h; subst h; exact ⟨rfl, rfl⟩
    | succ k =>
      have := ih k (by simpa using h)
      rw [cellsP_cons, show (k + 1) * 2 = k * 2 + 1 + 1 from by omega]
      simpa using this
theorem cellsP_set (l : PL) (k : Nat) (a b : Int) (h : k < l.length) : ((cellsP l).set (k * 2) (.int .i64 a)).set (k * 2 + 1) (.int .i64 b) = cellsP (l.set k (a, b)) := by
  induction l generalizing k with
  | nil => simp at h
  | cons q l ih =>
    cases k with
    | zero => rfl
    | succ k =>
      have := ih k (by simpa using h)
      rw [cellsP_cons, show (k + 1) * 2 = k * 2 + 1 + 1 from by omega]
      simp only [List.set_cons_succ, this]
      rfl
theorem cellsP_zero (n : Nat) : (madeCells #[.int .i64 0, .int .i64 0] (n * 2)).toList = cellsP (List.replicate n (0, 0)) := by
  have h1 : (madeCells #[.int .i64 0, .int .i64 0] (n * 2)).toList = List.replicate (n * 2) (.int .i64 0) := by
    refine List.eq_replicate_iff.2 ⟨by simp [size_madeCells], fun b hb => ?_⟩
    simp only [madeCells, Array.toList_map, List.mem_map] at hb
    obtain ⟨i, _, rfl⟩ := hb
    have : i % 2 = 0 ∨ i % 2 = 1 := by omega
    rcases this with h | h <;> simp [h]
  have h2 : cellsP (List.replicate n (0, 0)) = List.replicate (n * 2) (.int .i64 0) := by
    refine List.eq_replicate_iff.2 ⟨by rw [cellsP_length]; simp, fun b hb => ?_⟩
    simp only [cellsP, List.mem_flatMap] at hb
    obtain ⟨p, hp, hb⟩ := hb
    rw [(List.mem_replicate.1 hp).2] at hb
    simp at hb
    exact hb
  rw [h1, h2]
/-- a slice of pairs that the code owns -/
structure OwnP (w : World) (base : Nat) (T : TypeId) (g n : Nat) (l : PL) : Prop where
  len : l.length = n
  own : w.ownsRow base T 2 (.slice (some ⟨g, 0, none⟩) n n) n (cellsP l)
theorem OwnP.lt {w : World} {base : Nat} {T : TypeId} {g n : Nat} {l : PL} (h : OwnP w base T g n l) : base ≤ g ∧ g < w.heap.size := h.own.lt g rfl
theorem OwnP.kept {w w' : World} {base : Nat} {T : TypeId} {g n : Nat} {l : PL} (h : OwnP w base T g n l) (hB : Below w.heap.size w w') : OwnP w' base T g n l := ⟨h.len, ownsRow_below h.own hB⟩
theorem OwnP.cell {w : World} {base : Nat} {T : TypeId} {g n : Nat} {l : PL} (h : OwnP w base T g n l) (k : Nat) (p : Int × Int) (hp : l[k]? = some p) : w.cell? ⟨g, k * 2, none⟩ = some (.int .i64 p.1) ∧ w.cell? ⟨g, k * 2 + 1, none⟩ = some (.int .i64 p.2) := by
  obtain ⟨hk, _⟩ := List.getElem?_eq_some_iff.1 hp
  have hl := h.len
  obtain ⟨h1, h2⟩ := cellsP_at l k p hp
  exact ⟨(h.own.cellAt (k * 2) (by omega)).trans h1, (h.own.cellAt (k * 2 + 1) (by omega)).trans h2⟩
theorem OwnP.frozen {w : World} {base : Nat} {T : TypeId} {g n : Nat} {l : PL} (h : OwnP w base T g n l) (k : Nat) : w.frozen? ⟨g, k, none⟩ = false := h.own.frozenAt k
theorem OwnP.pairs {w : World} {base : Nat} {T : TypeId} {g n : Nat} {l : PL} (h : OwnP w base T g n l) : PairsAt w (some ⟨g, 0, none⟩) l :=
  .inr ⟨g, 0, rfl, h.lt.2, fun i p hp => by have := h.cell i p hp; simpa using this⟩
theorem OwnP.store {w : World} {base : Nat} {T : TypeId} {g n : Nat} {l : PL} (h : OwnP w base T g n l) (k : Nat) (a b : Int) (hk : k < n) : OwnP ((w.setCell ⟨g, k * 2, none⟩ (.int .i64 a)).setCell ⟨g, k * 2 + 1, none⟩ (.int .i64 b)) base T g n (l.set k (a, b)) := by
  refine ⟨by simp [h.len], ?_⟩
  rw [← cellsP_set l k a b (by rw [h.len]; exact hk)]
  exact ((h.own.stored (k * 2) (.int .i64 a)).1.stored (k * 2 + 1) (.int .i64 b)).1
theorem info_parts2 {P : Program} {e : TypeId} {z : Option Value} {s b : Nat} (h : (P.info? e).map (fun i => (i.zero, i.size, i.bytes)) = some (z, s, b)) : ∃ i, P.info? e = some i ∧ i.zero = z ∧ i.size = s ∧ i.bytes = b := by
  obtain ⟨i, hi, e'⟩ := Option.map_eq_some_iff.1 h
  simp only [Prod.mk.injEq] at e'
  exact ⟨i, hi, e'⟩
/-- a new slice of pairs, a copy of which the first k are -/
def copyK (l : PL) (k : Nat) : PL := l.take k ++ List.replicate (l.length - k) (0, 0)
theorem copyK_zero (l : PL) : copyK l 0 = List.replicate l.length (0, 0) := by simp [copyK]
theorem copyK_all (l : PL) : copyK l l.length = l := by simp [copyK]
theorem copyK_next (l : PL) (k : Nat) (p : Int × Int) (h : l[k]? = some p) : (copyK l k).set k p = copyK l (k + 1) := by
  obtain ⟨hk, e⟩ := List.getElem?_eq_some_iff.1 h
  unfold copyK
  rw [List.set_append_right _ _ (by simp; omega), List.take_succ_eq_append_getElem hk, e]
  obtain ⟨m, hm⟩ : ∃ m, l.length - k = m + 1 := ⟨l.length - k - 1, by omega⟩
  rw [hm, show l.length - (k + 1) = m from by omega, List.replicate_succ]
  simp [show min k l.length = k from by omega]
theorem copyK_len (l : PL) (k : Nat) (h : k ≤ l.length) : (copyK l k).length = l.length := by simp [copyK]; omega

end Go.Proofs.YtmomjhnbhckhpaaDoor
