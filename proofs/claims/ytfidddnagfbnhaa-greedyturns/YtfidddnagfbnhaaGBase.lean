/-
  What lies in memory: slices of choices (structs of three numbers); a new one that the code owns.
  Conditions: none.
-/
import Derived.WalkKit
import Derived.WalkMore
import Derived.OwnWalk
import Derived.Lib.Hide
import Derived.Laws.OwnMore
import Derived.Test.YtfidddnagfbnhaaProg
import Derived.Test.YtfidddnagfbnhaaGMath
namespace Go.Proofs.Ytfidddnagfbnhaa
open Go.RowKit Go.Shelf
set_option linter.unusedVariables false

/-- numbers that a Go integer holds -/
def okT3 (l : TL) : Prop := ∀ c ∈ l, (Lit.int .i64 c.1).wf = true ∧ (Lit.int .i64 c.2.1).wf = true ∧ (Lit.int .i64 c.2.2).wf = true
/-- the cells of a choice -/
def encT (c : T3) : List Value := [.int .i64 c.1, .int .i64 c.2.1, .int .i64 c.2.2]
/-- the cells of a slice of choices -/
def TripAt (w : World) (ao : Option Addr) (l : TL) : Prop := l = [] ∨ ∃ b o, ao = some ⟨b, o, none⟩ ∧ b < w.heap.size ∧ ∀ (i : Nat) c, l[i]? = some c → w.cell? ⟨b, o + i * 3, none⟩ = some (.int .i64 c.1) ∧ w.cell? ⟨b, o + i * 3 + 1, none⟩ = some (.int .i64 c.2.1) ∧ w.cell? ⟨b, o + i * 3 + 2, none⟩ = some (.int .i64 c.2.2)
theorem TripAt.kept {w w' : World} {ao : Option Addr} {l : TL} (h : TripAt w ao l) (hB : Below w.heap.size w w') : TripAt w' ao l := by
  rcases h with h | ⟨b, o, h1, h2, h3⟩
  · exact .inl h
  · exact .inr ⟨b, o, h1, Nat.lt_of_lt_of_le h2 hB.size, fun i p hp => ⟨(hB.cell (p := ⟨b, o + i * 3, none⟩) h2).trans (h3 i p hp).1, (hB.cell (p := ⟨b, o + i * 3 + 1, none⟩) h2).trans (h3 i p hp).2.1, (hB.cell (p := ⟨b, o + i * 3 + 2, none⟩) h2).trans (h3 i p hp).2.2⟩⟩
/-- the cells of choices -/
def cellsT (l : TL) : List Value := l.flatMap encT
theorem cellsT_cons (p : T3) (l : TL) : cellsT (p :: l) = .int .i64 p.1 :: .int .i64 p.2.1 :: .int .i64 p.2.2 :: cellsT l := rfl
theorem cellsT_length (l : TL) : (cellsT l).length = l.length * 3 := by
  induction l with
  | nil => rfl
  | cons p l ih => rw [cellsT_cons]; simp only [List.length_cons, ih]; omega
theorem cellsT_app (l m : TL) : cellsT (l ++ m) = cellsT l ++ cellsT m := by simp [cellsT]
theorem cellsT_at (l : TL) (k : Nat) (p : T3) (h : l[k]? = some p) : (cellsT l)[k * 3]? = some (.int .i64 p.1) ∧ (cellsT l)[k * 3 + 1]? = some (.int .i64 p.2.1) ∧ (cellsT l)[k * 3 + 2]? = some (.int .i64 p.2.2) := by
  induction l generalizing k with
  | nil => simp at h
  | cons q l ih =>
    cases k with
    | zero => simp at h; subst h; exact ⟨rfl, rfl, rfl⟩
    | succ k =>
      have := ih k (by simpa using h)
      rw [cellsT_cons, show (k + 1) * 3 = k * 3 + 1 + 1 + 1 from by omega]
      simpa using this
theorem cellsT_set (l : TL) (k : Nat) (a b s : Int) (h : k < l.length) : (((cellsT l).set (k * 3) (.int .i64 a)).set (k * 3 + 1) (.int .i64 b)).set (k * 3 + 2) (.int .i64 s) = cellsT (l.set k (a, b, s)) := by
  induction l generalizing k with
  | nil => simp at h
  | cons q l ih =>
    cases k with
    | zero => rfl
    | succ k =>
      have := ih k (by simpa using h)
      rw [cellsT_cons, show (k + 1) * 3 = k * 3 + 1 + 1 + 1 from by omega]
      simp only [List.set_cons_succ, this]
      rfl
theorem cellsT_inv (L : TL) (j : Nat) (u : Value) (h : (cellsT L)[j]? = some u) : ∃ i c, L[i]? = some c ∧ ((j = i * 3 ∧ u = .int .i64 c.1) ∨ (j = i * 3 + 1 ∧ u = .int .i64 c.2.1) ∨ (j = i * 3 + 2 ∧ u = .int .i64 c.2.2)) := by
  have hj := (List.getElem?_eq_some_iff.1 h).1
  rw [cellsT_length] at hj
  obtain ⟨p, hp⟩ : ∃ p, L[j / 3]? = some p := ⟨_, List.getElem?_eq_getElem (by omega)⟩
  obtain ⟨c1, c2, c3⟩ := cellsT_at L (j / 3) p hp
  have hm : j % 3 = 0 ∨ j % 3 = 1 ∨ j % 3 = 2 := by omega
  rcases hm with e | e | e
  · refine ⟨j / 3, p, hp, .inl ⟨by omega, ?_⟩⟩
    rw [show j / 3 * 3 = j from by omega, h] at c1; exact Option.some.inj c1
  · refine ⟨j / 3, p, hp, .inr (.inl ⟨by omega, ?_⟩)⟩
    rw [show j / 3 * 3 + 1 = j from by omega, h] at c2; exact Option.some.inj c2
  · refine ⟨j / 3, p, hp, .inr (.inr ⟨by omega, ?_⟩)⟩
    rw [show j / 3 * 3 + 2 = j from by omega, h] at c3; exact Option.some.inj c3
theorem cellsT_ones (L : TL) : ∀ u ∈ cellsT L, u.oneCell' = true := fun u hu => by
  obtain ⟨i, hi, rfl⟩ := List.getElem_of_mem hu
  obtain ⟨j, p, _, ⟨_, e⟩ | ⟨_, e⟩ | ⟨_, e⟩⟩ := cellsT_inv L i _ (List.getElem?_eq_getElem hi)
  · rw [e]; rfl
  · rw [e]; rfl
  · rw [e]; rfl
theorem cellsT_zero (n : Nat) : (madeCells #[.int .i64 0, .int .i64 0, .int .i64 0] (n * 3)).toList = cellsT (List.replicate n (0, 0, 0)) := by
  have h1 : (madeCells #[.int .i64 0, .int .i64 0, .int .i64 0] (n * 3)).toList = List.replicate (n * 3) (.int .i64 0) := by
    refine List.eq_replicate_iff.2 ⟨by simp [size_madeCells], fun b hb => ?_⟩
    simp only [madeCells, Array.toList_map, List.mem_map] at hb
    obtain ⟨i, _, rfl⟩ := hb
    have : i % 3 = 0 ∨ i % 3 = 1 ∨ i % 3 = 2 := by omega
    rcases this with h | h | h <;> simp [h]
  have h2 : cellsT (List.replicate n (0, 0, 0)) = List.replicate (n * 3) (.int .i64 0) := by
    refine List.eq_replicate_iff.2 ⟨by rw [cellsT_length]; simp, fun b hb => ?_⟩
    simp only [cellsT, List.mem_flatMap] at hb
    obtain ⟨p, hp, hb⟩ := hb
    rw [(List.mem_replicate.1 hp).2] at hb
    simp [encT] at hb
    exact hb
  rw [h1, h2]
/-- a slice of choices that the code owns -/
structure OwnT (w : World) (base : Nat) (T : TypeId) (g n : Nat) (l : TL) : Prop where
  len : l.length = n
  own : w.ownsRow base T 3 (.slice (some ⟨g, 0, none⟩) n n) n (cellsT l)
theorem OwnT.lt {w : World} {base : Nat} {T : TypeId} {g n : Nat} {l : TL} (h : OwnT w base T g n l) : base ≤ g ∧ g < w.heap.size := h.own.lt g rfl
theorem OwnT.kept {w w' : World} {base : Nat} {T : TypeId} {g n : Nat} {l : TL} (h : OwnT w base T g n l) (hB : Below w.heap.size w w') : OwnT w' base T g n l := ⟨h.len, ownsRow_below h.own hB⟩
theorem OwnT.cell {w : World} {base : Nat} {T : TypeId} {g n : Nat} {l : TL} (h : OwnT w base T g n l) (k : Nat) (p : T3) (hp : l[k]? = some p) : w.cell? ⟨g, k * 3, none⟩ = some (.int .i64 p.1) ∧ w.cell? ⟨g, k * 3 + 1, none⟩ = some (.int .i64 p.2.1) ∧ w.cell? ⟨g, k * 3 + 2, none⟩ = some (.int .i64 p.2.2) := by
  obtain ⟨hk, _⟩ := List.getElem?_eq_some_iff.1 hp
  have hl := h.len
  obtain ⟨h1, h2, h3⟩ := cellsT_at l k p hp
  exact ⟨(h.own.cellAt (k * 3) (by omega)).trans h1, (h.own.cellAt (k * 3 + 1) (by omega)).trans h2, (h.own.cellAt (k * 3 + 2) (by omega)).trans h3⟩
theorem OwnT.frozen {w : World} {base : Nat} {T : TypeId} {g n : Nat} {l : TL} (h : OwnT w base T g n l) (k : Nat) : w.frozen? ⟨g, k, none⟩ = false := h.own.frozenAt k
theorem OwnT.trip {w : World} {base : Nat} {T : TypeId} {g n : Nat} {l : TL} (h : OwnT w base T g n l) : TripAt w (some ⟨g, 0, none⟩) l :=
  .inr ⟨g, 0, rfl, h.lt.2, fun i p hp => by have := h.cell i p hp; simpa using this⟩
theorem OwnT.store {w : World} {base : Nat} {T : TypeId} {g n : Nat} {l : TL} (h : OwnT w base T g n l) (k : Nat) (a b s : Int) (hk : k < n) : OwnT (((w.setCell ⟨g, k * 3, none⟩ (.int .i64 a)).setCell ⟨g, k * 3 + 1, none⟩ (.int .i64 b)).setCell ⟨g, k * 3 + 2, none⟩ (.int .i64 s)) base T g n (l.set k (a, b, s)) := by
  refine ⟨by simp [h.len], ?_⟩
  rw [← cellsT_set l k a b s (by rw [h.len]; exact hk)]
  exact (((h.own.stored (k * 3) (.int .i64 a)).1.stored (k * 3 + 1) (.int .i64 b)).1.stored (k * 3 + 2) (.int .i64 s)).1
theorem trip_cells {w : World} {b o : Nat} {L : TL} (h : TripAt w (some ⟨b, o, none⟩) L) : ∀ (j : Nat) u, (cellsT L)[j]? = some u → w.cell? ((⟨b, o, none⟩ : Addr).add j) = some u := fun j u hu => by
  have e : (⟨b, o, none⟩ : Addr).add j = ⟨b, o + j, none⟩ := by unfold Addr.add; split <;> simp_all
  rw [e]
  rcases h with rfl | ⟨b', o', h1, _, h3⟩
  · simp [cellsT] at hu
  · cases h1
    obtain ⟨i, p, hp, ⟨rfl, rfl⟩ | ⟨rfl, rfl⟩ | ⟨rfl, rfl⟩⟩ := cellsT_inv L j u hu
    · exact (h3 i p hp).1
    · exact (h3 i p hp).2.1
    · exact (h3 i p hp).2.2
theorem lit_trip (w : World) (l : TL) (T : TypeId) : TripAt (w.alloc (.cells (cellsT l).toArray T)) (some ⟨w.heap.size, 0, none⟩) l := by
  refine .inr ⟨w.heap.size, 0, rfl, by simp, fun i p hp => ?_⟩
  obtain ⟨c1, c2, c3⟩ := cellsT_at l i p hp
  have h := World.alloc_heap_new w (.cells (cellsT l).toArray T)
  refine ⟨?_, ?_, ?_⟩
  · rw [Lib.cell_of_heap h]; simpa using c1
  · rw [Lib.cell_of_heap h]; simpa using c2
  · rw [Lib.cell_of_heap h]; simpa using c3
theorem info_parts3 {P : Program} {e : TypeId} {z : Option Value} {s b : Nat} (h : (P.info? e).map (fun i => (i.zero, i.size, i.bytes)) = some (z, s, b)) : ∃ i, P.info? e = some i ∧ i.zero = z ∧ i.size = s ∧ i.bytes = b := by
  obtain ⟨i, hi, e'⟩ := Option.map_eq_some_iff.1 h
  simp only [Prod.mk.injEq] at e'
  exact ⟨i, hi, e'⟩
/-- a new slice of choices, a copy of which the first k are -/
def copyT (l : TL) (k : Nat) : TL := l.take k ++ List.replicate (l.length - k) (0, 0, 0)
theorem copyT_zero (l : TL) : copyT l 0 = List.replicate l.length (0, 0, 0) := by simp [copyT]
theorem copyT_all (l : TL) : copyT l l.length = l := by simp [copyT]
theorem copyT_next (l : TL) (k : Nat) (p : T3) (h : l[k]? = some p) : (copyT l k).set k p = copyT l (k + 1) := by
  obtain ⟨hk, e⟩ := List.getElem?_eq_some_iff.1 h
  unfold copyT
  rw [List.set_append_right _ _ (by simp; omega), List.take_succ_eq_append_getElem hk, e]
  obtain ⟨m, hm⟩ : ∃ m, l.length - k = m + 1 := ⟨l.length - k - 1, by omega⟩
  rw [hm, show l.length - (k + 1) = m from by omega, List.replicate_succ]
  simp [show min k l.length = k from by omega]
theorem copyT_len (l : TL) (k : Nat) (h : k ≤ l.length) : (copyT l k).length = l.length := by simp [copyT]; omega
end Go.Proofs.Ytfidddnagfbnhaa
