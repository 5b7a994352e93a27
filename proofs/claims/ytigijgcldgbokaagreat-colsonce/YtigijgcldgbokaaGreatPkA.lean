/-
  What lies in memory: slices of strings, records behind slices of slices of strings; small facts of worlds and lists.
  Conditions: none.
  What an argument of a statement is, read out of the memory that it lies in: slices of strings, records, tables.
  Conditions: none beyond the form of claims.
  What lies in memory: slices of pairs of numbers, and of numbers; small facts of lists.
  Conditions: none.
  What an argument of a statement is, read out of the memory that it lies in: slices of numbers.
  Conditions: none beyond the form of claims.
  Whether two lists of pairs, or of numbers, are alike: the program's answer, and the document's reference's.
  Conditions: lists of at most 2^40 elements.
  A new slice of pairs that the code owns: its cells, what a store makes of it; a copy of pairs, as the program makes it.
  Conditions: lists of at most 2^38 pairs.
  Which of two pairs stands ahead, by their Bs; whether pairs are in order: what the program answers.
  Conditions: lists of at most 2^38 pairs.
  Insertion, as the library sorts short pieces: what it makes of a piece of a list of pairs.
  Conditions: lists of at most 2^38 pairs.
  Lists in order of their Bs, in which those of the same B stand as they stood.
  Conditions: none.
  Whether two pairs have the same A, or the same B: what the program answers, by maps of those that it has seen.
  Conditions: lists of at most 2^40 pairs of Go integers.
  Whether all pairs are within bounds: what the program answers, by a closure over the bounds.
  Conditions: lists of at most 2^40 pairs.
  Whether they may be pairs: the program's answer, and the document's reference's.
  Conditions: lists of at most 2^38 pairs of Go integers.
  Those that are on one side of no pair: what the program answers.
  Conditions: lists of at most 2^38 pairs of Go integers; numbers up to 2^31 - 1.
  Pairs through pairs: the program's answer.
  Conditions: lists of at most 2^30 pairs of Go integers.
  Pairs that are turned: the program's answer, over what the library's stable sort makes.
  Conditions: lists of at most 2^30 pairs.
  Pairs that may be, turned: they may be, turned again they are as they were; what is in none.
  Conditions: none.
-/
import Derived.RangeFuncNested
import Derived.RangeFuncBound
import Derived.RangeFuncCalls
import Derived.RangeFuncLeaves
import Derived.RangeFuncFrom
import Derived.RangeFuncBox
import Derived.Shelf.Abstract
import Derived.Shelf.RegionOpen
import Derived.WalkKit
import Derived.WalkMore
import Derived.OwnWalkIn
import Derived.TacticsInMore
import Derived.LoopNIn
import Derived.LoopIn
import Derived.RegionTactic
import Derived.ChangeAlike
import Derived.BigQuiet
import Derived.Deep.QuietTactic
import Derived.Lib.QuietBelow
import Derived.Lib.Hide
import Derived.Deep.Slices
import Derived.Laws.AppendOwn
import Derived.Laws.AppendOwnNone
import Derived.SliceStrings
import Derived.Lib.Builder
import Derived.SizedLaws
import Derived.Test.YtigijgcldgbokaaGreatProg
import Derived.ProofKit
import Derived.OpenShut
import Derived.ShutString
import Derived.Lib.SmallJoins
import Derived.ChangeSlices
import Derived.ChangeArms
import Derived.Deep.SlicePairs
import Derived.Deep.RegionWith
import Derived.StillTailTactics
import Derived.OwnWalk
import Derived.Laws.OwnMore
import Derived.Deep.Cut
import Derived.IntWalk
import Derived.BigRegion
import Derived.Maps.Own
import Derived.Maps.OwnOps
import Derived.Maps.Views
import Derived.Deep.RegionHeld3
import Derived.Maps.OwnSet
import Derived.WalkArith
import Derived.Deep.Onto
import Derived.OneCell
namespace Go.Proofs.YtigijgcldgbokaaGreat
open Go.RowKit Go.Shelf

theorem ba_toList (s : ByteArray) : s.toList = s.data.toList := by
  obtain ⟨⟨l⟩⟩ := s
  exact ByteArray.toList_mk l
theorem ba_ext (s : ByteArray) (a b : Nat) : (s.extract a b).data.toList = (s.data.toList.take b).drop a := by
  simp [List.drop_take]
theorem ba_app (a b : ByteArray) : (a ++ b).data.toList = a.data.toList ++ b.data.toList := by simp
theorem ba_size (s : ByteArray) : s.data.toList.length = s.size := by simp
theorem ba_eq {a b : ByteArray} (h : a.data.toList = b.data.toList) : a = b := by
  obtain ⟨⟨a⟩⟩ := a; obtain ⟨⟨b⟩⟩ := b; simp at h; rw [h]
theorem ba_mk_size (l : List UInt8) : (⟨l.toArray⟩ : ByteArray).size = l.length := by simp [ByteArray.size]
theorem ret_str {a b : ByteArray} (h : a.data.toList = b.data.toList) : Ending.returned (.string a) = .returned (.string b) := by rw [ba_eq h]
theorem ret_int {k : IntKind} {a b : Int} (h : a = b) : Ending.returned (.int k a) = .returned (.int k b) := by rw [h]
theorem box3 {W : World} {B : Nat} {x y z : Value} {T : TypeId} (h : W.heap[B]? = some (.cells #[x, y, z] T (0, 0))) :
    (W.cell? ⟨B, 0, none⟩ = some x ∧ W.cell? ⟨B, 1, none⟩ = some y ∧ W.cell? ⟨B, 2, none⟩ = some z) ∧ (W.frozen? ⟨B, 0, none⟩ = false ∧ W.frozen? ⟨B, 1, none⟩ = false ∧ W.frozen? ⟨B, 2, none⟩ = false) :=
  ⟨⟨(Lib.cell_of_heap h 0).trans rfl, (Lib.cell_of_heap h 1).trans rfl, (Lib.cell_of_heap h 2).trans rfl⟩, Lib.frozen_of_heap h 0, Lib.frozen_of_heap h 1, Lib.frozen_of_heap h 2⟩
theorem add_block (A : Addr) (j : Nat) : (A.add j).block = A.block := by unfold Addr.add; split <;> rfl
theorem two_new (w : World) (o p : Obj) : ((w.alloc o).alloc p).heap.size = w.heap.size + 2 ∧ ((w.alloc o).alloc p).heap[w.heap.size]? = some o ∧ ((w.alloc o).alloc p).heap[w.heap.size + 1]? = some p := by
  refine ⟨by simp, ?_, ?_⟩
  · rw [Below.heap_alloc _ _ _ (by simp)]; exact World.alloc_heap_new w o
  · have := World.alloc_heap_new (w.alloc o) p
    simpa using this
theorem two_below (w : World) (o p : Obj) : Below w.heap.size w ((w.alloc o).alloc p) := ((Below.refl _ w).alloc (Nat.le_refl _) o).alloc (by simp) p
def bytesOf (xs : List ByteArray) : List (List UInt8) := xs.map fun c => c.data.toList
/-- the cells of a slice of strings -/
def StrRow (w : World) (ao : Option Addr) (xs : List ByteArray) : Prop := xs = [] ∨ ∃ A, ao = some A ∧ A.block < w.heap.size ∧ ∀ i c, xs[i]? = some c → w.cell? (A.add i) = some (.string c)
theorem StrRow.kept {w w' : World} {ao : Option Addr} {xs : List ByteArray} (h : StrRow w ao xs) (hB : Below w.heap.size w w') : StrRow w' ao xs := by
  rcases h with h | ⟨A, h1, h2, h3⟩
  · exact .inl h
  · exact .inr ⟨A, h1, Nat.lt_of_lt_of_le h2 hB.size, fun i c hc => (hB.cell (p := A.add i) (by rw [add_block]; exact h2)).trans (h3 i c hc)⟩
theorem below_up {a b c : World} (h : Below a.heap.size a b) (k : Below b.heap.size b c) : Below a.heap.size a c := h.trans (k.mono h.size)
theorem box_new (w : World) (o : Obj) (k : Nat) (h : k = w.heap.size) : (w.alloc o).heap[k]? = some o := by subst h; exact World.alloc_heap_new w o
theorem cell_row {W : World} {g : Nat} {cs : Array Value} {T : TypeId} {fr : Nat × Nat} (h : W.heap[g]? = some (.cells cs T fr)) (j : Nat) : W.cell? ((⟨g, 0, none⟩ : Addr).add j) = cs[j]? := by
  have e : (⟨g, 0, none⟩ : Addr).add j = ⟨g, j, none⟩ := by unfold Addr.add; split <;> simp_all
  rw [e]; exact Lib.cell_of_heap h j
theorem lt_of_heap {W : World} {g : Nat} {o : Obj} (h : W.heap[g]? = some o) : g < W.heap.size := by
  rcases Nat.lt_or_ge g W.heap.size with h' | h'
  · exact h'
  · simp [Array.getElem?_eq_none h'] at h
theorem cell_of_box_l {W : World} {B : Nat} {v : Value} {t : TypeId} (h : W.heap[B]? = some (.cells #[v] t (0, 0))) : W.cell? ⟨B, 0, none⟩ = some v ∧ W.frozen? ⟨B, 0, none⟩ = false := by
  constructor <;> simp [World.cell?, World.frozen?, h]
theorem cell_new_l (W : World) (v : Value) (t : TypeId) : (W.alloc (.cells #[v] t)).cell? ⟨W.heap.size, 0, none⟩ = some v ∧ (W.alloc (.cells #[v] t)).frozen? ⟨W.heap.size, 0, none⟩ = false :=
  cell_of_box_l (World.alloc_heap_new W _)
theorem cell_alloc_l {W : World} {a : Addr} {v : Value} (o : Obj) (h : W.cell? a = some v) : (W.alloc o).cell? a = some v := cell_kept h (World.grownBy_alloc W o none) (fun r e => by cases e)
theorem frozen_alloc_l {W : World} {a : Addr} {v : Value} (o : Obj) (h : W.cell? a = some v) (hf : W.frozen? a = false) : (W.alloc o).frozen? a = false := (frozen_kept h (World.grownBy_alloc W o none) (fun r e => by cases e)).trans hf
/-- records: rows of texts -/
abbrev Recs := List (List (List UInt8))
def recsOf (rs : List (List ByteArray)) : Recs := rs.map bytesOf
/-- how much room a slice may have: none, if it is nil -/
abbrev Cap (ao : Option Addr) (n : Nat) := {c : Nat // n ≤ c ∧ (ao = none → c = 0)}
/-- the records behind a slice of slices of strings -/
def RowsAt (w : World) (ao : Option Addr) (rs : List (List ByteArray)) : Prop :=
  rs = [] ∨ ∃ A, ao = some A ∧ A.block < w.heap.size ∧ ∀ i r, rs[i]? = some r → ∃ (ro : Option Addr) (cap : Cap ro r.length), w.cell? (A.add i) = some (.slice ro r.length cap.1) ∧ StrRow w ro r
theorem RowsAt.kept {w w' : World} {ao : Option Addr} {rs : List (List ByteArray)} (h : RowsAt w ao rs) (hB : Below w.heap.size w w') : RowsAt w' ao rs := by
  rcases h with h | ⟨A, h1, h2, h3⟩
  · exact .inl h
  · refine .inr ⟨A, h1, Nat.lt_of_lt_of_le h2 hB.size, fun i r hr => ?_⟩
    obtain ⟨ro, cap, h4, h5⟩ := h3 i r hr
    exact ⟨ro, cap, (hB.cell (p := A.add i) (by rw [add_block]; exact h2)).trans h4, h5.kept hB⟩
theorem dgt (n m : Nat) : decide ((m : Int) < (n : Int)) = decide (m < n) := by
  by_cases h : m < n
  · rw [decide_eq_true h]; exact decide_eq_true (by omega)
  · rw [decide_eq_false h]; exact decide_eq_false (by omega)
/-- the first place, from k on, of which something is so; -1: none -/
def firstAt {α : Type} (p : α → Bool) (l : List α) : Int := match l.findIdx? p with | some i => (i : Int) | none => -1
theorem any_at {α : Type} (p : α → Bool) (l : List α) : decide (0 ≤ firstAt p l) = l.any p := by
  unfold firstAt
  cases h : l.findIdx? p with
  | none =>
    have := List.findIdx?_eq_none_iff.1 h
    rw [List.any_eq_false.2 (fun x hx => by have := this x hx; simp [this])]; rfl
  | some i =>
    obtain ⟨hi, h1, _⟩ := List.findIdx?_eq_some_iff_getElem.1 h
    rw [List.any_eq_true.2 ⟨l[i], List.getElem_mem hi, h1⟩]
    exact decide_eq_true (show (0 : Int) ≤ (i : Int) by omega)
theorem firstAt_none {α : Type} (p : α → Bool) (l : List α) (h : ∀ (j : Nat) (c : α), l[j]? = some c → p c = false) : firstAt p l = -1 := by
  unfold firstAt
  rw [List.findIdx?_eq_none_iff.2 (fun x hx => by
    obtain ⟨i, hi, rfl⟩ := List.getElem_of_mem hx
    have := h i l[i] (List.getElem?_eq_getElem hi)
    simpa using this)]
theorem firstAt_some {α : Type} (p : α → Bool) (l : List α) (k : Nat) (c : α) (hc : l[k]? = some c) (hp : p c = true) (h : ∀ (j : Nat) (c : α), j < k → l[j]? = some c → p c = false) : firstAt p l = (k : Int) := by
  unfold firstAt
  obtain ⟨hk, e⟩ := List.getElem?_eq_some_iff.1 hc
  rw [List.findIdx?_eq_some_iff_getElem.2 ⟨hk, by rw [e]; exact hp, fun j hj => by
    have := h j l[j] hj (List.getElem?_eq_getElem (by omega))
    simpa using this⟩]
theorem own_slice {w : World} {base : Nat} {e : TypeId} {size : Nat} {v : Value} {n : Nat} {xs : List Value} (h : w.ownsRow base e size v n xs) : ∃ ao cap, v = .slice ao n cap := by
  rcases h.2 with ⟨rfl, rfl⟩ | ⟨g, cap, cur, rfl, _⟩
  · exact ⟨_, _, rfl⟩
  · exact ⟨_, _, rfl⟩
theorem new_cell (w : World) (cs : Array Value) (T : TypeId) (i : Nat) : (w.alloc (.cells cs T)).cell? ((⟨w.heap.size, 0, none⟩ : Addr).add i) = cs[i]? := cell_row (World.alloc_heap_new w _) i
/-- a slice literal of strings -/
theorem new_row (w : World) (xs : List ByteArray) (T : TypeId) : StrRow (w.alloc (.cells (xs.map Value.string).toArray T)) (some ⟨w.heap.size, 0, none⟩) xs :=
  .inr ⟨_, rfl, by simp, fun i c hc => by rw [new_cell]; simp [hc]⟩
theorem rows_one (w : World) (ro : Option Addr) (r : List ByteArray) (cap : Cap ro r.length) (T : TypeId) (h : StrRow w ro r) : RowsAt (w.alloc (.cells #[.slice ro r.length cap.1] T)) (some ⟨w.heap.size, 0, none⟩) [r] := by
  have hB : Below w.heap.size w (w.alloc (.cells #[.slice ro r.length cap.1] T)) := (Below.refl _ w).alloc (Nat.le_refl _) _
  refine .inr ⟨_, rfl, by simp, fun i x hx => ?_⟩
  match i, hx with
  | 0, hx => simp at hx; subst hx; exact ⟨ro, cap, by rw [new_cell]; rfl, h.kept hB⟩
theorem rows_two (w : World) (ro so : Option Addr) (r s : List ByteArray) (c1 : Cap ro r.length) (c2 : Cap so s.length) (T : TypeId) (h : StrRow w ro r) (k : StrRow w so s) : RowsAt (w.alloc (.cells #[.slice ro r.length c1.1, .slice so s.length c2.1] T)) (some ⟨w.heap.size, 0, none⟩) [r, s] := by
  have hB : Below w.heap.size w (w.alloc (.cells #[.slice ro r.length c1.1, .slice so s.length c2.1] T)) := (Below.refl _ w).alloc (Nat.le_refl _) _
  refine .inr ⟨_, rfl, by simp, fun i x hx => ?_⟩
  match i, hx with
  | 0, hx => simp at hx; subst hx; exact ⟨ro, c1, by rw [new_cell]; rfl, h.kept hB⟩
  | 1, hx => simp at hx; subst hx; exact ⟨so, c2, by rw [new_cell]; rfl, k.kept hB⟩
theorem lit2 (u : World) (r s : List ByteArray) (T1 T2 T3 : TypeId) :
    RowsAt (((u.alloc (.cells (r.map Value.string).toArray T1)).alloc (.cells (s.map Value.string).toArray T2)).alloc (.cells #[.slice (some ⟨u.heap.size, 0, none⟩) r.length r.length, .slice (some ⟨u.heap.size + 1, 0, none⟩) s.length s.length] T3)) (some ⟨u.heap.size + 1 + 1, 0, none⟩) [r, s] ∧
    Below u.heap.size u (((u.alloc (.cells (r.map Value.string).toArray T1)).alloc (.cells (s.map Value.string).toArray T2)).alloc (.cells #[.slice (some ⟨u.heap.size, 0, none⟩) r.length r.length, .slice (some ⟨u.heap.size + 1, 0, none⟩) s.length s.length] T3)) := by
  have b1 : Below (u.alloc (.cells (r.map Value.string).toArray T1)).heap.size _ ((u.alloc (.cells (r.map Value.string).toArray T1)).alloc (.cells (s.map Value.string).toArray T2)) := (Below.refl _ _).alloc (Nat.le_refl _) _
  have h1 := (new_row u r T1).kept b1
  have h2 := new_row (u.alloc (.cells (r.map Value.string).toArray T1)) s T2
  rw [World.size_alloc] at h2
  have h := rows_two _ _ _ r s ⟨r.length, Nat.le_refl _, fun e => by cases e⟩ ⟨s.length, Nat.le_refl _, fun e => by cases e⟩ T3 h1 h2
  rw [World.size_alloc, World.size_alloc] at h
  exact ⟨h, (((Below.refl _ u).alloc (Nat.le_refl _) _).alloc (by simp) _).alloc (by simp; omega) _⟩
theorem lit1 (u : World) (r : List ByteArray) (T1 T3 : TypeId) :
    RowsAt ((u.alloc (.cells (r.map Value.string).toArray T1)).alloc (.cells #[.slice (some ⟨u.heap.size, 0, none⟩) r.length r.length] T3)) (some ⟨u.heap.size + 1, 0, none⟩) [r] ∧
    Below u.heap.size u ((u.alloc (.cells (r.map Value.string).toArray T1)).alloc (.cells #[.slice (some ⟨u.heap.size, 0, none⟩) r.length r.length] T3)) := by
  have h := rows_one _ _ r ⟨r.length, Nat.le_refl _, fun e => by cases e⟩ T3 (new_row u r T1)
  rw [World.size_alloc] at h
  exact ⟨h, ((Below.refl _ u).alloc (Nat.le_refl _) _).alloc (by simp) _⟩
theorem rows_len (rs : List (List ByteArray)) (L : Recs) (h : recsOf rs = L) : rs.length = L.length ∧ ∀ n, (∀ x ∈ L, x.length ≤ n) → ∀ r ∈ rs, r.length ≤ n := by
  subst h
  refine ⟨by simp [recsOf], fun n hn r hr => ?_⟩
  have := hn (bytesOf r) (List.mem_map.2 ⟨r, hr, rfl⟩)
  simpa [bytesOf] using this
def rowTot (r : List ByteArray) : Nat := (r.map fun c => c.size + 1).sum
def tot (rs : List (List ByteArray)) : Nat := (rs.map rowTot).sum
def fewP (rs : List (List ByteArray)) : Prop := rs.length ≤ 60 ∧ (∀ r ∈ rs, r.length ≤ 60) ∧ tot rs ≤ 8000
theorem rowTot_next (r : List ByteArray) (j : Nat) (c : ByteArray) (h : r[j]? = some c) : rowTot (r.take (j + 1)) = rowTot (r.take j) + (c.size + 1) := by
  obtain ⟨hk, e⟩ := List.getElem?_eq_some_iff.1 h
  rw [List.take_succ_eq_append_getElem hk, e]; simp [rowTot]
theorem tot_next (rs : List (List ByteArray)) (k : Nat) (r : List ByteArray) (h : rs[k]? = some r) : tot (rs.take (k + 1)) = tot (rs.take k) + rowTot r := by
  obtain ⟨hk, e⟩ := List.getElem?_eq_some_iff.1 h
  rw [List.take_succ_eq_append_getElem hk, e]; simp [tot]
theorem cell_tot (r : List ByteArray) (c : ByteArray) (h : c ∈ r) : c.size + 1 ≤ rowTot r := by
  induction r with
  | nil => cases h
  | cons x r ih =>
    simp only [rowTot, List.map_cons, List.sum_cons] at ih ⊢
    rcases List.mem_cons.1 h with rfl | h
    · omega
    · have := ih h; omega
theorem row_tot (rs : List (List ByteArray)) (r : List ByteArray) (h : r ∈ rs) : rowTot r ≤ tot rs := by
  induction rs with
  | nil => cases h
  | cons x rs ih =>
    simp only [tot, List.map_cons, List.sum_cons] at ih ⊢
    rcases List.mem_cons.1 h with rfl | h
    · omega
    · have := ih h; omega
theorem few_small (rs : List (List ByteArray)) (h : fewP rs) : ∀ r ∈ rs, r.length ≤ 60 ∧ ∀ c ∈ r, c.size ≤ 8000 := fun r hr => ⟨h.2.1 r hr, fun c hc => by
  have h1 := cell_tot r c hc
  have h2 := row_tot rs r hr
  have := h.2.2
  omega⟩
end Go.Proofs.YtigijgcldgbokaaGreat
namespace Go.Proofs.YtigijgcldgbokaaGreat
open Go.RowKit Go.Shelf Go.ChangeShapes Go.WideShapes Go.Deep
theorem row_of (W : World) (a : Addr) (len : Nat) (ss : List ByteArray) (hcell : ∀ i, i < ss.length → W.cell? (a.add i) = some (.string (ss.getD i ByteArray.empty))) : StrRow W (some a) (ss.take len) := by
  by_cases h0 : ss.take len = []
  · exact .inl h0
  · have hp : 0 < ss.length := by
      rcases Nat.eq_zero_or_pos ss.length with h | h
      · exact absurd (by simp [List.eq_nil_of_length_eq_zero h]) h0
      · exact h
    refine .inr ⟨a, rfl, ?_, fun i c hc => ?_⟩
    · have h := block_lt_of_cell (hcell 0 hp)
      rwa [add_block] at h
    · have hc' : ss[i]? = some c := by
        rw [List.getElem?_take] at hc
        split at hc
        · exact hc
        · cases hc
      obtain ⟨hi, e⟩ := List.getElem?_eq_some_iff.1 hc'
      rw [hcell i hi, List.getD_eq_getElem?_getD, hc']; rfl
/-- the cells of records are Go strings, the records Go slices -/
def sized (rs : List (List ByteArray)) : Prop := ∀ r ∈ rs, r.length ≤ maxLen ∧ ∀ c ∈ r, c.size ≤ maxLen
theorem open_rows {H : Type} {enc : TypeId × Value → H} {P : Program} {w : World} {base : Nat} {held : Bool} {t e q : TypeId} {fuel : Nat} {ao : Option Addr} {len cap : Nat} {x : DataW H × List MemPlace} (ht : P.underlying t = some (.slice e)) (he : P.underlying e = some (.slice q)) (hq : P.underlying q = some .string)
    (ce : P.cellsOf e = 1) (cq : P.cellsOf q = 1) (h : DataW.trod enc P w base (fun _ => true) held fuel t [.slice ao len cap] = some x) :
    ∃ rs : List (List ByteArray), rs.length = len ∧ rs.length ≤ maxLen ∧ RowsAt w ao rs ∧ sized rs ∧ (ao = none → cap = 0) := by
  rcases open_slice1 ht ce h with ⟨hcs, _⟩ | ⟨a, len', cap', m, n, V, D, Pl, hcs, hb, hl, hm, hmm, _, hx⟩
  · simp at hcs; obtain ⟨rfl, rfl, rfl⟩ := hcs
    exact ⟨[], rfl, Nat.zero_le _, .inl rfl, (fun r hr => by cases hr), fun _ => rfl⟩
  · simp at hcs; obtain ⟨rfl, rfl, rfl⟩ := hcs
    simp only [if_true] at hmm
    have each : ∀ i, i < len → ∃ y : Option Addr × Nat × List ByteArray, V i = .slice y.1 y.2.2.length y.2.1 ∧ (StrRow w y.1 y.2.2 ∧ y.2.2.length ≤ y.2.1 ∧ (y.1 = none → y.2.1 = 0)) ∧ y.2.2.length ≤ maxLen ∧ ∀ c ∈ y.2.2, c.size ≤ maxLen := by
      intro i hi
      rcases open_strings he hq cq (hx i (by omega)).2 with ⟨h1, _⟩ | ⟨a', l', c', ss, h1, _, hl', hm', hz, _, hcell, hsz⟩
      · simp at h1
        exact ⟨(none, 0, []), h1, ⟨.inl rfl, Nat.le_refl _, fun _ => rfl⟩, Nat.zero_le _, fun c hc => by cases hc⟩
      · simp at h1
        simp only [if_true] at hz
        have hln : (ss.take l').length = l' := by rw [List.length_take]; omega
        exact ⟨(some a', c', ss.take l'), by simp only; rw [hln]; exact h1, ⟨row_of w a' l' ss hcell, by simp only; rw [hln]; exact hl', fun e => by cases e⟩, by simp only; rw [hln]; omega, fun c hc => hsz c (List.mem_of_mem_take hc)⟩
    obtain ⟨y, hy⟩ := choose_lt each
    refine ⟨(List.range len).map fun i => (y i).2.2, by simp, by simp; omega, ?_, ?_, fun h => by cases h⟩
    · by_cases h0 : len = 0
      · subst h0; exact .inl rfl
      · refine .inr ⟨a, rfl, ?_, fun i r hr => ?_⟩
        · have := block_lt_of_cell (hx 0 (by omega)).1
          rwa [add_block] at this
        · rw [List.getElem?_map] at hr
          obtain ⟨j, hj, rfl⟩ := Option.map_eq_some_iff.1 hr
          obtain ⟨hi, hij⟩ := List.getElem?_eq_some_iff.1 hj
          simp only [List.length_range] at hi
          rw [List.getElem_range] at hij
          subst hij
          obtain ⟨h1, h2, _⟩ := hy i hi
          exact ⟨(y i).1, ⟨(y i).2.1, h2.2⟩, by rw [(hx i (by omega)).1, h1], h2.1⟩
    · intro r hr
      obtain ⟨i, hi, rfl⟩ := List.mem_map.1 hr
      obtain ⟨_, _, h3, h4⟩ := hy i (List.mem_range.1 hi)
      exact ⟨h3, h4⟩
theorem u8_of (d : Int) (h : (Lit.int .u8 d).wf = true) : ∃ u : UInt8, d = (u.toNat : Int) := by
  simp [Lit.wf] at h
  have e1 : IntKind.u8.min = 0 := by decide
  have e2 : IntKind.u8.max = 255 := by decide
  refine ⟨UInt8.ofNat d.toNat, ?_⟩
  rw [UInt8.toNat_ofNat']
  omega
theorem open_cap {H : Type} {enc : TypeId × Value → H} {P : Program} {w : World} {base : Nat} {held : Bool} {t e : TypeId} {fuel : Nat} {ao : Option Addr} {len cap : Nat} {x : DataW H × List MemPlace} (ht : P.underlying t = some (.slice e)) (ce : P.cellsOf e = 1)
    (h : DataW.trod enc P w base (fun _ => true) held fuel t [.slice ao len cap] = some x) : len ≤ cap := by
  rcases open_slice1 ht ce h with ⟨hcs, _⟩ | ⟨a, len', cap', m, n, V, D, Pl, hcs, hb, hl, _⟩
  · simp at hcs; obtain ⟨rfl, rfl, rfl⟩ := hcs; exact Nat.le_refl _
  · simp at hcs; obtain ⟨rfl, rfl, rfl⟩ := hcs; exact hl
theorem weights_all {H : Type} {P : Program} {e : TypeId} {n : Nat} {d : DataW H} : ∀ {l : List (DataW H)}, d ∈ l → n ∈ d.weights P e → n ∈ DataW.weightsAll P e l := by
  intro l
  induction l with
  | nil => intro h; cases h
  | cons x r ih =>
    intro h hn
    rw [DataW.weightsAll]
    rcases List.mem_cons.1 h with rfl | h
    · exact List.mem_append_left _ hn
    · exact List.mem_append_right _ (ih h hn)
theorem weights_elem {H : Type} {P : Program} {t e : TypeId} {n : Nat} {d : DataW H} {elems spare : List (DataW H)} (hu : P.underlying t = some (.slice e)) (h : d ∈ elems) (hn : n ∈ d.weights P e) : n ∈ (DataW.slice elems spare).weights P t := by
  rw [DataW.weights]
  simp only [hu]
  exact List.mem_cons_of_mem _ (List.mem_append_left _ (weights_all h hn))
theorem open_reach {H : Type} {enc : TypeId × Value → H} {P : Program} {w : World} {base : Nat} {held : Bool} {t e q : TypeId} {fuel : Nat} {ao : Option Addr} {len cap : Nat} {x : DataW H × List MemPlace} (ht : P.underlying t = some (.slice e)) (he : P.underlying e = some (.slice q)) (hq : P.underlying q = some .string)
    (ce : P.cellsOf e = 1) (cq : P.cellsOf q = 1) (h : DataW.trod enc P w base (fun _ => true) held fuel t [.slice ao len cap] = some x) (hw : ∀ n ∈ x.1.weights P t, n ≤ reachBytes) :
    ∃ rs : List (List ByteArray), rs.length = len ∧ rs.length ≤ maxLen ∧ RowsAt w ao rs ∧ sized rs ∧ ∀ r ∈ rs, ∀ c ∈ r, c.size ≤ 140737488351232 := by
  rcases open_slice1 ht ce h with ⟨hcs, _⟩ | ⟨a, len', cap', m, n, V, D, Pl, hcs, hb, hl, hm, hmm, rfl, hx⟩
  · simp at hcs; obtain ⟨rfl, rfl, rfl⟩ := hcs
    exact ⟨[], rfl, Nat.zero_le _, .inl rfl, (fun r hr => by cases hr), fun r hr => by cases hr⟩
  · simp at hcs; obtain ⟨rfl, rfl, rfl⟩ := hcs
    simp only [if_true] at hmm
    have each : ∀ i, i < len → ∃ y : Option Addr × Nat × List ByteArray, V i = .slice y.1 y.2.2.length y.2.1 ∧ (StrRow w y.1 y.2.2 ∧ y.2.2.length ≤ y.2.1 ∧ (y.1 = none → y.2.1 = 0)) ∧ y.2.2.length ≤ maxLen ∧ (∀ c ∈ y.2.2, c.size ≤ maxLen) ∧ ∀ c ∈ y.2.2, c.size ≤ 140737488351232 := by
      intro i hi
      rcases open_strings he hq cq (hx i (by omega)).2 with ⟨h1, _⟩ | ⟨a', l', c', ss, h1, _, hl', hm', hz, hy, hcell, hsz⟩
      · simp at h1
        exact ⟨(none, 0, []), h1, ⟨.inl rfl, Nat.le_refl _, fun _ => rfl⟩, Nat.zero_le _, (fun c hc => by cases hc), fun c hc => by cases hc⟩
      · simp at h1
        simp only [if_true] at hz
        simp only [Prod.mk.injEq] at hy
        have hln : (ss.take l').length = l' := by rw [List.length_take]; omega
        refine ⟨(some a', c', ss.take l'), by simp only; rw [hln]; exact h1, ⟨row_of w a' l' ss hcell, by simp only; rw [hln]; exact hl', fun e => by cases e⟩, by simp only; rw [hln]; omega, fun c hc => hsz c (List.mem_of_mem_take hc), fun c hc => ?_⟩
        have hmem : c.data.toList.length ∈ (DataW.lit (H := H) (.string c.data.toList)).weights P q := by rw [DataW.weights]; exact List.mem_singleton.2 rfl
        have h2 : c.data.toList.length ∈ (D i).weights P e := by
          rw [hy.1]
          exact weights_elem he (List.mem_map.2 ⟨c, hc, rfl⟩) hmem
        have h3 := hw _ (weights_elem ht (List.mem_map.2 ⟨i, List.mem_range.2 hi, rfl⟩) h2)
        rw [ba_size] at h3
        exact h3
    obtain ⟨y, hy⟩ := choose_lt each
    refine ⟨(List.range len).map fun i => (y i).2.2, by simp, by simp; omega, ?_, ?_, ?_⟩
    · by_cases h0 : len = 0
      · subst h0; exact .inl rfl
      · refine .inr ⟨a, rfl, ?_, fun i r hr => ?_⟩
        · have := block_lt_of_cell (hx 0 (by omega)).1
          rwa [add_block] at this
        · rw [List.getElem?_map] at hr
          obtain ⟨j, hj, rfl⟩ := Option.map_eq_some_iff.1 hr
          obtain ⟨hi, hij⟩ := List.getElem?_eq_some_iff.1 hj
          simp only [List.length_range] at hi
          rw [List.getElem_range] at hij
          subst hij
          obtain ⟨h1, h2, _⟩ := hy i hi
          exact ⟨(y i).1, ⟨(y i).2.1, h2.2⟩, by rw [(hx i (by omega)).1, h1], h2.1⟩
    · intro r hr
      obtain ⟨i, hi, rfl⟩ := List.mem_map.1 hr
      obtain ⟨_, _, h3, h4, _⟩ := hy i (List.mem_range.1 hi)
      exact ⟨h3, h4⟩
    · intro r hr
      obtain ⟨i, hi, rfl⟩ := List.mem_map.1 hr
      exact (hy i (List.mem_range.1 hi)).2.2.2.2
/-- the values that stand in the cells of a slice of records -/
def Heads (w : World) (ao : Option Addr) (rs : List (List ByteArray)) (hs : List Value) : Prop :=
  hs.length = rs.length ∧ (∀ A, ao = some A → ∀ (j : Nat) u, hs[j]? = some u → w.cell? (A.add j) = some u) ∧ ∀ (j : Nat) r, rs[j]? = some r → ∃ (ro : Option Addr) (c : Cap ro r.length), hs[j]? = some (.slice ro r.length c.1) ∧ StrRow w ro r
theorem heads_of (w : World) (ao : Option Addr) (rs : List (List ByteArray)) (h : RowsAt w ao rs) : ∃ hs, Heads w ao rs hs := by
  rcases h with rfl | ⟨A, rfl, hA, hcell⟩
  · exact ⟨[], rfl, (fun A _ j u hu => by simp at hu), fun j r hr => by simp at hr⟩
  · obtain ⟨y, hy⟩ := Go.Deep.choose_lt (n := rs.length) (p := fun i (y : Option Addr × Nat) => ∀ r, rs[i]? = some r → w.cell? (A.add i) = some (.slice y.1 r.length y.2) ∧ StrRow w y.1 r ∧ r.length ≤ y.2 ∧ (y.1 = none → y.2 = 0)) (fun i hi => by
      obtain ⟨ro, c, h1, h2⟩ := hcell i rs[i] (List.getElem?_eq_getElem hi)
      refine ⟨(ro, c), fun r hr => ?_⟩
      rw [List.getElem?_eq_getElem hi] at hr; cases hr
      exact ⟨h1, h2, c.2⟩)
    have key : ∀ i, i < rs.length → ((List.range rs.length).map fun i => Value.slice (y i).1 (rs.getD i []).length (y i).2)[i]? = some (.slice (y i).1 (rs.getD i []).length (y i).2) := fun i hi => by
      rw [List.getElem?_map, List.getElem?_range hi]; rfl
    refine ⟨(List.range rs.length).map fun i => .slice (y i).1 (rs.getD i []).length (y i).2, by simp, fun A' hA' j u hu => ?_, fun j r hr => ?_⟩
    · cases hA'
      have hj : j < rs.length := by have := (List.getElem?_eq_some_iff.1 hu).1; simpa using this
      rw [key j hj] at hu; cases hu
      have h1 := (hy j hj rs[j] (List.getElem?_eq_getElem hj)).1
      rw [h1, List.getD_eq_getElem?_getD, List.getElem?_eq_getElem hj]; rfl
    · obtain ⟨hj, _⟩ := List.getElem?_eq_some_iff.1 hr
      refine ⟨(y j).1, ⟨(y j).2, (hy j hj r hr).2.2⟩, ?_, (hy j hj r hr).2.1⟩
      rw [key j hj, List.getD_eq_getElem?_getD, hr]; rfl
theorem Heads.one {w : World} {ao : Option Addr} {rs : List (List ByteArray)} {hs : List Value} (h : Heads w ao rs hs) : ∀ u ∈ hs, u.oneCell' = true := fun u hu => by
  obtain ⟨i, hi, rfl⟩ := List.getElem_of_mem hu
  have hi2 : i < rs.length := by rw [← h.1]; exact hi
  obtain ⟨ro, c, h1, _⟩ := h.2.2 i rs[i] (List.getElem?_eq_getElem hi2)
  rw [List.getElem?_eq_getElem hi] at h1
  rw [Option.some.inj h1]; rfl
theorem Heads.kept {w w' : World} {ao : Option Addr} {rs : List (List ByteArray)} {hs : List Value} (h : Heads w ao rs hs) (hR : RowsAt w ao rs) (hB : Below w.heap.size w w') : Heads w' ao rs hs := by
  refine ⟨h.1, fun A hA j u hu => ?_, fun j r hr => ?_⟩
  · rcases hR with rfl | ⟨A', hA', hlt, _⟩
    · have h0 : hs = [] := List.eq_nil_of_length_eq_zero h.1
      rw [h0] at hu; simp at hu
    · subst hA; cases hA'
      exact (hB.cell (p := A.add j) (by rw [add_block]; exact hlt)).trans (h.2.1 A rfl j u hu)
  · obtain ⟨ro, c, h1, h2⟩ := h.2.2 j r hr
    exact ⟨ro, c, h1, h2.kept hB⟩
theorem heads_join {w : World} {ao bo : Option Addr} {rs ss : List (List ByteArray)} {hs ks : List Value} (h : Heads w ao rs hs) (k : Heads w bo ss ks) {base : Nat} {T : TypeId} {v : Value} {n : Nat} (ho : w.ownsRow base T 1 v n (hs ++ ks)) :
    ∃ co cap, v = .slice co (rs ++ ss).length cap ∧ RowsAt w co (rs ++ ss) := by
  have hlen : n = (rs ++ ss).length := by have := ho.1; simp [h.1, k.1] at this ⊢; omega
  obtain ⟨co, cap, rfl⟩ := own_slice ho
  refine ⟨co, cap, by rw [hlen], ?_⟩
  rcases ho.2 with ⟨hv, h0⟩ | ⟨g, cap', cur, hv, _⟩
  · exact .inl (List.eq_nil_of_length_eq_zero (by omega))
  · cases hv
    refine .inr ⟨_, rfl, (ho.lt g rfl).2, fun i r hr => ?_⟩
    by_cases hi : i < rs.length
    · rw [List.getElem?_append_left hi] at hr
      obtain ⟨ro, c, h1, h2⟩ := h.2.2 i r hr
      exact ⟨ro, c, ho.cells rfl i _ (by rw [List.getElem?_append_left (by rw [h.1]; exact hi)]; exact h1), h2⟩
    · rw [List.getElem?_append_right (by omega)] at hr
      obtain ⟨ro, c, h1, h2⟩ := k.2.2 (i - rs.length) r hr
      exact ⟨ro, c, ho.cells rfl i _ (by rw [List.getElem?_append_right (by rw [h.1]; omega), h.1]; exact h1), h2⟩
/-- an append of a slice that may be nil -/
theorem wpList_append_any {P : Program} {w : World} {ops : Array Oper} {rest : List Oper} {o : Oper} {a : Act} {Q : Exit → Act → World → Prop} (hgd : o.guard = none) (s x : Operand) (t : TypeId)
    (ho : o.op = .call { callee := .builtin .append, args := #[s, x], argTypes := #[t, t] })
    (base : Nat) (e : TypeId) (i : TypeInfo) (z : Value) (size bytes : Nat) (ht : P.underlying t = some (.slice e)) (hi : P.info? e = some i) (hz : i.zero = some z)
    (hsize : i.size = size) (hby : i.bytes = bytes) (hzs : z.cells.size = size) (hsz : 0 < size)
    (v : Value) (n : Nat) (xs : List Value) (hs : a.eval s = v) (hown : w.ownsRow base e size v n xs)
    (xo : Option Addr) (m c : Nat) (news : List Value) (hx : a.eval x = .slice xo m c) (hnone : xo = none → m = 0 ∧ c = 0) (hl : news.length = m * size) (hnews : ∀ ad, xo = some ad → ∀ (j : Nat) u, news[j]? = some u → w.cell? (ad.add j) = some u) (h1 : ∀ u ∈ news, u.oneCell' = true)
    (h63 : n + m ≤ maxLen) (hbytes : (n + m) * bytes ≤ 140737488355328) (hbase : base ≤ w.heap.size)
    (h : ∀ v' w', w'.ownsRow base e size v' (n + m) (xs ++ news) → w.grownBy w' v.ownBlock → wpList P ops Q rest (a.put o.dst v') w') : wpList P ops Q (o :: rest) a w := by
  cases xo with
  | none =>
    obtain ⟨rfl, rfl⟩ := hnone rfl
    have hnil : news = [] := List.eq_nil_of_length_eq_zero (by rw [hl]; simp)
    subst hnil
    refine wpList_append_own_none hgd s x t ho base e i size ht hi v n xs hs hown hx (h v w (by simpa using hown) ⟨rfl, rfl, rfl, Nat.le_refl _, fun _ _ _ => rfl⟩)
  | some ad => exact wpList_append_own w hgd s x t ho base e i z size bytes ht hi hz hsize hby hzs hsz v n xs hs hown ad m c news hx hl (hnews ad rfl) h1 h63 hbytes hbase (fun v' w' h2 h3 _ => h v' w' h2 h3)
end Go.Proofs.YtigijgcldgbokaaGreat
namespace Go.Proofs.YtigijgcldgbokaaGreat
open Go.RowKit Go.Shelf Go.ChangeShapes Go.WideShapes Go.Deep Go.Lib
set_option linter.unusedVariables false

/-- a slice of strings that came in -/
structure StrArg (w : World) (ao : Option Addr) (cap : Nat) (xs : List ByteArray) : Prop where
  len : xs.length ≤ maxLen
  row : StrRow w ao xs
  size : ∀ c ∈ xs, c.size ≤ 140737488351232
  nil : ao = none → cap = 0
  cap : xs.length ≤ cap
/-- records that came in -/
structure RowsArg (w : World) (ao : Option Addr) (cap : Nat) (rs : List (List ByteArray)) : Prop where
  len : rs.length ≤ maxLen
  rows : RowsAt w ao rs
  each : ∀ r ∈ rs, r.length ≤ maxLen ∧ ∀ c ∈ r, c.size ≤ 140737488351232
  nil : ao = none → cap = 0
  cap : rs.length ≤ cap

section
variable {H : Type} {enc : TypeId × Value → H} {P : Program} {w : World} {base : Nat} {held : Bool}
theorem slice_is {t e : TypeId} {fuel : Nat} {v : Value} {x : DataW H × List MemPlace} (ht : P.underlying t = some (.slice e)) (ce : P.cellsOf e = 1) (h : DataW.trod enc P w base (fun _ => true) held fuel t [v] = some x) : ∃ ao len cap, v = .slice ao len cap ∧ (ao = none → cap = 0) ∧ len ≤ cap := by
  rcases open_slice1 ht ce h with ⟨hcs, _⟩ | ⟨a, len', cap', m, n, V, D, Pl, hcs, hb, hl, _⟩
  · simp at hcs; exact ⟨_, _, _, hcs, fun _ => rfl, Nat.le_refl _⟩
  · simp at hcs; exact ⟨_, _, _, hcs, (fun h => by cases h), hl⟩
theorem arg_strs {t q : TypeId} {fuel : Nat} {v : Value} {x : DataW H × List MemPlace} (ht : P.underlying t = some (.slice q)) (hq : P.underlying q = some .string) (cq : P.cellsOf q = 1)
    (h : DataW.trod enc P w base (fun _ => true) held fuel t [v] = some x) (hw : ∀ n ∈ x.1.weights P t, n ≤ reachBytes) : ∃ ao cap xs, v = .slice ao xs.length cap ∧ StrArg w ao cap xs := by
  obtain ⟨ao, len, cap, rfl, hz, hc⟩ := slice_is ht cq h
  rcases open_strings ht hq cq h with ⟨h1, _⟩ | ⟨a', l', c', ss, h1, _, hl', hm', hz', hy, hcell, hsz⟩
  · simp at h1; obtain ⟨rfl, rfl, rfl⟩ := h1
    exact ⟨none, 0, [], rfl, Nat.zero_le _, .inl rfl, (fun c hc => by cases hc), fun _ => rfl, Nat.le_refl _⟩
  · simp at h1; obtain ⟨rfl, rfl, rfl⟩ := h1
    simp only [if_true] at hz'
    have hln : (ss.take len).length = len := by rw [List.length_take]; omega
    refine ⟨some a', cap, ss.take len, by rw [hln], by rw [hln]; omega, row_of w a' len ss hcell, fun c hc' => ?_, hz, by rw [hln]; exact hc⟩
    have hmem : c.data.toList.length ∈ (DataW.lit (H := H) (.string c.data.toList)).weights P q := by rw [DataW.weights]; exact List.mem_singleton.2 rfl
    have h2 : c.data.toList.length ∈ x.1.weights P t := by
      rw [hy]
      exact weights_elem ht (List.mem_map.2 ⟨c, hc', rfl⟩) hmem
    have h3 := hw _ h2
    rw [ba_size] at h3
    exact h3
theorem arg_rows {t e q : TypeId} {fuel : Nat} {v : Value} {x : DataW H × List MemPlace} (ht : P.underlying t = some (.slice e)) (he : P.underlying e = some (.slice q)) (hq : P.underlying q = some .string) (ce : P.cellsOf e = 1) (cq : P.cellsOf q = 1)
    (h : DataW.trod enc P w base (fun _ => true) held fuel t [v] = some x) (hw : ∀ n ∈ x.1.weights P t, n ≤ reachBytes) : ∃ ao cap rs, v = .slice ao rs.length cap ∧ RowsArg w ao cap rs := by
  obtain ⟨ao, len, cap, rfl, hz, hc⟩ := slice_is ht ce h
  obtain ⟨rs, rfl, h2, h3, h4, h5⟩ := open_reach ht he hq ce cq h hw
  exact ⟨ao, cap, rs, rfl, h2, h3, fun r hr => ⟨(h4 r hr).1, h5 r hr⟩, hz, hc⟩
theorem arg_table {r : Reach} {b0 : Nat} {t : TypeId} {f0 f1 : Field} {q : TypeId} {v : Value} {d : DataW H} {p : List MemPlace} (hs : P.underlying t = some (.struct #[f0, f1])) (hone : oneCellFields P #[f0, f1] = true) (hC : P.cellsOf t = 2)
    (h0 : P.underlying f0.type = some (.slice q)) (h1 : P.underlying f1.type = some (.slice f0.type)) (hq : P.underlying q = some .string) (cq : P.cellsOf q = 1) (cf : P.cellsOf f0.type = 1)
    (hv : Value.okWide P w r b0 t v) (h : DataW.Trod enc P w base (fun _ => true) held t v d p) (hw : ∀ n ∈ d.weights P t, n ≤ reachBytes) :
    ∃ ho hc hd ro rc rs, v = .agg #[.slice ho (List.length hd) hc, .slice ro (List.length rs) rc] ∧ StrArg w ho hc hd ∧ RowsArg w ro rc rs := by
  obtain ⟨v0, v1, y0, y1, n, rfl, rfl, rfl, k0, k1⟩ := Go.Joins.open_agg2 hs hone hC hv h
  have e : (DataW.agg [y0.1, y1.1] : DataW H).weights P t = DataW.weightsEach P [f0.type, f1.type] [y0.1, y1.1] := by rw [DataW.weights]; simp only [hs]; rfl
  rw [e] at hw
  obtain ⟨ho, hc, hd, rfl, A⟩ := arg_strs h0 hq cq k0 (fun n hn => hw n (DataW.weights_mem_each (j := 0) rfl rfl n hn))
  obtain ⟨ro, rc, rs, rfl, B⟩ := arg_rows h1 h0 hq cf cq k1 (fun n hn => hw n (DataW.weights_mem_each (j := 1) rfl rfl n hn))
  exact ⟨ho, hc, hd, ro, rc, rs, rfl, A, B⟩
end
end Go.Proofs.YtigijgcldgbokaaGreat
namespace Go.Proofs.YtigijgcldgbokaaGreat
open Go.RowKit Go.Shelf
set_option linter.unusedVariables false

theorem bdn {B : Nat} {a w : World} (h : Below B a w) {n : Nat} : Below B a (w.drewN n) := ⟨h.os, h.tape, h.output, h.size, h.block⟩
theorem cell_grown {W W' : World} {row : Option Nat} {a : Addr} {v : Value} (h : W.cell? a = some v) (hg : W.grownBy W' row) (hne : some a.block ≠ row) : W'.cell? a = some v := by
  obtain ⟨_, _, _, _, hk⟩ := hg
  have := hk a.block (block_lt_of_cell h) hne
  unfold World.cell? at h ⊢; rw [this]; exact h
/-- pairs of numbers -/
abbrev PL := List (Int × Int)
/-- the cells of a slice of pairs -/
def PairsAt (w : World) (ao : Option Addr) (l : PL) : Prop := l = [] ∨ ∃ b o, ao = some ⟨b, o, none⟩ ∧ b < w.heap.size ∧ ∀ (i : Nat) p, l[i]? = some p → w.cell? ⟨b, o + i * 2, none⟩ = some (.int .i64 p.1) ∧ w.cell? ⟨b, o + i * 2 + 1, none⟩ = some (.int .i64 p.2)
theorem PairsAt.kept {w w' : World} {ao : Option Addr} {l : PL} (h : PairsAt w ao l) (hB : Below w.heap.size w w') : PairsAt w' ao l := by
  rcases h with h | ⟨b, o, h1, h2, h3⟩
  · exact .inl h
  · exact .inr ⟨b, o, h1, Nat.lt_of_lt_of_le h2 hB.size, fun i p hp => ⟨(hB.cell (p := ⟨b, o + i * 2, none⟩) h2).trans (h3 i p hp).1, (hB.cell (p := ⟨b, o + i * 2 + 1, none⟩) h2).trans (h3 i p hp).2⟩⟩
/-- the cells of a slice of numbers -/
def IntsAt (w : World) (ao : Option Addr) (ps : List Int) : Prop := ps = [] ∨ ∃ A, ao = some A ∧ A.block < w.heap.size ∧ ∀ (i : Nat) p, ps[i]? = some p → w.cell? (A.add i) = some (.int .i64 p)
theorem IntsAt.kept {w w' : World} {ao : Option Addr} {ps : List Int} (h : IntsAt w ao ps) (hB : Below w.heap.size w w') : IntsAt w' ao ps := by
  rcases h with h | ⟨A, h1, h2, h3⟩
  · exact .inl h
  · exact .inr ⟨A, h1, Nat.lt_of_lt_of_le h2 hB.size, fun i p hp => (hB.cell (p := A.add i) (by rw [add_block]; exact h2)).trans (h3 i p hp)⟩
theorem int_bneP (n m : Nat) : ((n : Int) != (m : Int)) = decide (n ≠ m) := by
  by_cases h : n = m
  · subst h; simp
  · rw [decide_eq_true h, bne_iff_ne]; omega
theorem list_all {α : Type} (xs ys : List α) (h : xs.length = ys.length) (hall : ∀ (j : Nat) x y, j < xs.length → xs[j]? = some x → ys[j]? = some y → x = y) : xs = ys := by
  refine List.ext_getElem? fun i => ?_
  by_cases hi : i < xs.length
  · rw [List.getElem?_eq_getElem hi, List.getElem?_eq_getElem (show i < ys.length by omega)]
    exact congrArg some (hall i _ _ hi (List.getElem?_eq_getElem hi) (List.getElem?_eq_getElem (by omega)))
  · rw [List.getElem?_eq_none (by omega), List.getElem?_eq_none (by omega)]
/-- are two lists alike -/
def sameL {α : Type} [DecidableEq α] (xs ys : List α) : Bool := decide (xs = ys)
theorem same_len {α : Type} [DecidableEq α] (xs ys : List α) (h : xs.length ≠ ys.length) : sameL xs ys = false := decide_eq_false (fun e => h (congrArg List.length e))
theorem same_all {α : Type} [DecidableEq α] (xs ys : List α) (h : xs.length = ys.length) (hall : ∀ (j : Nat) x y, j < xs.length → xs[j]? = some x → ys[j]? = some y → x = y) : sameL xs ys = true := decide_eq_true (list_all xs ys h hall)
theorem same_no {α : Type} [DecidableEq α] (xs ys : List α) (k : Nat) (x y : α) (hx : xs[k]? = some x) (hy : ys[k]? = some y) (hne : x ≠ y) : sameL xs ys = false :=
  decide_eq_false (fun e => hne (by subst e; rw [hx] at hy; exact Option.some.inj hy))
end Go.Proofs.YtigijgcldgbokaaGreat
namespace Go.Proofs.YtigijgcldgbokaaGreat
open Go.RowKit Go.Shelf Go.ChangeShapes Go.WideShapes Go.Deep Go.Lib
set_option linter.unusedVariables false

/-- a slice of numbers that came in -/
structure IntsArg (w : World) (ao : Option Addr) (cap : Nat) (ps : List Int) : Prop where
  len : ps.length ≤ maxLen
  ints : IntsAt w ao ps
  wf : ∀ p ∈ ps, (Lit.int .i64 p).wf = true
  nil : ao = none → cap = 0
  cap : ps.length ≤ cap
section
variable {H : Type} {enc : TypeId × Value → H} {P : Program} {w : World} {base : Nat} {held : Bool}
theorem ints_of (W : World) (a : Addr) (len : Nat) (zs : List Int) (hcell : ∀ i, i < zs.length → W.cell? (a.add i) = some (.int .i64 (zs.getD i 0))) : IntsAt W (some a) (zs.take len) := by
  by_cases h0 : zs.take len = []
  · exact .inl h0
  · have hp : 0 < zs.length := by
      rcases Nat.eq_zero_or_pos zs.length with h | h
      · exact absurd (by simp [List.eq_nil_of_length_eq_zero h]) h0
      · exact h
    refine .inr ⟨a, rfl, ?_, fun i c hc => ?_⟩
    · have h := block_lt_of_cell (hcell 0 hp)
      rwa [add_block] at h
    · have hc' : zs[i]? = some c := by
        rw [List.getElem?_take] at hc
        split at hc
        · exact hc
        · cases hc
      obtain ⟨hi, e⟩ := List.getElem?_eq_some_iff.1 hc'
      rw [hcell i hi, List.getD_eq_getElem?_getD, hc']; rfl
theorem arg_ints {t q : TypeId} {fuel : Nat} {v : Value} {x : DataW H × List MemPlace} (ht : P.underlying t = some (.slice q)) (hq : P.underlying q = some (.int .i64)) (cq : P.cellsOf q = 1)
    (h : DataW.trod enc P w base (fun _ => true) held fuel t [v] = some x) : ∃ ao cap ps, v = .slice ao (List.length ps) cap ∧ IntsArg w ao cap ps := by
  rcases open_ints ht hq cq h with ⟨h1, _⟩ | ⟨a', l', c', zs, h1, _, hl', hm', hz', hy, hcell, hsz⟩
  · simp at h1; subst h1
    exact ⟨none, 0, [], rfl, Nat.zero_le _, .inl rfl, (fun c hc => by cases hc), fun _ => rfl, Nat.le_refl _⟩
  · simp at h1; subst h1
    simp only [if_true] at hz'
    have hln : (zs.take l').length = l' := by rw [List.length_take]; omega
    exact ⟨some a', c', zs.take l', by rw [hln], by rw [hln]; omega, ints_of w a' l' zs hcell, fun p hp => hsz p (List.mem_of_mem_take hp), (fun h => by cases h), by rw [hln]; exact hl'⟩
end
end Go.Proofs.YtigijgcldgbokaaGreat
namespace Go.Proofs.YtigijgcldgbokaaGreat
open Go.RowKit Go.Shelf
set_option linter.unusedVariables false

set_option maxRecDepth 100000 in
set_option maxHeartbeats 1000000 in
theorem psameR_any (ao bo : Option Addr) (ca cb : Nat) (xs ys : PL) (w : World) (hn : xs.length ≤ 1099511627776) (hR : PairsAt w ao xs) (hS : PairsAt w bo ys) :
    Calls Tryz.prog 12 #[.slice ao xs.length ca, .slice bo ys.length cb] w fun e w' => e = .returned (.bool (sameL xs ys)) ∧ Below w.heap.size w w' := by
  have HRo := Lib.hid hR
  have HSo := Lib.hid hS
  have HL := Lib.hid (same_len xs ys)
  have HA := Lib.hid (same_all xs ys)
  have HNo := Lib.hid (same_no xs ys)
  clear hR hS
  generalize sameL xs ys = F at HL HA HNo ⊢
  by_cases hlen : xs.length = ys.length
  · have hb : ((xs.length : Int) != (ys.length : Int)) = false := by rw [int_bneP]; simpa using hlen
    have HLen := Lib.hid hlen
    go_enter Tryz.func12, Tryz.ntmps12
    go_wp2_with fail
    go_loopw [5] (fun i wr => ∃ k : Nat, k ≤ xs.length ∧ i = .int .i64 k ∧ Hid (Below w.heap.size w wr) ∧ Hid (∀ (j : Nat) x y, j < k → xs[j]? = some x → ys[j]? = some y → x = y)) (fun i _ => xs.length - (intOf i).toNat)
    case atStart => exact ⟨0, Nat.zero_le _, rfl, Lib.hid (Below.refl _ _), Lib.hid (fun j x y h _ _ => by omega)⟩
    case round =>
      obtain ⟨k, hk, rfl, HB, HN⟩ := hrel
      by_cases hlt : k < xs.length
      · obtain ⟨x, hx⟩ : ∃ x, xs[k]? = some x := ⟨_, List.getElem?_eq_getElem hlt⟩
        obtain ⟨y, hy⟩ : ∃ y, ys[k]? = some y := ⟨_, List.getElem?_eq_getElem (by rw [← HLen.out]; exact hlt)⟩
        have HX := Lib.hid hx
        have HY := Lib.hid hy
        have hlt2 : k < ys.length := by rw [← HLen.out]; exact hlt
        rcases (HRo.out.kept HB.out) with h0 | ⟨b, o, rfl, hA, hcell⟩
        · rw [h0] at hlt; simp at hlt
        rcases (HSo.out.kept HB.out) with h0 | ⟨c, q, rfl, hC, hcell2⟩
        · rw [h0] at hlt2; simp at hlt2
        have hc := hcell k _ hx
        have hd := hcell2 k _ hy
        clear hcell hcell2 hx hy
        obtain ⟨x1, x2⟩ := x
        obtain ⟨y1, y2⟩ := y
        obtain ⟨hc1, hc2⟩ := hc
        obtain ⟨hd1, hd2⟩ := hd
        dsimp only at hc1 hc2 hd1 hd2
        by_cases hxy : x1 = y1 ∧ x2 = y2
        · have HN' : Hid (∀ (j : Nat) x y, j < k + 1 → xs[j]? = some x → ys[j]? = some y → x = y) := Lib.hid (fun j u v hj hu hv => by
            rcases Nat.lt_or_ge j k with h | h
            · exact HN.out j u v h hu hv
            · obtain rfl : j = k := by omega
              rw [HX.out] at hu; rw [HY.out] at hv
              cases hu; cases hv; obtain ⟨rfl, rfl⟩ := hxy; rfl)
          obtain ⟨rfl, rfl⟩ := hxy
          go_wp2_with fail
          go_quiet (fail)
          have HB' : Hid (Below w.heap.size w (wr.drewN nq)) := Lib.hid (bdn HB.out)
          go_wp2_with fail
          go_roundw
          case rel => exact ⟨k + 1, by omega, by go_num, HB', HN'⟩
          case measure => simp [intOf]; omega
        · have E := Lib.hid (HNo.out k _ _ HX.out HY.out (by intro e; injection e with e1 e2; exact hxy ⟨e1, e2⟩))
          by_cases h1 : x1 = y1
          · have h2 : ¬ x2 = y2 := fun e => hxy ⟨h1, e⟩
            clear hxy
            go_wp2_with fail
            go_quiet (fail)
            have HB' : Hid (Below w.heap.size w (wr.drewN nq)) := Lib.hid (bdn HB.out)
            go_wp2_with fail
            go_ret
            exact ⟨by rw [E.out]; rfl, HB'.out⟩
          clear hxy
          all_goals
            go_wp2_with fail
            go_quiet (fail)
            have HB' : Hid (Below w.heap.size w (wr.drewN nq)) := Lib.hid (bdn HB.out)
            go_wp2_with fail
            go_ret
            exact ⟨by rw [E.out]; rfl, HB'.out⟩
      · obtain rfl : k = xs.length := by omega
        have E := Lib.hid (HA.out HLen.out HN.out)
        go_wp2_with fail
        go_ret
        exact ⟨by rw [E.out]; rfl, HB.out⟩
  · have hb : ((xs.length : Int) != (ys.length : Int)) = true := by rw [int_bneP]; simpa using hlen
    have E := Lib.hid (HL.out hlen)
    go_enter Tryz.func12, Tryz.ntmps12
    go_wp2_with fail
    go_ret
    exact ⟨by rw [E.out]; rfl, Below.refl _ _⟩

end Go.Proofs.YtigijgcldgbokaaGreat
namespace Go.Proofs.YtigijgcldgbokaaGreat
open Go.RowKit Go.Shelf
set_option linter.unusedVariables false

theorem ownsRowP_below {w w' : World} {base : Nat} {e : TypeId} {size : Nat} {v : Value} {n : Nat} {xs : List Value} (h : w.ownsRow base e size v n xs) (hB : Below w.heap.size w w') : w'.ownsRow base e size v n xs :=
  h.kept (row := none) ⟨hB.os, hB.tape, hB.output, hB.size, fun k hk _ => hB.block k hk⟩ (by cases h' : v.ownBlock <;> simp)
/-- the cells of pairs -/
def cellsP (l : PL) : List Value := l.flatMap fun p => [.int .i64 p.1, .int .i64 p.2]
theorem cellsP_cons (p : Int × Int) (l : PL) : cellsP (p :: l) = .int .i64 p.1 :: .int .i64 p.2 :: cellsP l := rfl
theorem cellsP_length (l : PL) : (cellsP l).length = l.length * 2 := by
  induction l with
  | nil => rfl
  | cons p l ih => rw [cellsP_cons]; simp only [List.length_cons, ih]; omega
theorem cellsP_app (l m : PL) : cellsP (l ++ m) = cellsP l ++ cellsP m := by simp [cellsP]
theorem cellsP_at (l : PL) (k : Nat) (p : Int × Int) (h : l[k]? = some p) : (cellsP l)[k * 2]? = some (.int .i64 p.1) ∧ (cellsP l)[k * 2 + 1]? = some (.int .i64 p.2) := by
  induction l generalizing k with
  | nil => simp at h
  | cons q l ih =>
    cases k with
    | zero => simp at h; subst h; exact ⟨rfl, rfl⟩
    | succ k =>
      have := ih k (by simpa using h)
      rw [cellsP_cons, show (k + 1) * 2 = k * 2 + 1 + 1 from by omega]
      simpa using this
theorem cellsP_set (l : PL) (k : Nat) (a b : Int) (h : k < l.length) : ((cellsP l).set (k * 2) (.int .i64 a)).set (k * 2 + 1) (.int .i64 b) = cellsP (l.set k (a, b)) := by
  induction l generalizing k with
  | nil => simp at h
  | cons q l ih =>
    cases k with
    | zero => rfl
    | succ k =>
      have := ih k (by simpa using h)
      rw [cellsP_cons, show (k + 1) * 2 = k * 2 + 1 + 1 from by omega]
      simp only [List.set_cons_succ, this]
      rfl
theorem cellsP_zero (n : Nat) : (madeCells #[.int .i64 0, .int .i64 0] (n * 2)).toList = cellsP (List.replicate n (0, 0)) := by
  have h1 : (madeCells #[.int .i64 0, .int .i64 0] (n * 2)).toList = List.replicate (n * 2) (.int .i64 0) := by
    refine List.eq_replicate_iff.2 ⟨by simp [size_madeCells], fun b hb => ?_⟩
    simp only [madeCells, Array.toList_map, List.mem_map] at hb
    obtain ⟨i, _, rfl⟩ := hb
    have : i % 2 = 0 ∨ i % 2 = 1 := by omega
    rcases this with h | h <;> simp [h]
  have h2 : cellsP (List.replicate n (0, 0)) = List.replicate (n * 2) (.int .i64 0) := by
    refine List.eq_replicate_iff.2 ⟨by rw [cellsP_length]; simp, fun b hb => ?_⟩
    simp only [cellsP, List.mem_flatMap] at hb
    obtain ⟨p, hp, hb⟩ := hb
    rw [(List.mem_replicate.1 hp).2] at hb
    simp at hb
    exact hb
  rw [h1, h2]
/-- a slice of pairs that the code owns -/
structure OwnP (w : World) (base : Nat) (T : TypeId) (g n : Nat) (l : PL) : Prop where
  len : l.length = n
  own : w.ownsRow base T 2 (.slice (some ⟨g, 0, none⟩) n n) n (cellsP l)
theorem OwnP.lt {w : World} {base : Nat} {T : TypeId} {g n : Nat} {l : PL} (h : OwnP w base T g n l) : base ≤ g ∧ g < w.heap.size := h.own.lt g rfl
theorem OwnP.kept {w w' : World} {base : Nat} {T : TypeId} {g n : Nat} {l : PL} (h : OwnP w base T g n l) (hB : Below w.heap.size w w') : OwnP w' base T g n l := ⟨h.len, ownsRowP_below h.own hB⟩
theorem OwnP.cell {w : World} {base : Nat} {T : TypeId} {g n : Nat} {l : PL} (h : OwnP w base T g n l) (k : Nat) (p : Int × Int) (hp : l[k]? = some p) : w.cell? ⟨g, k * 2, none⟩ = some (.int .i64 p.1) ∧ w.cell? ⟨g, k * 2 + 1, none⟩ = some (.int .i64 p.2) := by
  obtain ⟨hk, _⟩ := List.getElem?_eq_some_iff.1 hp
  have hl := h.len
  obtain ⟨h1, h2⟩ := cellsP_at l k p hp
  exact ⟨(h.own.cellAt (k * 2) (by omega)).trans h1, (h.own.cellAt (k * 2 + 1) (by omega)).trans h2⟩
theorem OwnP.frozen {w : World} {base : Nat} {T : TypeId} {g n : Nat} {l : PL} (h : OwnP w base T g n l) (k : Nat) : w.frozen? ⟨g, k, none⟩ = false := h.own.frozenAt k
theorem OwnP.pairs {w : World} {base : Nat} {T : TypeId} {g n : Nat} {l : PL} (h : OwnP w base T g n l) : PairsAt w (some ⟨g, 0, none⟩) l :=
  .inr ⟨g, 0, rfl, h.lt.2, fun i p hp => by have := h.cell i p hp; simpa using this⟩
theorem OwnP.store {w : World} {base : Nat} {T : TypeId} {g n : Nat} {l : PL} (h : OwnP w base T g n l) (k : Nat) (a b : Int) (hk : k < n) : OwnP ((w.setCell ⟨g, k * 2, none⟩ (.int .i64 a)).setCell ⟨g, k * 2 + 1, none⟩ (.int .i64 b)) base T g n (l.set k (a, b)) := by
  refine ⟨by simp [h.len], ?_⟩
  rw [← cellsP_set l k a b (by rw [h.len]; exact hk)]
  exact ((h.own.stored (k * 2) (.int .i64 a)).1.stored (k * 2 + 1) (.int .i64 b)).1
theorem info_parts2 {P : Program} {e : TypeId} {z : Option Value} {s b : Nat} (h : (P.info? e).map (fun i => (i.zero, i.size, i.bytes)) = some (z, s, b)) : ∃ i, P.info? e = some i ∧ i.zero = z ∧ i.size = s ∧ i.bytes = b := by
  obtain ⟨i, hi, e'⟩ := Option.map_eq_some_iff.1 h
  simp only [Prod.mk.injEq] at e'
  exact ⟨i, hi, e'⟩
/-- a new slice of pairs, a copy of which the first k are -/
def copyK (l : PL) (k : Nat) : PL := l.take k ++ List.replicate (l.length - k) (0, 0)
theorem copyK_zero (l : PL) : copyK l 0 = List.replicate l.length (0, 0) := by simp [copyK]
theorem copyK_all (l : PL) : copyK l l.length = l := by simp [copyK]
theorem copyK_next (l : PL) (k : Nat) (p : Int × Int) (h : l[k]? = some p) : (copyK l k).set k p = copyK l (k + 1) := by
  obtain ⟨hk, e⟩ := List.getElem?_eq_some_iff.1 h
  unfold copyK
  rw [List.set_append_right _ _ (by simp; omega), List.take_succ_eq_append_getElem hk, e]
  obtain ⟨m, hm⟩ : ∃ m, l.length - k = m + 1 := ⟨l.length - k - 1, by omega⟩
  rw [hm, show l.length - (k + 1) = m from by omega, List.replicate_succ]
  simp [show min k l.length = k from by omega]
theorem copyK_len (l : PL) (k : Nat) (h : k ≤ l.length) : (copyK l k).length = l.length := by simp [copyK]; omega

set_option maxRecDepth 100000 in
set_option maxHeartbeats 1000000 in
theorem list_any (ao : Option Addr) (cap : Nat) (xs : PL) (w : World) (hn : xs.length ≤ 274877906944) (hR : PairsAt w ao xs) :
    Calls Tryz.prog 35 #[.slice ao xs.length cap] w fun e w' => ∃ g, e = .returned (.slice (some ⟨g, 0, none⟩) xs.length xs.length) ∧ OwnP w' w.heap.size 63 g xs.length xs ∧ Below w.heap.size w w' := by
  have hinfo : (Tryz.prog.info? 63).map (fun i => (i.zero, i.size, i.bytes)) = some (some (.agg #[.int .i64 0, .int .i64 0]), 2, 16) := by kernel_rfl
  obtain ⟨i0, hi, hz0, hz1, hz2⟩ := info_parts2 hinfo
  have HI := Lib.hid hi
  have HRo := Lib.hid hR
  have hm : xs.length ≤ maxLen := by unfold maxLen; omega
  clear hi hinfo hR
  go_enter Tryz.func35, Tryz.ntmps35
  go_wp2_with (at_make; refine wpList_make_full _ rfl _ _ 62 rfl w.heap.size 63 i0 (.agg #[.int .i64 0, .int .i64 0]) 2 Tryz.underlying62 HI.out hz0 hz1 .i64 .i64 (xs.length : Int) (xs.length : Int) xs.length rfl rfl rfl rfl (by rw [hz2]; omega) hm (Nat.le_refl _) ?_; intro w1 ho hg)
  have HB : Hid (Below w.heap.size w w1) := Lib.hid ((Below.refl _ w).grown hg (Nat.le_refl _) (fun k h => by cases h))
  have HT : Hid (OwnP w1 w.heap.size 63 w.heap.size xs.length (copyK xs 0)) := Lib.hid ⟨copyK_len xs 0 (Nat.zero_le _), by rw [copyK_zero, ← cellsP_zero]; exact ho⟩
  clear ho hg
  go_wp2_with fail
  go_loopw [11] (fun i wr => ∃ (k : Nat), k ≤ xs.length ∧ i = .int .i64 k ∧ Hid (Below w.heap.size w wr) ∧ Hid (OwnP wr w.heap.size 63 w.heap.size xs.length (copyK xs k))) (fun i _ => xs.length - (intOf i).toNat)
  case atStart => exact ⟨0, Nat.zero_le _, rfl, HB, HT⟩
  case round =>
    obtain ⟨k, hk, rfl, HB, HT⟩ := hrel
    by_cases hlt : k < xs.length
    · obtain ⟨⟨x1, x2⟩, hx⟩ : ∃ x, xs[k]? = some x := ⟨_, List.getElem?_eq_getElem hlt⟩
      rcases (HRo.out.kept HB.out) with h0 | ⟨b, o, rfl, hA, hcell⟩
      · rw [h0] at hlt; simp at hlt
      obtain ⟨hc1, hc2⟩ := hcell k _ hx
      dsimp only at hc1 hc2
      obtain ⟨V, HV⟩ : ∃ V, Hid (V = wr.alloc (.cells #[.int .i64 x1, .int .i64 x2] 36)) := ⟨_, Lib.hid rfl⟩
      have hVh : V.heap[wr.heap.size]? = some (.cells #[.int .i64 x1, .int .i64 x2] 36 (0, 0)) := by rw [HV.out]; exact World.alloc_heap_new _ _
      have v0 : V.cell? ⟨wr.heap.size, 0, none⟩ = some (.int .i64 x1) := (Lib.cell_of_heap hVh 0).trans rfl
      have v1 : V.cell? ⟨wr.heap.size, 1, none⟩ = some (.int .i64 x2) := (Lib.cell_of_heap hVh 1).trans rfl
      have hb0 : Below wr.heap.size wr V := by rw [HV.out]; exact (Below.refl _ wr).alloc (Nat.le_refl _) _
      have HT1 := HT.out.kept hb0
      obtain ⟨⟨y1, y2⟩, hy⟩ : ∃ y, (copyK xs k)[k]? = some y := ⟨_, List.getElem?_eq_getElem (by rw [copyK_len xs k hk]; exact hlt)⟩
      obtain ⟨z0, z1⟩ := HT1.cell k _ hy
      have f0 := HT1.frozen (k * 2)
      have f1 := HT1.frozen (k * 2 + 1)
      have T2 := HT1.store k x1 x2 hlt
      rw [copyK_next xs k _ hx] at T2
      have HT2 := Lib.hid T2
      have HB2 := Lib.hid (((below_up HB.out hb0).setCell (p := ⟨w.heap.size, k * 2, none⟩) (Nat.le_refl _) (.int .i64 x1)).setCell (p := ⟨w.heap.size, k * 2 + 1, none⟩) (Nat.le_refl _) (.int .i64 x2))
      clear hcell hx hb0 hVh HT1 hy T2 HT HB
      go_upto_region 5 with fail
      rw [← HV.out]
      go_wp2_with fail
      go_roundw
      case rel => exact ⟨k + 1, by omega, by go_num, HB2, HT2⟩
      case measure => simp [intOf]; omega
    · obtain rfl : k = xs.length := by omega
      have T2 := HT.out
      rw [copyK_all] at T2
      have HT2 := Lib.hid T2
      clear T2 HT
      go_wp2_with fail
      go_ret
      exact ⟨w.heap.size, rfl, HT2.out, HB.out⟩
end Go.Proofs.YtigijgcldgbokaaGreat
namespace Go.Proofs.YtigijgcldgbokaaGreat
open Go.RowKit Go.Shelf
set_option linter.unusedVariables false

theorem nan_any (a : Int) (w : World) : Calls Tryz.prog 87 #[.int .i64 a] w fun e w' => e = .returned (.bool false) ∧ w = w' := by
  go_enter Tryz.func87, Tryz.ntmps87
  go_wp2_with fail
  go_ret
  exact ⟨rfl, rfl⟩
/-- which of two numbers is less -/
def cmpI (a b : Int) : Int := if a < b then -1 else if b < a then 1 else 0
theorem cmpI_neg (a b : Int) : decide (cmpI a b < 0) = decide (a < b) := by
  unfold cmpI
  split
  · rename_i h; simp [h]
  · rename_i h; split <;> simp [h]
set_option maxRecDepth 100000 in
set_option maxHeartbeats 1000000 in
theorem compare_any (a b : Int) (w : World) : Calls Tryz.prog 49 #[.int .i64 a, .int .i64 b] w fun e w' => e = .returned (.int .i64 (cmpI a b)) ∧ w = w' := by
  have HN := Lib.hid (fun x W => nan_any x W)
  have E1 : Hid (a < b → cmpI a b = -1) := Lib.hid (fun h => by simp [cmpI, h])
  have E2 : Hid (b < a → cmpI a b = 1) := Lib.hid (fun h => by simp [cmpI, h, show ¬ a < b from by omega])
  have E3 : Hid (¬ a < b → ¬ b < a → cmpI a b = 0) := Lib.hid (fun h k => by simp [cmpI, h, k])
  generalize cmpI a b = c at E1 E2 E3 ⊢
  rcases Int.lt_trichotomy a b with h | h | h
  · have E := Lib.hid (E1.out h)
    go_enter Tryz.func49, Tryz.ntmps49
    go_wp2_with fail
    refine (HN.out _ _).mono ?_; rintro e w1 ⟨rfl, rfl⟩
    go_wp2_with fail
    refine (HN.out _ _).mono ?_; rintro e w1 ⟨rfl, rfl⟩
    go_wp2_with fail
    go_ret
    exact ⟨by rw [E.out]; rfl, rfl⟩
  · have E := Lib.hid (E3.out (by omega) (by omega))
    have h1 : ¬ a < b := by omega
    have h2 : ¬ b < a := by omega
    clear h
    go_enter Tryz.func49, Tryz.ntmps49
    go_wp2_with fail
    refine (HN.out _ _).mono ?_; rintro e w1 ⟨rfl, rfl⟩
    go_wp2_with fail
    refine (HN.out _ _).mono ?_; rintro e w1 ⟨rfl, rfl⟩
    go_wp2_with fail
    go_ret
    exact ⟨by rw [E.out]; rfl, rfl⟩
  · have E := Lib.hid (E2.out h)
    have h1 : ¬ a < b := by omega
    go_enter Tryz.func49, Tryz.ntmps49
    go_wp2_with fail
    refine (HN.out _ _).mono ?_; rintro e w1 ⟨rfl, rfl⟩
    go_wp2_with fail
    refine (HN.out _ _).mono ?_; rintro e w1 ⟨rfl, rfl⟩
    go_wp2_with fail
    go_ret
    exact ⟨by rw [E.out]; rfl, rfl⟩
theorem compareB_any (a b c d : Int) (w : World) : Calls Tryz.prog 36 #[.agg #[.int .i64 a, .int .i64 b], .agg #[.int .i64 c, .int .i64 d]] w fun e w' => e = .returned (.int .i64 (cmpI b d)) ∧ Below w.heap.size w w' := by
  have C := Lib.hid (fun W => compare_any b d W)
  have HB := Lib.hid (two_below w (.cells #[.int .i64 a, .int .i64 b] 63) (.cells #[.int .i64 c, .int .i64 d] 63))
  go_enter Tryz.func36, Tryz.ntmps36
  go_wp2_with fail
  refine (C.out _).mono ?_; rintro e w1 ⟨rfl, rfl⟩
  go_wp2_with fail
  go_ret
  exact ⟨rfl, HB.out⟩
/-- no B is less than the one ahead of it -/
def risesB : PL → Bool
  | p :: q :: l => decide (p.2 ≤ q.2) && risesB (q :: l)
  | _ => true
theorem risesB_iff (l : PL) : risesB l = true ↔ ∀ (j : Nat) p q, l[j]? = some p → l[j + 1]? = some q → p.2 ≤ q.2 := by
  match l with
  | [] => simp [risesB]
  | [p] => simp [risesB]
  | p :: q :: l =>
    have ih := risesB_iff (q :: l)
    simp only [risesB, Bool.and_eq_true, decide_eq_true_eq, ih]
    constructor
    · rintro ⟨h1, h2⟩ j a b ha hb
      cases j with
      | zero => simp at ha hb; subst ha hb; exact h1
      | succ j => exact h2 j a b (by simpa using ha) (by simpa using hb)
    · intro h
      exact ⟨h 0 p q rfl rfl, fun j a b ha hb => h (j + 1) a b (by simpa using ha) (by simpa using hb)⟩
theorem rises_no (l : PL) (j : Nat) (p q : Int × Int) (hp : l[j]? = some p) (hq : l[j + 1]? = some q) (h : q.2 < p.2) : risesB l = false := by
  cases hr : risesB l with
  | false => rfl
  | true => have := (risesB_iff l).1 hr j p q hp hq; omega
theorem rises_yes (l : PL) (h : ∀ (j : Nat) p q, 1 ≤ j + 1 → l[j]? = some p → l[j + 1]? = some q → p.2 ≤ q.2) : risesB l = true := (risesB_iff l).2 (fun j p q hp hq => h j p q (by omega) hp hq)

set_option maxRecDepth 100000 in
set_option maxHeartbeats 1000000 in
theorem isSorted_any (b o cap : Nat) (xs : PL) (w : World) (hn : xs.length ≤ 274877906944) (hR : PairsAt w (some ⟨b, o, none⟩) xs) :
    Calls Tryz.prog 34 #[.slice (some ⟨b, o, none⟩) xs.length cap, .func (.func 36) #[] #[]] w fun e w' => e = .returned (.bool (risesB xs)) ∧ Below w.heap.size w w' := by
  have HRo := Lib.hid hR
  have C := Lib.hid (fun a b c d W => compareB_any a b c d W)
  have hent := enters_of Tryz.func36 (by kernel_rfl) rfl
  have HN := Lib.hid (rises_no xs)
  have HY := Lib.hid (rises_yes xs)
  clear hR
  generalize risesB xs = F at HN HY ⊢
  have hm : IntKind.i64.wrap ((xs.length : Int) - 1) = (xs.length : Int) - 1 := IntWalk.i64_in _ (by omega)
  go_enter Tryz.func34, Tryz.ntmps34
  go_wp2_with fail
  go_loopw [5] (fun i wr => ∃ k : Int, -1 ≤ k ∧ k < xs.length ∧ i = .int .i64 k ∧ Hid (Below w.heap.size w wr) ∧ Hid (∀ (j : Nat) p q, k < (j : Int) + 1 → xs[j]? = some p → xs[j + 1]? = some q → p.2 ≤ q.2)) (fun i _ => (intOf i).toNat)
  case atStart => exact ⟨(xs.length : Int) - 1, by omega, by omega, rfl, Lib.hid (Below.refl _ _), Lib.hid (fun j p q hj _ hq => by have := (List.getElem?_eq_some_iff.1 hq).1; omega)⟩
  case round =>
    obtain ⟨k, hk1, hk, rfl, HB, HJ⟩ := hrel
    by_cases hpos : k ≤ 0
    · have E := Lib.hid (HY.out (fun j p q h1 hp hq => HJ.out j p q (by omega) hp hq))
      go_wp2_with fail
      go_ret
      exact ⟨by rw [E.out]; rfl, HB.out⟩
    · obtain ⟨n, rfl⟩ := Int.eq_ofNat_of_zero_le (show 0 ≤ k by omega)
      obtain ⟨m, hmk⟩ : ∃ m, n = m + 1 := ⟨n - 1, by omega⟩
      obtain ⟨⟨x1, x2⟩, hx⟩ : ∃ x, xs[m]? = some x := ⟨_, List.getElem?_eq_getElem (by omega)⟩
      obtain ⟨⟨y1, y2⟩, hy⟩ : ∃ x, xs[n]? = some x := ⟨_, List.getElem?_eq_getElem (by omega)⟩
      rcases (HRo.out.kept HB.out) with h0 | ⟨b', o', hbo, hA, hcell⟩
      · rw [h0] at hk; simp at hk; omega
      cases hbo
      obtain ⟨hc1, hc2⟩ := hcell m _ hx
      obtain ⟨hd1, hd2⟩ := hcell n _ hy
      dsimp only at hc1 hc2 hd1 hd2
      have HX := Lib.hid hx
      have HYY : Hid (xs[m + 1]? = some (y1, y2)) := Lib.hid (by rw [← hmk]; exact hy)
      have hneg := cmpI_neg y2 x2
      have hsub : (n : Int) - 1 = (m : Int) := by omega
      have hwr : IntKind.i64.wrap ((n : Int) - 1) = (m : Int) := by rw [IntWalk.i64_in _ (by omega)]; exact hsub
      have hwm : IntKind.i64.wrap (m : Int) = (m : Int) := IntWalk.i64_in _ (by omega)
      have C1 := Lib.hid (fun W => C.out y1 y2 x1 x2 W)
      have hln : n < xs.length := by omega
      have hlm : m < xs.length := by omega
      have HJ' : Hid (x2 ≤ y2 → ∀ (j : Nat) p q, ((n : Int) - 1) < (j : Int) + 1 → xs[j]? = some p → xs[j + 1]? = some q → p.2 ≤ q.2) := Lib.hid (fun hle j p q hj hp hq => by
        by_cases e : j = m
        · subst e; rw [HX.out] at hp; rw [HYY.out] at hq; cases hp; cases hq; exact hle
        · exact HJ.out j p q (by omega) hp hq)
      have HNo : Hid (y2 < x2 → F = false) := Lib.hid (fun h => HN.out m _ _ HX.out HYY.out h)
      have HM := Lib.hid hmk
      clear hcell hx hy hmk HJ
      generalize cmpI y2 x2 = cc at hneg C1
      go_upto_region 4 with fail
      go_still_tail 10, (by kernel_rfl)
      rw [show ({ heap := wr.heap, tape := wr.tape, drawn := wr.drawn + 1, os := wr.os, output := wr.output } : World) = wr.drew from rfl]
      by_cases hlt : y2 < x2
      · have hc0 : cc < 0 := by rw [decide_eq_true hlt] at hneg; exact of_decide_eq_true hneg
        have E := Lib.hid (HNo.out hlt)
        clear hneg hlt
        go_wp2_with fail
        refine (C1.out _).mono ?_; rintro e w2 ⟨rfl, b1⟩
        have B1 := Lib.hid (below_up (show Below w.heap.size w wr.drew from bdn (n := 1) HB.out) b1)
        clear b1 hc1 hc2 hd1 hd2
        go_wp2_with fail
        go_ret
        exact ⟨by rw [E.out]; rfl, B1.out⟩
      · have hc0 : ¬ cc < 0 := by rw [decide_eq_false hlt] at hneg; exact of_decide_eq_false hneg
        have HJ2 := Lib.hid (HJ'.out (by omega))
        clear hneg hlt
        go_wp2_with fail
        refine (C1.out _).mono ?_; rintro e w2 ⟨rfl, b1⟩
        have B1 := Lib.hid (below_up (show Below w.heap.size w wr.drew from bdn (n := 1) HB.out) b1)
        clear b1 hc1 hc2 hd1 hd2
        go_wp2_with fail
        go_roundw
        case rel => exact ⟨(m : Int), by omega, by omega, by first | rfl | go_num, B1, Lib.hid (fun j p q hj hp hq => HJ2.out j p q (by omega) hp hq)⟩
        case measure => simp [intOf]; omega
end Go.Proofs.YtigijgcldgbokaaGreat
namespace Go.Proofs.YtigijgcldgbokaaGreat
open Go.RowKit Go.Shelf
set_option linter.unusedVariables false

/-- how far behind a pair is put: behind the last one whose B is not more -/
def putK (p : Int × Int) : PL → Nat
  | [] => 0
  | q :: l => if putK p l = 0 then (if q.2 ≤ p.2 then 1 else 0) else putK p l + 1
theorem putK_le (p : Int × Int) (l : PL) : putK p l ≤ l.length := by
  induction l with
  | nil => exact Nat.le_refl _
  | cons q l ih => unfold putK; split <;> (try split) <;> simp <;> omega
theorem putK_is (p : Int × Int) (l : PL) (k : Nat) (hk : k ≤ l.length) (h1 : k = 0 ∨ ∃ q, l[k - 1]? = some q ∧ q.2 ≤ p.2) (h2 : ∀ (t : Nat) q, k ≤ t → l[t]? = some q → p.2 < q.2) : putK p l = k := by
  induction l generalizing k with
  | nil => simp at hk; subst hk; rfl
  | cons x l ih =>
    unfold putK
    cases k with
    | zero =>
      have e := ih 0 (Nat.zero_le _) (.inl rfl) (fun t q _ hq => h2 (t + 1) q (Nat.zero_le _) (by simpa using hq))
      have := h2 0 x (Nat.le_refl _) rfl
      rw [if_pos e, if_neg (by omega)]
    | succ k =>
      cases k with
      | zero =>
        have e := ih 0 (Nat.zero_le _) (.inl rfl) (fun t q _ hq => h2 (t + 1) q (by omega) (by simpa using hq))
        rcases h1 with h | ⟨q, hq, hle⟩
        · omega
        · simp at hq; subst hq
          rw [if_pos e, if_pos hle]
      | succ k =>
        have e := ih (k + 1) (by simpa using hk) (by
          rcases h1 with h | ⟨q, hq, hle⟩
          · omega
          · exact .inr ⟨q, by simpa using hq, hle⟩) (fun t q ht hq => h2 (t + 1) q (by omega) (by simpa using hq))
        rw [if_neg (by omega), e]
/-- a pair is put behind the last one whose B is not more -/
def putB (l : PL) (p : Int × Int) : PL := l.take (putK p l) ++ p :: l.drop (putK p l)
theorem putB_len (l : PL) (p : Int × Int) : (putB l p).length = l.length + 1 := by have := putK_le p l; simp [putB]; omega
/-- one by one -/
def sortB (l : PL) : PL := l.foldl putB []
theorem sortB_snoc (l : PL) (p : Int × Int) : sortB (l ++ [p]) = putB (sortB l) p := by simp [sortB, List.foldl_append]
theorem sortB_len (l : PL) : (sortB l).length = l.length := by
  have : ∀ (l m : PL), (l.foldl putB m).length = m.length + l.length := fun l => by
    induction l with
    | nil => intro m; rfl
    | cons p l ih => intro m; rw [List.foldl_cons, ih, putB_len]; simp; omega
  have := this l []; simpa [sortB] using this
/-- a list in which p is on its way -/
def wayL (P S : PL) (p : Int × Int) (k : Nat) (R : PL) : PL := P ++ (S.take k ++ p :: S.drop k) ++ R
theorem way_here (P S : PL) (p : Int × Int) (k : Nat) (R : PL) (hk : k ≤ S.length) : (wayL P S p k R)[P.length + k]? = some p := by
  unfold wayL
  rw [List.append_assoc, List.getElem?_append_right (by omega), List.append_assoc, List.getElem?_append_right (by simp; omega)]
  simp [show min k S.length = k from by omega]
theorem way_ahead (P S : PL) (p q : Int × Int) (k : Nat) (R : PL) (hk : k + 1 ≤ S.length) (hq : S[k]? = some q) : (wayL P S p (k + 1) R)[P.length + k]? = some q := by
  unfold wayL
  rw [List.append_assoc, List.getElem?_append_right (by omega), List.append_assoc, List.getElem?_append_left (by simp; omega), Nat.add_sub_cancel_left, List.getElem?_take, if_pos (by omega), hq]
theorem way_swap (P S : PL) (p q : Int × Int) (k : Nat) (R : PL) (hk : k + 1 ≤ S.length) (hq : S[k]? = some q) : ((wayL P S p (k + 1) R).set (P.length + (k + 1)) q).set (P.length + k) p = wayL P S p k R := by
  obtain ⟨hl, e⟩ := List.getElem?_eq_some_iff.1 hq
  have h1 : wayL P S p (k + 1) R = (P ++ S.take k) ++ q :: p :: (S.drop (k + 1) ++ R) := by
    unfold wayL; rw [List.take_succ_eq_append_getElem hl, e]; simp
  have h2 : wayL P S p k R = (P ++ S.take k) ++ p :: q :: (S.drop (k + 1) ++ R) := by
    unfold wayL; rw [List.drop_eq_getElem_cons hl, e]; simp
  rw [h1, h2]
  have hlen : (P ++ S.take k).length = P.length + k := by simp; omega
  rw [List.set_append_right _ _ (by rw [hlen]; omega), List.set_append_right _ _ (by rw [hlen]; exact Nat.le_refl _), hlen, Nat.sub_self, show P.length + (k + 1) - (P.length + k) = 1 from by omega]
  rfl
theorem way_len (P S : PL) (p : Int × Int) (k : Nat) (R : PL) (hk : k ≤ S.length) : (wayL P S p k R).length = P.length + S.length + 1 + R.length := by simp [wayL]; omega
/-- a list of which the piece from a to i is sorted -/
def insL (l : PL) (a i : Nat) : PL := l.take a ++ sortB ((l.drop a).take (i - a)) ++ l.drop i
theorem insL_start (l : PL) (a : Nat) : insL l a a = l := by simp [insL, sortB]
theorem insL_one (l : PL) (a : Nat) (h : a < l.length) : insL l a (a + 1) = l := by
  unfold insL
  rw [show a + 1 - a = 1 from by omega, List.drop_eq_getElem_cons h]
  simp only [List.take_succ_cons, List.take_zero]
  rw [show sortB [l[a]] = [l[a]] from by simp [sortB, putB, putK], List.append_assoc]
  rw [show [l[a]] ++ l.drop (a + 1) = l.drop a from by rw [List.drop_eq_getElem_cons h]; rfl, List.take_append_drop]
theorem insL_way (l : PL) (a i : Nat) (p : Int × Int) (hai : a ≤ i) (hp : l[i]? = some p) :
    insL l a i = wayL (l.take a) (sortB ((l.drop a).take (i - a))) p (i - a) (l.drop (i + 1)) ∧ insL l a (i + 1) = wayL (l.take a) (sortB ((l.drop a).take (i - a))) p (putK p (sortB ((l.drop a).take (i - a)))) (l.drop (i + 1)) := by
  obtain ⟨hi, e⟩ := List.getElem?_eq_some_iff.1 hp
  have hS : (sortB ((l.drop a).take (i - a))).length = i - a := by rw [sortB_len]; simp; omega
  constructor
  · unfold insL wayL
    generalize sortB ((l.drop a).take (i - a)) = S at hS ⊢
    rw [List.take_of_length_le (show S.length ≤ i - a by omega), List.drop_eq_nil_of_le (show S.length ≤ i - a by omega), List.drop_eq_getElem_cons hi, e]
    simp
  · unfold insL wayL
    have : (l.drop a).take (i + 1 - a) = (l.drop a).take (i - a) ++ [p] := by
      rw [show i + 1 - a = (i - a) + 1 from by omega, List.take_succ_eq_append_getElem (by simp; omega), List.getElem_drop]
      simp [show a + (i - a) = i from by omega, e]
    rw [this, sortB_snoc]
    rfl
theorem insL_len (l : PL) (a i : Nat) (hai : a ≤ i) (hi : i ≤ l.length) : (insL l a i).length = l.length := by
  simp [insL, sortB_len]; omega
theorem grown_trans {a b c : World} {row : Option Nat} (h : a.grownBy b row) (k : b.grownBy c row) : a.grownBy c row :=
  ⟨k.os.trans h.os, k.tape.trans h.tape, k.output.trans h.output, Nat.le_trans h.size k.size, fun i hi hne => (k.block i (Nat.lt_of_lt_of_le hi h.size) hne).trans (h.block i hi hne)⟩
theorem grown_below {w w' : World} {row : Option Nat} (h : Below w.heap.size w w') : w.grownBy w' row := ⟨h.os, h.tape, h.output, h.size, fun k hk _ => h.block k hk⟩
theorem grown_set (w : World) (g i : Nat) (v : Value) : w.grownBy (w.setCell ⟨g, i, none⟩ v) (some g) :=
  ⟨rfl, rfl, rfl, by simp, fun k _ hne => heap_setCell_other w ⟨g, i, none⟩ k v (fun e => hne (by rw [e]))⟩
theorem grown_drewN (w : World) (n : Nat) (row : Option Nat) : w.grownBy (w.drewN n) row := ⟨rfl, rfl, rfl, Nat.le_refl _, fun _ _ _ => rfl⟩
theorem OwnP.swap {w : World} {base : Nat} {T : TypeId} {g n : Nat} {l : PL} (h : OwnP w base T g n l) (i j : Nat) (a b c d : Int) (hi : i < n) (hj : j < n) :
    OwnP ((((w.setCell ⟨g, i * 2, none⟩ (.int .i64 a)).setCell ⟨g, i * 2 + 1, none⟩ (.int .i64 b)).setCell ⟨g, j * 2, none⟩ (.int .i64 c)).setCell ⟨g, j * 2 + 1, none⟩ (.int .i64 d)) base T g n ((l.set i (a, b)).set j (c, d)) :=
  (h.store i a b hi).store j c d hj
theorem grown_swap (w : World) (g i j : Nat) (a b c d : Value) : w.grownBy ((((w.setCell ⟨g, i * 2, none⟩ a).setCell ⟨g, i * 2 + 1, none⟩ b).setCell ⟨g, j * 2, none⟩ c).setCell ⟨g, j * 2 + 1, none⟩ d) (some g) :=
  grown_trans (grown_trans (grown_trans (grown_set w g _ a) (grown_set _ g _ b)) (grown_set _ g _ c)) (grown_set _ g _ d)

end Go.Proofs.YtigijgcldgbokaaGreat
namespace Go.Proofs.YtigijgcldgbokaaGreat
set_option linter.unusedVariables false

/-- in order of the Bs -/
def Sorted (l : PL) : Prop := l.Pairwise (fun p q => p.2 ≤ q.2)
def ofB (v : Int) (l : PL) : PL := l.filter (fun p => decide (p.2 = v))
/-- R is L in order, those of the same B as they stood -/
def StabOf (R L : PL) : Prop := Sorted R ∧ ∀ v, ofB v R = ofB v L
theorem ofB_app (v : Int) (a b : PL) : ofB v (a ++ b) = ofB v a ++ ofB v b := by simp [ofB]
theorem ofB_cons (v : Int) (p : Int × Int) (l : PL) : ofB v (p :: l) = if p.2 = v then p :: ofB v l else ofB v l := by
  unfold ofB; rw [List.filter_cons]; simp
theorem ofB_none (v : Int) (l : PL) (h : ∀ p ∈ l, p.2 ≠ v) : ofB v l = [] := List.filter_eq_nil_iff.2 (fun p hp => by simp [h p hp])
theorem ofB_mem (v : Int) (l : PL) (p : Int × Int) (h : p ∈ l) (hv : p.2 = v) : p ∈ ofB v l := List.mem_filter.2 ⟨h, by simp [hv]⟩
theorem mem_ofB {v : Int} {l : PL} {p : Int × Int} (h : p ∈ ofB v l) : p ∈ l ∧ p.2 = v := by
  have := List.mem_filter.1 h; simpa using this
theorem stab_mem {R L : PL} (h : ∀ v, ofB v R = ofB v L) (p : Int × Int) : p ∈ R ↔ p ∈ L :=
  ⟨fun hp => (mem_ofB (by rw [← h]; exact ofB_mem p.2 R p hp rfl)).1, fun hp => (mem_ofB (by rw [h]; exact ofB_mem p.2 L p hp rfl)).1⟩
theorem stab_unique : ∀ (R R' : PL), Sorted R → Sorted R' → (∀ v, ofB v R = ofB v R') → R = R'
  | [], [], _, _, _ => rfl
  | [], p :: R', _, _, h => by have := h p.2; rw [ofB_cons, if_pos rfl] at this; cases this
  | p :: R, [], _, _, h => by have := h p.2; rw [ofB_cons, if_pos rfl] at this; cases this
  | p :: R, q :: R', hs, hs', h => by
    obtain ⟨h1, h2⟩ := List.pairwise_cons.1 hs
    obtain ⟨h1', h2'⟩ := List.pairwise_cons.1 hs'
    have hp : p ∈ q :: R' := (stab_mem h p).1 (by simp)
    have hq : q ∈ p :: R := (stab_mem h q).2 (by simp)
    have e : p.2 = q.2 := by
      have a1 : q.2 ≤ p.2 := by rcases List.mem_cons.1 hp with rfl | hp'; exact Int.le_refl _; exact h1' p hp'
      have a2 : p.2 ≤ q.2 := by rcases List.mem_cons.1 hq with rfl | hq'; exact Int.le_refl _; exact h1 q hq'
      omega
    have hh := h p.2
    rw [ofB_cons, if_pos rfl, ofB_cons, if_pos e.symm] at hh
    injection hh with e1 e2
    subst e1
    rw [stab_unique R R' h2 h2' (fun v => by
      have := h v
      rw [ofB_cons, ofB_cons] at this
      split at this
      · injection this
      · exact this)]
theorem sorted_app {a b : PL} (ha : Sorted a) (hb : Sorted b) (h : ∀ p ∈ a, ∀ q ∈ b, p.2 ≤ q.2) : Sorted (a ++ b) := List.pairwise_append.2 ⟨ha, hb, h⟩
theorem putK_ahead (p : Int × Int) (l : PL) (hs : Sorted l) : (∀ q ∈ l.take (putK p l), q.2 ≤ p.2) ∧ (∀ q ∈ l.drop (putK p l), p.2 < q.2) := by
  induction l with
  | nil => simp
  | cons x l ih =>
    obtain ⟨h1, h2⟩ := List.pairwise_cons.1 hs
    obtain ⟨i1, i2⟩ := ih h2
    unfold putK
    by_cases hz : putK p l = 0
    · rw [if_pos hz]
      rw [hz] at i2
      simp at i2
      by_cases hx : x.2 ≤ p.2
      · rw [if_pos hx]
        refine ⟨fun q hq => ?_, fun q hq => ?_⟩
        · simp at hq; subst hq; exact hx
        · simp at hq; exact i2 _ _ hq
      · rw [if_neg hx]
        refine ⟨fun q hq => by simp at hq, fun q hq => ?_⟩
        rw [List.drop_zero] at hq
        rcases List.mem_cons.1 hq with rfl | hq
        · omega
        · exact i2 q.1 q.2 hq
    · rw [if_neg hz]
      refine ⟨fun q hq => ?_, fun q hq => i2 q (by simpa using hq)⟩
      rw [List.take_succ_cons] at hq
      rcases List.mem_cons.1 hq with rfl | hq
      · cases l with
        | nil => simp [putK] at hz
        | cons y l =>
          obtain ⟨k, hk⟩ : ∃ k, putK p (y :: l) = k + 1 := ⟨putK p (y :: l) - 1, by omega⟩
          have := i1 y (by rw [hk]; simp)
          have := h1 y (by simp)
          omega
      · exact i1 q hq
theorem putB_stab (l : PL) (p : Int × Int) (hs : Sorted l) : Sorted (putB l p) ∧ ∀ v, ofB v (putB l p) = ofB v (l ++ [p]) := by
  obtain ⟨h1, h2⟩ := putK_ahead p l hs
  unfold putB
  have hsp : Sorted (l.take (putK p l) ++ l.drop (putK p l)) := by rw [List.take_append_drop]; exact hs
  obtain ⟨s1, s2, s3⟩ := List.pairwise_append.1 hsp
  refine ⟨sorted_app s1 (List.pairwise_cons.2 ⟨fun q hq => by have := h2 q hq; omega, s2⟩) (fun q hq r hr => ?_), fun v => ?_⟩
  · rcases List.mem_cons.1 hr with rfl | hr
    · exact h1 q hq
    · exact s3 q hq r hr
  · have e : ofB v (l ++ [p]) = ofB v (l.take (putK p l) ++ l.drop (putK p l) ++ [p]) := by rw [List.take_append_drop]
    rw [e, ofB_app, ofB_cons, ofB_app, ofB_app, ofB_cons]
    by_cases hv : p.2 = v
    · rw [ofB_none v (l.drop (putK p l)) (fun q hq => by have := h2 q hq; omega)]
      simp [hv, ofB]
    · simp [hv, ofB]
theorem sortB_stab (l : PL) : StabOf (sortB l) l := by
  have key : ∀ (l m n : PL), StabOf m n → StabOf (l.foldl putB m) (n ++ l) := fun l => by
    induction l with
    | nil => intro m n h; simpa using h
    | cons p l ih =>
      intro m n h
      rw [List.foldl_cons, show n ++ p :: l = (n ++ [p]) ++ l from by simp]
      obtain ⟨g1, g2⟩ := putB_stab m p h.1
      exact ih _ _ ⟨g1, fun v => by rw [g2, ofB_app, ofB_app, h.2]⟩
  have := key l [] [] ⟨List.Pairwise.nil, fun v => rfl⟩
  simpa [sortB] using this
theorem sortB_is {R L : PL} (h : StabOf R L) : R = sortB L := stab_unique _ _ h.1 (sortB_stab L).1 (fun v => by rw [h.2, (sortB_stab L).2])
theorem sortB_sorted {L : PL} (h : Sorted L) : sortB L = L := (sortB_is ⟨h, fun v => rfl⟩).symm
theorem sortB_mem (L : PL) (p : Int × Int) : p ∈ sortB L ↔ p ∈ L := stab_mem (sortB_stab L).2 p
/-- two halves, of which the second begins with the first one's larger ones -/
theorem sortB_parts (A1 A2 B1 B2 : PL) (hA : Sorted (A1 ++ A2)) (hB : Sorted (B1 ++ B2)) (h12 : ∀ p ∈ A1, ∀ q ∈ B2, p.2 ≤ q.2) (h21 : ∀ p ∈ B1, ∀ q ∈ A2, p.2 < q.2) : sortB (A1 ++ B1) ++ sortB (A2 ++ B2) = sortB ((A1 ++ A2) ++ (B1 ++ B2)) := by
  obtain ⟨a1, a2, a3⟩ := List.pairwise_append.1 hA
  obtain ⟨b1, b2, b3⟩ := List.pairwise_append.1 hB
  refine sortB_is ⟨sorted_app (sortB_stab _).1 (sortB_stab _).1 (fun p hp q hq => ?_), fun v => ?_⟩
  · rw [sortB_mem] at hp hq
    rcases List.mem_append.1 hp with hp | hp <;> rcases List.mem_append.1 hq with hq | hq
    · exact a3 p hp q hq
    · exact h12 p hp q hq
    · have := h21 p hp q hq; omega
    · exact b3 p hp q hq
  · rw [ofB_app, (sortB_stab _).2, (sortB_stab _).2]
    simp only [ofB_app]
    by_cases hv : ∃ p ∈ B1, p.2 = v
    · obtain ⟨p, hp, rfl⟩ := hv
      rw [ofB_none p.2 A2 (fun q hq => by have := h21 p hp q hq; omega)]; simp
    · rw [ofB_none v B1 (fun q hq e => hv ⟨q, hq, e⟩)]; simp
end Go.Proofs.YtigijgcldgbokaaGreat
namespace Go.Proofs.YtigijgcldgbokaaGreat
open Go.RowKit Go.Shelf Go.Maps
set_option linter.unusedVariables false

/-- numbers that a Go integer holds -/
def okP (l : PL) : Prop := ∀ p ∈ l, (Lit.int .i64 p.1).wf = true ∧ (Lit.int .i64 p.2).wf = true
/-- the map of the first k numbers -/
def seenZ (xs : List Int) : Nat → DataW Unit
  | 0 => .map []
  | k + 1 => match xs[k]? with
    | some c => (seenZ xs k).put (.int .i64 c) (.lit (.bool true))
    | none => seenZ xs k
theorem seenZ_map (xs : List Int) (k : Nat) : IsMap (seenZ xs k) := by
  induction k with
  | zero => exact isMap_empty
  | succ k ih =>
    unfold seenZ
    split
    · exact ih.put _ _
    · exact ih
theorem seenZ_next (xs : List Int) (k : Nat) (c : Int) (h : xs[k]? = some c) : seenZ xs (k + 1) = (seenZ xs k).put (.int .i64 c) (.lit (.bool true)) := by
  rw [seenZ, h]
theorem seenZ_at (xs : List Int) (k : Nat) (l : Int) : (seenZ xs k).atKey (.int .i64 l) (.lit (.bool false)) = .lit (.bool (decide (l ∈ xs.take k))) := by
  induction k with
  | zero => simp [seenZ]; rfl
  | succ k ih =>
    cases h : xs[k]? with
    | none =>
      have hk : xs.length ≤ k := List.getElem?_eq_none_iff.1 h
      have e1 : seenZ xs (k + 1) = seenZ xs k := by rw [seenZ, h]
      have e2 : xs.take (k + 1) = xs.take k := by rw [List.take_of_length_le (by omega), List.take_of_length_le hk]
      rw [e1, e2]; exact ih
    | some c =>
      obtain ⟨hk, e⟩ := List.getElem?_eq_some_iff.1 h
      have e2 : xs.take (k + 1) = xs.take k ++ [c] := by rw [List.take_succ_eq_append_getElem hk, e]
      rw [seenZ_next xs k c h, e2]
      by_cases hl : l = c
      · rw [hl, atKey_put_same (seenZ_map xs k) (by first | exact trivial | constructor | simp [WideAt.IsKeyLit])]; simp
      · rw [atKey_put_other (fun e => hl (by injection e)), ih]; simp [hl]
/-- two pairs have the same A, or the same B -/
def twiceL (l : PL) : Bool := decide (¬ ((l.map Prod.fst).Nodup ∧ (l.map Prod.snd).Nodup))
theorem twice_no (l : PL) (h : ((l.take l.length).map Prod.fst).Nodup) (h' : ((l.take l.length).map Prod.snd).Nodup) : twiceL l = false := by
  rw [List.take_length] at h h'; simp [twiceL, h, h']
theorem nodup_no {α : Type} (xs : List α) (k : Nat) (c : α) (hc : xs[k]? = some c) (h : c ∈ xs.take k) : ¬ xs.Nodup := by
  obtain ⟨hk, e⟩ := List.getElem?_eq_some_iff.1 hc
  intro hn
  rw [← List.take_append_drop k xs, List.nodup_append] at hn
  exact hn.2.2 c h c (by rw [List.drop_eq_getElem_cons hk, e]; simp) rfl
theorem twice_yes (l : PL) (k : Nat) (p : Int × Int) (hp : l[k]? = some p) (h : p.1 ∈ (l.map Prod.fst).take k ∨ p.2 ∈ (l.map Prod.snd).take k) : twiceL l = true := by
  refine decide_eq_true (fun hn => ?_)
  rcases h with h | h
  · exact nodup_no _ k p.1 (by rw [List.getElem?_map, hp]; rfl) h hn.1
  · exact nodup_no _ k p.2 (by rw [List.getElem?_map, hp]; rfl) h hn.2
theorem nodupZ_next {α : Type} (xs : List α) (k : Nat) (c : α) (hc : xs[k]? = some c) (hn : (xs.take k).Nodup) (h : c ∉ xs.take k) : (xs.take (k + 1)).Nodup := by
  obtain ⟨hk, e⟩ := List.getElem?_eq_some_iff.1 hc
  rw [List.take_succ_eq_append_getElem hk, e, List.nodup_append]
  exact ⟨hn, by simp, fun a ha b hb => by simp at hb; subst hb; exact fun e => h (by rw [← e]; exact ha)⟩
theorem plainElem_boolZ_inv {H : Type} {P : Program} {e : TypeId} (he : P.underlying e = some .bool) {v : Value} {z : DataW H × List MemPlace} (h : plainElem P e v = some z) : ∃ a, v = .bool a ∧ z = (.lit (.bool a), []) := by
  unfold plainElem at h
  rw [he] at h
  split at h
  · cases h; exact ⟨_, rfl, rfl⟩
  · rename_i h1; cases h1
  · rename_i h1; cases h1
  · cases h
theorem lookup_boolZ {H : Type} {P : Program} {w : World} {k t e : TypeId} {b n : Nat} {D : DataW H} (h : w.ownsMap P k (plainElem P e) b n D) (K : Keyed P k) (ht : P.underlying t = some (.map k e)) (he : P.underlying e = some .bool) (hz : (zeroValue e).run P w = .ok (.bool false) w)
    {key : Value} {kl : Lit} (hkey : keyOf P k key = some kl) : ∃ c, (Instr.lookup t (.map (some b)) key false).run P w = .ok (.bool c) w ∧ D.atKey kl (.lit (.bool false)) = .lit (.bool c) := by
  obtain ⟨v, ps, hrun, hv⟩ := h.lookup K ht hz (plainElem_bool he false) hkey
  obtain ⟨c, rfl, hc⟩ := plainElem_boolZ_inv he hv
  simp only [Prod.mk.injEq] at hc
  exact ⟨c, hrun, hc.1⟩
set_option maxRecDepth 100000 in
/-- what a look into the map of those that were seen tells -/
theorem seen_look {w : World} {b k : Nat} {xs : List Int} (h : w.ownsMap Tryz.prog 3 (plainElem Tryz.prog 4) b k (seenZ xs k)) (x : Int) (hx : (Lit.int .i64 x).wf = true) :
    (Instr.lookup 101 (.map (some b)) (.int .i64 x) false).run Tryz.prog w = .ok (.bool (decide (x ∈ xs.take k))) w := by
  obtain ⟨c, hrun, hat⟩ := lookup_boolZ h (int_keyed Tryz.underlying3) Tryz.underlying101 Tryz.underlying4 (Tryz.zeroValue4 _) (keyOf_int_mk Tryz.underlying3 hx)
  rw [seenZ_at] at hat
  have : decide (x ∈ xs.take k) = c := by injection hat with h1; injection h1
  rw [this]; exact hrun

set_option maxRecDepth 100000 in
set_option maxHeartbeats 1000000 in
theorem ptwice_any (ao : Option Addr) (cap : Nat) (xs : PL) (w : World) (hn : xs.length ≤ 1099511627776) (hs : okP xs) (hR : PairsAt w ao xs) :
    Calls Tryz.prog 33 #[.slice ao xs.length cap] w fun e w' => e = .returned (.bool (twiceL xs)) ∧ Below w.heap.size w w' := by
  have HRo := Lib.hid hR
  have HSo := Lib.hid hs
  have HY := Lib.hid (twice_yes xs)
  have HNn := Lib.hid (twice_no xs)
  clear hR hs
  generalize twiceL xs = F at HY HNn ⊢
  have hmm := @run_makeMap Tryz.prog
  go_enter Tryz.func33, Tryz.ntmps33
  go_wp2_with fail
  have HO : Hid (((w.alloc (.map #[] 0)).alloc (.map #[] 0)).ownsMap Tryz.prog 3 (plainElem Tryz.prog 4) w.heap.size 0 (seenZ (xs.map Prod.fst) 0)) := Lib.hid ((World.ownsMap_made w _ _ _).alloc _)
  have HP : Hid (((w.alloc (.map #[] 0)).alloc (.map #[] 0)).ownsMap Tryz.prog 3 (plainElem Tryz.prog 4) (w.heap.size + 1) 0 (seenZ (xs.map Prod.snd) 0)) := Lib.hid (by have := World.ownsMap_made (H := Unit) (w.alloc (.map #[] 0)) Tryz.prog 3 (plainElem Tryz.prog 4); rw [World.size_alloc] at this; exact this)
  have HB : Hid (Below w.heap.size w ((w.alloc (.map #[] 0)).alloc (.map #[] 0))) := Lib.hid (two_below w _ _)

  go_loopw [11] (fun i wr => ∃ k : Nat, k ≤ xs.length ∧ i = .int .i64 k ∧ Hid (Below w.heap.size w wr) ∧ Hid (wr.ownsMap Tryz.prog 3 (plainElem Tryz.prog 4) w.heap.size k (seenZ (xs.map Prod.fst) k)) ∧ Hid (wr.ownsMap Tryz.prog 3 (plainElem Tryz.prog 4) (w.heap.size + 1) k (seenZ (xs.map Prod.snd) k)) ∧ Hid (((xs.map Prod.fst).take k).Nodup) ∧ Hid (((xs.map Prod.snd).take k).Nodup)) (fun i _ => xs.length - (intOf i).toNat)
  case atStart => exact ⟨0, Nat.zero_le _, rfl, HB, HO, HP, Lib.hid (by simp), Lib.hid (by simp)⟩
  case round =>
    obtain ⟨k, hk, rfl, HB, HO, HP, HD, HDD⟩ := hrel
    by_cases hlt : k < xs.length
    · obtain ⟨⟨x1, x2⟩, hx⟩ : ∃ x, xs[k]? = some x := ⟨_, List.getElem?_eq_getElem hlt⟩
      have HX := Lib.hid hx
      have HW := Lib.hid (HSo.out _ (List.mem_of_getElem? hx))
      rcases (HRo.out.kept HB.out) with h0 | ⟨b, o, rfl, hA, hcell⟩
      · rw [h0] at hlt; simp at hlt
      obtain ⟨hc1, hc2⟩ := hcell k _ hx
      dsimp only at hc1 hc2
      clear hcell hx
      obtain ⟨V, HV⟩ : ∃ V, Hid (V = wr.alloc (.cells #[.int .i64 x1, .int .i64 x2] 36)) := ⟨_, Lib.hid rfl⟩
      have hVh : V.heap[wr.heap.size]? = some (.cells #[.int .i64 x1, .int .i64 x2] 36 (0, 0)) := by rw [HV.out]; exact World.alloc_heap_new _ _
      have v0 : V.cell? ⟨wr.heap.size, 0, none⟩ = some (.int .i64 x1) := (Lib.cell_of_heap hVh 0).trans rfl
      have v1 : V.cell? ⟨wr.heap.size, 1, none⟩ = some (.int .i64 x2) := (Lib.cell_of_heap hVh 1).trans rfl
      have HVO : Hid (V.ownsMap Tryz.prog 3 (plainElem Tryz.prog 4) w.heap.size k (seenZ (xs.map Prod.fst) k)) := Lib.hid (by rw [HV.out]; exact HO.out.alloc _)
      have HVP : Hid (V.ownsMap Tryz.prog 3 (plainElem Tryz.prog 4) (w.heap.size + 1) k (seenZ (xs.map Prod.snd) k)) := Lib.hid (by rw [HV.out]; exact HP.out.alloc _)
      have HVB : Hid (Below w.heap.size w V) := Lib.hid (by rw [HV.out]; exact HB.out.alloc HB.out.size _)
      have l1 := seen_look HVO.out x1 HW.out.1
      have l2 := seen_look HVP.out x2 HW.out.2
      have E1 : Hid (x1 ∈ (xs.map Prod.fst).take k → F = true) := Lib.hid (fun h => HY.out k _ HX.out (.inl h))
      have E2 : Hid (x2 ∈ (xs.map Prod.snd).take k → F = true) := Lib.hid (fun h => HY.out k _ HX.out (.inr h))
      have N1 : Hid (x1 ∉ (xs.map Prod.fst).take k → ((xs.map Prod.fst).take (k + 1)).Nodup) := Lib.hid (fun h => nodupZ_next _ k x1 (by rw [List.getElem?_map, HX.out]; rfl) HD.out h)
      have N2 : Hid (x2 ∉ (xs.map Prod.snd).take k → ((xs.map Prod.snd).take (k + 1)).Nodup) := Lib.hid (fun h => nodupZ_next _ k x2 (by rw [List.getElem?_map, HX.out]; rfl) HDD.out h)
      by_cases m1 : x1 ∈ (xs.map Prod.fst).take k
      · rw [decide_eq_true m1] at l1
        have E := Lib.hid (E1.out m1)
        clear m1 hVh E1 E2 N1 N2 HD HDD HO HP HY HNn
        go_upto_region 5 with fail
        rw [← HV.out]
        go_wp2_with fail
        go_ret
        exact ⟨by rw [E.out]; rfl, HVB.out⟩
      rw [decide_eq_false m1] at l1
      by_cases m2 : x2 ∈ (xs.map Prod.snd).take k
      · rw [decide_eq_true m2] at l2
        have E := Lib.hid (E2.out m2)
        clear m1 m2 hVh E1 E2 N1 N2 HD HDD HO HP HY HNn
        go_upto_region 5 with fail
        rw [← HV.out]
        go_wp2_with fail
        go_ret
        exact ⟨by rw [E.out]; rfl, HVB.out⟩
      rw [decide_eq_false m2] at l2
      have HN1 := Lib.hid (N1.out m1)
      have HN2 := Lib.hid (N2.out m2)
      have hkm : k < maxLen := by unfold maxLen; omega
      have hVlt : wr.heap.size < V.heap.size := lt_of_heap hVh
      obtain ⟨w1, r1, o1, g1⟩ := HVO.out.drew.update (int_keyed Tryz.underlying3) Tryz.underlying101 hkm (keyOf_int_mk Tryz.underlying3 HW.out.1) (plainElem_bool Tryz.underlying4 true)
      have p1 := HVP.out.drew.kept g1 (by simp)
      obtain ⟨w2, r2, o2, g2⟩ := p1.update (int_keyed Tryz.underlying3) Tryz.underlying101 hkm (keyOf_int_mk Tryz.underlying3 HW.out.2) (plainElem_bool Tryz.underlying4 true)
      have q2 := o1.kept g2 (by simp)
      have B1 : Below w.heap.size w w1 := (show Below w.heap.size w V.drew from bdn (n := 1) HVB.out).grown g1 HVB.out.size (fun k h => by cases h; exact Nat.le_refl _)
      have B2 : Below w.heap.size w w2 := B1.grown g2 B1.size (fun k h => by cases h; exact Nat.le_succ _)
      have hsz := HB.out.size
      have hO1 := HO.out.lt
      have hP1 := HP.out.lt
      have c0 : w1.cell? ⟨wr.heap.size, 0, none⟩ = some (.int .i64 x1) := cell_grown (W := V.drew) v0 g1 (by simp; omega)
      have c1 : w1.cell? ⟨wr.heap.size, 1, none⟩ = some (.int .i64 x2) := cell_grown (W := V.drew) v1 g1 (by simp; omega)
      have d0 : w2.cell? ⟨wr.heap.size, 0, none⟩ = some (.int .i64 x1) := cell_grown c0 g2 (by simp; omega)
      have d1 : w2.cell? ⟨wr.heap.size, 1, none⟩ = some (.int .i64 x2) := cell_grown c1 g2 (by simp; omega)
      rw [← seenZ_next _ k x1 (by rw [List.getElem?_map, HX.out]; rfl)] at q2
      rw [← seenZ_next _ k x2 (by rw [List.getElem?_map, HX.out]; rfl)] at o2
      have HQ := Lib.hid q2
      have HO2 := Lib.hid o2
      have HB2 := Lib.hid B2
      clear m1 m2 hVh E1 E2 N1 N2 HD HDD HO HP HY HNn q2 o2 o1 p1 B1 B2 g1 g2 hsz hO1 hP1 hVlt
      go_upto_region 5 with fail
      rw [← HV.out]
      go_upto_region 7 with fail
      go_region_held3 (fun W => W.cell? ⟨wr.heap.size, 0, none⟩ = some (.int .i64 x1) ∧ W.cell? ⟨wr.heap.size, 1, none⟩ = some (.int .i64 x2)) ((refine ⟨?_, ?_⟩ <;> first | assumption | go_keep)) (fail)
      go_wp2_with fail
      go_roundw
      case rel => exact ⟨k + 1, by omega, by go_num, HB2, HQ, HO2, HN1, HN2⟩
      case measure => simp [intOf]; omega
    · obtain rfl : k = xs.length := by omega
      have E := Lib.hid (HNn.out (by rw [List.map_take]; exact HD.out) (by rw [List.map_take]; exact HDD.out))
      go_wp2_with fail
      go_ret
      exact ⟨by rw [E.out]; rfl, HB.out⟩
end Go.Proofs.YtigijgcldgbokaaGreat
namespace Go.Proofs.YtigijgcldgbokaaGreat
open Go.RowKit Go.Shelf
set_option linter.unusedVariables false

set_option maxRecDepth 100000 in
set_option maxHeartbeats 2000000 in
theorem indexP_any (G : FuncId) (v1 v2 : Value) (p : Int × Int → Bool) (ao : Option Addr) (cap : Nat) (xs : PL) (w : World) (hn : xs.length ≤ 1099511627776) (hR : PairsAt w ao xs)
    (hent : ∀ args w, (callFunc G args).run Tryz.prog w = .ok (.enter G args) w) (hG : ∀ x1 x2 W, Below w.heap.size w W → Calls Tryz.prog G #[.agg #[.int .i64 x1, .int .i64 x2], v1, v2] W fun e w' => e = .returned (.bool (p (x1, x2))) ∧ Below W.heap.size W w') :
    Calls Tryz.prog 98 #[.slice ao xs.length cap, .func (.func G) #[] #[v1, v2]] w fun e w' => e = .returned (.int .i64 (firstAt p xs)) ∧ Below w.heap.size w w' := by
  have HG := Lib.hid hG
  have HRo := Lib.hid hR
  have HF := Lib.hid (firstAt_none p xs)
  have HS := Lib.hid (firstAt_some p xs)
  clear hG hR
  generalize firstAt p xs = F at HF HS ⊢
  go_enter Tryz.func98, Tryz.ntmps98
  go_wp2_with fail
  go_loopw [8] (fun i wr => ∃ k : Nat, k ≤ xs.length ∧ i = .int .i64 k ∧ Hid (Below w.heap.size w wr) ∧ Hid (∀ (j : Nat) c, j < k → xs[j]? = some c → p c = false)) (fun i _ => xs.length - (intOf i).toNat)
  case atStart => exact ⟨0, Nat.zero_le _, rfl, Lib.hid (Below.refl _ _), Lib.hid (fun j c h _ => by omega)⟩
  case round =>
    obtain ⟨k, hk, rfl, HB, HN⟩ := hrel
    by_cases hlt : k < xs.length
    · obtain ⟨⟨x1, x2⟩, hx⟩ : ∃ x, xs[k]? = some x := ⟨_, List.getElem?_eq_getElem hlt⟩
      have HX := Lib.hid hx
      rcases (HRo.out.kept HB.out) with h0 | ⟨b, o, rfl, hA, hcell⟩
      · rw [h0] at hlt; simp at hlt
      obtain ⟨hc1, hc2⟩ := hcell k _ hx
      dsimp only at hc1 hc2
      have C := Lib.hid (HG.out x1 x2 wr HB.out)
      clear hcell hx
      cases hp : p (x1, x2) with
      | true =>
        rw [hp] at C
        have E := Lib.hid (HS.out k _ HX.out hp HN.out)
        go_wp2_with fail
        refine C.out.mono ?_; rintro e w' ⟨rfl, b1⟩
        have HB1 := Lib.hid (below_up HB.out b1)
        clear b1 hc1 hc2
        go_wp2_with fail
        go_ret
        exact ⟨by rw [E.out]; rfl, HB1.out⟩
      | false =>
        rw [hp] at C
        have HN' : Hid (∀ (j : Nat) c, j < k + 1 → xs[j]? = some c → p c = false) := Lib.hid (fun j c hj hc' => by
          by_cases e : j = k
          · subst e; rw [HX.out] at hc'; cases hc'; exact hp
          · exact HN.out j c (by omega) hc')
        go_wp2_with fail
        refine C.out.mono ?_; rintro e w' ⟨rfl, b1⟩
        have HB1 := Lib.hid (below_up HB.out b1)
        clear b1 hc1 hc2
        go_wp2_with fail
        go_roundw
        case rel => exact ⟨k + 1, by omega, by go_num, HB1, HN'⟩
        case measure => simp [intOf]; omega
    · obtain rfl : k = xs.length := by omega
      have E := Lib.hid (HF.out (fun j c hc => HN.out j c (by obtain ⟨h, _⟩ := List.getElem?_eq_some_iff.1 hc; exact h) hc))
      go_wp2_with fail
      go_ret
      exact ⟨by rw [E.out]; rfl, HB.out⟩
theorem hasP_any (G : FuncId) (v1 v2 : Value) (p : Int × Int → Bool) (ao : Option Addr) (cap : Nat) (xs : PL) (w : World) (hn : xs.length ≤ 1099511627776) (hR : PairsAt w ao xs)
    (hent : ∀ args w, (callFunc G args).run Tryz.prog w = .ok (.enter G args) w) (hG : ∀ x1 x2 W, Below w.heap.size w W → Calls Tryz.prog G #[.agg #[.int .i64 x1, .int .i64 x2], v1, v2] W fun e w' => e = .returned (.bool (p (x1, x2))) ∧ Below W.heap.size W w') :
    Calls Tryz.prog 61 #[.slice ao xs.length cap, .func (.func G) #[] #[v1, v2]] w fun e w' => e = .returned (.bool (xs.any p)) ∧ Below w.heap.size w w' := by
  have C := Lib.hid (indexP_any G v1 v2 p ao cap xs w hn hR hent hG)
  have E := Lib.hid (any_at p xs)
  clear hG hR hent
  generalize firstAt p xs = F at C E
  go_enter Tryz.func61, Tryz.ntmps61
  go_wp2_with fail
  refine C.out.mono ?_; rintro e w' ⟨rfl, b1⟩
  go_wp2_with fail
  go_ret
  exact ⟨by rw [← E.out]; simp, b1⟩
/-- a pair that is not of na and nb -/
def badP (na nb : Int) (p : Int × Int) : Bool := decide (p.1 < 0) || decide (na ≤ p.1) || decide (p.2 < 0) || decide (nb ≤ p.2)

set_option maxRecDepth 100000 in
set_option maxHeartbeats 1000000 in
theorem within1_any (x1 x2 na nb : Int) (b1 b2 : Nat) (w : World) (h1 : w.cell? ⟨b1, 0, none⟩ = some (.int .i64 na)) (h2 : w.cell? ⟨b2, 0, none⟩ = some (.int .i64 nb)) :
    Calls Tryz.prog 62 #[.agg #[.int .i64 x1, .int .i64 x2], .pointer (some ⟨b1, 0, none⟩), .pointer (some ⟨b2, 0, none⟩)] w fun e w' => e = .returned (.bool (badP na nb (x1, x2))) ∧ Below w.heap.size w w' := by
  have HB : Hid (Below w.heap.size w (w.alloc (.cells #[.int .i64 x1, .int .i64 x2] 36))) := Lib.hid ((Below.refl _ w).alloc (Nat.le_refl _) _)
  have E : Hid (badP na nb (x1, x2) = (decide (x1 < 0) || decide (na ≤ x1) || decide (x2 < 0) || decide (nb ≤ x2))) := Lib.hid rfl
  generalize badP na nb (x1, x2) = F at E ⊢
  have g1 := cell_alloc_l (.cells #[.int .i64 x1, .int .i64 x2] 36) h1
  have g2 := cell_alloc_l (.cells #[.int .i64 x1, .int .i64 x2] 36) h2
  have l1 := block_lt_of_cell h1
  have l2 := block_lt_of_cell h2
  by_cases k1 : x1 < 0
  · have E' := Lib.hid (show F = true from by rw [E.out]; simp [k1])
    go_enter Tryz.func62, Tryz.ntmps62
    go_wp2_with fail
    go_ret
    exact ⟨by rw [E'.out]; rfl, HB.out⟩
  by_cases k2 : na ≤ x1
  · have E' := Lib.hid (show F = true from by rw [E.out]; simp [k2])
    go_enter Tryz.func62, Tryz.ntmps62
    go_wp2_with fail
    go_ret
    exact ⟨by rw [E'.out]; rfl, HB.out⟩
  by_cases k3 : x2 < 0
  · have E' := Lib.hid (show F = true from by rw [E.out]; simp [k3])
    go_enter Tryz.func62, Tryz.ntmps62
    go_wp2_with fail
    go_ret
    exact ⟨by rw [E'.out]; rfl, HB.out⟩
  by_cases k4 : nb ≤ x2
  · have E' := Lib.hid (show F = true from by rw [E.out]; simp [k4])
    go_enter Tryz.func62, Tryz.ntmps62
    go_wp2_with fail
    go_ret
    exact ⟨by rw [E'.out]; rfl, HB.out⟩
  · have E' := Lib.hid (show F = false from by rw [E.out]; simp [k1, k2, k3, k4])
    go_enter Tryz.func62, Tryz.ntmps62
    go_wp2_with fail
    go_ret
    exact ⟨by rw [E'.out]; rfl, HB.out⟩

set_option maxRecDepth 100000 in
set_option maxHeartbeats 1000000 in
theorem withinP_any (ao : Option Addr) (cap : Nat) (xs : PL) (na nb : Int) (w : World) (hn : xs.length ≤ 1099511627776) (hR : PairsAt w ao xs) :
    Calls Tryz.prog 32 #[.slice ao xs.length cap, .int .i64 na, .int .i64 nb] w fun e w' => e = .returned (.bool (!(xs.any (badP na nb)))) ∧ Below w.heap.size w w' := by
  obtain ⟨_, hB1, hB2⟩ := two_new w (.cells #[.int .i64 na] 3) (.cells #[.int .i64 nb] 3)
  have hb := two_below w (.cells #[.int .i64 na] 3) (.cells #[.int .i64 nb] 3)
  have C := Lib.hid (hasP_any 62 (.pointer (some ⟨w.heap.size, 0, none⟩)) (.pointer (some ⟨w.heap.size + 1, 0, none⟩)) (badP na nb) ao cap xs _ hn (hR.kept hb) (enters_of Tryz.func62 (by kernel_rfl) rfl)
    (fun x1 x2 W hW => within1_any x1 x2 na nb w.heap.size (w.heap.size + 1) W (cell_of_box_l ((hW.block _ (lt_of_heap hB1)).trans hB1)).1 (cell_of_box_l ((hW.block _ (lt_of_heap hB2)).trans hB2)).1))
  have HB := Lib.hid hb
  clear hB1 hB2 hb hR
  go_enter Tryz.func32, Tryz.ntmps32
  go_wp2_with fail
  refine C.out.mono ?_; rintro e w' ⟨rfl, b1⟩
  have B1 := Lib.hid (below_up HB.out b1)
  clear b1
  go_wp2_with fail
  go_ret
  exact ⟨rfl, B1.out⟩
end Go.Proofs.YtigijgcldgbokaaGreat
namespace Go.Proofs.YtigijgcldgbokaaGreat
open Go.RowKit Go.Shelf
set_option linter.unusedVariables false

/-- what is wrong with pairs; 0: nothing -/
def checkP (l : PL) (na nb : Int) : Int := if na < 0 ∨ nb < 0 then 1 else if l.any (badP na nb) then 11 else if twiceL l then 10 else if risesB l then 0 else 12
theorem checkP1 {l : PL} {na nb : Int} (h : na < 0 ∨ nb < 0) : checkP l na nb = 1 := by unfold checkP; rw [if_pos h]
theorem checkP2 {l : PL} {na nb : Int} (h : ¬ (na < 0 ∨ nb < 0)) (k : l.any (badP na nb) = true) : checkP l na nb = 11 := by unfold checkP; rw [if_neg h, if_pos k]
theorem checkP3 {l : PL} {na nb : Int} (h : ¬ (na < 0 ∨ nb < 0)) (k : l.any (badP na nb) = false) (m : twiceL l = true) : checkP l na nb = 10 := by unfold checkP; rw [if_neg h, k, m]; rfl
theorem checkP4 {l : PL} {na nb : Int} (h : ¬ (na < 0 ∨ nb < 0)) (k : l.any (badP na nb) = false) (m : twiceL l = false) (r : risesB l = false) : checkP l na nb = 12 := by unfold checkP; rw [if_neg h, k, m, r]; rfl
theorem checkP5 {l : PL} {na nb : Int} (h : ¬ (na < 0 ∨ nb < 0)) (k : l.any (badP na nb) = false) (m : twiceL l = false) (r : risesB l = true) : checkP l na nb = 0 := by unfold checkP; rw [if_neg h, k, m, r]; rfl

set_option maxRecDepth 100000 in
set_option maxHeartbeats 1000000 in
theorem pcheck_any (ao : Option Addr) (cap : Nat) (xs : PL) (na nb : Int) (w : World) (hn : xs.length ≤ 274877906944) (hs : okP xs) (hR : PairsAt w ao xs) :
    Calls Tryz.prog 16 #[.slice ao xs.length cap, .int .i64 na, .int .i64 nb] w fun e w' => e = .returned (.int .i64 (checkP xs na nb)) ∧ Below w.heap.size w w' := by
  have C1 := Lib.hid (withinP_any ao cap xs na nb w (by omega) hR)
  have C2 := Lib.hid (fun W (h : Below w.heap.size w W) => ptwice_any ao cap xs W (by omega) hs (hR.kept h))
  have C3 := Lib.hid (fun W (h : Below w.heap.size w W) => list_any ao cap xs W hn (hR.kept h))
  have C4 := Lib.hid (fun W g (h : PairsAt W (some ⟨g, 0, none⟩) xs) => isSorted_any g 0 xs.length xs W hn h)
  have E1 := Lib.hid (@checkP1 xs na nb)
  have E2 := Lib.hid (@checkP2 xs na nb)
  have E3 := Lib.hid (@checkP3 xs na nb)
  have E4 := Lib.hid (@checkP4 xs na nb)
  have E5 := Lib.hid (@checkP5 xs na nb)
  clear hs hR
  generalize checkP xs na nb = F at E1 E2 E3 E4 E5 ⊢
  generalize xs.any (badP na nb) = b1 at C1 E2 E3 E4 E5
  generalize twiceL xs = b2 at C2 E3 E4 E5
  generalize risesB xs = b3 at C4 E4 E5
  by_cases ha : na < 0
  · have E := Lib.hid (E1.out (.inl ha))
    go_enter Tryz.func16, Tryz.ntmps16
    go_wp2_with fail
    go_ret
    exact ⟨by rw [E.out]; rfl, Below.refl _ _⟩
  by_cases hb : nb < 0
  · have E := Lib.hid (E1.out (.inr hb))
    go_enter Tryz.func16, Tryz.ntmps16
    go_wp2_with fail
    go_ret
    exact ⟨by rw [E.out]; rfl, Below.refl _ _⟩
  have hab : ¬ (na < 0 ∨ nb < 0) := fun h => h.elim ha hb
  cases b1 with
  | true =>
    have E := Lib.hid (E2.out hab (by trivial))
    go_enter Tryz.func16, Tryz.ntmps16
    go_wp2_with fail
    refine C1.out.mono ?_; rintro e w1 ⟨rfl, h1⟩
    go_wp2_with fail
    go_ret
    exact ⟨by rw [E.out]; rfl, h1⟩
  | false =>
    cases b2 with
    | true =>
      have E := Lib.hid (E3.out hab (by trivial) (by trivial))
      go_enter Tryz.func16, Tryz.ntmps16
      go_wp2_with fail
      refine C1.out.mono ?_; rintro e w1 ⟨rfl, h1⟩
      have H1 := Lib.hid h1
      clear h1
      go_wp2_with fail
      refine (C2.out _ H1.out).mono ?_; rintro e w2 ⟨rfl, h2⟩
      have H2 := Lib.hid (below_up H1.out h2)
      clear h2
      go_wp2_with fail
      go_ret
      exact ⟨by rw [E.out]; rfl, H2.out⟩
    | false =>
      go_enter Tryz.func16, Tryz.ntmps16
      go_wp2_with fail
      refine C1.out.mono ?_; rintro e w1 ⟨rfl, h1⟩
      have H1 := Lib.hid h1
      clear h1
      go_wp2_with fail
      refine (C2.out _ H1.out).mono ?_; rintro e w2 ⟨rfl, h2⟩
      have H2 := Lib.hid (below_up H1.out h2)
      clear h2
      go_wp2_with fail
      refine (C3.out _ H2.out).mono ?_; rintro e w3 ⟨g, rfl, h3, h4⟩
      have H3 := Lib.hid (below_up H2.out h4)
      have HP := Lib.hid h3.pairs
      clear h3 h4
      go_wp2_with fail
      refine (C4.out _ g HP.out).mono ?_; rintro e w4 ⟨rfl, h5⟩
      have H4 := Lib.hid (below_up H3.out h5)
      clear h5
      cases b3 with
      | true =>
        have E := Lib.hid (E5.out hab (by trivial) (by trivial) (by trivial))
        go_wp2_with fail
        go_ret
        exact ⟨by rw [E.out]; rfl, H4.out⟩
      | false =>
        have E := Lib.hid (E4.out hab (by trivial) (by trivial) (by trivial))
        go_wp2_with fail
        go_ret
        exact ⟨by rw [E.out]; rfl, H4.out⟩

theorem any_no (f : Int × Int → Bool) (l : PL) (h : ∀ (j : Nat) p, j < l.length → l[j]? = some p → f p = false) : l.any f = false :=
  List.any_eq_false.2 (fun p hp => by
    obtain ⟨i, hi, rfl⟩ := List.getElem_of_mem hp
    rw [h i _ hi (List.getElem?_eq_getElem hi)]; simp)
theorem any_yes (f : Int × Int → Bool) (l : PL) (k : Nat) (p : Int × Int) (hp : l[k]? = some p) (h : f p = true) : l.any f = true :=
  List.any_eq_true.2 ⟨p, List.mem_of_getElem? hp, h⟩
theorem notin_next {α : Type} (xs : List α) (k : Nat) (x y : α) (hy : xs[k]? = some y) (h : x ∉ xs.take k) (hne : ¬ y = x) : x ∉ xs.take (k + 1) := by
  obtain ⟨hk, e⟩ := List.getElem?_eq_some_iff.1 hy
  rw [List.take_succ_eq_append_getElem hk, e, List.mem_append]
  rintro (h' | h')
  · exact h h'
  · simp at h'; exact hne h'.symm
theorem in_take {α : Type} (xs : List α) (k i : Nat) (x : α) (hx : xs[k]? = some x) (h : k < i) : x ∈ xs.take i := by
  refine List.mem_of_getElem? (i := k) ?_
  rw [List.getElem?_take, if_pos h, hx]

end Go.Proofs.YtigijgcldgbokaaGreat
namespace Go.Proofs.YtigijgcldgbokaaGreat
open Go.RowKit Go.Shelf Go.Maps
set_option linter.unusedVariables false

theorem ownsMap_below {H : Type} {P : Program} {k : TypeId} {R : Value → Option (DataW H × List MemPlace)} {b n : Nat} {D : DataW H} {w w' : World} (h : w.ownsMap P k R b n D) (hB : Below w.heap.size w w') : w'.ownsMap P k R b n D :=
  h.kept (row := none) ⟨hB.os, hB.tape, hB.output, hB.size, fun k hk _ => hB.block k hk⟩ (by simp)
/-- one more in a list, if it is not there -/
def addZ (L : List Int) (x : Int) : List Int := if x ∈ L then L else L ++ [x]
theorem addZ_mem (L : List Int) (x z : Int) : z ∈ addZ L x ↔ z ∈ L ∨ z = x := by
  unfold addZ; split
  · rename_i h; exact ⟨.inl, fun h' => h'.elim id (fun e => e ▸ h)⟩
  · simp
/-- a map that is a set of numbers -/
structure SetIs (D : DataW Unit) (L : List Int) : Prop where
  tidy : Tidy D
  look : ∀ z, D.atKey (.int .i64 z) (.lit (.bool false)) = .lit (.bool (decide (z ∈ L)))
  here : ∀ z, has D (.int .i64 z) = decide (z ∈ L)
  size : Go.Maps.size D = L.length
  nodup : L.Nodup
theorem SetIs.empty : SetIs (.map []) [] := ⟨tidy_empty, fun z => rfl, fun z => rfl, rfl, List.nodup_nil⟩
theorem keyI (x : Int) : WideAt.IsKeyLit (.int .i64 x) := by first | exact trivial | constructor | simp [WideAt.IsKeyLit]
theorem SetIs.put {D : DataW Unit} {L : List Int} (h : SetIs D L) (x : Int) : SetIs (D.put (.int .i64 x) (.lit (.bool true))) (addZ L x) := by
  refine ⟨h.tidy.put (keyI x) _, fun z => ?_, fun z => ?_, ?_, ?_⟩
  · by_cases e : z = x
    · subst e
      rw [atKey_put_same h.tidy.isMap (keyI z), decide_eq_true ((addZ_mem L z z).2 (.inr rfl))]
    · rw [atKey_put_other (fun e' => e (by injection e')), h.look]
      have : z ∈ addZ L x ↔ z ∈ L := (addZ_mem L x z).trans ⟨fun h => h.elim id (fun e' => absurd e' e), .inl⟩
      simp only [this]
  · by_cases e : z = x
    · subst e
      rw [has_put_same h.tidy.isMap (keyI z), decide_eq_true ((addZ_mem L z z).2 (.inr rfl))]
    · rw [has_put_other (fun e' => e (by injection e')), h.here]
      have : z ∈ addZ L x ↔ z ∈ L := (addZ_mem L x z).trans ⟨fun h => h.elim id (fun e' => absurd e' e), .inl⟩
      simp only [this]
  · rw [size_put h.tidy, h.here]
    unfold addZ
    by_cases hx : x ∈ L
    · simp [hx, h.size]
    · simp [hx, h.size]
  · unfold addZ; split
    · exact h.nodup
    · rename_i hx
      rw [List.nodup_append]
      exact ⟨h.nodup, by simp, fun a ha b hb e => by simp at hb; subst hb; exact hx (e ▸ ha)⟩
set_option maxRecDepth 100000 in
theorem set_look {w : World} {b k : Nat} {D : DataW Unit} {L : List Int} (h : w.ownsMap Tryz.prog 3 (plainElem Tryz.prog 4) b k D) (hS : SetIs D L) (x : Int) (hx : (Lit.int .i64 x).wf = true) :
    (Instr.lookup 101 (.map (some b)) (.int .i64 x) false).run Tryz.prog w = .ok (.bool (decide (x ∈ L))) w := by
  obtain ⟨c, hrun, hat⟩ := lookup_boolZ h (int_keyed Tryz.underlying3) Tryz.underlying101 Tryz.underlying4 (Tryz.zeroValue4 _) (keyOf_int_mk Tryz.underlying3 hx)
  rw [hS.look] at hat
  have : decide (x ∈ L) = c := by injection hat with h1; injection h1
  rw [this]; exact hrun
theorem sub_len : ∀ (L R : List Int), L.Nodup → (∀ x ∈ L, x ∈ R) → L.length ≤ R.length
  | [], R, _, _ => Nat.zero_le _
  | x :: L, R, hn, hs => by
    have hx := hs x (by simp)
    obtain ⟨h1, h2⟩ := List.nodup_cons.1 hn
    have := sub_len L (R.erase x) h2 (fun y hy => (List.mem_erase_of_ne (show y ≠ x from fun e => h1 (by rw [← e]; exact hy))).2 (hs y (by simp [hy])))
    rw [List.length_erase_of_mem hx] at this
    have hp : 0 < R.length := List.length_pos_of_mem hx
    simp only [List.length_cons]; omega
def upTo (k : Nat) : List Int := (List.range k).map Int.ofNat
theorem upTo_mem (k : Nat) (z : Int) : z ∈ upTo k ↔ 0 ≤ z ∧ z < k := by
  unfold upTo
  rw [List.mem_map]
  constructor
  · rintro ⟨a, ha, rfl⟩; have := List.mem_range.1 ha; exact ⟨by simp, by simpa using this⟩
  · rintro ⟨h1, h2⟩
    exact ⟨z.toNat, List.mem_range.2 (by omega), by simp; omega⟩
theorem upTo_next (k : Nat) : upTo (k + 1) = upTo k ++ [(k : Int)] := by simp [upTo, List.range_succ]
theorem upTo_len (k : Nat) : (upTo k).length = k := by simp [upTo]
/-- those below k that are not in a list -/
def outOf (S : List Int) (k : Nat) : List Int := (upTo k).filter (fun x => decide (x ∉ S))
theorem outOf_next (S : List Int) (k : Nat) : outOf S (k + 1) = if (k : Int) ∈ S then outOf S k else outOf S k ++ [(k : Int)] := by
  unfold outOf
  rw [upTo_next, List.filter_append]
  split
  · rename_i h; simp [h]
  · rename_i h; simp [h]
theorem outOf_le (S : List Int) (k : Nat) : (outOf S k).length ≤ k := by
  have := List.length_filter_le (fun x => decide (x ∉ S)) (upTo k)
  rw [upTo_len] at this; exact this
theorem outOf_none (S L : List Int) (n : Nat) (hL : L.Nodup) (hm : ∀ z, z ∈ L ↔ z ∈ S ∧ 0 ≤ z ∧ z < (n : Int)) (h : n ≤ L.length) : outOf S n = [] := by
  refine List.filter_eq_nil_iff.2 (fun z hz => ?_)
  obtain ⟨h0, h1⟩ := (upTo_mem n z).1 hz
  by_cases hs : z ∈ S
  · simp [hs]
  · exfalso
    have hzL : z ∉ L := fun h' => hs ((hm z).1 h').1
    have := sub_len (z :: L) (upTo n) (List.nodup_cons.2 ⟨hzL, hL⟩) (fun x hx => by
      rcases List.mem_cons.1 hx with rfl | hx
      · exact hz
      · exact (upTo_mem n x).2 ((hm x).1 hx).2)
    rw [upTo_len] at this; simp at this; omega
theorem set_few (S L : List Int) (n : Int) (hL : L.Nodup) (hm : ∀ z, z ∈ L ↔ z ∈ S ∧ 0 ≤ z ∧ z < n) : L.length ≤ n.toNat := by
  have := sub_len L (upTo n.toNat) hL (fun x hx => (upTo_mem _ x).2 (by have := ((hm x).1 hx).2; omega))
  rwa [upTo_len] at this
/-- numbers that come back -/
def IntsOut (l : List Int) (w : World) (e : Ending) (w' : World) : Prop := ∃ ao cap, e = .returned (.slice ao l.length cap) ∧ IntsAt w' ao l ∧ (ao = none → cap = 0) ∧ l.length ≤ cap ∧ Below w.heap.size w w'
/-- a slice of numbers that the code owns -/
def OwnI (w : World) (base : Nat) (v : Value) (l : List Int) : Prop := w.ownsRow base 3 1 v l.length (l.map (Value.int .i64))
theorem OwnI.end_ {w w' : World} {v : Value} {l : List Int} (h : OwnI w' w.heap.size v l) (hB : Below w.heap.size w w') : IntsOut l w (.returned v) w' := by
  rcases h.2 with ⟨rfl, h0⟩ | ⟨g, cap, cur, rfl, h1, h2, h3, h4, h5, h6⟩
  · have hl : l = [] := List.eq_nil_of_length_eq_zero h0
    subst hl
    exact ⟨none, 0, rfl, .inl rfl, fun _ => rfl, Nat.le_refl _, hB⟩
  · refine ⟨_, cap, rfl, .inr ⟨_, rfl, (World.ownsRow.lt h g rfl).2, fun i p hp => ?_⟩, (fun e => by cases e), h3, hB⟩
    exact World.ownsRow.cells h rfl i _ (by rw [List.getElem?_map, hp]; rfl)
theorem lit_cellI (w : World) (v : Value) : ∀ (j : Nat) u, [v][j]? = some u → (w.alloc (.cells #[v] 3)).cell? ((⟨w.heap.size, 0, none⟩ : Addr).add j) = some u := fun j u hj => by
  rw [cell_row (World.alloc_heap_new w _)]
  match j, hj with
  | 0, hj => simp at hj; subst hj; rfl
theorem own_grownI {w w' : World} {base : Nat} {V : World} {e : TypeId} {s : Nat} {v : Value} {n : Nat} {xs : List Value} {o : Obj} (hB : Below base V w) (hb : base ≤ w.heap.size) (hO : w.ownsRow base e s v n xs) (hg : (w.alloc o).grownBy w' v.ownBlock) : Below base V w' :=
  (hB.alloc hb o).grown hg (by simp; omega) (fun k h => (hO.lt k h).1)
/-- one side of a pair, as a function tells it -/
def SideFn (G : FuncId) (side : Int × Int → Int) : Prop := ∀ x1 x2 W, Calls Tryz.prog G #[.agg #[.int .i64 x1, .int .i64 x2]] W fun e w' => e = .returned (.int .i64 (side (x1, x2))) ∧ Below W.heap.size W w'
theorem restA1 : SideFn 118 Prod.fst := fun x1 x2 W => by
  go_enter Tryz.func118, Tryz.ntmps118
  go_wp2_with fail
  go_ret
  exact ⟨rfl, (Below.refl _ W).alloc (Nat.le_refl _) _⟩
theorem restB1 : SideFn 119 Prod.snd := fun x1 x2 W => by
  go_enter Tryz.func119, Tryz.ntmps119
  go_wp2_with fail
  go_ret
  exact ⟨rfl, (Below.refl _ W).alloc (Nat.le_refl _) _⟩

set_option maxRecDepth 100000 in
set_option maxHeartbeats 2000000 in
theorem rest_any (G : FuncId) (side : Int × Int → Int) (hG : SideFn G side) (hent : ∀ args w, (callFunc G args).run Tryz.prog w = .ok (.enter G args) w) (ao : Option Addr) (cap : Nat) (xs : PL) (n : Int) (w : World) (hn : xs.length ≤ 274877906944) (hs : ∀ p ∈ xs, (Lit.int .i64 (side p)).wf = true) (hR : PairsAt w ao xs) (hlo : -9223372036854775808 ≤ n) (hhi : n ≤ 2147483647) :
    Calls Tryz.prog 117 #[.slice ao xs.length cap, .int .i64 n, .func (.func G) #[] #[]] w (IntsOut (outOf (xs.map side) n.toNat) w) := by
  have hinfo : (Tryz.prog.info? 3).map (fun i => (i.zero, i.size, i.bytes)) = some (some (.int .i64 0), 1, 8) := by kernel_rfl
  obtain ⟨i0, hi, hz0, hz1, hz2⟩ := info_parts2 hinfo
  have HI := Lib.hid hi
  have HRo := Lib.hid hR
  have HSo := Lib.hid hs
  have HG := Lib.hid hG
  have hmm := @run_makeMap Tryz.prog
  clear hi hinfo hR hs hG
  obtain ⟨O, HQ⟩ : ∃ O, Hid (O = outOf (xs.map side)) := ⟨_, Lib.hid rfl⟩
  rw [← HQ.out]
  go_enter Tryz.func117, Tryz.ntmps117
  go_wp2_with fail
  have HO : Hid ((w.alloc (.map #[] 0)).ownsMap Tryz.prog 3 (plainElem Tryz.prog 4) w.heap.size 0 (.map [] : DataW Unit)) := Lib.hid (World.ownsMap_made w _ _ _)
  have HB : Hid (Below w.heap.size w (w.alloc (.map #[] 0))) := Lib.hid ((Below.refl _ w).alloc (Nat.le_refl _) _)
  go_loopw [17] (fun i wr => ∃ (k : Nat) (D : DataW Unit) (L : List Int), k ≤ xs.length ∧ i = .int .i64 k ∧ Hid (Below w.heap.size w wr) ∧ Hid (wr.ownsMap Tryz.prog 3 (plainElem Tryz.prog 4) w.heap.size k D) ∧ Hid (SetIs D L) ∧ Hid (∀ z, z ∈ L ↔ z ∈ (xs.map side).take k ∧ 0 ≤ z ∧ z < n)) (fun i _ => xs.length - (intOf i).toNat)
  case atStart => exact ⟨0, _, [], Nat.zero_le _, rfl, HB, HO, Lib.hid SetIs.empty, Lib.hid (by simp)⟩
  case round =>
    obtain ⟨k, D, L, hk, rfl, HB, HO, HD, HL⟩ := hrel
    by_cases hlt : k < xs.length
    · obtain ⟨⟨x1, x2⟩, hx⟩ : ∃ x, xs[k]? = some x := ⟨_, List.getElem?_eq_getElem hlt⟩
      rcases (HRo.out.kept HB.out) with h0 | ⟨b, o, rfl, hA, hcell⟩
      · rw [h0] at hlt; simp at hlt
      obtain ⟨hc1, hc2⟩ := hcell k _ hx
      dsimp only at hc1 hc2
      have HW := Lib.hid (HSo.out _ (List.mem_of_getElem? hx))
      obtain ⟨V, HV⟩ : ∃ V, Hid (V = wr.alloc (.cells #[.int .i64 x1, .int .i64 x2] 36)) := ⟨_, Lib.hid rfl⟩
      have hVh : V.heap[wr.heap.size]? = some (.cells #[.int .i64 x1, .int .i64 x2] 36 (0, 0)) := by rw [HV.out]; exact World.alloc_heap_new _ _
      have v0 : V.cell? ⟨wr.heap.size, 0, none⟩ = some (.int .i64 x1) := (Lib.cell_of_heap hVh 0).trans rfl
      have v1 : V.cell? ⟨wr.heap.size, 1, none⟩ = some (.int .i64 x2) := (Lib.cell_of_heap hVh 1).trans rfl
      have hbV : Below wr.heap.size wr V := by rw [HV.out]; exact (Below.refl _ wr).alloc (Nat.le_refl _) _
      have HVO := Lib.hid (ownsMap_below HO.out hbV)
      have HVB := Lib.hid (below_up HB.out hbV)
      have hsx : (xs.map side)[k]? = some (side (x1, x2)) := by rw [List.getElem?_map, hx]; rfl
      have HTk : Hid ((xs.map side).take (k + 1) = (xs.map side).take k ++ [side (x1, x2)]) := Lib.hid (by
        obtain ⟨h1, e⟩ := List.getElem?_eq_some_iff.1 hsx
        rw [List.take_succ_eq_append_getElem h1, e])
      have C := Lib.hid (HG.out x1 x2 V)
      clear hcell hx hbV hVh hsx HO HB
      generalize side (x1, x2) = y at C HW HTk
      go_upto_region 5 with fail
      rw [← HV.out]
      go_wp2_with fail
      refine C.out.mono ?_; rintro e w2 ⟨rfl, b1⟩
      have HO2 := Lib.hid (ownsMap_below HVO.out b1)
      have HB2 := Lib.hid (below_up HVB.out b1)
      clear b1 v0 v1 hc1 hc2 HVO HVB
      by_cases hin : 0 ≤ y ∧ y < n
      · obtain ⟨hy0, hyn⟩ := hin
        have hkm : k < maxLen := by unfold maxLen; omega
        have HK := Lib.hid (keyOf_int_mk (P := Tryz.prog) Tryz.underlying3 HW.out)
        go_wp2_with (at_mapUpdate; refine wpList_mapUpdate_own _ rfl _ _ _ 101 rfl 3 4 (int_keyed Tryz.underlying3) Tryz.underlying101 _ w.heap.size k D rfl HO2.out hkm _ _ (.int .i64 y) rfl rfl HK.out (.lit (.bool true)) [] (plainElem_bool Tryz.underlying4 true) ?_; intro w3 ho hg)
        have HO3 := Lib.hid ho
        have HB3 := Lib.hid (HB2.out.grown hg HB2.out.size (fun k h => by cases h; exact Nat.le_refl _))
        have HD3 := Lib.hid (HD.out.put y)
        have HL3 : Hid (∀ z, z ∈ addZ L y ↔ z ∈ (xs.map side).take (k + 1) ∧ 0 ≤ z ∧ z < n) := Lib.hid (fun z => by
          rw [addZ_mem, HL.out z, HTk.out]
          simp only [List.mem_append, List.mem_singleton]
          constructor
          · rintro (h | rfl)
            · exact ⟨.inl h.1, h.2⟩
            · exact ⟨.inr rfl, hy0, hyn⟩
          · rintro ⟨h | h, h2⟩
            · exact .inl ⟨h, h2⟩
            · exact .inr h)
        clear ho hg
        go_wp2_with fail
        go_roundw
        case rel => exact ⟨k + 1, _, _, by omega, by go_num, HB3, HO3, HD3, HL3⟩
        case measure => simp [intOf]; omega
      · have HL3 : Hid (∀ z, z ∈ L ↔ z ∈ (xs.map side).take (k + 1) ∧ 0 ≤ z ∧ z < n) := Lib.hid (fun z => by
          rw [HL.out z, HTk.out]
          simp only [List.mem_append, List.mem_singleton]
          constructor
          · rintro h; exact ⟨.inl h.1, h.2⟩
          · rintro ⟨h | rfl, h2⟩
            · exact ⟨h, h2⟩
            · exact absurd h2 hin)
        have HO3 := Lib.hid (HO2.out.mono (Nat.le_succ k))
        by_cases hy0 : 0 ≤ y
        · have hyn : ¬ y < n := fun h => hin ⟨hy0, h⟩
          clear hin
          go_wp2_with fail
          go_roundw
          case rel => exact ⟨k + 1, _, _, by omega, by go_num, HB2, HO3, HD, HL3⟩
          case measure => simp [intOf]; omega
        · clear hin
          go_wp2_with fail
          go_roundw
          case rel => exact ⟨k + 1, _, _, by omega, by go_num, HB2, HO3, HD, HL3⟩
          case measure => simp [intOf]; omega
    · obtain rfl : k = xs.length := by omega
      have HL1 : Hid (∀ z, z ∈ L ↔ z ∈ xs.map side ∧ 0 ≤ z ∧ z < n) := Lib.hid (fun z => by rw [HL.out z]; rw [show xs.length = (xs.map side).length from by simp, List.take_length])
      have hfew := set_few _ L n HD.out.nodup HL1.out
      have hsz : Go.Maps.size D = L.length := HD.out.size
      have hwl : IntKind.i64.wrap (n - (L.length : Int)) = n - (L.length : Int) := IntWalk.i64_in _ (by omega)
      have HNone : Hid (n - (L.length : Int) < 1 → outOf (xs.map side) n.toNat = []) := Lib.hid (fun h => by
        rcases Int.le_total n 0 with h0 | h0
        · rw [show n.toNat = 0 from by omega]; rfl
        · refine outOf_none _ L n.toNat HD.out.nodup (fun z => ?_) (by omega)
          rw [HL1.out z, show ((n.toNat : Nat) : Int) = n from by omega])
      have HNx := Lib.hid (outOf_next (xs.map side))
      have HLe := Lib.hid (outOf_le (xs.map side))
      have HZ : Hid (outOf (xs.map side) 0 = []) := Lib.hid rfl
      clear HL hlt
      rw [← HQ.out] at HNone HNx HLe HZ
      have hln := HO.out.len Tryz.underlying101 3
      rw [hsz] at hln
      clear hsz
      by_cases hleft : n - (L.length : Int) < 1
      · have E := Lib.hid (HNone.out hleft)
        go_wp2_with fail
        go_ret
        rw [E.out]
        exact ⟨none, 0, rfl, .inl rfl, fun _ => rfl, Nat.le_refl _, HB.out⟩
      · have hmax : ¬ 2147483647 < n - (L.length : Int) := by omega
        obtain ⟨c, hc⟩ := Int.eq_ofNat_of_zero_le (show 0 ≤ n - (L.length : Int) by omega)
        obtain ⟨m, rfl⟩ := Int.eq_ofNat_of_zero_le (show 0 ≤ n by omega)
        rw [hc] at hwl hleft hmax
        have hcm : c ≤ m := by omega
        have hm31 : m ≤ 2147483647 := by omega
        have hcx : c ≤ maxLen := by unfold maxLen; omega
        have HBs := HB.out.size
        go_wp2_with (at_make; refine wpList_make_own _ rfl _ _ 95 rfl (w.heap.size + 1) 3 i0 (.int .i64 0) 1 Tryz.underlying95 HI.out hz0 hz1 .i64 .i64 (c : Int) c rfl rfl rfl (by rw [hz2]; omega) hcx HO.out.lt ?_; intro w1 ho hg)
        have HO1 := Lib.hid (HO.out.kept hg (by simp))
        have HB1 := Lib.hid (HB.out.grown hg HBs (fun k h => by cases h))
        have HT : Hid (OwnI w1 (w.heap.size + 1) (.slice (some ⟨wr.heap.size, 0, none⟩) 0 c) (O 0)) := Lib.hid (by rw [HZ.out]; exact ho)
        have HLk : Hid (∀ k : Nat, k < m → ((k : Int) ∈ L ↔ (k : Int) ∈ xs.map side)) := Lib.hid (fun k hk => by rw [HL1.out]; exact ⟨fun h => h.1, fun h => ⟨h, by omega, by omega⟩⟩)
        have hL0 : (O 0).length = 0 := by rw [HZ.out]; rfl
        clear ho hg hln hfew hwl hleft hmax HBs hc HO HB HL1 HNone hlo hhi
        obtain ⟨wo, rfl⟩ : ∃ wo : World, wo = wr := ⟨_, rfl⟩
        go_loopw [12, 47] (fun v i wr => ∃ (k q cp : Nat) (bo : Option Addr), k ≤ m ∧ i = .int .i64 k ∧ v = .slice bo q cp ∧ Hid (q = (O k).length) ∧ Hid (Below w.heap.size w wr) ∧ Hid (wr.ownsMap Tryz.prog 3 (plainElem Tryz.prog 4) w.heap.size xs.length D) ∧ Hid (OwnI wr (w.heap.size + 1) (.slice bo q cp) (O k))) (fun _ i _ => m - (intOf i).toNat)
        case atStart => exact ⟨0, 0, c, _, Nat.zero_le _, rfl, rfl, Lib.hid hL0.symm, HB1, HO1, HT⟩
        case round =>
          obtain ⟨k, q, cp, bo, hk, rfl, rfl, HQ2, HB, HO, HT⟩ := hrel
          by_cases hlt : k < m
          · have hlook := set_look HO.out HD.out (k : Int) (WalkArith.wf_i64 (by omega))
            have hstep := HNx.out k
            have hkL := HLk.out k hlt
            by_cases hin : (k : Int) ∈ L
            · rw [decide_eq_true hin] at hlook
              rw [if_pos (hkL.1 hin)] at hstep
              have HT2 : Hid (OwnI wr (w.heap.size + 1) (.slice bo q cp) (O (k + 1))) := Lib.hid (by rw [hstep]; exact HT.out)
              have HQ3 : Hid (q = (O (k + 1)).length) := Lib.hid (by rw [hstep]; exact HQ2.out)
              clear hstep hkL hin
              go_wp2_with fail
              go_roundw
              case rel => exact ⟨k + 1, q, cp, bo, by omega, by go_num, rfl, HQ3, HB, HO, HT2⟩
              case measure => simp [intOf]; omega
            · rw [decide_eq_false hin] at hlook
              rw [if_neg (fun h => hin (hkL.2 h))] at hstep
              have hq : q ≤ k := by rw [HQ2.out]; exact HLe.out k
              have HTO : Hid (wr.ownsRow (w.heap.size + 1) 3 1 (.slice bo q cp) q ((O k).map (Value.int .i64))) := Lib.hid (by have := HT.out; unfold OwnI at this; rw [← HQ2.out] at this; exact this)
              have HT1 := Lib.hid (HTO.out.alloc (.cells #[Value.int .i64 (k : Int)] 3))
              have hws : w.heap.size + 1 ≤ wr.heap.size := HO.out.lt
              have hbs : w.heap.size + 1 ≤ (wr.alloc (.cells #[Value.int .i64 (k : Int)] 3)).heap.size := by simp; omega
              have HST := Lib.hid hstep
              clear hstep hkL hin
              go_wp2_with (at_builtin; refine wpList_append_own _ rfl _ _ 95 rfl (w.heap.size + 1) 3 i0 (.int .i64 0) 1 8 Tryz.underlying95 HI.out hz0 hz1 hz2 rfl (by decide) _ _ _ rfl HT1.out ⟨wr.heap.size, 0, none⟩ 1 1 [Value.int .i64 (k : Int)] rfl rfl (lit_cellI wr _) (fun u hu => by simp at hu; subst hu; rfl) (by unfold maxLen; omega) (by omega) hbs ?_)
              intro v' w3 hown' hgrow _
              obtain ⟨g, gc, rfl⟩ := ownsRow_succ hown'
              have HO3 : Hid (w3.ownsMap Tryz.prog 3 (plainElem Tryz.prog 4) w.heap.size xs.length D) := Lib.hid ((HO.out.alloc (.cells #[Value.int .i64 (k : Int)] 3)).kept hgrow (fun e => by have := (HTO.out.lt _ e.symm).1; omega))
              have HB3 := Lib.hid ((HB.out.alloc HB.out.size (.cells #[Value.int .i64 (k : Int)] 3)).grown hgrow (by simp; omega) (fun j h => by have := (HTO.out.lt j h).1; omega))
              have HQ3 : Hid (q + 1 = (O (k + 1)).length) := Lib.hid (by rw [HST.out, List.length_append, ← HQ2.out]; rfl)
              have HT3 : Hid (OwnI w3 (w.heap.size + 1) (.slice (some ⟨g, 0, none⟩) (q + 1) gc) (O (k + 1))) := Lib.hid (by unfold OwnI; rw [← HQ3.out, HST.out, List.map_append]; exact hown')
              clear hown' hgrow hbs hlook
              go_wp2_with fail
              go_roundw
              case rel => exact ⟨k + 1, q + 1, gc, _, by omega, by go_num, rfl, HQ3, HB3, HO3, HT3⟩
              case measure => simp [intOf]; omega
          · obtain rfl : k = m := by omega
            have HE := Lib.hid (OwnI.end_ (show OwnI wr w.heap.size _ _ from World.ownsRow.mono HT.out (Nat.le_succ _)) HB.out)
            clear HT HO
            go_wp2_with fail
            go_ret
            exact HE.out
end Go.Proofs.YtigijgcldgbokaaGreat
namespace Go.Proofs.YtigijgcldgbokaaGreat
open Go.RowKit Go.Shelf Go.Maps
set_option linter.unusedVariables false

/-- the A of the first pair that has a B -/
def firstB (l : PL) (z : Int) : Option Int := (l.find? (fun p => p.2 == z)).map Prod.fst
theorem firstB_snoc (l : PL) (p : Int × Int) (z : Int) : firstB (l ++ [p]) z = (firstB l z).or (if p.2 = z then some p.1 else none) := by
  unfold firstB
  rw [List.find?_append]
  cases h : l.find? (fun p => p.2 == z) with
  | some q => rfl
  | none =>
    by_cases e : p.2 = z
    · simp [e]
    · simp [e]
structure FirstIs (D : DataW Unit) (l : PL) : Prop where
  map : IsMap D
  look : ∀ z, D.atKey (.int .i64 z) (.lit (.int .i64 0)) = .lit (.int .i64 ((firstB l z).getD 0))
  here : ∀ z, has D (.int .i64 z) = (firstB l z).isSome
theorem FirstIs.empty : FirstIs (.map []) [] := ⟨isMap_empty, fun z => rfl, fun z => rfl⟩
theorem FirstIs.put {D : DataW Unit} {l : PL} (h : FirstIs D l) (p : Int × Int) (hno : firstB l p.2 = none) : FirstIs (D.put (.int .i64 p.2) (.lit (.int .i64 p.1))) (l ++ [p]) := by
  refine ⟨h.map.put _ _, fun z => ?_, fun z => ?_⟩
  · rw [firstB_snoc]
    by_cases e : p.2 = z
    · subst e
      rw [atKey_put_same h.map (keyI _), hno]; simp
    · rw [atKey_put_other (fun e' => e (by injection e' with _ e2; exact e2.symm)), h.look]; simp [e]
  · rw [firstB_snoc]
    by_cases e : p.2 = z
    · subst e
      rw [has_put_same h.map (keyI _), hno]; simp
    · rw [has_put_other (fun e' => e (by injection e' with _ e2; exact e2.symm)), h.here]; simp [e]
theorem FirstIs.skip {D : DataW Unit} {l : PL} (h : FirstIs D l) (p : Int × Int) (a : Int) (hyes : firstB l p.2 = some a) : FirstIs D (l ++ [p]) := by
  have key : ∀ z, firstB (l ++ [p]) z = firstB l z := fun z => by
    rw [firstB_snoc]
    by_cases e : p.2 = z
    · subst e; rw [hyes]; rfl
    · simp [e]
  exact ⟨h.map, fun z => by rw [key]; exact h.look z, fun z => by rw [key]; exact h.here z⟩
set_option maxRecDepth 100000 in
theorem first_look {w : World} {b k : Nat} {D : DataW Unit} {l : PL} (h : w.ownsMap Tryz.prog 3 (plainElem Tryz.prog 3) b k D) (hS : FirstIs D l) (x : Int) (hx : (Lit.int .i64 x).wf = true) :
    (Instr.lookup 117 (.map (some b)) (.int .i64 x) true).run Tryz.prog w = .ok (.tuple #[.int .i64 ((firstB l x).getD 0), .bool (firstB l x).isSome]) w := by
  obtain ⟨v, ps, hrun, hv⟩ := h.look_ok (int_keyed Tryz.underlying3) Tryz.underlying117 (z := .int .i64 0) (Tryz.zeroValue3 _) (plainElem_int Tryz.underlying3 (by decide)) (keyOf_int_mk Tryz.underlying3 hx)
  obtain ⟨c, rfl, hc, _⟩ := plainElem_int_inv Tryz.underlying3 hv
  simp only [Prod.mk.injEq] at hc
  rw [hS.look] at hc
  have e : (firstB l x).getD 0 = c := by have := hc.1; injection this with h1; injection h1
  rw [hS.here] at hrun
  rw [e]; exact hrun
/-- pairs through pairs -/
def throughL (x y : PL) : PL := y.filterMap (fun p => (firstB x p.1).map (fun a => (a, p.2)))
theorem through_some (x y : PL) (k : Nat) (p : Int × Int) (a : Int) (hp : y[k]? = some p) (ha : firstB x p.1 = some a) : throughL x (y.take (k + 1)) = throughL x (y.take k) ++ [(a, p.2)] := by
  obtain ⟨hk, e⟩ := List.getElem?_eq_some_iff.1 hp
  unfold throughL
  rw [List.take_succ_eq_append_getElem hk, e, List.filterMap_append]
  simp [ha]
theorem through_none (x y : PL) (k : Nat) (p : Int × Int) (hp : y[k]? = some p) (ha : firstB x p.1 = none) : throughL x (y.take (k + 1)) = throughL x (y.take k) := by
  obtain ⟨hk, e⟩ := List.getElem?_eq_some_iff.1 hp
  unfold throughL
  rw [List.take_succ_eq_append_getElem hk, e, List.filterMap_append]
  simp [ha]
theorem through_len (x y : PL) : (throughL x y).length ≤ y.length := List.length_filterMap_le _ _
theorem through_le (x y : PL) (k : Nat) : (throughL x (y.take k)).length ≤ k := Nat.le_trans (through_len x _) (List.length_take_le _ _)
/-- pairs that come back -/
def PairsOut (l : PL) (w : World) (e : Ending) (w' : World) : Prop := ∃ ao cap, e = .returned (.slice ao l.length cap) ∧ PairsAt w' ao l ∧ (ao = none → cap = 0) ∧ l.length ≤ cap ∧ Below w.heap.size w w'
/-- a slice of pairs that grows -/
def OwnL (w : World) (base : Nat) (v : Value) (l : PL) : Prop := w.ownsRow base 36 2 v l.length (cellsP l)
theorem OwnL.pairsAt {w : World} {base : Nat} {v : Value} {l : PL} (h : OwnL w base v l) : ∃ ao cap, v = .slice ao l.length cap ∧ PairsAt w ao l ∧ (ao = none → cap = 0) ∧ l.length ≤ cap := by
  rcases h.2 with ⟨rfl, h0⟩ | ⟨g, cap, cur, rfl, h1, h2, h3, h4, h5, h6⟩
  · have hl : l = [] := List.eq_nil_of_length_eq_zero h0
    subst hl
    exact ⟨none, 0, rfl, .inl rfl, fun _ => rfl, Nat.le_refl _⟩
  · refine ⟨_, cap, rfl, .inr ⟨g, 0, rfl, (World.ownsRow.lt h g rfl).2, fun i p hp => ?_⟩, (fun e => by cases e), h3⟩
    obtain ⟨c1, c2⟩ := cellsP_at l i p hp
    have k1 := World.ownsRow.cells h rfl (i * 2) _ c1
    have k2 := World.ownsRow.cells h rfl (i * 2 + 1) _ c2
    have e : ∀ j, (⟨g, 0, none⟩ : Addr).add j = ⟨g, 0 + j, none⟩ := fun j => by unfold Addr.add; split <;> simp_all
    rw [e] at k1 k2
    exact ⟨k1, by rw [Nat.add_assoc]; exact k2⟩
theorem OwnL.end_ {w w' : World} {v : Value} {l : PL} (h : OwnL w' w.heap.size v l) (hB : Below w.heap.size w w') : PairsOut l w (.returned v) w' := by
  obtain ⟨ao, cap, rfl, h1, h2, h3⟩ := h.pairsAt
  exact ⟨ao, cap, rfl, h1, h2, h3, hB⟩
theorem lit_cellP (w : World) (a b : Value) (T : TypeId) : ∀ (j : Nat) u, [a, b][j]? = some u → (w.alloc (.cells #[a, b] T)).cell? ((⟨w.heap.size, 0, none⟩ : Addr).add j) = some u := fun j u hj => by
  rw [cell_row (World.alloc_heap_new w _)]
  match j, hj with
  | 0, hj => simp at hj; subst hj; rfl
  | 1, hj => simp at hj; subst hj; rfl

end Go.Proofs.YtigijgcldgbokaaGreat
namespace Go.Proofs.YtigijgcldgbokaaGreat
open Go.RowKit Go.Shelf
set_option linter.unusedVariables false

theorem insL_all (l : PL) : insL l 0 l.length = sortB l := by simp [insL]

def swapP (p : Int × Int) : Int × Int := (p.2, p.1)
/-- the first k of a list, turned -/
def turnK (l : PL) (k : Nat) : PL := (l.take k).map swapP ++ l.drop k
theorem turnK_at (l : PL) (k : Nat) (p : Int × Int) (h : l[k]? = some p) : (turnK l k)[k]? = some p := by
  obtain ⟨hk, e⟩ := List.getElem?_eq_some_iff.1 h
  unfold turnK
  rw [List.getElem?_append_right (by simp; omega)]
  simp [show min k l.length = k from by omega, hk, e]
theorem turnK_next (l : PL) (k : Nat) (p : Int × Int) (h : l[k]? = some p) : (turnK l k).set k (swapP p) = turnK l (k + 1) := by
  obtain ⟨hk, e⟩ := List.getElem?_eq_some_iff.1 h
  have hd : l.drop k = p :: l.drop (k + 1) := by rw [List.drop_eq_getElem_cons hk, e]
  unfold turnK
  rw [List.set_append_right _ _ (by simp; omega), List.take_succ_eq_append_getElem hk, e, hd]
  simp [show min k l.length = k from by omega]
theorem turnK_all (l : PL) : turnK l l.length = l.map swapP := by simp [turnK]
theorem turnK_zero (l : PL) : turnK l 0 = l := by simp [turnK]
/-- pairs, turned -/
def turnL (l : PL) : PL := sortB (l.map swapP)
theorem turnL_len (l : PL) : (turnL l).length = l.length := by simp [turnL, sortB_len]

end Go.Proofs.YtigijgcldgbokaaGreat
namespace Go.Proofs.YtigijgcldgbokaaGreat
set_option linter.unusedVariables false

/-- pairs that may be -/
structure MayBe (l : PL) (na nb : Int) : Prop where
  a0 : 0 ≤ na
  b0 : 0 ≤ nb
  within : ∀ p ∈ l, 0 ≤ p.1 ∧ p.1 < na ∧ 0 ≤ p.2 ∧ p.2 < nb
  fst : (l.map Prod.fst).Nodup
  snd : (l.map Prod.snd).Nodup
  sorted : Sorted l
theorem rises_sorted (l : PL) : risesB l = true ↔ Sorted l := by
  induction l with
  | nil => simp [risesB, Sorted]
  | cons p l ih =>
    cases l with
    | nil => simp [risesB, Sorted]
    | cons q l =>
      simp only [risesB, Bool.and_eq_true, decide_eq_true_eq, ih]
      unfold Sorted
      rw [List.pairwise_cons (a := p)]
      constructor
      · rintro ⟨h1, h2⟩
        refine ⟨fun r hr => ?_, h2⟩
        rcases List.mem_cons.1 hr with rfl | hr
        · exact h1
        · have := (List.pairwise_cons.1 h2).1 r hr; omega
      · rintro ⟨h1, h2⟩
        exact ⟨h1 q (by simp), h2⟩
theorem may_be (l : PL) (na nb : Int) : checkP l na nb = 0 ↔ MayBe l na nb := by
  unfold checkP
  constructor
  · intro h
    split at h
    · omega
    · rename_i h1
      split at h
      · omega
      · rename_i h2
        split at h
        · omega
        · rename_i h3
          split at h
          · rename_i h4
            simp only [twiceL, Decidable.not_not, decide_eq_true_eq] at h3
            refine ⟨by omega, by omega, fun p hp => ?_, h3.1, h3.2, (rises_sorted l).1 h4⟩
            have : ¬ badP na nb p = true := fun hb => h2 (List.any_eq_true.2 ⟨p, hp, hb⟩)
            simp only [badP, Bool.or_eq_true, decide_eq_true_eq] at this
            omega
          · omega
  · intro h
    have h1 : ¬ (na < 0 ∨ nb < 0) := by have := h.a0; have := h.b0; omega
    have h2 : l.any (badP na nb) = false := List.any_eq_false.2 (fun p hp => by
      have := h.within p hp
      simp only [badP, Bool.or_eq_true, decide_eq_true_eq]; omega)
    have h3 : twiceL l = false := by simp [twiceL, h.fst, h.snd]
    rw [if_neg h1, h2, h3, (rises_sorted l).2 h.sorted]; rfl
theorem count_eq (R L : PL) (h : ∀ v, ofB v R = ofB v L) (p : Int × Int) : R.count p = L.count p := by
  have key : ∀ (M : PL), M.count p = (ofB p.2 M).count p := fun M => by
    unfold ofB; rw [List.count_filter (by simp)]
  rw [key, key L, h]
theorem stab_perm {R L : PL} (h : ∀ v, ofB v R = ofB v L) : R.Perm L := List.perm_iff_count.2 (count_eq R L h)
theorem turn_perm (l : PL) : (turnL l).Perm (l.map swapP) := stab_perm (sortB_stab _).2
theorem swap_swap (l : PL) : (l.map swapP).map swapP = l := by
  rw [List.map_map]
  exact (List.map_congr_left (fun p _ => by rfl)).trans (List.map_id l)
theorem map_fst_swap (l : PL) : (l.map swapP).map Prod.fst = l.map Prod.snd := by rw [List.map_map]; rfl
theorem map_snd_swap (l : PL) : (l.map swapP).map Prod.snd = l.map Prod.fst := by rw [List.map_map]; rfl
theorem turn_fst (l : PL) : ((turnL l).map Prod.fst).Perm (l.map Prod.snd) := by have := (turn_perm l).map Prod.fst; rwa [map_fst_swap] at this
theorem turn_snd (l : PL) : ((turnL l).map Prod.snd).Perm (l.map Prod.fst) := by have := (turn_perm l).map Prod.snd; rwa [map_snd_swap] at this
theorem MayBe.turn {l : PL} {na nb : Int} (h : MayBe l na nb) : MayBe (turnL l) nb na := by
  refine ⟨h.b0, h.a0, fun p hp => ?_, (turn_fst l).nodup_iff.2 h.snd, (turn_snd l).nodup_iff.2 h.fst, (sortB_stab _).1⟩
  have := (turn_perm l).mem_iff.1 hp
  obtain ⟨q, hq, rfl⟩ := List.mem_map.1 this
  have := h.within q hq
  simp only [swapP]; omega
/-- with no B twice, what is in order is known by what is in it -/
theorem sorted_perm {R L : PL} (hR : Sorted R) (hL : Sorted L) (hp : R.Perm L) (hn : (L.map Prod.snd).Nodup) : R = L := by
  refine stab_unique R L hR hL (fun v => ?_)
  have one : ∀ (M : PL), (M.map Prod.snd).Nodup → ∀ p ∈ M, p.2 = v → ofB v M = [p] := fun M => by
    induction M with
    | nil => intro _ p hp; cases hp
    | cons q M ih =>
      intro hM p hp hv
      rw [List.map_cons, List.nodup_cons] at hM
      rw [ofB_cons]
      rcases List.mem_cons.1 hp with rfl | hp
      · rw [if_pos hv, ofB_none v M (fun r hr e => hM.1 (List.mem_map.2 ⟨r, hr, by rw [e, hv]⟩))]
      · rw [if_neg (fun e => hM.1 (List.mem_map.2 ⟨p, hp, by rw [hv, e]⟩))]
        exact ih hM.2 p hp hv
  have hn' : (R.map Prod.snd).Nodup := (hp.map Prod.snd).nodup_iff.2 hn
  by_cases hex : ∃ p ∈ L, p.2 = v
  · obtain ⟨p, hpL, hv⟩ := hex
    rw [one L hn p hpL hv, one R hn' p (hp.mem_iff.2 hpL) hv]
  · rw [ofB_none v L (fun p hp' e => hex ⟨p, hp', e⟩), ofB_none v R (fun p hp' e => hex ⟨p, hp.mem_iff.1 hp', e⟩)]
theorem turn_twice {l : PL} {na nb : Int} (h : MayBe l na nb) : turnL (turnL l) = l := by
  refine sorted_perm (sortB_stab _).1 h.sorted ?_ h.snd
  have := (turn_perm (turnL l)).trans ((turn_perm l).map swapP)
  rwa [swap_swap] at this
theorem outOf_congr (S T : List Int) (n : Nat) (h : ∀ x, x ∈ S ↔ x ∈ T) : outOf S n = outOf T n := by
  unfold outOf
  refine List.filter_congr (fun x _ => ?_)
  simp only [h x]
theorem rest_turn (l : PL) (n : Nat) : outOf (l.map Prod.fst) n = outOf ((turnL l).map Prod.snd) n := outOf_congr _ _ _ (fun x => (turn_snd l).mem_iff.symm)
theorem out_count (S : List Int) (n : Nat) (hn : S.Nodup) (hb : ∀ x ∈ S, 0 ≤ x ∧ x < (n : Int)) : (outOf S n).length + S.length = n := by
  have h1 : (outOf S n).length + ((upTo n).filter (fun x => decide (x ∈ S))).length = n := by
    have : ∀ (M : List Int), (M.filter (fun x => decide (x ∉ S))).length + (M.filter (fun x => decide (x ∈ S))).length = M.length := fun M => by
      induction M with
      | nil => rfl
      | cons y M ih =>
        by_cases hy : y ∈ S
        · simp only [List.filter_cons, hy, not_true, decide_false, decide_true, if_true, List.length_cons, Bool.false_eq_true, if_false] at ih ⊢; omega
        · simp only [List.filter_cons, hy, not_false_eq_true, decide_false, decide_true, if_true, List.length_cons, Bool.false_eq_true, if_false] at ih ⊢; omega
    have := this (upTo n)
    rw [upTo_len] at this
    exact this
  have h2 : ((upTo n).filter (fun x => decide (x ∈ S))).length = S.length := by
    have hnu : (upTo n).Nodup := by
      unfold upTo
      refine List.Pairwise.map _ (fun a b hab e => hab (Int.ofNat.inj e)) List.nodup_range
    refine Nat.le_antisymm (sub_len _ _ (hnu.filter _) (fun x hx => by have := (List.mem_filter.1 hx).2; simpa using this)) (sub_len _ _ hn (fun x hx => List.mem_filter.2 ⟨(upTo_mem n x).2 (hb x hx), by simp [hx]⟩))
  omega
end Go.Proofs.YtigijgcldgbokaaGreat
