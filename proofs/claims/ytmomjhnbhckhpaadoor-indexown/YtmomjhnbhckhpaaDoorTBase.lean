/-
  What lies in memory: slices of strings, records behind slices of slices of strings; small facts of worlds and lists.
  Conditions: none.
-/
import Derived.RangeFuncNested
import Derived.RangeFuncBound
import Derived.RangeFuncCalls
import Derived.RangeFuncLeaves
import Derived.RangeFuncFrom
import Derived.RangeFuncBox
import Derived.Shelf.Abstract
import Derived.Shelf.RegionOpen
import Derived.WalkKit
import Derived.WalkMore
import Derived.OwnWalkIn
import Derived.TacticsInMore
import Derived.LoopNIn
import Derived.LoopIn
import Derived.RegionTactic
import Derived.ChangeAlike
import Derived.BigQuiet
import Derived.Deep.QuietTactic
import Derived.Lib.QuietBelow
import Derived.Lib.Hide
import Derived.Deep.Slices
import Derived.Laws.AppendOwn
import Derived.Laws.AppendOwnNone
import Derived.SliceStrings
import Derived.Lib.Builder
import Derived.SizedLaws
import Derived.Test.YtmomjhnbhckhpaaDoorProg
namespace Go.Proofs.YtmomjhnbhckhpaaDoor
open Go.RowKit Go.Shelf

theorem ba_toList (s : ByteArray) : s.toList = s.data.toList := by
  obtain ⟨⟨l⟩⟩ := s
  exact ByteArray.toList_mk l
theorem ba_ext (s : ByteArray) (a b : Nat) : (s.extract a b).data.toList = (s.data.toList.take b).drop a := by
  simp [List.drop_take]
theorem ba_app (a b : ByteArray) : (a ++ b).data.toList = a.data.toList ++ b.data.toList := by simp
theorem ba_size (s : ByteArray) : s.data.toList.length = s.size := by simp
theorem ba_eq {a b : ByteArray} (h : a.data.toList = b.data.toList) : a = b := by
  obtain ⟨⟨a⟩⟩ := a; obtain ⟨⟨b⟩⟩ := b; simp at h; rw [h]
theorem ba_mk_size (l : List UInt8) : (⟨l.toArray⟩ : ByteArray).size = l.length := by simp [ByteArray.size]
theorem ret_str {a b : ByteArray} (h : a.data.toList = b.data.toList) : Ending.returned (.string a) = .returned (.string b) := by rw [ba_eq h]
theorem ret_int {k : IntKind} {a b : Int} (h : a = b) : Ending.returned (.int k a) = .returned (.int k b) := by rw [h]
theorem box3 {W : World} {B : Nat} {x y z : Value} {T : TypeId} (h : W.heap[B]? = some (.cells #[x, y, z] T (0, 0))) :
    (W.cell? ⟨B, 0, none⟩ = some x ∧ W.cell? ⟨B, 1, none⟩ = some y ∧ W.cell? ⟨B, 2, none⟩ = some z) ∧ (W.frozen? ⟨B, 0, none⟩ = false ∧ W.frozen? ⟨B, 1, none⟩ = false ∧ W.frozen? ⟨B, 2, none⟩ = false) :=
  ⟨⟨(Lib.cell_of_heap h 0).trans rfl, (Lib.cell_of_heap h 1).trans rfl, (Lib.cell_of_heap h 2).trans rfl⟩, Lib.frozen_of_heap h 0, Lib.frozen_of_heap h 1, Lib.frozen_of_heap h 2⟩
theorem add_block (A : Addr) (j : Nat) : (A.add j).block = A.block := by unfold Addr.add; split <;> rfl
theorem two_new (w : World) (o p : Obj) : ((w.alloc o).alloc p).heap.size = w.heap.size + 2 ∧ ((w.alloc o).alloc p).heap[w.heap.size]? = some o ∧ ((w.alloc o).alloc p).heap[w.heap.size + 1]? = some p := by
  refine ⟨by simp, ?_, ?_⟩
  · rw [Below.heap_alloc _ _ _ (by simp)]; exact World.alloc_heap_new w o
  · have := World.alloc_heap_new (w.alloc o) p
    simpa using this
theorem two_below (w : World) (o p : Obj) : Below w.heap.size w ((w.alloc o).alloc p) := ((Below.refl _ w).alloc (Nat.le_refl _) o).alloc (by simp) p
def bytesOf (xs : List ByteArray) : List (List UInt8) := xs.map fun c => c.data.toList
/-- the cells of a slice of strings -/
def StrRow (w : World) (ao : Option Addr) (xs : List ByteArray) : Prop := xs = [] ∨ ∃ A, ao = some A ∧ A.block < w.heap.size ∧ ∀ i c, xs[i]? = some c → w.cell? (A.add i) = some (.string c)
theorem StrRow.kept {w w' : World} {ao : Option Addr} {xs : List ByteArray} (h : StrRow w ao xs) (hB : Below w.heap.size w w') : StrRow w' ao xs := by
  rcases h with h | ⟨A, h1, h2, h3⟩
  · exact .inl h
  · exact .inr ⟨A, h1, Nat.lt_of_lt_of_le h2 hB.size, fun i c hc => (hB.cell (p := A.add i) (by rw [add_block]; exact h2)).trans (h3 i c hc)⟩
theorem below_up {a b c : World} (h : Below a.heap.size a b) (k : Below b.heap.size b c) : Below a.heap.size a c := h.trans (k.mono h.size)
theorem box_new (w : World) (o : Obj) (k : Nat) (h : k = w.heap.size) : (w.alloc o).heap[k]? = some o := by subst h; exact World.alloc_heap_new w o
theorem cell_row {W : World} {g : Nat} {cs : Array Value} {T : TypeId} {fr : Nat × Nat} (h : W.heap[g]? = some (.cells cs T fr)) (j : Nat) : W.cell? ((⟨g, 0, none⟩ : Addr).add j) = cs[j]? := by
  have e : (⟨g, 0, none⟩ : Addr).add j = ⟨g, j, none⟩ := by unfold Addr.add; split <;> simp_all
  rw [e]; exact Lib.cell_of_heap h j
theorem lt_of_heap {W : World} {g : Nat} {o : Obj} (h : W.heap[g]? = some o) : g < W.heap.size := by
  rcases Nat.lt_or_ge g W.heap.size with h' | h'
  · exact h'
  · simp [Array.getElem?_eq_none h'] at h
theorem cell_of_box_l {W : World} {B : Nat} {v : Value} {t : TypeId} (h : W.heap[B]? = some (.cells #[v] t (0, 0))) : W.cell? ⟨B, 0, none⟩ = some v ∧ W.frozen? ⟨B, 0, none⟩ = false := by
  constructor <;> simp [World.cell?, World.frozen?, h]
theorem cell_new_l (W : World) (v : Value) (t : TypeId) : (W.alloc (.cells #[v] t)).cell? ⟨W.heap.size, 0, none⟩ = some v ∧ (W.alloc (.cells #[v] t)).frozen? ⟨W.heap.size, 0, none⟩ = false :=
  cell_of_box_l (World.alloc_heap_new W _)
theorem cell_alloc_l {W : World} {a : Addr} {v : Value} (o : Obj) (h : W.cell? a = some v) : (W.alloc o).cell? a = some v := cell_kept h (World.grownBy_alloc W o none) (fun r e => by cases e)
theorem frozen_alloc_l {W : World} {a : Addr} {v : Value} (o : Obj) (h : W.cell? a = some v) (hf : W.frozen? a = false) : (W.alloc o).frozen? a = false := (frozen_kept h (World.grownBy_alloc W o none) (fun r e => by cases e)).trans hf
/-- records: rows of texts -/
abbrev Recs := List (List (List UInt8))
def recsOf (rs : List (List ByteArray)) : Recs := rs.map bytesOf
/-- how much room a slice may have: none, if it is nil -/
abbrev Cap (ao : Option Addr) (n : Nat) := {c : Nat // n ≤ c ∧ (ao = none → c = 0)}
/-- the records behind a slice of slices of strings -/
def RowsAt (w : World) (ao : Option Addr) (rs : List (List ByteArray)) : Prop :=
  rs = [] ∨ ∃ A, ao = some A ∧ A.block < w.heap.size ∧ ∀ i r, rs[i]? = some r → ∃ (ro : Option Addr) (cap : Cap ro r.length), w.cell? (A.add i) = some (.slice ro r.length cap.1) ∧ StrRow w ro r
theorem RowsAt.kept {w w' : World} {ao : Option Addr} {rs : List (List ByteArray)} (h : RowsAt w ao rs) (hB : Below w.heap.size w w') : RowsAt w' ao rs := by
  rcases h with h | ⟨A, h1, h2, h3⟩
  · exact .inl h
  · refine .inr ⟨A, h1, Nat.lt_of_lt_of_le h2 hB.size, fun i r hr => ?_⟩
    obtain ⟨ro, cap, h4, h5⟩ := h3 i r hr
    exact ⟨ro, cap, (hB.cell (p := A.add i) (by rw [add_block]; exact h2)).trans h4, h5.kept hB⟩
theorem dgt (n m : Nat) : decide ((m : Int) < (n : Int)) = decide (m < n) := by
  by_cases h : m < n
  · rw [decide_eq_true h]; exact decide_eq_true (by omega)
  · rw [decide_eq_false h]; exact decide_eq_false (by omega)
/-- the first place, from k on, of which something is so; -1: none -/
def firstAt {α : Type} (p : α → Bool) (l : List α) : Int := match l.findIdx? p with | some i => (i : Int) | none => -1
theorem any_at {α : Type} (p : α → Bool) (l : List α) : decide (0 ≤ firstAt p l) = l.any p := by
  unfold firstAt
  cases h : l.findIdx? p with
  | none =>
    have := List.findIdx?_eq_none_iff.1 h
    rw [List.any_eq_false.2 (fun x hx => by have := this x hx; simp [this])]; rfl
  | some i =>
    obtain ⟨hi, h1, _⟩ := List.findIdx?_eq_some_iff_getElem.1 h
    rw [List.any_eq_true.2 ⟨l[i], List.getElem_mem hi, h1⟩]
    exact decide_eq_true (show (0 : Int) ≤ (i : Int) by omega)
theorem firstAt_none {α : Type} (p : α → Bool) (l : List α) (h : ∀ (j : Nat) (c : α), l[j]? = some c → p c = false) : firstAt p l = -1 := by
  unfold firstAt
  rw [List.findIdx?_eq_none_iff.2 (fun x hx => by
    obtain ⟨i, hi, rfl⟩ := List.getElem_of_mem hx
    have := h i l[i] (List.getElem?_eq_getElem hi)
    simpa using this)]
theorem firstAt_some {α : Type} (p : α → Bool) (l : List α) (k : Nat) (c : α) (hc : l[k]? = some c) (hp : p c = true) (h : ∀ (j : Nat) (c : α), j < k → l[j]? = some c → p c = false) : firstAt p l = (k : Int) := by
  unfold firstAt
  obtain ⟨hk, e⟩ := List.getElem?_eq_some_iff.1 hc
  rw [List.findIdx?_eq_some_iff_getElem.2 ⟨hk, by rw [e]; exact hp, fun j hj => by
    have := h j l[j] hj (List.getElem?_eq_getElem (by omega))
    simpa using this⟩]
theorem own_slice {w : World} {base : Nat} {e : TypeId} {size : Nat} {v : Value} {n : Nat} {xs : List Value} (h : w.ownsRow base e size v n xs) : ∃ ao cap, v = .slice ao n cap := by
  rcases h.2 with ⟨rfl, rfl⟩ | ⟨g, cap, cur, rfl, _⟩
  · exact ⟨_, _, rfl⟩
  · exact ⟨_, _, rfl⟩
theorem new_cell (w : World) (cs : Array Value) (T : TypeId) (i : Nat) : (w.alloc (.cells cs T)).cell? ((⟨w.heap.size, 0, none⟩ : Addr).add i) = cs[i]? := cell_row (World.alloc_heap_new w _) i
/-- a slice literal of strings -/
theorem new_row (w : World) (xs : List ByteArray) (T : TypeId) : StrRow (w.alloc (.cells (xs.map Value.string).toArray T)) (some ⟨w.heap.size, 0, none⟩) xs :=
  .inr ⟨_, rfl, by simp, fun i c hc => by rw [new_cell]; simp [hc]⟩
theorem rows_one (w : World) (ro : Option Addr) (r : List ByteArray) (cap : Cap ro r.length) (T : TypeId) (h : StrRow w ro r) : RowsAt (w.alloc (.cells #[.slice ro r.length cap.1] T)) (some ⟨w.heap.size, 0, none⟩) [r] := by
  have hB : Below w.heap.size w (w.alloc (.cells #[.slice ro r.length cap.1] T)) := (Below.refl _ w).alloc (Nat.le_refl _) _
  refine .inr ⟨_, rfl, by simp, fun i x hx => ?_⟩
  match i, hx with
  | 0, hx => simp at hx; subst hx; exact ⟨ro, cap, by rw [new_cell]; rfl, h.kept hB⟩
theorem rows_two (w : World) (ro so : Option Addr) (r s : List ByteArray) (c1 : Cap ro r.length) (c2 : Cap so s.length) (T : TypeId) (h : StrRow w ro r) (k : StrRow w so s) : RowsAt (w.alloc (.cells #[.slice ro r.length c1.1, .slice so s.length c2.1] T)) (some ⟨w.heap.size, 0, none⟩) [r, s] := by
  have hB : Below w.heap.size w (w.alloc (.cells #[.slice ro r.length c1.1, .slice so s.length c2.1] T)) := (Below.refl _ w).alloc (Nat.le_refl _) _
  refine .inr ⟨_, rfl, by simp, fun i x hx => ?_⟩
  match i, hx with
  | 0, hx => simp at hx; subst hx; exact ⟨ro, c1, by rw [new_cell]; rfl, h.kept hB⟩
  | 1, hx => simp at hx; subst hx; exact ⟨so, c2, by rw [new_cell]; rfl, k.kept hB⟩
theorem lit2 (u : World) (r s : List ByteArray) (T1 T2 T3 : TypeId) :
    RowsAt (((u.alloc (.cells (r.map Value.string).toArray T1)).alloc (.cells (s.map Value.string).toArray T2)).alloc (.cells #[.slice (some ⟨u.heap.size, 0, none⟩) r.length r.length, .slice (some ⟨u.heap.size + 1, 0, none⟩) s.length s.length] T3)) (some ⟨u.heap.size + 1 + 1, 0, none⟩) [r, s] ∧
    Below u.heap.size u (((u.alloc (.cells (r.map Value.string).toArray T1)).alloc (.cells (s.map Value.string).toArray T2)).alloc (.cells #[.slice (some ⟨u.heap.size, 0, none⟩) r.length r.length, .slice (some ⟨u.heap.size + 1, 0, none⟩) s.length s.length] T3)) := by
  have b1 : Below (u.alloc (.cells (r.map Value.string).toArray T1)).heap.size _ ((u.alloc (.cells (r.map Value.string).toArray T1)).alloc (.cells (s.map Value.string).toArray T2)) := (Below.refl _ _).alloc (Nat.le_refl _) _
  have h1 := (new_row u r T1).kept b1
  have h2 := new_row (u.alloc (.cells (r.map Value.string).toArray T1)) s T2
  rw [World.size_alloc] at h2
  have h := rows_two _ _ _ r s ⟨r.length, Nat.le_refl _, fun e => by cases e⟩ ⟨s.length, Nat.le_refl _, fun e => by cases e⟩ T3 h1 h2
  rw [World.size_alloc, World.size_alloc] at h
  exact ⟨h, (((Below.refl _ u).alloc (Nat.le_refl _) _).alloc (by simp) _).alloc (by simp; omega) _⟩
theorem lit1 (u : World) (r : List ByteArray) (T1 T3 : TypeId) :
    RowsAt ((u.alloc (.cells (r.map Value.string).toArray T1)).alloc (.cells #[.slice (some ⟨u.heap.size, 0, none⟩) r.length r.length] T3)) (some ⟨u.heap.size + 1, 0, none⟩) [r] ∧
    Below u.heap.size u ((u.alloc (.cells (r.map Value.string).toArray T1)).alloc (.cells #[.slice (some ⟨u.heap.size, 0, none⟩) r.length r.length] T3)) := by
  have h := rows_one _ _ r ⟨r.length, Nat.le_refl _, fun e => by cases e⟩ T3 (new_row u r T1)
  rw [World.size_alloc] at h
  exact ⟨h, ((Below.refl _ u).alloc (Nat.le_refl _) _).alloc (by simp) _⟩
theorem rows_len (rs : List (List ByteArray)) (L : Recs) (h : recsOf rs = L) : rs.length = L.length ∧ ∀ n, (∀ x ∈ L, x.length ≤ n) → ∀ r ∈ rs, r.length ≤ n := by
  subst h
  refine ⟨by simp [recsOf], fun n hn r hr => ?_⟩
  have := hn (bytesOf r) (List.mem_map.2 ⟨r, hr, rfl⟩)
  simpa [bytesOf] using this
def rowTot (r : List ByteArray) : Nat := (r.map fun c => c.size + 1).sum
def tot (rs : List (List ByteArray)) : Nat := (rs.map rowTot).sum
def fewP (rs : List (List ByteArray)) : Prop := rs.length ≤ 60 ∧ (∀ r ∈ rs, r.length ≤ 60) ∧ tot rs ≤ 8000
theorem rowTot_next (r : List ByteArray) (j : Nat) (c : ByteArray) (h : r[j]? = some c) : rowTot (r.take (j + 1)) = rowTot (r.take j) + (c.size + 1) := by
  obtain ⟨hk, e⟩ := List.getElem?_eq_some_iff.1 h
  rw [List.take_succ_eq_append_getElem hk, e]; simp [rowTot]
theorem tot_next (rs : List (List ByteArray)) (k : Nat) (r : List ByteArray) (h : rs[k]? = some r) : tot (rs.take (k + 1)) = tot (rs.take k) + rowTot r := by
  obtain ⟨hk, e⟩ := List.getElem?_eq_some_iff.1 h
  rw [List.take_succ_eq_append_getElem hk, e]; simp [tot]
theorem cell_tot (r : List ByteArray) (c : ByteArray) (h : c ∈ r) : c.size + 1 ≤ rowTot r := by
  induction r with
  | nil => cases h
  | cons x r ih =>
    simp only [rowTot, List.map_cons, List.sum_cons] at ih ⊢
    rcases List.mem_cons.1 h with rfl | h
    · omega
    · have := ih h; omega
theorem row_tot (rs : List (List ByteArray)) (r : List ByteArray) (h : r ∈ rs) : rowTot r ≤ tot rs := by
  induction rs with
  | nil => cases h
  | cons x rs ih =>
    simp only [tot, List.map_cons, List.sum_cons] at ih ⊢
    rcases List.mem_cons.1 h with rfl | h
    · omega
    · have := ih h; omega
theorem few_small (rs : List (List ByteArray)) (h : fewP rs) : ∀ r ∈ rs, r.length ≤ 60 ∧ ∀ c ∈ r, c.size ≤ 8000 := fun r hr => ⟨h.2.1 r hr, fun c hc => by
  have h1 := cell_tot r c hc
  have h2 := row_tot rs r hr
  have := h.2.2
  omega⟩
end Go.Proofs.YtmomjhnbhckhpaaDoor
namespace Go.Proofs.YtmomjhnbhckhpaaDoor
open Go.RowKit Go.Shelf Go.ChangeShapes Go.WideShapes Go.Deep
theorem row_of (W : World) (a : Addr) (len : Nat) (ss : List ByteArray) (hcell : ∀ i, i < ss.length → W.cell? (a.add i) = some (.string (ss.getD i ByteArray.empty))) : StrRow W (some a) (ss.take len) := by
  by_cases h0 : ss.take len = []
  · exact .inl h0
  · have hp : 0 < ss.length := by
      rcases Nat.eq_zero_or_pos ss.length with h | h
      · exact absurd (by simp [List.eq_nil_of_length_eq_zero h]) h0
      · exact h
    refine .inr ⟨a, rfl, ?_, fun i c hc => ?_⟩
    · have h := block_lt_of_cell (hcell 0 hp)
      rwa [add_block] at h
    · have hc' : ss[i]? = some c := by
        rw [List.getElem?_take] at hc
        split at hc
        · exact hc
        · cases hc
      obtain ⟨hi, e⟩ := List.getElem?_eq_some_iff.1 hc'
      rw [hcell i hi, List.getD_eq_getElem?_getD, hc']; rfl
/-- the cells of records are Go strings, the records Go slices -/
def sized (rs : List (List ByteArray)) : Prop := ∀ r ∈ rs, r.length ≤ maxLen ∧ ∀ c ∈ r, c.size ≤ maxLen
theorem open_rows {H : Type} {enc : TypeId × Value → H} {P : Program} {w : World} {base : Nat} {held : Bool} {t e q : TypeId} {fuel : Nat} {ao : Option Addr} {len cap : Nat} {x : DataW H × List MemPlace} (ht : P.underlying t = some (.slice e)) (he : P.underlying e = some (.slice q)) (hq : P.underlying q = some .string)
    (ce : P.cellsOf e = 1) (cq : P.cellsOf q = 1) (h : DataW.trod enc P w base (fun _ => true) held fuel t [.slice ao len cap] = some x) :
    ∃ rs : List (List ByteArray), rs.length = len ∧ rs.length ≤ maxLen ∧ RowsAt w ao rs ∧ sized rs ∧ (ao = none → cap = 0) := by
  rcases open_slice1 ht ce h with ⟨hcs, _⟩ | ⟨a, len', cap', m, n, V, D, Pl, hcs, hb, hl, hm, hmm, _, hx⟩
  · simp at hcs; obtain ⟨rfl, rfl, rfl⟩ := hcs
    exact ⟨[], rfl, Nat.zero_le _, .inl rfl, (fun r hr => by cases hr), fun _ => rfl⟩
  · simp at hcs; obtain ⟨rfl, rfl, rfl⟩ := hcs
    simp only [if_true] at hmm
    have each : ∀ i, i < len → ∃ y : Option Addr × Nat × List ByteArray, V i = .slice y.1 y.2.2.length y.2.1 ∧ (StrRow w y.1 y.2.2 ∧ y.2.2.length ≤ y.2.1 ∧ (y.1 = none → y.2.1 = 0)) ∧ y.2.2.length ≤ maxLen ∧ ∀ c ∈ y.2.2, c.size ≤ maxLen := by
      intro i hi
      rcases open_strings he hq cq (hx i (by omega)).2 with ⟨h1, _⟩ | ⟨a', l', c', ss, h1, _, hl', hm', hz, _, hcell, hsz⟩
      · simp at h1
        exact ⟨(none, 0, []), h1, ⟨.inl rfl, Nat.le_refl _, fun _ => rfl⟩, Nat.zero_le _, fun c hc => by cases hc⟩
      · simp at h1
        simp only [if_true] at hz
        have hln : (ss.take l').length = l' := by rw [List.length_take]; omega
        exact ⟨(some a', c', ss.take l'), by simp only; rw [hln]; exact h1, ⟨row_of w a' l' ss hcell, by simp only; rw [hln]; exact hl', fun e => by cases e⟩, by simp only; rw [hln]; omega, fun c hc => hsz c (List.mem_of_mem_take hc)⟩
    obtain ⟨y, hy⟩ := choose_lt each
    refine ⟨(List.range len).map fun i => (y i).2.2, by simp, by simp; omega, ?_, ?_, fun h => by cases h⟩
    · by_cases h0 : len = 0
      · subst h0; exact .inl rfl
      · refine .inr ⟨a, rfl, ?_, fun i r hr => ?_⟩
        · have := block_lt_of_cell (hx 0 (by omega)).1
          rwa [add_block] at this
        · rw [List.getElem?_map] at hr
          obtain ⟨j, hj, rfl⟩ := Option.map_eq_some_iff.1 hr
          obtain ⟨hi, hij⟩ := List.getElem?_eq_some_iff.1 hj
          simp only [List.length_range] at hi
          rw [List.getElem_range] at hij
          subst hij
          obtain ⟨h1, h2, _⟩ := hy i hi
          exact ⟨(y i).1, ⟨(y i).2.1, h2.2⟩, by rw [(hx i (by omega)).1, h1], h2.1⟩
    · intro r hr
      obtain ⟨i, hi, rfl⟩ := List.mem_map.1 hr
      obtain ⟨_, _, h3, h4⟩ := hy i (List.mem_range.1 hi)
      exact ⟨h3, h4⟩
theorem u8_of (d : Int) (h : (Lit.int .u8 d).wf = true) : ∃ u : UInt8, d = (u.toNat : Int) := by
  simp [Lit.wf] at h
  have e1 : IntKind.u8.min = 0 := by decide
  have e2 : IntKind.u8.max = 255 := by decide
  refine ⟨UInt8.ofNat d.toNat, ?_⟩
  rw [UInt8.toNat_ofNat']
  omega
theorem open_cap {H : Type} {enc : TypeId × Value → H} {P : Program} {w : World} {base : Nat} {held : Bool} {t e : TypeId} {fuel : Nat} {ao : Option Addr} {len cap : Nat} {x : DataW H × List MemPlace} (ht : P.underlying t = some (.slice e)) (ce : P.cellsOf e = 1)
    (h : DataW.trod enc P w base (fun _ => true) held fuel t [.slice ao len cap] = some x) : len ≤ cap := by
  rcases open_slice1 ht ce h with ⟨hcs, _⟩ | ⟨a, len', cap', m, n, V, D, Pl, hcs, hb, hl, _⟩
  · simp at hcs; obtain ⟨rfl, rfl, rfl⟩ := hcs; exact Nat.le_refl _
  · simp at hcs; obtain ⟨rfl, rfl, rfl⟩ := hcs; exact hl
theorem weights_all {H : Type} {P : Program} {e : TypeId} {n : Nat} {d : DataW H} : ∀ {l : List (DataW H)}, d ∈ l → n ∈ d.weights P e → n ∈ DataW.weightsAll P e l := by
  intro l
  induction l with
  | nil => intro h; cases h
  | cons x r ih =>
    intro h hn
    rw [DataW.weightsAll]
    rcases List.mem_cons.1 h with rfl | h
    · exact List.mem_append_left _ hn
    · exact List.mem_append_right _ (ih h hn)
theorem weights_elem {H : Type} {P : Program} {t e : TypeId} {n : Nat} {d : DataW H} {elems spare : List (DataW H)} (hu : P.underlying t = some (.slice e)) (h : d ∈ elems) (hn : n ∈ d.weights P e) : n ∈ (DataW.slice elems spare).weights P t := by
  rw [DataW.weights]
  simp only [hu]
  exact List.mem_cons_of_mem _ (List.mem_append_left _ (weights_all h hn))
theorem open_reach {H : Type} {enc : TypeId × Value → H} {P : Program} {w : World} {base : Nat} {held : Bool} {t e q : TypeId} {fuel : Nat} {ao : Option Addr} {len cap : Nat} {x : DataW H × List MemPlace} (ht : P.underlying t = some (.slice e)) (he : P.underlying e = some (.slice q)) (hq : P.underlying q = some .string)
    (ce : P.cellsOf e = 1) (cq : P.cellsOf q = 1) (h : DataW.trod enc P w base (fun _ => true) held fuel t [.slice ao len cap] = some x) (hw : ∀ n ∈ x.1.weights P t, n ≤ reachBytes) :
    ∃ rs : List (List ByteArray), rs.length = len ∧ rs.length ≤ maxLen ∧ RowsAt w ao rs ∧ sized rs ∧ ∀ r ∈ rs, ∀ c ∈ r, c.size ≤ 140737488351232 := by
  rcases open_slice1 ht ce h with ⟨hcs, _⟩ | ⟨a, len', cap', m, n, V, D, Pl, hcs, hb, hl, hm, hmm, rfl, hx⟩
  · simp at hcs; obtain ⟨rfl, rfl, rfl⟩ := hcs
    exact ⟨[], rfl, Nat.zero_le _, .inl rfl, (fun r hr => by cases hr), fun r hr => by cases hr⟩
  · simp at hcs; obtain ⟨rfl, rfl, rfl⟩ := hcs
    simp only [if_true] at hmm
    have each : ∀ i, i < len → ∃ y : Option Addr × Nat × List ByteArray, V i = .slice y.1 y.2.2.length y.2.1 ∧ (StrRow w y.1 y.2.2 ∧ y.2.2.length ≤ y.2.1 ∧ (y.1 = none → y.2.1 = 0)) ∧ y.2.2.length ≤ maxLen ∧ (∀ c ∈ y.2.2, c.size ≤ maxLen) ∧ ∀ c ∈ y.2.2, c.size ≤ 140737488351232 := by
      intro i hi
      rcases open_strings he hq cq (hx i (by omega)).2 with ⟨h1, _⟩ | ⟨a', l', c', ss, h1, _, hl', hm', hz, hy, hcell, hsz⟩
      · simp at h1
        exact ⟨(none, 0, []), h1, ⟨.inl rfl, Nat.le_refl _, fun _ => rfl⟩, Nat.zero_le _, (fun c hc => by cases hc), fun c hc => by cases hc⟩
      · simp at h1
        simp only [if_true] at hz
        simp only [Prod.mk.injEq] at hy
        have hln : (ss.take l').length = l' := by rw [List.length_take]; omega
        refine ⟨(some a', c', ss.take l'), by simp only; rw [hln]; exact h1, ⟨row_of w a' l' ss hcell, by simp only; rw [hln]; exact hl', fun e => by cases e⟩, by simp only; rw [hln]; omega, fun c hc => hsz c (List.mem_of_mem_take hc), fun c hc => ?_⟩
        have hmem : c.data.toList.length ∈ (DataW.lit (H := H) (.string c.data.toList)).weights P q := by rw [DataW.weights]; exact List.mem_singleton.2 rfl
        have h2 : c.data.toList.length ∈ (D i).weights P e := by
          rw [hy.1]
          exact weights_elem he (List.mem_map.2 ⟨c, hc, rfl⟩) hmem
        have h3 := hw _ (weights_elem ht (List.mem_map.2 ⟨i, List.mem_range.2 hi, rfl⟩) h2)
        rw [ba_size] at h3
        exact h3
    obtain ⟨y, hy⟩ := choose_lt each
    refine ⟨(List.range len).map fun i => (y i).2.2, by simp, by simp; omega, ?_, ?_, ?_⟩
    · by_cases h0 : len = 0
      · subst h0; exact .inl rfl
      · refine .inr ⟨a, rfl, ?_, fun i r hr => ?_⟩
        · have := block_lt_of_cell (hx 0 (by omega)).1
          rwa [add_block] at this
        · rw [List.getElem?_map] at hr
          obtain ⟨j, hj, rfl⟩ := Option.map_eq_some_iff.1 hr
          obtain ⟨hi, hij⟩ := List.getElem?_eq_some_iff.1 hj
          simp only [List.length_range] at hi
          rw [List.getElem_range] at hij
          subst hij
          obtain ⟨h1, h2, _⟩ := hy i hi
          exact ⟨(y i).1, ⟨(y i).2.1, h2.2⟩, by rw [(hx i (by omega)).1, h1], h2.1⟩
    · intro r hr
      obtain ⟨i, hi, rfl⟩ := List.mem_map.1 hr
      obtain ⟨_, _, h3, h4, _⟩ := hy i (List.mem_range.1 hi)
      exact ⟨h3, h4⟩
    · intro r hr
      obtain ⟨i, hi, rfl⟩ := List.mem_map.1 hr
      exact (hy i (List.mem_range.1 hi)).2.2.2.2
/-- the values that stand in the cells of a slice of records -/
def Heads (w : World) (ao : Option Addr) (rs : List (List ByteArray)) (hs : List Value) : Prop :=
  hs.length = rs.length ∧ (∀ A, ao = some A → ∀ (j : Nat) u, hs[j]? = some u → w.cell? (A.add j) = some u) ∧ ∀ (j : Nat) r, rs[j]? = some r → ∃ (ro : Option Addr) (c : Cap ro r.length), hs[j]? = some (.slice ro r.length c.1) ∧ StrRow w ro r
theorem heads_of (w : World) (ao : Option Addr) (rs : List (List ByteArray)) (h : RowsAt w ao rs) : ∃ hs, Heads w ao rs hs := by
  rcases h with rfl | ⟨A, rfl, hA, hcell⟩
  · exact ⟨[], rfl, (fun A _ j u hu => by simp at hu), fun j r hr => by simp at hr⟩
  · obtain ⟨y, hy⟩ := Go.Deep.choose_lt (n := rs.length) (p := fun i (y : Option Addr × Nat) => ∀ r, rs[i]? = some r → w.cell? (A.add i) = some (.slice y.1 r.length y.2) ∧ StrRow w y.1 r ∧ r.length ≤ y.2 ∧ (y.1 = none → y.2 = 0)) (fun i hi => by
      obtain ⟨ro, c, h1, h2⟩ := hcell i rs[i] (List.getElem?_eq_getElem hi)
      refine ⟨(ro, c), fun r hr => ?_⟩
      rw [List.getElem?_eq_getElem hi] at hr; cases hr
      exact ⟨h1, h2, c.2⟩)
    have key : ∀ i, i < rs.length → ((List.range rs.length).map fun i => Value.slice (y i).1 (rs.getD i []).length (y i).2)[i]? = some (.slice (y i).1 (rs.getD i []).length (y i).2) := fun i hi => by
      rw [List.getElem?_map, List.getElem?_range hi]; rfl
    refine ⟨(List.range rs.length).map fun i => .slice (y i).1 (rs.getD i []).length (y i).2, by simp, fun A' hA' j u hu => ?_, fun j r hr => ?_⟩
    · cases hA'
      have hj : j < rs.length := by have := (List.getElem?_eq_some_iff.1 hu).1; simpa using this
      rw [key j hj] at hu; cases hu
      have h1 := (hy j hj rs[j] (List.getElem?_eq_getElem hj)).1
      rw [h1, List.getD_eq_getElem?_getD, List.getElem?_eq_getElem hj]; rfl
    · obtain ⟨hj, _⟩ := List.getElem?_eq_some_iff.1 hr
      refine ⟨(y j).1, ⟨(y j).2, (hy j hj r hr).2.2⟩, ?_, (hy j hj r hr).2.1⟩
      rw [key j hj, List.getD_eq_getElem?_getD, hr]; rfl
theorem Heads.one {w : World} {ao : Option Addr} {rs : List (List ByteArray)} {hs : List Value} (h : Heads w ao rs hs) : ∀ u ∈ hs, u.oneCell' = true := fun u hu => by
  obtain ⟨i, hi, rfl⟩ := List.getElem_of_mem hu
  have hi2 : i < rs.length := by rw [← h.1]; exact hi
  obtain ⟨ro, c, h1, _⟩ := h.2.2 i rs[i] (List.getElem?_eq_getElem hi2)
  rw [List.getElem?_eq_getElem hi] at h1
  rw [Option.some.inj h1]; rfl
theorem Heads.kept {w w' : World} {ao : Option Addr} {rs : List (List ByteArray)} {hs : List Value} (h : Heads w ao rs hs) (hR : RowsAt w ao rs) (hB : Below w.heap.size w w') : Heads w' ao rs hs := by
  refine ⟨h.1, fun A hA j u hu => ?_, fun j r hr => ?_⟩
  · rcases hR with rfl | ⟨A', hA', hlt, _⟩
    · have h0 : hs = [] := List.eq_nil_of_length_eq_zero h.1
      rw [h0] at hu; simp at hu
    · subst hA; cases hA'
      exact (hB.cell (p := A.add j) (by rw [add_block]; exact hlt)).trans (h.2.1 A rfl j u hu)
  · obtain ⟨ro, c, h1, h2⟩ := h.2.2 j r hr
    exact ⟨ro, c, h1, h2.kept hB⟩
theorem heads_join {w : World} {ao bo : Option Addr} {rs ss : List (List ByteArray)} {hs ks : List Value} (h : Heads w ao rs hs) (k : Heads w bo ss ks) {base : Nat} {T : TypeId} {v : Value} {n : Nat} (ho : w.ownsRow base T 1 v n (hs ++ ks)) :
    ∃ co cap, v = .slice co (rs ++ ss).length cap ∧ RowsAt w co (rs ++ ss) := by
  have hlen : n = (rs ++ ss).length := by have := ho.1; simp [h.1, k.1] at this ⊢; omega
  obtain ⟨co, cap, rfl⟩ := own_slice ho
  refine ⟨co, cap, by rw [hlen], ?_⟩
  rcases ho.2 with ⟨hv, h0⟩ | ⟨g, cap', cur, hv, _⟩
  · exact .inl (List.eq_nil_of_length_eq_zero (by omega))
  · cases hv
    refine .inr ⟨_, rfl, (ho.lt g rfl).2, fun i r hr => ?_⟩
    by_cases hi : i < rs.length
    · rw [List.getElem?_append_left hi] at hr
      obtain ⟨ro, c, h1, h2⟩ := h.2.2 i r hr
      exact ⟨ro, c, ho.cells rfl i _ (by rw [List.getElem?_append_left (by rw [h.1]; exact hi)]; exact h1), h2⟩
    · rw [List.getElem?_append_right (by omega)] at hr
      obtain ⟨ro, c, h1, h2⟩ := k.2.2 (i - rs.length) r hr
      exact ⟨ro, c, ho.cells rfl i _ (by rw [List.getElem?_append_right (by rw [h.1]; omega), h.1]; exact h1), h2⟩
/-- an append of a slice that may be nil -/
theorem wpList_append_any {P : Program} {w : World} {ops : Array Oper} {rest : List Oper} {o : Oper} {a : Act} {Q : Exit → Act → World → Prop} (hgd : o.guard = none) (s x : Operand) (t : TypeId)
    (ho : o.op = .call { callee := .builtin .append, args := #[s, x], argTypes := #[t, t] })
    (base : Nat) (e : TypeId) (i : TypeInfo) (z : Value) (size bytes : Nat) (ht : P.underlying t = some (.slice e)) (hi : P.info? e = some i) (hz : i.zero = some z)
    (hsize : i.size = size) (hby : i.bytes = bytes) (hzs : z.cells.size = size) (hsz : 0 < size)
    (v : Value) (n : Nat) (xs : List Value) (hs : a.eval s = v) (hown : w.ownsRow base e size v n xs)
    (xo : Option Addr) (m c : Nat) (news : List Value) (hx : a.eval x = .slice xo m c) (hnone : xo = none → m = 0 ∧ c = 0) (hl : news.length = m * size) (hnews : ∀ ad, xo = some ad → ∀ (j : Nat) u, news[j]? = some u → w.cell? (ad.add j) = some u) (h1 : ∀ u ∈ news, u.oneCell' = true)
    (h63 : n + m ≤ maxLen) (hbytes : (n + m) * bytes ≤ 140737488355328) (hbase : base ≤ w.heap.size)
    (h : ∀ v' w', w'.ownsRow base e size v' (n + m) (xs ++ news) → w.grownBy w' v.ownBlock → wpList P ops Q rest (a.put o.dst v') w') : wpList P ops Q (o :: rest) a w := by
  cases xo with
  | none =>
    obtain ⟨rfl, rfl⟩ := hnone rfl
    have hnil : news = [] := List.eq_nil_of_length_eq_zero (by rw [hl]; simp)
    subst hnil
    refine wpList_append_own_none hgd s x t ho base e i size ht hi v n xs hs hown hx (h v w (by simpa using hown) ⟨rfl, rfl, rfl, Nat.le_refl _, fun _ _ _ => rfl⟩)
  | some ad => exact wpList_append_own w hgd s x t ho base e i z size bytes ht hi hz hsize hby hzs hsz v n xs hs hown ad m c news hx hl (hnews ad rfl) h1 h63 hbytes hbase (fun v' w' h2 h3 _ => h v' w' h2 h3)
end Go.Proofs.YtmomjhnbhckhpaaDoor
