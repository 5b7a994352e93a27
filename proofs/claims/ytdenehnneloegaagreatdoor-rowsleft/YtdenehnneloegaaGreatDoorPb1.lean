/-
  Texts of these rows' proofs, laid one behind the other: TBase, CsvRange, TTexts.
  Conditions: those of each theorem.
-/
import Derived.RangeFuncNested
import Derived.RangeFuncBound
import Derived.RangeFuncCalls
import Derived.RangeFuncLeaves
import Derived.RangeFuncFrom
import Derived.RangeFuncBox
import Derived.Shelf.Abstract
import Derived.Shelf.RegionOpen
import Derived.WalkKit
import Derived.WalkMore
import Derived.OwnWalkIn
import Derived.TacticsInMore
import Derived.LoopNIn
import Derived.LoopIn
import Derived.RegionTactic
import Derived.ChangeAlike
import Derived.BigQuiet
import Derived.Deep.QuietTactic
import Derived.Lib.QuietBelow
import Derived.Lib.Hide
import Derived.Deep.Slices
import Derived.Laws.AppendOwn
import Derived.Laws.AppendOwnNone
import Derived.SliceStrings
import Derived.Lib.Builder
import Derived.SizedLaws
import Derived.Test.YtdenehnneloegaaGreatDoorProg
namespace Go.Proofs.YtdenehnneloegaaGreatDoor
open Go.RowKit Go.Shelf
theorem ba_toList (s : ByteArray) : s.toList = s.data.toList := by
  obtain ⟨⟨l⟩⟩ := s
  exact ByteArray.toList_mk l
theorem ba_size (s : ByteArray) : s.data.toList.length = s.size := by simp
theorem ba_eq {a b : ByteArray} (h : a.data.toList = b.data.toList) : a = b := by
  obtain ⟨⟨a⟩⟩ := a; obtain ⟨⟨b⟩⟩ := b; simp at h; rw [h]
theorem ba_mk_size (l : List UInt8) : (⟨l.toArray⟩ : ByteArray).size = l.length := by simp [ByteArray.size]
theorem ret_str {a b : ByteArray} (h : a.data.toList = b.data.toList) : Ending.returned (.string a) = .returned (.string b) := by rw [ba_eq h]
theorem add_block (A : Addr) (j : Nat) : (A.add j).block = A.block := by unfold Addr.add; split <;> rfl
theorem two_new (w : World) (o p : Obj) : ((w.alloc o).alloc p).heap.size = w.heap.size + 2 ∧ ((w.alloc o).alloc p).heap[w.heap.size]? = some o ∧ ((w.alloc o).alloc p).heap[w.heap.size + 1]? = some p := by
  refine ⟨by simp, ?_, ?_⟩
  · rw [Below.heap_alloc _ _ _ (by simp)]; exact World.alloc_heap_new w o
  · have := World.alloc_heap_new (w.alloc o) p
    simpa using this
theorem two_below (w : World) (o p : Obj) : Below w.heap.size w ((w.alloc o).alloc p) := ((Below.refl _ w).alloc (Nat.le_refl _) o).alloc (by simp) p
def bytesOf (xs : List ByteArray) : List (List UInt8) := xs.map fun c => c.data.toList
/-- the cells of a slice of strings -/
def StrRow (w : World) (ao : Option Addr) (xs : List ByteArray) : Prop := xs = [] ∨ ∃ A, ao = some A ∧ A.block < w.heap.size ∧ ∀ i c, xs[i]? = some c → w.cell? (A.add i) = some (.string c)
theorem StrRow.kept {w w' : World} {ao : Option Addr} {xs : List ByteArray} (h : StrRow w ao xs) (hB : Below w.heap.size w w') : StrRow w' ao xs := by
  rcases h with h | ⟨A, h1, h2, h3⟩
  · exact .inl h
  · exact .inr ⟨A, h1, Nat.lt_of_lt_of_le h2 hB.size, fun i c hc => (hB.cell (p := A.add i) (by rw [add_block]; exact h2)).trans (h3 i c hc)⟩
theorem below_up {a b c : World} (h : Below a.heap.size a b) (k : Below b.heap.size b c) : Below a.heap.size a c := h.trans (k.mono h.size)
theorem box_new (w : World) (o : Obj) (k : Nat) (h : k = w.heap.size) : (w.alloc o).heap[k]? = some o := by subst h; exact World.alloc_heap_new w o
theorem cell_row {W : World} {g : Nat} {cs : Array Value} {T : TypeId} {fr : Nat × Nat} (h : W.heap[g]? = some (.cells cs T fr)) (j : Nat) : W.cell? ((⟨g, 0, none⟩ : Addr).add j) = cs[j]? := by
  have e : (⟨g, 0, none⟩ : Addr).add j = ⟨g, j, none⟩ := by unfold Addr.add; split <;> simp_all
  rw [e]; exact Lib.cell_of_heap h j
theorem lt_of_heap {W : World} {g : Nat} {o : Obj} (h : W.heap[g]? = some o) : g < W.heap.size := by
  rcases Nat.lt_or_ge g W.heap.size with h' | h'
  · exact h'
  · simp [Array.getElem?_eq_none h'] at h
theorem cell_of_box_l {W : World} {B : Nat} {v : Value} {t : TypeId} (h : W.heap[B]? = some (.cells #[v] t (0, 0))) : W.cell? ⟨B, 0, none⟩ = some v ∧ W.frozen? ⟨B, 0, none⟩ = false := by
  constructor <;> simp [World.cell?, World.frozen?, h]
theorem cell_new_l (W : World) (v : Value) (t : TypeId) : (W.alloc (.cells #[v] t)).cell? ⟨W.heap.size, 0, none⟩ = some v ∧ (W.alloc (.cells #[v] t)).frozen? ⟨W.heap.size, 0, none⟩ = false :=
  cell_of_box_l (World.alloc_heap_new W _)
theorem cell_alloc_l {W : World} {a : Addr} {v : Value} (o : Obj) (h : W.cell? a = some v) : (W.alloc o).cell? a = some v := cell_kept h (World.grownBy_alloc W o none) (fun r e => by cases e)
theorem frozen_alloc_l {W : World} {a : Addr} {v : Value} (o : Obj) (h : W.cell? a = some v) (hf : W.frozen? a = false) : (W.alloc o).frozen? a = false := (frozen_kept h (World.grownBy_alloc W o none) (fun r e => by cases e)).trans hf
/-- how much room a slice may have: none, if it is nil -/
abbrev Cap (ao : Option Addr) (n : Nat) := {c : Nat // n ≤ c ∧ (ao = none → c = 0)}
/-- the records behind a slice of slices of strings -/
def RowsAt (w : World) (ao : Option Addr) (rs : List (List ByteArray)) : Prop :=
  rs = [] ∨ ∃ A, ao = some A ∧ A.block < w.heap.size ∧ ∀ i r, rs[i]? = some r → ∃ (ro : Option Addr) (cap : Cap ro r.length), w.cell? (A.add i) = some (.slice ro r.length cap.1) ∧ StrRow w ro r
theorem RowsAt.kept {w w' : World} {ao : Option Addr} {rs : List (List ByteArray)} (h : RowsAt w ao rs) (hB : Below w.heap.size w w') : RowsAt w' ao rs := by
  rcases h with h | ⟨A, h1, h2, h3⟩
  · exact .inl h
  · refine .inr ⟨A, h1, Nat.lt_of_lt_of_le h2 hB.size, fun i r hr => ?_⟩
    obtain ⟨ro, cap, h4, h5⟩ := h3 i r hr
    exact ⟨ro, cap, (hB.cell (p := A.add i) (by rw [add_block]; exact h2)).trans h4, h5.kept hB⟩
/-- the first place, from k on, of which something is so; -1: none -/
def firstAt {α : Type} (p : α → Bool) (l : List α) : Int := match l.findIdx? p with | some i => (i : Int) | none => -1
theorem any_at {α : Type} (p : α → Bool) (l : List α) : decide (0 ≤ firstAt p l) = l.any p := by
  unfold firstAt
  cases h : l.findIdx? p with
  | none =>
    have := List.findIdx?_eq_none_iff.1 h
    rw [List.any_eq_false.2 (fun x hx => by have := this x hx; simp [this])]; rfl
  | some i =>
    obtain ⟨hi, h1, _⟩ := List.findIdx?_eq_some_iff_getElem.1 h
    rw [List.any_eq_true.2 ⟨l[i], List.getElem_mem hi, h1⟩]
    exact decide_eq_true (show (0 : Int) ≤ (i : Int) by omega)
theorem firstAt_none {α : Type} (p : α → Bool) (l : List α) (h : ∀ (j : Nat) (c : α), l[j]? = some c → p c = false) : firstAt p l = -1 := by
  unfold firstAt
  rw [List.findIdx?_eq_none_iff.2 (fun x hx => by
    obtain ⟨i, hi, rfl⟩ := List.getElem_of_mem hx
    have := h i l[i] (List.getElem?_eq_getElem hi)
    simpa using this)]
theorem firstAt_some {α : Type} (p : α → Bool) (l : List α) (k : Nat) (c : α) (hc : l[k]? = some c) (hp : p c = true) (h : ∀ (j : Nat) (c : α), j < k → l[j]? = some c → p c = false) : firstAt p l = (k : Int) := by
  unfold firstAt
  obtain ⟨hk, e⟩ := List.getElem?_eq_some_iff.1 hc
  rw [List.findIdx?_eq_some_iff_getElem.2 ⟨hk, by rw [e]; exact hp, fun j hj => by
    have := h j l[j] hj (List.getElem?_eq_getElem (by omega))
    simpa using this⟩]
theorem own_slice {w : World} {base : Nat} {e : TypeId} {size : Nat} {v : Value} {n : Nat} {xs : List Value} (h : w.ownsRow base e size v n xs) : ∃ ao cap, v = .slice ao n cap := by
  rcases h.2 with ⟨rfl, rfl⟩ | ⟨g, cap, cur, rfl, _⟩
  · exact ⟨_, _, rfl⟩
  · exact ⟨_, _, rfl⟩
theorem new_cell (w : World) (cs : Array Value) (T : TypeId) (i : Nat) : (w.alloc (.cells cs T)).cell? ((⟨w.heap.size, 0, none⟩ : Addr).add i) = cs[i]? := cell_row (World.alloc_heap_new w _) i
/-- a slice literal of strings -/
theorem new_row (w : World) (xs : List ByteArray) (T : TypeId) : StrRow (w.alloc (.cells (xs.map Value.string).toArray T)) (some ⟨w.heap.size, 0, none⟩) xs :=
  .inr ⟨_, rfl, by simp, fun i c hc => by rw [new_cell]; simp [hc]⟩
theorem rows_two (w : World) (ro so : Option Addr) (r s : List ByteArray) (c1 : Cap ro r.length) (c2 : Cap so s.length) (T : TypeId) (h : StrRow w ro r) (k : StrRow w so s) : RowsAt (w.alloc (.cells #[.slice ro r.length c1.1, .slice so s.length c2.1] T)) (some ⟨w.heap.size, 0, none⟩) [r, s] := by
  have hB : Below w.heap.size w (w.alloc (.cells #[.slice ro r.length c1.1, .slice so s.length c2.1] T)) := (Below.refl _ w).alloc (Nat.le_refl _) _
  refine .inr ⟨_, rfl, by simp, fun i x hx => ?_⟩
  match i, hx with
  | 0, hx => simp at hx; subst hx; exact ⟨ro, c1, by rw [new_cell]; rfl, h.kept hB⟩
  | 1, hx => simp at hx; subst hx; exact ⟨so, c2, by rw [new_cell]; rfl, k.kept hB⟩
def rowTot (r : List ByteArray) : Nat := (r.map fun c => c.size + 1).sum
def tot (rs : List (List ByteArray)) : Nat := (rs.map rowTot).sum
def fewP (rs : List (List ByteArray)) : Prop := rs.length ≤ 60 ∧ (∀ r ∈ rs, r.length ≤ 60) ∧ tot rs ≤ 8000
theorem rowTot_next (r : List ByteArray) (j : Nat) (c : ByteArray) (h : r[j]? = some c) : rowTot (r.take (j + 1)) = rowTot (r.take j) + (c.size + 1) := by
  obtain ⟨hk, e⟩ := List.getElem?_eq_some_iff.1 h
  rw [List.take_succ_eq_append_getElem hk, e]; simp [rowTot]
theorem tot_next (rs : List (List ByteArray)) (k : Nat) (r : List ByteArray) (h : rs[k]? = some r) : tot (rs.take (k + 1)) = tot (rs.take k) + rowTot r := by
  obtain ⟨hk, e⟩ := List.getElem?_eq_some_iff.1 h
  rw [List.take_succ_eq_append_getElem hk, e]; simp [tot]
end Go.Proofs.YtdenehnneloegaaGreatDoor
namespace Go.Proofs.YtdenehnneloegaaGreatDoor
open Go.RowKit Go.Shelf Go.ChangeShapes Go.WideShapes Go.Deep
theorem row_of (W : World) (a : Addr) (len : Nat) (ss : List ByteArray) (hcell : ∀ i, i < ss.length → W.cell? (a.add i) = some (.string (ss.getD i ByteArray.empty))) : StrRow W (some a) (ss.take len) := by
  by_cases h0 : ss.take len = []
  · exact .inl h0
  · have hp : 0 < ss.length := by
      rcases Nat.eq_zero_or_pos ss.length with h | h
      · exact absurd (by simp [List.eq_nil_of_length_eq_zero h]) h0
      · exact h
    refine .inr ⟨a, rfl, ?_, fun i c hc => ?_⟩
    · have h := block_lt_of_cell (hcell 0 hp)
      rwa [add_block] at h
    · have hc' : ss[i]? = some c := by
        rw [List.getElem?_take] at hc
        split at hc
        · exact hc
        · cases hc
      obtain ⟨hi, e⟩ := List.getElem?_eq_some_iff.1 hc'
      rw [hcell i hi, List.getD_eq_getElem?_getD, hc']; rfl
/-- the cells of records are Go strings, the records Go slices -/
def sized (rs : List (List ByteArray)) : Prop := ∀ r ∈ rs, r.length ≤ maxLen ∧ ∀ c ∈ r, c.size ≤ maxLen
theorem open_rows {H : Type} {enc : TypeId × Value → H} {P : Program} {w : World} {base : Nat} {held : Bool} {t e q : TypeId} {fuel : Nat} {ao : Option Addr} {len cap : Nat} {x : DataW H × List MemPlace} (ht : P.underlying t = some (.slice e)) (he : P.underlying e = some (.slice q)) (hq : P.underlying q = some .string)
    (ce : P.cellsOf e = 1) (cq : P.cellsOf q = 1) (h : DataW.trod enc P w base (fun _ => true) held fuel t [.slice ao len cap] = some x) :
    ∃ rs : List (List ByteArray), rs.length = len ∧ rs.length ≤ maxLen ∧ RowsAt w ao rs ∧ sized rs ∧ (ao = none → cap = 0) := by
  rcases open_slice1 ht ce h with ⟨hcs, _⟩ | ⟨a, len', cap', m, n, V, D, Pl, hcs, hb, hl, hm, hmm, _, hx⟩
  · simp at hcs; obtain ⟨rfl, rfl, rfl⟩ := hcs
    exact ⟨[], rfl, Nat.zero_le _, .inl rfl, (fun r hr => by cases hr), fun _ => rfl⟩
  · simp at hcs; obtain ⟨rfl, rfl, rfl⟩ := hcs
    simp only [if_true] at hmm
    have each : ∀ i, i < len → ∃ y : Option Addr × Nat × List ByteArray, V i = .slice y.1 y.2.2.length y.2.1 ∧ (StrRow w y.1 y.2.2 ∧ y.2.2.length ≤ y.2.1 ∧ (y.1 = none → y.2.1 = 0)) ∧ y.2.2.length ≤ maxLen ∧ ∀ c ∈ y.2.2, c.size ≤ maxLen := by
      intro i hi
      rcases open_strings he hq cq (hx i (by omega)).2 with ⟨h1, _⟩ | ⟨a', l', c', ss, h1, _, hl', hm', hz, _, hcell, hsz⟩
      · simp at h1
        exact ⟨(none, 0, []), h1, ⟨.inl rfl, Nat.le_refl _, fun _ => rfl⟩, Nat.zero_le _, fun c hc => by cases hc⟩
      · simp at h1
        simp only [if_true] at hz
        have hln : (ss.take l').length = l' := by rw [List.length_take]; omega
        exact ⟨(some a', c', ss.take l'), by simp only; rw [hln]; exact h1, ⟨row_of w a' l' ss hcell, by simp only; rw [hln]; exact hl', fun e => by cases e⟩, by simp only; rw [hln]; omega, fun c hc => hsz c (List.mem_of_mem_take hc)⟩
    obtain ⟨y, hy⟩ := choose_lt each
    refine ⟨(List.range len).map fun i => (y i).2.2, by simp, by simp; omega, ?_, ?_, fun h => by cases h⟩
    · by_cases h0 : len = 0
      · subst h0; exact .inl rfl
      · refine .inr ⟨a, rfl, ?_, fun i r hr => ?_⟩
        · have := block_lt_of_cell (hx 0 (by omega)).1
          rwa [add_block] at this
        · rw [List.getElem?_map] at hr
          obtain ⟨j, hj, rfl⟩ := Option.map_eq_some_iff.1 hr
          obtain ⟨hi, hij⟩ := List.getElem?_eq_some_iff.1 hj
          simp only [List.length_range] at hi
          rw [List.getElem_range] at hij
          subst hij
          obtain ⟨h1, h2, _⟩ := hy i hi
          exact ⟨(y i).1, ⟨(y i).2.1, h2.2⟩, by rw [(hx i (by omega)).1, h1], h2.1⟩
    · intro r hr
      obtain ⟨i, hi, rfl⟩ := List.mem_map.1 hr
      obtain ⟨_, _, h3, h4⟩ := hy i (List.mem_range.1 hi)
      exact ⟨h3, h4⟩
theorem weights_all {H : Type} {P : Program} {e : TypeId} {n : Nat} {d : DataW H} : ∀ {l : List (DataW H)}, d ∈ l → n ∈ d.weights P e → n ∈ DataW.weightsAll P e l := by
  intro l
  induction l with
  | nil => intro h; cases h
  | cons x r ih =>
    intro h hn
    rw [DataW.weightsAll]
    rcases List.mem_cons.1 h with rfl | h
    · exact List.mem_append_left _ hn
    · exact List.mem_append_right _ (ih h hn)
theorem weights_elem {H : Type} {P : Program} {t e : TypeId} {n : Nat} {d : DataW H} {elems spare : List (DataW H)} (hu : P.underlying t = some (.slice e)) (h : d ∈ elems) (hn : n ∈ d.weights P e) : n ∈ (DataW.slice elems spare).weights P t := by
  rw [DataW.weights]
  simp only [hu]
  exact List.mem_cons_of_mem _ (List.mem_append_left _ (weights_all h hn))
theorem open_reach {H : Type} {enc : TypeId × Value → H} {P : Program} {w : World} {base : Nat} {held : Bool} {t e q : TypeId} {fuel : Nat} {ao : Option Addr} {len cap : Nat} {x : DataW H × List MemPlace} (ht : P.underlying t = some (.slice e)) (he : P.underlying e = some (.slice q)) (hq : P.underlying q = some .string)
    (ce : P.cellsOf e = 1) (cq : P.cellsOf q = 1) (h : DataW.trod enc P w base (fun _ => true) held fuel t [.slice ao len cap] = some x) (hw : ∀ n ∈ x.1.weights P t, n ≤ reachBytes) :
    ∃ rs : List (List ByteArray), rs.length = len ∧ rs.length ≤ maxLen ∧ RowsAt w ao rs ∧ sized rs ∧ ∀ r ∈ rs, ∀ c ∈ r, c.size ≤ 140737488351232 := by
  rcases open_slice1 ht ce h with ⟨hcs, _⟩ | ⟨a, len', cap', m, n, V, D, Pl, hcs, hb, hl, hm, hmm, rfl, hx⟩
  · simp at hcs; obtain ⟨rfl, rfl, rfl⟩ := hcs
    exact ⟨[], rfl, Nat.zero_le _, .inl rfl, (fun r hr => by cases hr), fun r hr => by cases hr⟩
  · simp at hcs; obtain ⟨rfl, rfl, rfl⟩ := hcs
    simp only [if_true] at hmm
    have each : ∀ i, i < len → ∃ y : Option Addr × Nat × List ByteArray, V i = .slice y.1 y.2.2.length y.2.1 ∧ (StrRow w y.1 y.2.2 ∧ y.2.2.length ≤ y.2.1 ∧ (y.1 = none → y.2.1 = 0)) ∧ y.2.2.length ≤ maxLen ∧ (∀ c ∈ y.2.2, c.size ≤ maxLen) ∧ ∀ c ∈ y.2.2, c.size ≤ 140737488351232 := by
      intro i hi
      rcases open_strings he hq cq (hx i (by omega)).2 with ⟨h1, _⟩ | ⟨a', l', c', ss, h1, _, hl', hm', hz, hy, hcell, hsz⟩
      · simp at h1
        exact ⟨(none, 0, []), h1, ⟨.inl rfl, Nat.le_refl _, fun _ => rfl⟩, Nat.zero_le _, (fun c hc => by cases hc), fun c hc => by cases hc⟩
      · simp at h1
        simp only [if_true] at hz
        simp only [Prod.mk.injEq] at hy
        have hln : (ss.take l').length = l' := by rw [List.length_take]; omega
        refine ⟨(some a', c', ss.take l'), by simp only; rw [hln]; exact h1, ⟨row_of w a' l' ss hcell, by simp only; rw [hln]; exact hl', fun e => by cases e⟩, by simp only; rw [hln]; omega, fun c hc => hsz c (List.mem_of_mem_take hc), fun c hc => ?_⟩
        have hmem : c.data.toList.length ∈ (DataW.lit (H := H) (.string c.data.toList)).weights P q := by rw [DataW.weights]; exact List.mem_singleton.2 rfl
        have h2 : c.data.toList.length ∈ (D i).weights P e := by
          rw [hy.1]
          exact weights_elem he (List.mem_map.2 ⟨c, hc, rfl⟩) hmem
        have h3 := hw _ (weights_elem ht (List.mem_map.2 ⟨i, List.mem_range.2 hi, rfl⟩) h2)
        rw [ba_size] at h3
        exact h3
    obtain ⟨y, hy⟩ := choose_lt each
    refine ⟨(List.range len).map fun i => (y i).2.2, by simp, by simp; omega, ?_, ?_, ?_⟩
    · by_cases h0 : len = 0
      · subst h0; exact .inl rfl
      · refine .inr ⟨a, rfl, ?_, fun i r hr => ?_⟩
        · have := block_lt_of_cell (hx 0 (by omega)).1
          rwa [add_block] at this
        · rw [List.getElem?_map] at hr
          obtain ⟨j, hj, rfl⟩ := Option.map_eq_some_iff.1 hr
          obtain ⟨hi, hij⟩ := List.getElem?_eq_some_iff.1 hj
          simp only [List.length_range] at hi
          rw [List.getElem_range] at hij
          subst hij
          obtain ⟨h1, h2, _⟩ := hy i hi
          exact ⟨(y i).1, ⟨(y i).2.1, h2.2⟩, by rw [(hx i (by omega)).1, h1], h2.1⟩
    · intro r hr
      obtain ⟨i, hi, rfl⟩ := List.mem_map.1 hr
      obtain ⟨_, _, h3, h4, _⟩ := hy i (List.mem_range.1 hi)
      exact ⟨h3, h4⟩
    · intro r hr
      obtain ⟨i, hi, rfl⟩ := List.mem_map.1 hr
      exact (hy i (List.mem_range.1 hi)).2.2.2.2
/-- an append of a slice that may be nil -/
theorem wpList_append_any {P : Program} {w : World} {ops : Array Oper} {rest : List Oper} {o : Oper} {a : Act} {Q : Exit → Act → World → Prop} (hgd : o.guard = none) (s x : Operand) (t : TypeId)
    (ho : o.op = .call { callee := .builtin .append, args := #[s, x], argTypes := #[t, t] })
    (base : Nat) (e : TypeId) (i : TypeInfo) (z : Value) (size bytes : Nat) (ht : P.underlying t = some (.slice e)) (hi : P.info? e = some i) (hz : i.zero = some z)
    (hsize : i.size = size) (hby : i.bytes = bytes) (hzs : z.cells.size = size) (hsz : 0 < size)
    (v : Value) (n : Nat) (xs : List Value) (hs : a.eval s = v) (hown : w.ownsRow base e size v n xs)
    (xo : Option Addr) (m c : Nat) (news : List Value) (hx : a.eval x = .slice xo m c) (hnone : xo = none → m = 0 ∧ c = 0) (hl : news.length = m * size) (hnews : ∀ ad, xo = some ad → ∀ (j : Nat) u, news[j]? = some u → w.cell? (ad.add j) = some u) (h1 : ∀ u ∈ news, u.oneCell' = true)
    (h63 : n + m ≤ maxLen) (hbytes : (n + m) * bytes ≤ 140737488355328) (hbase : base ≤ w.heap.size)
    (h : ∀ v' w', w'.ownsRow base e size v' (n + m) (xs ++ news) → w.grownBy w' v.ownBlock → wpList P ops Q rest (a.put o.dst v') w') : wpList P ops Q (o :: rest) a w := by
  cases xo with
  | none =>
    obtain ⟨rfl, rfl⟩ := hnone rfl
    have hnil : news = [] := List.eq_nil_of_length_eq_zero (by rw [hl]; simp)
    subst hnil
    refine wpList_append_own_none hgd s x t ho base e i size ht hi v n xs hs hown hx (h v w (by simpa using hown) ⟨rfl, rfl, rfl, Nat.le_refl _, fun _ _ _ => rfl⟩)
  | some ad => exact wpList_append_own w hgd s x t ho base e i z size bytes ht hi hz hsize hby hzs hsz v n xs hs hown ad m c news hx hl (hnews ad rfl) h1 h63 hbytes hbase (fun v' w' h2 h3 _ => h v' w' h2 h3)
end Go.Proofs.YtdenehnneloegaaGreatDoor
namespace Go.Proofs.YtdenehnneloegaaGreatDoor
open Go.RowKit
section
variable {α : Type} {F : Fence} {n : Nat} {P : Program}
/-- what is said of a world stands where memory was only added -/
def Stays (J : List α → World → Prop) : Prop := ∀ pre A B, J pre A → Below A.heap.size A B → J pre B
/-- .. and where a block that is no cells turned, at or behind b -/
def Apart (b : Nat) (J : World → Prop) : Prop := ∀ A l o o', J A → b ≤ l → A.heap[l]? = some o → o.isCells = false → J (A.putObj l o')
def Tells (F : Fence) (n : Nat) (P : Program) (gf : Nat) (lb : Array Value) (encs : α → Array Value) (Kp : World → World → Prop) (Ok : List α → α → World → Prop) (Rm : List α → World → Prop) (S Sp : List α → Prop) (w : World) : Prop :=
  ∀ (l : Nat) (J Jx : List α → World → Prop) (W : World), Below w.heap.size w W → Stays J → Stays Jx → (∀ pre A, J pre A → Rm pre A) →
    (∀ pre x W1, J pre W1 → Ok pre x W1 → YieldAt F (n - 1) P l (encs x) W1 fun e W' => (e = .returned (.bool true) ∧ J (pre ++ [x]) W' ∧ Kp W1 W') ∨ (e = .returned (.bool false) ∧ Jx (pre ++ [x]) W')) →
    J [] W → CallsIn F n P gf (#[.func (.yield l) #[] #[]] ++ lb) W fun e W' => (∃ v, e = .returned v) ∧ ((∃ xs, S xs ∧ J xs W') ∨ (∃ pre, Sp pre ∧ Jx pre W'))
/-- how a round may end -/
def roundEnds (Kp : World → World → Prop) (I Ix : List α → World → Prop) (pre : List α) (x : α) (W : World) : Exit → Act → World → Prop
  | .normal, _, W3 => KeepsOthers W W3 ∧ Kp W W3 ∧ I (pre ++ [x]) W3
  | .ret, _, W3 => KeepsOthers W W3 ∧ Ix (pre ++ [x]) W3
  | _, _, _ => False
theorem below_kept {A B : World} (h : Below A.heap.size A B) {k : Nat} {o : Obj} (hk : A.heap[k]? = some o) : B.heap[k]? = some o :=
  (h.block k (Array.getElem?_eq_some_iff.1 hk).1).trans hk
theorem wpIn_range_tells {g : Operand} {ps : Array Tmp} {assign body : Code} {Q : Exit → Act → World → Prop} {a : Act} {w : World}
    (hro : F.round = none) (h1 : 1 ≤ n) {gf : Nat} {lb : Array Value} (hg : a.eval g = .func (.func gf) #[] lb) (hFg : F.fn gf) (eg : ∀ args w, (callFunc gf args).run P w = .ok (.enter gf args) w)
    {encs : α → Array Value} {Kp : World → World → Prop} {Ok : List α → α → World → Prop} {Rm : List α → World → Prop} {S Sp : List α → Prop} {w0 : World} (hit : Tells F (n - 1) P gf lb encs Kp Ok Rm S Sp w0)
    (hb0 : Below w0.heap.size w0 w) (hps : ∀ x, (encs x).size = ps.size)
    (hKt : ∀ {A B C : World}, Kp A B → Kp B C → Kp A C) (hKo : ∀ (W : World) (l : Nat) (o o' : Obj), w.heap.size ≤ l → W.heap[l]? = some o → o.isCells = false → Kp W (W.putObj l o'))
    (hKb : ∀ {A B : World}, w.heap.size ≤ A.heap.size → Below A.heap.size A B → Kp A B)
    (I Ix : List α → World → Prop) (hI : Stays I) (hIx : Stays Ix) (hIo : ∀ pre, Apart w.heap.size (I pre)) (hIxo : ∀ pre, Apart w.heap.size (Ix pre)) (hRm : ∀ pre A, I pre A → Rm pre A)
    (hOk : ∀ pre x A B, Ok pre x A → Below A.heap.size A B → Ok pre x B) (hOko : ∀ pre x, Apart w.heap.size (Ok pre x)) (h0 : I [] w)
    (Ax : α → Act → World → Prop) (hAxo : ∀ x a', Apart w.heap.size (Ax x a'))
    (hassign : ∀ (l : Nat) (x : α) (W : World) (K : Act → World → Prop), w.heap.size ≤ W.heap.size → (∀ a' W', Below W.heap.size W W' → Ax x a' W' → K a' W') →
      assign.wpIn (F.inRound l) (n - 1 - 1) P (Exit.then K (fun _ _ _ => False)) { tmps := (ps.zip (encs x)).foldl (fun t (p, v) => t.setIfInBounds p v) a.tmps, defers := [] } W)
    (hbody : ∀ (l : Nat) (pre : List α) (x : α) (a' : Act) (W : World), w.heap.size ≤ W.heap.size → I pre W → Ok pre x W → Ax x a' W → body.wpIn (F.inRound l) (n - 1 - 1) P (roundEnds Kp I Ix pre x W) a' W)
    (hdone : ∀ (D : Nat) (xs : List α) (W : World), w.heap.size ≤ D → S xs → I xs W → W.heap[D]? = some (.deferred (some [])) → Q .normal { a with defers := { target := .collected D, args := #[] } :: a.defers } W)
    (hstop : ∀ (D : Nat) (pre : List α) (W : World), w.heap.size ≤ D → Sp pre → Ix pre W → W.heap[D]? = some (.deferred (some [])) → Code.ret.wpIn F n P Q { a with defers := { target := .collected D, args := #[] } :: a.defers } W) :
    (Code.rangeFunc g ps assign body).wpIn F n P Q a w := by
  refine wpIn_rangeFunc fun fn hfn => ?_
  rw [hro]
  obtain ⟨R, hR⟩ : ∃ R : LoopState → Option Code → Loop, ∀ st pe, R st pe = { state := st, pending := pe, fn, tmps := a.tmps, params := ps, assign, body, defers := w.heap.size } := ⟨_, fun _ _ => rfl⟩
  obtain ⟨V, hV⟩ : ∃ V, V = (w.alloc (.deferred (some []))).alloc (.loop (R .ready none)) := ⟨_, rfl⟩
  have hb : Below w.heap.size w V := by rw [hV]; exact ((Below.refl _ w).alloc (Nat.le_refl _) _).alloc (by simp) _
  have hsz : V.heap.size = w.heap.size + 2 := by rw [hV]; simp
  have hK : V.heap[w.heap.size]? = some (.deferred (some [])) := by
    rw [hV, Below.heap_alloc _ _ _ (by simp)]; exact World.alloc_heap_new w _
  have hL : V.heap[w.heap.size + 1]? = some (.loop (R .ready none)) := by
    rw [hV]; have := World.alloc_heap_new (w.alloc (.deferred (some []))) (.loop (R .ready none)); rwa [World.size_alloc] at this
  refine ⟨w.heap.size + 1, [{ target := .collected w.heap.size, args := #[] }], V, { target := .fn (.func gf) lb, args := #[.func (.yield (w.heap.size + 1)) #[] #[]] }, V, gf,
    #[.func (.yield (w.heap.size + 1)) #[] #[]] ++ lb, V, ?_, ?_, fun f' hf' => ?_, ?_, fun _ => h1, ?_⟩
  · rw [hV, hR]; exact run_enterLoop_outer _ _ _ _ _
  · simp only [resolve, hg]; simp [go_sem]
  · simp [Target.leads] at hf'; subst hf'; exact hFg
  · simp [invoke, go_sem, eg]
  refine (hit (w.heap.size + 1)
    (fun pre W => I pre W ∧ W.heap[w.heap.size + 1]? = some (.loop (R .ready none)) ∧ W.heap[w.heap.size]? = some (.deferred (some [])))
    (fun pre W => Ix pre W ∧ W.heap[w.heap.size + 1]? = some (.loop (R .done (some .ret))) ∧ W.heap[w.heap.size]? = some (.deferred (some [])))
    V (hb0.trans (hb.mono hb0.size)) (fun pre A B h k => ⟨hI pre A B h.1 k, below_kept k h.2.1, below_kept k h.2.2⟩) (fun pre A B h k => ⟨hIx pre A B h.1 k, below_kept k h.2.1, below_kept k h.2.2⟩)
    (fun pre A h => hRm pre A h.1) ?_ ⟨hI [] w V h0 hb, hL, hK⟩).mono ?_
  · rintro pre x W ⟨hi, hl, hk⟩ hok
    have hlt := (Array.getElem?_eq_some_iff.1 hl).1
    have hy := run_yield (P := P) (args := encs x) hl (by rw [hR]; exact hps x)
    rw [hR] at hy
    refine ⟨fn, _, assign, body, hy, roundIn_of_wpIn hfn (hassign _ x W _ (by omega) fun a' W' hbel hax => ?_)⟩
    have hl' := below_kept hbel hl
    have hk' := below_kept hbel hk
    have hlt' := (Array.getElem?_eq_some_iff.1 hl').1
    refine ⟨_, run_beginRound hl' (by rw [hR]), ?_⟩
    obtain ⟨U, hU⟩ : ∃ U, U = W'.putObj (w.heap.size + 1) (.loop { R .ready none with state := .busy }) := ⟨_, rfl⟩
    rw [← hU]
    have hlU : U.heap[w.heap.size + 1]? = some (.loop { R .ready none with state := .busy }) := by rw [hU]; exact World.putObj_heap_same hlt'
    have hkU : U.heap[w.heap.size]? = some (.deferred (some [])) := by rw [hU]; exact (World.putObj_heap_other (by omega)).trans hk'
    have hKU : Kp W U := by rw [hU]; exact hKt (hKb (by omega) hbel) (hKo _ _ _ _ (by omega) hl' rfl)
    have hIU : I pre U := by rw [hU]; exact hIo pre _ _ _ _ (hI pre W W' hi hbel) (by omega) hl' rfl
    have hOU : Ok pre x U := by rw [hU]; exact hOko pre x _ _ _ _ (hOk pre x W W' hok hbel) (by omega) hl' rfl
    have hAU : Ax x a' U := by rw [hU]; exact hAxo x a' _ _ _ _ hax (by omega) hl' rfl
    refine wpIn_mono (hbody _ pre x a' U (by have := (Array.getElem?_eq_some_iff.1 hkU).1; omega) hIU hOU hAU) ?_
    have fin : ∀ (j : Option Code) (X : World), KeepsOthers U X →
        (Instr.endRound (w.heap.size + 1) j).run P X = .ok (.bool j.isNone) (X.putObj (w.heap.size + 1) (.loop (R (if j.isNone then .ready else .done) j))) ∧
        (∃ o, X.heap[w.heap.size + 1]? = some o ∧ o.isCells = false) ∧
        (X.putObj (w.heap.size + 1) (.loop (R (if j.isNone then .ready else .done) j))).heap[w.heap.size + 1]? = some (.loop (R (if j.isNone then .ready else .done) j)) ∧
        (X.putObj (w.heap.size + 1) (.loop (R (if j.isNone then .ready else .done) j))).heap[w.heap.size]? = some (.deferred (some [])) := fun j X hX => by
      have hlX := hX.same _ _ hlU rfl
      have hkX := hX.same _ _ hkU rfl
      have hr := run_endRound (P := P) j hlX
      rw [hR] at hr ⊢
      exact ⟨hr, ⟨_, hlX, rfl⟩, World.putObj_heap_same (Array.getElem?_eq_some_iff.1 hlX).1, (World.putObj_heap_other (by omega)).trans hkX⟩
    rintro e a3 X hp
    cases e with
    | normal =>
      obtain ⟨h3, h4, h5⟩ := hp
      obtain ⟨q1, ⟨o, q2, q2'⟩, q3, q4⟩ := fin none X h3
      exact ⟨_, _, q1, .inl ⟨rfl, ⟨hIo _ _ _ _ _ h5 (by omega) q2 q2', q3, q4⟩, hKt (hKt hKU h4) (hKo _ _ _ _ (by omega) q2 q2')⟩⟩
    | ret =>
      obtain ⟨h3, h5⟩ := hp
      obtain ⟨q1, ⟨o, q2, q2'⟩, q3, q4⟩ := fin (some .ret) X h3
      exact ⟨_, _, q1, .inr ⟨rfl, hIxo _ _ _ _ _ h5 (by omega) q2 q2', q3, q4⟩⟩
    | exit id => exact hp.elim
    | goto t => exact hp.elim
    | panic ch => exact hp.elim
    | outgrown => exact hp.elim
  · rintro e X ⟨⟨v, rfl⟩, (⟨xs, hS, hi, hl, hk⟩ | ⟨pre, hS, hi, hl, hk⟩)⟩
    · exact ⟨none, _, by have := run_endLoop (P := P) hl (by rw [hR]; simp); rw [hR] at this; exact this, hdone _ xs _ (Nat.le_refl _) hS (hIo xs _ _ _ _ hi (by omega) hl rfl) ((World.putObj_heap_other (by omega)).trans hk)⟩
    · exact ⟨some .ret, _, by have := run_endLoop (P := P) hl (by rw [hR]; simp); rw [hR] at this; exact this, hstop _ pre _ (Nat.le_refl _) hS (hIxo pre _ _ _ _ hi (by omega) hl rfl) ((World.putObj_heap_other (by omega)).trans hk)⟩
end
end Go.Proofs.YtdenehnneloegaaGreatDoor
namespace Go.Proofs.YtdenehnneloegaaGreatDoor
open Go.RowKit Go.Shelf
def KeepsT (n0 B : Nat) (W W' : World) : Prop := ∀ k, k < n0 ∨ k = B → W'.heap[k]? = W.heap[k]?
theorem cell_same {W W' : World} (A : Addr) (h : W'.heap[A.block]? = W.heap[A.block]?) : W'.cell? A = W.cell? A := by unfold World.cell?; rw [h]
/-- a table in the world -/
abbrev TabO (ho : Option Addr) (hn hc : Nat) (ro : Option Addr) (rn rc : Nat) : Obj := .cells #[.slice ho hn hc, .slice ro rn rc] 25
def allT (hd : List ByteArray) (rs : List (List ByteArray)) : List ByteArray := hd ++ rs.flatten
theorem pre_head (hd : List ByteArray) (rs : List (List ByteArray)) (k : Nat) (x : ByteArray) (h : hd[k]? = some x) : hd.take (k + 1) = hd.take k ++ [x] ∧ hd.take k ++ [x] <+: allT hd rs := by
  obtain ⟨hk, e⟩ := List.getElem?_eq_some_iff.1 h
  have e1 : hd.take (k + 1) = hd.take k ++ [x] := by rw [List.take_succ_eq_append_getElem hk, e]
  refine ⟨e1, ?_⟩
  rw [← e1, allT]
  exact (List.take_prefix _ _).trans (List.prefix_append _ _)
theorem pre_row (hd : List ByteArray) (rs : List (List ByteArray)) (k j : Nat) (r : List ByteArray) (x : ByteArray) (hr : rs[k]? = some r) (h : r[j]? = some x) :
    hd ++ (rs.take k).flatten ++ r.take (j + 1) = hd ++ (rs.take k).flatten ++ r.take j ++ [x] ∧ hd ++ (rs.take k).flatten ++ r.take j ++ [x] <+: allT hd rs := by
  obtain ⟨hk, e⟩ := List.getElem?_eq_some_iff.1 hr
  obtain ⟨hj, e'⟩ := List.getElem?_eq_some_iff.1 h
  have e1 : hd ++ (rs.take k).flatten ++ r.take (j + 1) = hd ++ (rs.take k).flatten ++ r.take j ++ [x] := by rw [List.take_succ_eq_append_getElem hj, e']; simp
  refine ⟨e1, ?_⟩
  rw [← e1, allT]
  have e2 : rs.flatten = (rs.take k).flatten ++ (r ++ (rs.drop (k + 1)).flatten) := by
    conv => lhs; rw [← List.take_append_drop k rs]
    rw [List.flatten_append, List.drop_eq_getElem_cons hk, e]; simp
  rw [e2, List.append_assoc]
  refine List.prefix_append_right_inj _ |>.2 (List.prefix_append_right_inj _ |>.2 ?_)
  exact (List.take_prefix _ _).trans (List.prefix_append _ _)
theorem row_end (hd : List ByteArray) (rs : List (List ByteArray)) (k : Nat) (r : List ByteArray) (hr : rs[k]? = some r) : hd ++ (rs.take k).flatten ++ r.take r.length = hd ++ (rs.take (k + 1)).flatten := by
  obtain ⟨hk, e⟩ := List.getElem?_eq_some_iff.1 hr
  rw [List.take_succ_eq_append_getElem hk, e]; simp
set_option maxRecDepth 100000 in
set_option maxHeartbeats 4000000 in
theorem texts1_tells (n : Nat) (ho : Option Addr) (hc : Nat) (hd : List ByteArray) (ro : Option Addr) (rc : Nat) (rs : List (List ByteArray)) (B : Nat) (w0 w : World) (h0w : Below w0.heap.size w0 w)
    (hn : hd.length ≤ 1099511627776) (hn2 : rs.length ≤ 1099511627776) (hn3 : ∀ r ∈ rs, r.length ≤ 1099511627776) (hH : StrRow w0 ho hd) (hR : RowsAt w0 ro rs)
    (hB : w.heap[B]? = some (TabO ho hd.length hc ro rs.length rc)) :
    Tells Fence.wide n Tryz.prog 243 #[.pointer (some ⟨B, 0, none⟩)] (fun x : ByteArray => #[Value.string x]) (KeepsT w0.heap.size B) (fun pre x _ => pre ++ [x] <+: allT hd rs) (fun _ _ => True) (fun xs => xs = allT hd rs) (fun pre => pre <+: allT hd rs) w := by
  intro l J Jx W hW hJ hJx hRm hY h0
  have HY := Lib.hid hY
  have HH := Lib.hid hH
  have HR := Lib.hid hR
  have HN3 := Lib.hid hn3
  have HS0 : Hid (∀ k, k < w0.heap.size → W.heap[k]? = w0.heap[k]?) := Lib.hid (fun k hk => (hW.block k (Nat.lt_of_lt_of_le hk h0w.size)).trans (h0w.block k hk))
  have hBW := (hW.block B (lt_of_heap hB)).trans hB
  have c0 : W.cell? ⟨B, 0, none⟩ = some (.slice ho hd.length hc) := (Lib.cell_of_heap hBW 0).trans rfl
  have HBW := Lib.hid hBW
  have H0 := Lib.hid h0
  have HPH := Lib.hid (pre_head hd rs)
  have HPR := Lib.hid (pre_row hd rs)
  have HRE := Lib.hid (row_end hd rs)
  clear hJ hRm hY hJx hW hB hH hR hn3 h0 hBW h0w
  refine callsIn_of_wp Tryz.func243 rfl trivial ?_ rfl
  simp only [Tryz.ntmps243, List.size_toArray, List.length_cons, List.length_nil, Nat.reduceAdd, Nat.reduceSub, Array.replicate_succ, Array.replicate_zero, List.push_toArray, List.append_toArray, List.nil_append, List.cons_append]
  gi_wp2_with fail
  gi_loopw [12] (fun i wr => ∃ k : Nat, k ≤ hd.length ∧ i = .int .i64 k ∧ Hid (J (hd.take k) wr) ∧ Hid (∀ k, k < w0.heap.size → wr.heap[k]? = w0.heap[k]?) ∧ Hid (wr.heap[B]? = some (TabO ho hd.length hc ro rs.length rc))) (fun i _ => hd.length - (intOf i).toNat)
  case atStart => exact ⟨0, Nat.zero_le _, rfl, H0, HS0, HBW⟩
  case round =>
    obtain ⟨k, hk, rfl, HJ, HS, HB⟩ := hrel
    clear c0
    by_cases hlt : k < hd.length
    · obtain ⟨x, hx⟩ : ∃ x, hd[k]? = some x := ⟨_, List.getElem?_eq_getElem hlt⟩
      have HP := Lib.hid (HPH.out k x hx)
      obtain ⟨fn, tmps, assign, body, hy, hR⟩ := HY.out _ x wr HJ.out HP.out.2
      have HC := Lib.hid hR
      rcases HH.out with h0 | ⟨A, rfl, hA, hcell⟩
      · rw [h0] at hlt; simp at hlt
      have hcx := (cell_same (W := w0) (W' := wr) (A.add k) (by rw [add_block]; exact HS.out _ hA)).trans (hcell k x hx)
      clear hcell hx hR
      gi_wp2_with fail
      refine ⟨(fun h => by cases h), HC.out.mono ?_⟩
      rintro e W3 (⟨rfl, hJ3, hk3⟩ | ⟨rfl, hJx3⟩)
      · have HJ3 : Hid (J (hd.take (k + 1)) W3) := Lib.hid (by rw [HP.out.1]; exact hJ3)
        have HS3 : Hid (∀ k, k < w0.heap.size → W3.heap[k]? = w0.heap[k]?) := Lib.hid (fun j hj => (hk3 j (.inl hj)).trans (HS.out j hj))
        have HB3 := Lib.hid ((hk3 B (.inr rfl)).trans HB.out)
        clear hJ3 hk3
        gi_wp2_with fail
        go_roundw
        case rel => exact ⟨k + 1, by omega, by go_num, HJ3, HS3, HB3⟩
        case measure => simp [intOf]; omega
      · have HX := Lib.hid hJx3
        clear hJx3
        gi_wp2_with fail
        refine bodyPost_ret (results_none rfl _ _ _) rfl ?_
        exact ⟨⟨_, rfl⟩, .inr ⟨_, HP.out.2, HX.out⟩⟩
    · obtain rfl : k = hd.length := by omega
      have c1 : wr.cell? ⟨B, 1, none⟩ = some (.slice ro rs.length rc) := (Lib.cell_of_heap HB.out 1).trans rfl
      gi_wp2_with fail
      clear c1
      obtain ⟨wo, rfl⟩ : ∃ wo : World, wo = wr := ⟨_, rfl⟩
      gi_loopw [24] (fun i wr => ∃ k : Nat, k ≤ rs.length ∧ i = .int .i64 k ∧ Hid (J (hd ++ (rs.take k).flatten) wr) ∧ Hid (∀ k, k < w0.heap.size → wr.heap[k]? = w0.heap[k]?) ∧ Hid (wr.heap[B]? = some (TabO ho hd.length hc ro rs.length rc))) (fun i _ => rs.length - (intOf i).toNat)
      case atStart => exact ⟨0, Nat.zero_le _, rfl, Lib.hid (by have := HJ.out; rw [List.take_length] at this; simpa using this), HS, HB⟩
      case round =>
        obtain ⟨k, hk, rfl, HJ, HS, HB⟩ := hrel
        by_cases hlt : k < rs.length
        · obtain ⟨r, hr⟩ : ∃ r, rs[k]? = some r := ⟨_, List.getElem?_eq_getElem hlt⟩
          have HRk := Lib.hid hr
          have hrl := HN3.out r (List.mem_of_getElem? hr)
          rcases HR.out with h0 | ⟨A, rfl, hA, hcell⟩
          · rw [h0] at hlt; simp at hlt
          obtain ⟨ro1, rc1, hc1, hs1⟩ := hcell k r hr
          have hcx := (cell_same (W := w0) (W' := wr) (A.add k) (by rw [add_block]; exact HS.out _ hA)).trans hc1
          have HS1 := Lib.hid hs1
          clear hcell hr hc1 hs1
          gi_wp2_with fail
          clear hcx
          obtain ⟨wo2, rfl⟩ : ∃ wo2 : World, wo2 = wr := ⟨_, rfl⟩
          gi_loopw [30] (fun i wr => ∃ j : Nat, j ≤ r.length ∧ i = .int .i64 j ∧ Hid (J (hd ++ (rs.take k).flatten ++ r.take j) wr) ∧ Hid (∀ k, k < w0.heap.size → wr.heap[k]? = w0.heap[k]?) ∧ Hid (wr.heap[B]? = some (TabO ho hd.length hc (some A) rs.length rc))) (fun i _ => r.length - (intOf i).toNat)
          case atStart => exact ⟨0, Nat.zero_le _, rfl, Lib.hid (by simpa using HJ.out), HS, HB⟩
          case round =>
            obtain ⟨j, hj, rfl, HJ, HS, HB⟩ := hrel
            by_cases hjl : j < r.length
            · obtain ⟨x, hx⟩ : ∃ x, r[j]? = some x := ⟨_, List.getElem?_eq_getElem hjl⟩
              have HP := Lib.hid (HPR.out k j r x HRk.out hx)
              obtain ⟨fn, tmps, assign, body, hy, hR⟩ := HY.out _ x wr HJ.out HP.out.2
              have HC := Lib.hid hR
              rcases HS1.out with h0 | ⟨A1, rfl, hA1, hcell⟩
              · rw [h0] at hjl; simp at hjl
              have hcx := (cell_same (W := w0) (W' := wr) (A1.add j) (by rw [add_block]; exact HS.out _ hA1)).trans (hcell j x hx)
              clear hcell hx hR
              gi_wp2_with fail
              refine ⟨(fun h => by cases h), HC.out.mono ?_⟩
              rintro e W3 (⟨rfl, hJ3, hk3⟩ | ⟨rfl, hJx3⟩)
              · have HJ3 : Hid (J (hd ++ (rs.take k).flatten ++ r.take (j + 1)) W3) := Lib.hid (by rw [HP.out.1]; exact hJ3)
                have HS3 : Hid (∀ k, k < w0.heap.size → W3.heap[k]? = w0.heap[k]?) := Lib.hid (fun j hj => (hk3 j (.inl hj)).trans (HS.out j hj))
                have HB3 := Lib.hid ((hk3 B (.inr rfl)).trans HB.out)
                clear hJ3 hk3
                gi_wp2_with fail
                go_roundw
                case rel => exact ⟨j + 1, by omega, by go_num, HJ3, HS3, HB3⟩
                case measure => simp [intOf]; omega
              · have HX := Lib.hid hJx3
                clear hJx3
                gi_wp2_with fail
                refine bodyPost_ret (results_none rfl _ _ _) rfl ?_
                exact ⟨⟨_, rfl⟩, .inr ⟨_, HP.out.2, HX.out⟩⟩
            · obtain rfl : j = r.length := by omega
              have HJ3 : Hid (J (hd ++ (rs.take (k + 1)).flatten) wr) := Lib.hid (by rw [← HRE.out k r HRk.out]; exact HJ.out)
              gi_wp2_with fail
              go_roundw
              case rel => exact ⟨k + 1, by omega, by go_num, HJ3, HS, HB⟩
              case measure => simp [intOf]; omega
        · obtain rfl : k = rs.length := by omega
          have HE : Hid (J (allT hd rs) wr) := Lib.hid (by have := HJ.out; rw [List.take_length] at this; exact this)
          gi_wp2_with fail
          go_end0
          exact ⟨⟨_, rfl⟩, .inl ⟨_, rfl, HE.out⟩⟩
end Go.Proofs.YtdenehnneloegaaGreatDoor
