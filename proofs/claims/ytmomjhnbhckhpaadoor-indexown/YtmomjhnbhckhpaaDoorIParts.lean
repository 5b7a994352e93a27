/-
  The parts of a row's key, as the program makes them.
  Conditions: at most 2^40 rows, each of at most 2^40 cells of at most 2^48 bytes; at most 2^30 columns that Go integers hold.
-/
import Derived.Maps.Own
import Derived.Maps.OwnOps
import Derived.Maps.Views
import Derived.WalkKit
import Derived.WalkMore
import Derived.IntWalk
import Derived.WalkArith
import Derived.OwnWalk
import Derived.Lib.Hide
import Derived.Lib.SmallJoins
import Derived.Laws.OwnMore
import Derived.Sort.Grow
import Derived.Sort.OwnSorted
import Derived.Shelf.SlSortCmp.NoneTotal
import Derived.Deep.Cut
import Derived.Test.YtmomjhnbhckhpaaDoorProg
import Derived.Test.YtmomjhnbhckhpaaDoorIShelf
import Derived.Test.YtmomjhnbhckhpaaDoorIFirst
import Derived.Test.YtmomjhnbhckhpaaDoorICmp2
namespace Go.Proofs.YtmomjhnbhckhpaaDoor
open Go.RowKit Go.Shelf Go.Sort Go.Maps
set_option linter.unusedVariables false

/-- a part, by its place -/
def encN (c : Nat → ByteArray) (i : Nat) : List Value := [.int .i64 i, .string (c i)]
/-- the cells of parts, by their places -/
def cellsN (c : Nat → ByteArray) (l : List Nat) : List Value := l.flatMap (encN c)
theorem cellsN_cons (c : Nat → ByteArray) (i : Nat) (l : List Nat) : cellsN c (i :: l) = .int .i64 i :: .string (c i) :: cellsN c l := rfl
theorem cellsN_length (c : Nat → ByteArray) (l : List Nat) : (cellsN c l).length = l.length * 2 := by
  induction l with
  | nil => rfl
  | cons p l ih => rw [cellsN_cons]; simp only [List.length_cons, ih]; omega
theorem cellsN_app (c : Nat → ByteArray) (l m : List Nat) : cellsN c (l ++ m) = cellsN c l ++ cellsN c m := by simp [cellsN]
theorem cellsN_at (c : Nat → ByteArray) (l : List Nat) (k i : Nat) (h : l[k]? = some i) : (cellsN c l)[k * 2]? = some (.int .i64 i) ∧ (cellsN c l)[k * 2 + 1]? = some (.string (c i)) := by
  induction l generalizing k with
  | nil => simp at h
  | cons q l ih =>
    cases k with
    | zero => simp at h; subst h; exact ⟨rfl, rfl⟩
    | succ k =>
      have := ih k (by simpa using h)
      rw [cellsN_cons, show (k + 1) * 2 = k * 2 + 1 + 1 from by omega]
      simpa using this
/-- a slice of parts that grows -/
def OwnN (w : World) (base : Nat) (c : Nat → ByteArray) (v : Value) (l : List Nat) : Prop := w.ownsRow base 48 2 v l.length (cellsN c l)
theorem OwnN.partsAt {w : World} {base : Nat} {c : Nat → ByteArray} {v : Value} {l : List Nat} (h : OwnN w base c v l) : ∃ ao cap, v = .slice ao l.length cap ∧ PartsAt w ao (l.map fun i => (i, c i)) ∧ (∀ A, ao = some A → base ≤ A.block) := by
  rcases h.2 with ⟨rfl, h0⟩ | ⟨g, cap, cur, rfl, h1, h2, h3, h4, h5, h6⟩
  · have hl : l = [] := List.eq_nil_of_length_eq_zero h0
    subst hl
    exact ⟨none, 0, rfl, .inl rfl, fun A e => by cases e⟩
  · refine ⟨_, cap, rfl, .inr ⟨g, 0, rfl, (World.ownsRow.lt h g rfl).2, fun i p hp => ?_⟩, fun A e => by cases e; exact h1⟩
    rw [List.getElem?_map] at hp
    obtain ⟨j, hj, rfl⟩ := Option.map_eq_some_iff.1 hp
    obtain ⟨c1, c2⟩ := cellsN_at c l i j hj
    have k1 := World.ownsRow.cells h rfl (i * 2) _ c1
    have k2 := World.ownsRow.cells h rfl (i * 2 + 1) _ c2
    have e : ∀ j, (⟨g, 0, none⟩ : Addr).add j = ⟨g, 0 + j, none⟩ := fun j => by unfold Addr.add; split <;> simp_all
    rw [e] at k1 k2
    exact ⟨k1, by rw [Nat.add_assoc]; exact k2⟩
theorem lit_cellQ (w : World) (a b : Value) (T : TypeId) : ∀ (j : Nat) u, [a, b][j]? = some u → (w.alloc (.cells #[a, b] T)).cell? ((⟨w.heap.size, 0, none⟩ : Addr).add j) = some u := fun j u hj => by
  rw [cell_row (World.alloc_heap_new w _)]
  match j, hj with
  | 0, hj => simp at hj; subst hj; rfl
  | 1, hj => simp at hj; subst hj; rfl

/-! the library's sort of them -/
theorem flat_cellsN (c : Nat → ByteArray) (l : List Nat) : flatK (encN c) 2 l.toArray = (cellsN c l).toArray := by
  refine ext_get! (by simp [cellsN_length]) (fun t ht => ?_)
  have ht' : t < l.length * 2 := by simpa using ht
  rw [get_flatK _ _ _ t (by simpa using ht')]
  obtain ⟨p, hp⟩ : ∃ p, l[t / 2]? = some p := ⟨_, List.getElem?_eq_getElem (by omega)⟩
  have e1 : l.toArray[t / 2]! = p := by simp [Array.getElem!_eq_getD, Array.getD_eq_getD_getElem?, hp]
  obtain ⟨c1, c2⟩ := cellsN_at c l (t / 2) p hp
  have e2 : (cellsN c l).toArray[t]! = ((cellsN c l)[t]?).getD default := by simp [Array.getElem!_eq_getD, Array.getD_eq_getD_getElem?]
  rw [e1, e2]
  have hm : t % 2 = 0 ∨ t % 2 = 1 := by omega
  rcases hm with e | e
  · rw [show t / 2 * 2 = t from by omega] at c1; rw [c1, e]; rfl
  · rw [show t / 2 * 2 + 1 = t from by omega] at c2; rw [c2, e]; rfl
theorem heap_sortedQ {w : World} {g n : Nat} {os : Array Obj} {cur : Array Value} {e : TypeId} {fr : Nat × Nat} (F : Array Value) (hb : w.heap[g]? = some (.cells cur e fr)) :
    (grow (putRow id (Sort.ahead w n) g 0 F) os).heap[g]? = some (.cells (putCells id 0 F cur) e fr) := by
  have hg : g < w.heap.size := (Array.getElem?_eq_some_iff.1 hb).1
  rw [heap_grow_old _ _ (by simpa using hg)]
  simp [putRow, mapBlock, Sort.ahead, Array.getElem?_modify, hb, onCells]
theorem grownBy_sortedQ {w : World} {g n : Nat} {os : Array Obj} (F : Array Value) : w.grownBy (grow (putRow id (Sort.ahead w n) g 0 F) os) (some g) := by
  refine ⟨rfl, rfl, rfl, by simp, fun k hk hne => ?_⟩
  rw [heap_grow_old _ _ (by simpa using hk)]
  have : g ≠ k := fun e => hne (by rw [e])
  simp [putRow, mapBlock, Sort.ahead, Array.getElem?_modify, this]
theorem take_putCellsQ (cur F : Array Value) (h : F.size ≤ cur.size) : (putCells id 0 F cur).toList.take F.size = F.toList := by
  apply List.ext_getElem?
  intro j
  by_cases hj : j < F.size
  · rw [List.getElem?_take_of_lt hj, Array.getElem?_toList]
    simp [putCells, hj, show j < cur.size by omega]
  · rw [List.getElem?_take_eq_none (by omega), List.getElem?_eq_none (by simp; omega)]
theorem OwnN.holds {w : World} {base : Nat} {c : Nat → ByteArray} {g n cap : Nat} {l : List Nat} (h : OwnN w base c (.slice (some ⟨g, 0, none⟩) n cap) l) (hl : l.length = n) : HoldsK (encN c) 2 w g 0 l.toArray := by
  unfold OwnN at h
  subst hl
  unfold HoldsK
  rw [flat_cellsN]
  intro j hj
  have hj' : j < (cellsN c l).length := by simpa using hj
  rw [Nat.zero_add]
  refine ⟨?_, h.frozenAt j⟩
  have := h.cellAt j (by rw [cellsN_length] at hj'; exact hj')
  rw [this]
  simp [List.getElem?_eq_getElem hj', Array.getElem!_eq_getD, Array.getD_eq_getD_getElem?]
theorem OwnN.sorted {w : World} {base : Nat} {c : Nat → ByteArray} {g n cap k : Nat} {l m : List Nat} {os : Array Obj} (h : OwnN w base c (.slice (some ⟨g, 0, none⟩) n cap) l) (hl : l.length = n) (hm : m.length = n) : OwnN (sortWorldK (encN c) 2 w g 0 k m.toArray os) base c (.slice (some ⟨g, 0, none⟩) n cap) m := by
  unfold OwnN at h ⊢
  unfold sortWorldK putRowK
  rw [flat_cellsN]
  rw [hl] at h
  rw [hm]
  rcases h.2 with ⟨h0, _⟩ | ⟨g', cap', cur, hv, hbase, hb, r1, r2, r3, r4⟩
  · cases h0
  · cases hv
    have hl : (cellsN c m).length = n * 2 := by rw [cellsN_length, hm]
    refine ⟨hl, .inr ⟨g, cap, _, rfl, hbase, heap_sortedQ _ hb, r1, r2, by simp [putCells, r3], ?_⟩⟩
    have := take_putCellsQ cur (cellsN c m).toArray (by rw [r3]; simp [hl]; omega)
    rw [List.size_toArray, hl] at this
    exact this
def cfN (i j : Nat) : Int := cmpI i j
theorem ltN : ltOf cfN = fun i j => decide (i < j) := by
  funext i j
  show decide (cmpI i j < 0) = _
  rw [cmpI_neg]
  by_cases h : i < j
  · rw [decide_eq_true h]; exact decide_eq_true (by omega)
  · rw [decide_eq_false h]; exact decide_eq_false (by omega)
theorem swoN : SWO (ltOf cfN) where
  irrefl x := by rw [ltN]; simp
  trans x y z h1 h2 := by rw [ltN] at *; simp at *; omega
  ntrans x y z h1 h2 := by rw [ltN] at *; simp at *; omega

set_option maxRecDepth 100000 in
theorem partCmp_any (i j : Nat) (a b : ByteArray) (w : World) :
    Calls Tryd.prog 70 #[.agg #[.int .i64 i, .string a], .agg #[.int .i64 j, .string b]] w fun e w' => e = .returned (.int .i64 (cfN i j)) ∧ ∃ q os', w' = grow (w.drewN q) os' := by
  have C1 := Lib.hid (fun W => compare_any (i : Int) (j : Int) W)
  have HG : Hid (∃ q os', (w.alloc (.cells #[.int .i64 i, .string a] 48)).alloc (.cells #[.int .i64 j, .string b] 48) = grow (w.drewN q) os') := Lib.hid ⟨0, _, by rw [alloc_eq_grow, alloc_eq_grow, grow_grow]; rfl⟩
  unfold cfN
  generalize cmpI (i : Int) (j : Int) = r at C1 ⊢
  go_enter Tryd.func70, Tryd.ntmps70
  go_wp2_with fail
  refine (C1.out _).mono ?_; rintro e w1 ⟨rfl, rfl⟩
  go_wp2_with fail
  go_ret
  exact ⟨rfl, HG.out⟩
theorem psort_any (c : Nat → ByteArray) (base g n cap : Nat) (l : List Nat) (w : World) (hn : n ≤ 1099511627776) (hl : l.length = n) (hO : OwnN w base c (.slice (some ⟨g, 0, none⟩) n cap) l) :
    Calls Tryd.prog 69 #[.slice (some ⟨g, 0, none⟩) n cap, .func (.func 70) #[] #[]] w fun e w' => e = .returned (.tuple #[]) ∧ OwnN w' base c (.slice (some ⟨g, 0, none⟩) n cap) (l.mergeSort fun x y => decide (x ≤ y)) ∧ w.grownBy w' (some g) := by
  have hc : CmpLays Tryd.prog 70 #[] (encN c) 2 cfN g 0 l.toArray.size w := fun m os dk _ x y => partCmp_any x y _ _ _
  have h := AnyQ.slices_SortFunc_total laysF 2 Tryd.isAgg48 Tryd.sizeOf48 (encN c) (fun _ => rfl) (fun x v hv => by simp [encN] at hv; rcases hv with rfl | rfl <;> rfl) cfN swoN 70 #[] g 0 cap l.toArray w (enters_of Tryd.func70 (by kernel_rfl) rfl) hc (hO.holds hl) (World.ownsRow.lt hO g rfl).2 (by simp; omega) (fun x y h k => by rw [ltN] at h k; simp at h k; omega)
  rw [List.size_toArray, hl, ltN] at h
  refine h.mono ?_
  rintro e w' ⟨rfl, k, os, rfl⟩
  have e : (l.mergeSort fun x y => !decide (y < x)) = (l.mergeSort fun x y => decide (x ≤ y)) := by
    congr 1
    funext x y
    by_cases h : y < x
    · rw [decide_eq_true h, decide_eq_false (by omega)]; rfl
    · rw [decide_eq_false h, decide_eq_true (by omega)]; rfl
  rw [e]
  exact ⟨rfl, hO.sorted hl (by rw [List.length_mergeSort, hl]), by unfold sortWorldK putRowK; exact grownBy_sortedQ _⟩
end Go.Proofs.YtmomjhnbhckhpaaDoor
