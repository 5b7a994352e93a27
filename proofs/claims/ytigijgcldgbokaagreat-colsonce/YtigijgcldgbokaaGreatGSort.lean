/-
  Choices put into order by the library: the better ones ahead.
  Conditions: lists of at most 2^30 choices.
-/
import Derived.WalkKit
import Derived.WalkMore
import Derived.Lib.Hide
import Derived.Sort.OwnSorted
import Derived.Shelf.SlSortCmp.NoneTotal
import Derived.Test.YtigijgcldgbokaaGreatProg
import Derived.Test.YtigijgcldgbokaaGreatGShelf
import Derived.Test.YtigijgcldgbokaaGreatPkB
namespace Go.Proofs.YtigijgcldgbokaaGreat
open Go.RowKit Go.Shelf Go.Sort
set_option linter.unusedVariables false

theorem ltOf_better : ltOf cmpT = betterT := by
  funext x y
  exact cmpT_neg x y
theorem swoT : SWO (ltOf cmpT) where
  irrefl x := by rw [ltOf_better]; exact better_irrefl x
  trans x y z h1 h2 := by rw [ltOf_better] at *; exact better_trans h1 h2
  ntrans x y z h1 h2 := by rw [ltOf_better] at *; exact better_ntrans h1 h2
theorem flat_cells (l : TL) : flatK encT 3 l.toArray = (cellsT l).toArray := by
  refine ext_get! (by simp [cellsT_length]) (fun t ht => ?_)
  have ht' : t < l.length * 3 := by simpa using ht
  rw [get_flatK _ _ _ t (by simpa using ht')]
  obtain ⟨c, hc⟩ : ∃ c, l[t / 3]? = some c := ⟨_, List.getElem?_eq_getElem (by omega)⟩
  have e1 : l.toArray[t / 3]! = c := by simp [Array.getElem!_eq_getD, Array.getD_eq_getD_getElem?, hc]
  obtain ⟨c1, c2, c3⟩ := cellsT_at l (t / 3) c hc
  have e2 : (cellsT l).toArray[t]! = ((cellsT l)[t]?).getD default := by simp [Array.getElem!_eq_getD, Array.getD_eq_getD_getElem?]
  rw [e1, e2]
  have hm : t % 3 = 0 ∨ t % 3 = 1 ∨ t % 3 = 2 := by omega
  rcases hm with e | e | e
  · rw [show t / 3 * 3 = t from by omega] at c1; rw [c1, e]; rfl
  · rw [show t / 3 * 3 + 1 = t from by omega] at c2; rw [c2, e]; rfl
  · rw [show t / 3 * 3 + 2 = t from by omega] at c3; rw [c3, e]; rfl
theorem OwnT.holds {w : World} {base : Nat} {T : TypeId} {g n : Nat} {l : TL} (h : OwnT w base T g n l) : HoldsK encT 3 w g 0 l.toArray := by
  unfold HoldsK
  rw [flat_cells]
  intro j hj
  have hj' : j < (cellsT l).length := by simpa using hj
  rw [Nat.zero_add]
  refine ⟨?_, h.own.frozenAt j⟩
  have := h.own.cellAt j (by rw [cellsT_length, h.len] at hj'; exact hj')
  rw [this]
  simp [List.getElem?_eq_getElem hj', Array.getElem!_eq_getD, Array.getD_eq_getD_getElem?]
theorem heap_sortedK {w : World} {g n : Nat} {os : Array Obj} {cur : Array Value} {e : TypeId} {fr : Nat × Nat} (F : Array Value) (hb : w.heap[g]? = some (.cells cur e fr)) :
    (grow (putRow id (Sort.ahead w n) g 0 F) os).heap[g]? = some (.cells (putCells id 0 F cur) e fr) := by
  have hg : g < w.heap.size := (Array.getElem?_eq_some_iff.1 hb).1
  rw [heap_grow_old _ _ (by simpa using hg)]
  simp [putRow, mapBlock, Sort.ahead, Array.getElem?_modify, hb, onCells]
theorem grownBy_sortedK {w : World} {g n : Nat} {os : Array Obj} (F : Array Value) : w.grownBy (grow (putRow id (Sort.ahead w n) g 0 F) os) (some g) := by
  refine ⟨rfl, rfl, rfl, by simp, fun k hk hne => ?_⟩
  rw [heap_grow_old _ _ (by simpa using hk)]
  have : g ≠ k := fun e => hne (by rw [e])
  simp [putRow, mapBlock, Sort.ahead, Array.getElem?_modify, this]
theorem take_putCellsK (cur F : Array Value) (h : F.size ≤ cur.size) : (putCells id 0 F cur).toList.take F.size = F.toList := by
  apply List.ext_getElem?
  intro j
  by_cases hj : j < F.size
  · rw [List.getElem?_take_of_lt hj, Array.getElem?_toList]
    simp [putCells, hj, show j < cur.size by omega]
  · rw [List.getElem?_take_eq_none (by omega), List.getElem?_eq_none (by simp; omega)]
theorem OwnT.sorted {w : World} {base : Nat} {T : TypeId} {g n k : Nat} {l m : TL} {os : Array Obj} (h : OwnT w base T g n l) (hm : m.length = n) : OwnT (sortWorldK encT 3 w g 0 k m.toArray os) base T g n m := by
  refine ⟨hm, ?_⟩
  unfold sortWorldK putRowK
  rw [flat_cells]
  rcases h.own.2 with ⟨h0, _⟩ | ⟨g', cap', cur, hv, hbase, hb, r1, r2, r3, r4⟩
  · cases h0
  · cases hv
    have hl : (cellsT m).length = n * 3 := by rw [cellsT_length, hm]
    refine ⟨hl, .inr ⟨g, n, _, rfl, hbase, heap_sortedK _ hb, r1, r2, by simp [putCells, r3], ?_⟩⟩
    have := take_putCellsK cur (cellsT m).toArray (by rw [r3]; simp [hl])
    rw [List.size_toArray, hl] at this
    exact this

theorem gsort_any (base g n : Nat) (l : TL) (w : World) (hn : n ≤ 1073741824) (hO : OwnT w base 152 g n l) :
    Calls Tryz.prog 125 #[.slice (some ⟨g, 0, none⟩) n n, .func (.func 126) #[] #[]] w fun e w' => e = .returned (.tuple #[]) ∧ OwnT w' base 152 g n (sortT l) ∧ w.grownBy w' (some g) := by
  have hl := hO.len
  have hc : CmpLays Tryz.prog 126 #[] encT 3 cmpT g 0 l.toArray.size w := fun m os dk _ x y => choice_any x y _
  have h := AnyQ.slices_SortFunc_total laysF 3 Tryz.isAgg152 Tryz.sizeOf152 encT (fun _ => rfl) (fun x v hv => by simp [encT] at hv; rcases hv with rfl | rfl | rfl <;> rfl) cmpT swoT 126 #[] g 0 n l.toArray w (enters_of Tryz.func126 (by kernel_rfl) rfl) hc hO.holds hO.lt.2 (by simp; omega) (fun x y h k => by rw [ltOf_better] at h k; exact better_either h k)
  rw [List.size_toArray, hl, ltOf_better] at h
  refine h.mono ?_
  rintro e w' ⟨rfl, k, os, rfl⟩
  have e : (l.mergeSort fun x y => !betterT y x) = sortT l := rfl
  rw [e]
  exact ⟨rfl, hO.sorted (by rw [sortT_len, hl]), by unfold sortWorldK putRowK; exact grownBy_sortedK _⟩
end Go.Proofs.YtigijgcldgbokaaGreat
