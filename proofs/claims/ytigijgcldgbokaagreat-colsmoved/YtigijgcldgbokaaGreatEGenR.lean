/-
  Lists of rows with one more, with one less, with one moved: what the program's generic functions make.
  Conditions: lists of at most 2^39 elements.
-/
import Derived.WalkKit
import Derived.WalkMore
import Derived.WalkLawsBesides
import Derived.Lib.Hide
import Derived.Deep.RegionWith
import Derived.Test.YtigijgcldgbokaaGreatProg
import Derived.Test.YtigijgcldgbokaaGreatEStop
import Derived.Test.YtigijgcldgbokaaGreatESlR
namespace Go.Proofs.YtigijgcldgbokaaGreat
open Go.RowKit Go.Shelf
set_option linter.unusedVariables false

theorem concat3R (w : World) (a1 a3 : Option Addr) (n1 c1 n3 c3 : Nat) (v1 v3 : List Value) (xo : Option Addr) (xn xc : Nat) (e1 : v1.length = n1) (e3 : v3.length = n3) (k1 : n1 ≤ c1 ∧ (a1 = none → c1 = 0)) (k3 : n3 ≤ c3 ∧ (a3 = none → c3 = 0)) (h1 : CellsAt w a1 v1) (h3 : CellsAt w a3 v3)
    (o1 : ∀ u ∈ v1, u.oneCell' = true) (o3 : ∀ u ∈ v3, u.oneCell' = true) (hs : n1 + n3 ≤ 549755813888) :
    Calls Tryz.prog 74 #[.slice (some ⟨w.heap.size + 1, 0, none⟩) 3 3] ((w.alloc (.cells #[(.slice xo xn xc)] 22)).alloc (.cells #[.slice a1 n1 c1, .slice (some ⟨w.heap.size, 0, none⟩) 1 1, .slice a3 n3 c3] 23)).drew (VOut (.ok (v1 ++ (.slice xo xn xc) :: v3)) w) := by
  subst e1 e3
  obtain ⟨W, HW⟩ : ∃ W, Hid (W = ((w.alloc (.cells #[(.slice xo xn xc)] 22)).alloc (.cells #[.slice a1 v1.length c1, .slice (some ⟨w.heap.size, 0, none⟩) 1 1, .slice a3 v3.length c3] 23)).drew) := ⟨_, Lib.hid rfl⟩
  have hB : Below w.heap.size w W := by rw [HW.out]; exact (two_below _ _ _).drew
  have hN := two_new w (.cells #[(.slice xo xn xc)] 22) (.cells #[.slice a1 v1.length c1, .slice (some ⟨w.heap.size, 0, none⟩) 1 1, .slice a3 v3.length c3] 23)
  have hx : W.heap[w.heap.size]? = some (.cells #[(.slice xo xn xc)] 22 (0, 0)) := by rw [HW.out]; exact hN.2.1
  have hL : W.heap[w.heap.size + 1]? = some (.cells #[.slice a1 v1.length c1, .slice (some ⟨w.heap.size, 0, none⟩) 1 1, .slice a3 v3.length c3] 23 (0, 0)) := by rw [HW.out]; exact hN.2.2
  rw [← HW.out]
  let ps : List PartE := [⟨a1, v1, ⟨c1, k1⟩⟩, ⟨some ⟨w.heap.size, 0, none⟩, [(.slice xo xn xc)], ⟨1, Nat.le_refl _, fun e => by cases e⟩⟩, ⟨a3, v3, ⟨c3, k3⟩⟩]
  have C := concatR (w.heap.size + 1) 3 ps W (by simp [ps]) (fun i p hp => ?_) (lt_of_heap hL) (fun p hp => ?_) (by simp only [ps, lensTR, List.map_cons, List.map_nil, List.sum_cons, List.sum_nil, List.length_singleton]; omega)
  · refine C.mono ?_
    intro e w' h
    have hf : flatTR ps = v1 ++ (.slice xo xn xc) :: v3 := by simp [ps, flatTR]
    rw [hf] at h
    obtain ⟨ao, cap, q1, q2, q3⟩ := h
    exact ⟨ao, cap, q1, q2.mono hB.size, below_up hB q3⟩
  · rw [Lib.cell_of_heap hL i]
    match i, hp with
    | 0, hp => simp [ps] at hp; subst hp; rfl
    | 1, hp => simp [ps] at hp; subst hp; rfl
    | 2, hp => simp [ps] at hp; subst hp; rfl
  · simp only [ps, List.mem_cons, List.not_mem_nil, or_false] at hp
    rcases hp with rfl | rfl | rfl
    · exact ⟨h1.kept hB, o1⟩
    · refine ⟨.inr ⟨_, rfl, lt_of_heap hx, fun i v hv => ?_⟩, fun u hu => by simp at hu; subst hu; rfl⟩
      rw [cell_row hx]
      match i, hv with
      | 0, hv => simpa using hv
    · exact ⟨h3.kept hB, o3⟩
theorem concat2R (w : World) (a1 a3 : Option Addr) (n1 c1 n3 c3 : Nat) (v1 v3 : List Value) (e1 : v1.length = n1) (e3 : v3.length = n3) (k1 : n1 ≤ c1 ∧ (a1 = none → c1 = 0)) (k3 : n3 ≤ c3 ∧ (a3 = none → c3 = 0)) (h1 : CellsAt w a1 v1) (h3 : CellsAt w a3 v3)
    (o1 : ∀ u ∈ v1, u.oneCell' = true) (o3 : ∀ u ∈ v3, u.oneCell' = true) (hs : n1 + n3 ≤ 549755813888) :
    Calls Tryz.prog 74 #[.slice (some ⟨w.heap.size, 0, none⟩) 2 2] (w.alloc (.cells #[.slice a1 n1 c1, .slice a3 n3 c3] 23)).drew (VOut (.ok (v1 ++ v3)) w) := by
  subst e1 e3
  obtain ⟨W, HW⟩ : ∃ W, Hid (W = (w.alloc (.cells #[.slice a1 v1.length c1, .slice a3 v3.length c3] 23)).drew) := ⟨_, Lib.hid rfl⟩
  have hB : Below w.heap.size w W := by rw [HW.out]; exact (one_below _ _).drew
  have hL : W.heap[w.heap.size]? = some (.cells #[.slice a1 v1.length c1, .slice a3 v3.length c3] 23 (0, 0)) := by rw [HW.out]; exact World.alloc_heap_new w _
  rw [← HW.out]
  let ps : List PartE := [⟨a1, v1, ⟨c1, k1⟩⟩, ⟨a3, v3, ⟨c3, k3⟩⟩]
  have C := concatR w.heap.size 2 ps W (by simp [ps]) (fun i p hp => ?_) (lt_of_heap hL) (fun p hp => ?_) (by simp only [ps, lensTR, List.map_cons, List.map_nil, List.sum_cons, List.sum_nil]; omega)
  · refine C.mono ?_
    intro e w' h
    have hf : flatTR ps = v1 ++ v3 := by simp [ps, flatTR]
    rw [hf] at h
    obtain ⟨ao, cap, q1, q2, q3⟩ := h
    exact ⟨ao, cap, q1, q2.mono hB.size, below_up hB q3⟩
  · rw [Lib.cell_of_heap hL i]
    match i, hp with
    | 0, hp => simp [ps] at hp; subst hp; rfl
    | 1, hp => simp [ps] at hp; subst hp; rfl
  · simp only [ps, List.mem_cons, List.not_mem_nil, or_false] at hp
    rcases hp with rfl | rfl
    · exact ⟨h1.kept hB, o1⟩
    · exact ⟨h3.kept hB, o3⟩
theorem take_cellsR {w : World} {ao : Option Addr} {vs : List Value} (h : CellsAt w ao vs) (j : Nat) : CellsAt w ao (vs.take j) := by
  rcases h with h | ⟨A, q1, q2, q3⟩
  · exact .inl (by rw [h]; simp)
  · refine .inr ⟨A, q1, q2, fun i v hv => q3 i v ?_⟩
    rw [List.getElem?_take] at hv
    split at hv
    · exact hv
    · cases hv
theorem drop_cellsR {w : World} {A : Addr} {vs : List Value} (h : CellsAt w (some A) vs) (j : Nat) : CellsAt w (some (A.add j)) (vs.drop j) := by
  rcases h with h | ⟨A', q1, q2, q3⟩
  · exact .inl (by rw [h]; simp)
  · cases q1
    refine .inr ⟨_, rfl, by rw [add_block]; exact q2, fun i v hv => ?_⟩
    rw [List.getElem?_drop] at hv
    rw [Addr.add_add]
    exact q3 _ _ hv

end Go.Proofs.YtigijgcldgbokaaGreat
