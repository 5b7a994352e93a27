/-
  The kinds that a list is split into: whether one holds a pair, and keeps it.
  Conditions: at most 2^20 are kept.
-/
import Derived.WalkKit
import Derived.WalkMore
import Derived.IntWalk
import Derived.OwnWalk
import Derived.Lib.Hide
import Derived.Deep.RegionWith
import Derived.Deep.RegionHeld3
import Derived.Deep.AppendLies
import Derived.Deep.RegionLaw
import Derived.Deep.Onto
import Derived.Test.YtolcdhdmonaeaaaProg
import Derived.Test.YtolcdhdmonaeaaaPThrough
import Derived.Test.YtolcdhdmonaeaaaPIns
namespace Go.Proofs.Ytolcdhdmonaeaaa
open Go.RowKit Go.Shelf
set_option linter.unusedVariables false

/-- one more was kept, in a box -/
structure KeepOut (T E : TypeId) (sz B s : Nat) (v : Value) (n : Nat) (cs : List Value) (W w' : World) (g cap : Nat) : Prop where
  box : w'.heap[B]? = some (.cells #[.slice (some ⟨g, 0, none⟩) (n + 1) cap] T (0, 0))
  own : w'.ownsRow s E sz (.slice (some ⟨g, 0, none⟩) (n + 1) cap) (n + 1) cs
  lies : v.ownBlock = some g ∨ W.heap.size ≤ g
  size : W.heap.size ≤ w'.heap.size
  keep : ∀ k, k < W.heap.size → k ≠ B → some k ≠ v.ownBlock → w'.heap[k]? = W.heap[k]?
  under : Below B W w'
theorem keep_out {T E : TypeId} {sz B s : Nat} {v : Value} {n : Nat} {cs : List Value} {W V w3 : World} {o : Obj} {g cap : Nat} {p : Obj} (hV : V = W.alloc p) (hB : W.heap[B]? = some (.cells #[v] T (0, 0))) (hs : B < s) (hsW : s ≤ W.heap.size) (hO : W.ownsRow s E sz v n cs) {cs' : List Value}
    (ho : w3.ownsRow s E sz (.slice (some ⟨g, 0, none⟩) (n + 1) cap) (n + 1) cs') (hg : (V.drew.alloc o).grownBy w3 v.ownBlock) (hl : v.ownBlock = some g ∨ g = (V.drew.alloc o).heap.size) :
    KeepOut T E sz B s v n cs' W (w3.setCell ⟨B, 0, none⟩ (.slice (some ⟨g, 0, none⟩) (n + 1) cap)) g cap := by
  have hsz : (V.drew.alloc o).heap.size = W.heap.size + 2 := by rw [hV]; simp [World.drew]
  have hgs := (ho.lt g rfl)
  have old : ∀ k, k < W.heap.size → some k ≠ v.ownBlock → w3.heap[k]? = W.heap[k]? := fun k hk hne => by
    rw [hg.block k (by omega) hne, Below.heap_alloc _ _ _ (by rw [hV]; simp [World.drew]; omega), hV]
    exact Below.heap_alloc _ _ _ hk
  have hBW : B < W.heap.size := by omega
  have hBne : some B ≠ v.ownBlock := fun e => by have := (hO.lt B e.symm).1; omega
  have h3 : w3.heap[B]? = some (.cells #[v] T (0, 0)) := (old B hBW hBne).trans hB
  refine ⟨heap_setCell_same w3 B 0 _ _ _ h3, ownsRow_setCell_other ho (by simp [Value.ownBlock]; omega) _, ?_, ?_, fun k hk h1 h2 => ?_, ?_⟩
  · rcases hl with hl | hl
    · exact .inl hl
    · exact .inr (by omega)
  · have h9 := hg.size; rw [hsz] at h9; simp; omega
  · rw [heap_setCell_other _ ⟨B, 0, none⟩ _ _ h1]; exact old k hk h2
  · have hb : Below B W V := by rw [hV]; exact (Below.refl _ W).alloc (by omega) _
    have hb2 : Below B W (V.drew.alloc o) := hb.drew.alloc (by rw [hV]; simp [World.drew]; omega) _
    have hb3 : Below B W w3 := hb2.grown hg (by omega) (fun k h => by have := (hO.lt k h).1; omega)
    exact ⟨hb3.os, hb3.tape, hb3.output, by have := hb3.size; simpa using this, fun k hk => by rw [heap_setCell_other _ ⟨B, 0, none⟩ _ _ (by simp; omega)]; exact hb3.block k hk⟩
theorem drew_size (V : World) : V.drew.heap.size = V.heap.size := rfl
theorem drew_alloc_size (V : World) (o : Obj) : (V.drew.alloc o).heap.size = V.heap.size + 1 := by unfold World.drew; simp
theorem alloc_belowK0 (w : World) (o : Obj) : Below w.heap.size w (w.alloc o) := (Below.refl _ w).alloc (Nat.le_refl _) o
theorem alloc_belowK (w : World) (o : Obj) : Below w.heap.size w (w.drew.alloc o) := ((Below.refl _ w).drew).alloc (Nat.le_refl _) o

set_option maxRecDepth 100000 in
theorem holdsP_any (q : Addr) (x1 x2 : Int) (W : World) : Calls Try.prog 60 #[.pointer (some q), .agg #[.int .i64 x1, .int .i64 x2]] W fun e w' => e = .returned (.bool (decide (0 ≤ x1) && decide (0 ≤ x2))) ∧ Below W.heap.size W w' := by
  have hB := Lib.hid ((Below.refl _ W).alloc (Nat.le_refl _) (.cells #[.int .i64 x1, .int .i64 x2] 37))
  by_cases h1 : 0 ≤ x1
  · have hb : (decide (0 ≤ x1) = true) := by simp [h1]
    go_enter Try.func60, Try.ntmps60
    go_wp2_with fail
    go_ret
    exact ⟨by first | (simp; done) | simp [h1], hB.out⟩
  · have hb : (decide (0 ≤ x1) = false) := by simp; omega
    go_enter Try.func60, Try.ntmps60
    go_wp2_with fail
    go_ret
    exact ⟨by first | (simp; done) | simp [h1], hB.out⟩

set_option maxRecDepth 100000 in
set_option maxHeartbeats 2000000 in
theorem keepP_any (B s : Nat) (ao : Option Addr) (n cp : Nat) (cs : List Value) (x1 x2 : Int) (W : World) (hB : W.heap[B]? = some (.cells #[.slice ao n cp] 52 (0, 0))) (hn : n ≤ 1048576) (hs : B < s) (hsW : s ≤ W.heap.size) (hO : W.ownsRow s 37 2 (.slice ao n cp) n cs) :
    Calls Try.prog 61 #[.pointer (some ⟨B, 0, none⟩), .agg #[.int .i64 x1, .int .i64 x2]] W fun e w' => e = .returned (.tuple #[]) ∧ ∃ g cap, KeepOut 52 37 2 B s (.slice ao n cp) n (cs ++ [Value.int .i64 x1, Value.int .i64 x2]) W w' g cap := by
  have hinfo : (Try.prog.info? 37).map (fun i => (i.zero, i.size, i.bytes)) = some (some (.agg #[.int .i64 0, .int .i64 0]), 2, 16) := by kernel_rfl
  obtain ⟨i0, hi, hz0, hz1, hz2⟩ := info_parts2 hinfo
  have HI := Lib.hid hi
  obtain ⟨V, HV⟩ : ∃ V, Hid (V = W.alloc (.cells #[.int .i64 x1, .int .i64 x2] 37)) := ⟨_, Lib.hid rfl⟩
  have hVh : V.heap[W.heap.size]? = some (.cells #[.int .i64 x1, .int .i64 x2] 37 (0, 0)) := by rw [HV.out]; exact World.alloc_heap_new _ _
  have v0 : V.cell? ⟨W.heap.size, 0, none⟩ = some (.int .i64 x1) := (Lib.cell_of_heap hVh 0).trans rfl
  have v1 : V.cell? ⟨W.heap.size, 1, none⟩ = some (.int .i64 x2) := (Lib.cell_of_heap hVh 1).trans rfl
  have hbV : Below W.heap.size W V := by rw [HV.out]; exact (Below.refl _ W).alloc (Nat.le_refl _) _
  have hVB : V.heap[B]? = some (.cells #[.slice ao n cp] 52 (0, 0)) := (hbV.block B (by omega)).trans hB
  obtain ⟨c0, f0⟩ := cell_of_box_l hVB
  obtain ⟨OB, hOB⟩ : ∃ OB : Obj, OB = .cells #[Value.int .i64 x1, Value.int .i64 x2] 37 := ⟨_, rfl⟩
  have HO1 := Lib.hid ((ownsRow_below hO hbV).drew.alloc (.cells #[Value.int .i64 x1, Value.int .i64 x2] 37))
  have hVs : V.heap.size = W.heap.size + 1 := by rw [HV.out]; simp
  have HNW := Lib.hid (lit_cellP V.drew (.int .i64 x1) (.int .i64 x2) 37)
  have d0 : (V.alloc (.cells #[Value.int .i64 x1, Value.int .i64 x2] 37)).cell? ⟨B, 0, none⟩ = some (.slice ao n cp) := cell_grown c0 (grown_below (row := none) (alloc_belowK0 V _)) (by simp)
  have d1 : (V.alloc (.cells #[Value.int .i64 x1, Value.int .i64 x2] 37)).cell? ⟨W.heap.size, 0, none⟩ = some (.int .i64 x1) := cell_grown v0 (grown_below (row := none) (alloc_belowK0 V _)) (by simp)
  have d2 : (V.alloc (.cells #[Value.int .i64 x1, Value.int .i64 x2] 37)).cell? ⟨W.heap.size, 1, none⟩ = some (.int .i64 x2) := cell_grown v1 (grown_below (row := none) (alloc_belowK0 V _)) (by simp)
  have FIN : Hid (∀ w3 g cap, w3.ownsRow s 37 2 (.slice (some ⟨g, 0, none⟩) (n + 1) cap) (n + 1) (cs ++ [Value.int .i64 x1, Value.int .i64 x2]) → (V.drew.alloc (.cells #[Value.int .i64 x1, Value.int .i64 x2] 37)).grownBy w3 (Value.slice ao n cp).ownBlock → ((Value.slice ao n cp).ownBlock = some g ∨ g = (V.drew.alloc (.cells #[Value.int .i64 x1, Value.int .i64 x2] 37)).heap.size) → w3.cell? ⟨B, 0, none⟩ = some (.slice ao n cp) ∧ w3.frozen? ⟨B, 0, none⟩ = false ∧ KeepOut 52 37 2 B s (.slice ao n cp) n (cs ++ [Value.int .i64 x1, Value.int .i64 x2]) W (w3.setCell ⟨B, 0, none⟩ (.slice (some ⟨g, 0, none⟩) (n + 1) cap)) g cap) := Lib.hid (fun w3 g cap h1 h2 h3 => by
    have hBne : some B ≠ (Value.slice ao n cp).ownBlock := fun e => by have := (hO.lt B e.symm).1; omega
    have h4 : w3.heap[B]? = some (.cells #[.slice ao n cp] 52 (0, 0)) := by
      rw [h2.block B (by rw [drew_alloc_size]; omega) hBne, Below.heap_alloc _ _ _ (by rw [drew_size]; omega)]; exact hVB
    exact ⟨(cell_of_box_l h4).1, (cell_of_box_l h4).2, keep_out HV.out hB hs hsW hO h1 h2 h3⟩)
  have hbase : s ≤ (V.drew.alloc (.cells #[Value.int .i64 x1, Value.int .i64 x2] 37)).heap.size := by rw [drew_alloc_size]; omega
  clear hi hinfo hB hO hbV hVB hVh hVs
  go_enter Try.func61, Try.ntmps61
  go_upto_region 1 with fail
  rw [← HV.out]
  clear HV
  go_region_law
    (first | (refine step_append_lies _ (by rfl) _ _ 22 (by rfl) s 37 i0 (.agg #[.int .i64 0, .int .i64 0]) 2 16 Try.underlying22 HI.out hz0 hz1 hz2 rfl (by decide) (.slice ao n cp) n cs (by rfl) HO1.out ⟨V.heap.size, 0, none⟩ 1 1 [Value.int .i64 x1, Value.int .i64 x2] (by rfl) rfl HNW.out (fun u hu => by simp at hu; rcases hu with rfl | rfl <;> rfl) (by decide) (by unfold maxLen; omega) (by omega) hbase _ rfl ?_; intro g3 gc w3 ho3 hg3 hl3 hs3; obtain ⟨e1, e2, E3⟩ := FIN.out w3 g3 gc ho3 hg3 hl3; have E4 := Lib.hid E3; clear ho3 hg3 hl3 hs3 E3))
  all_goals
    go_wp2_with fail
    go_end0
    exact ⟨rfl, g3, gc, E4.out⟩

set_option maxRecDepth 100000 in
theorem holdsA_any (q : Addr) (x1 x2 : Int) (W : World) : Calls Try.prog 62 #[.pointer (some q), .agg #[.int .i64 x1, .int .i64 x2]] W fun e w' => e = .returned (.bool (decide (0 ≤ x1) && decide (x2 < 0))) ∧ Below W.heap.size W w' := by
  have hB := Lib.hid ((Below.refl _ W).alloc (Nat.le_refl _) (.cells #[.int .i64 x1, .int .i64 x2] 37))
  by_cases h1 : 0 ≤ x1
  · have hb : (decide (0 ≤ x1) = true) := by simp [h1]
    go_enter Try.func62, Try.ntmps62
    go_wp2_with fail
    go_ret
    exact ⟨by first | (simp; done) | simp [h1], hB.out⟩
  · have hb : (decide (0 ≤ x1) = false) := by simp; omega
    go_enter Try.func62, Try.ntmps62
    go_wp2_with fail
    go_ret
    exact ⟨by first | (simp; done) | simp [h1], hB.out⟩

set_option maxRecDepth 100000 in
set_option maxHeartbeats 2000000 in
theorem keepA_any (B s : Nat) (ao : Option Addr) (n cp : Nat) (cs : List Value) (x1 x2 : Int) (W : World) (hB : W.heap[B]? = some (.cells #[.slice ao n cp] 54 (0, 0))) (hn : n ≤ 1048576) (hs : B < s) (hsW : s ≤ W.heap.size) (hO : W.ownsRow s 3 1 (.slice ao n cp) n cs) :
    Calls Try.prog 63 #[.pointer (some ⟨B, 0, none⟩), .agg #[.int .i64 x1, .int .i64 x2]] W fun e w' => e = .returned (.tuple #[]) ∧ ∃ g cap, KeepOut 54 3 1 B s (.slice ao n cp) n (cs ++ [Value.int .i64 x1]) W w' g cap := by
  have hinfo : (Try.prog.info? 3).map (fun i => (i.zero, i.size, i.bytes)) = some (some (.int .i64 0), 1, 8) := by kernel_rfl
  obtain ⟨i0, hi, hz0, hz1, hz2⟩ := info_parts2 hinfo
  have HI := Lib.hid hi
  obtain ⟨V, HV⟩ : ∃ V, Hid (V = W.alloc (.cells #[.int .i64 x1, .int .i64 x2] 37)) := ⟨_, Lib.hid rfl⟩
  have hVh : V.heap[W.heap.size]? = some (.cells #[.int .i64 x1, .int .i64 x2] 37 (0, 0)) := by rw [HV.out]; exact World.alloc_heap_new _ _
  have v0 : V.cell? ⟨W.heap.size, 0, none⟩ = some (.int .i64 x1) := (Lib.cell_of_heap hVh 0).trans rfl
  have v1 : V.cell? ⟨W.heap.size, 1, none⟩ = some (.int .i64 x2) := (Lib.cell_of_heap hVh 1).trans rfl
  have hbV : Below W.heap.size W V := by rw [HV.out]; exact (Below.refl _ W).alloc (Nat.le_refl _) _
  have hVB : V.heap[B]? = some (.cells #[.slice ao n cp] 54 (0, 0)) := (hbV.block B (by omega)).trans hB
  obtain ⟨c0, f0⟩ := cell_of_box_l hVB
  obtain ⟨OB, hOB⟩ : ∃ OB : Obj, OB = .cells #[Value.int .i64 x1] 3 := ⟨_, rfl⟩
  have HO1 := Lib.hid ((ownsRow_below hO hbV).drew.alloc (.cells #[Value.int .i64 x1] 3))
  have hVs : V.heap.size = W.heap.size + 1 := by rw [HV.out]; simp
  have HNW := Lib.hid (lit_cellI V.drew (.int .i64 x1))
  have d0 : (V.alloc (.cells #[Value.int .i64 x1] 3)).cell? ⟨B, 0, none⟩ = some (.slice ao n cp) := cell_grown c0 (grown_below (row := none) (alloc_belowK0 V _)) (by simp)
  have d1 : (V.alloc (.cells #[Value.int .i64 x1] 3)).cell? ⟨W.heap.size, 0, none⟩ = some (.int .i64 x1) := cell_grown v0 (grown_below (row := none) (alloc_belowK0 V _)) (by simp)
  have d2 : (V.alloc (.cells #[Value.int .i64 x1] 3)).cell? ⟨W.heap.size, 1, none⟩ = some (.int .i64 x2) := cell_grown v1 (grown_below (row := none) (alloc_belowK0 V _)) (by simp)
  have FIN : Hid (∀ w3 g cap, w3.ownsRow s 3 1 (.slice (some ⟨g, 0, none⟩) (n + 1) cap) (n + 1) (cs ++ [Value.int .i64 x1]) → (V.drew.alloc (.cells #[Value.int .i64 x1] 3)).grownBy w3 (Value.slice ao n cp).ownBlock → ((Value.slice ao n cp).ownBlock = some g ∨ g = (V.drew.alloc (.cells #[Value.int .i64 x1] 3)).heap.size) → w3.cell? ⟨B, 0, none⟩ = some (.slice ao n cp) ∧ w3.frozen? ⟨B, 0, none⟩ = false ∧ KeepOut 54 3 1 B s (.slice ao n cp) n (cs ++ [Value.int .i64 x1]) W (w3.setCell ⟨B, 0, none⟩ (.slice (some ⟨g, 0, none⟩) (n + 1) cap)) g cap) := Lib.hid (fun w3 g cap h1 h2 h3 => by
    have hBne : some B ≠ (Value.slice ao n cp).ownBlock := fun e => by have := (hO.lt B e.symm).1; omega
    have h4 : w3.heap[B]? = some (.cells #[.slice ao n cp] 54 (0, 0)) := by
      rw [h2.block B (by rw [drew_alloc_size]; omega) hBne, Below.heap_alloc _ _ _ (by rw [drew_size]; omega)]; exact hVB
    exact ⟨(cell_of_box_l h4).1, (cell_of_box_l h4).2, keep_out HV.out hB hs hsW hO h1 h2 h3⟩)
  have hbase : s ≤ (V.drew.alloc (.cells #[Value.int .i64 x1] 3)).heap.size := by rw [drew_alloc_size]; omega
  clear hi hinfo hB hO hbV hVB hVh hVs
  go_enter Try.func63, Try.ntmps63
  go_upto_region 1 with fail
  rw [← HV.out]
  clear HV
  go_region_law
    (first | (refine step_append_lies _ (by rfl) _ _ 30 (by rfl) s 3 i0 (.int .i64 0) 1 8 Try.underlying30 HI.out hz0 hz1 hz2 rfl (by decide) (.slice ao n cp) n cs (by rfl) HO1.out ⟨V.heap.size, 0, none⟩ 1 1 [Value.int .i64 x1] (by rfl) rfl HNW.out (fun u hu => by simp at hu; subst hu; rfl) (by decide) (by unfold maxLen; omega) (by omega) hbase _ rfl ?_; intro g3 gc w3 ho3 hg3 hl3 hs3; obtain ⟨e1, e2, E3⟩ := FIN.out w3 g3 gc ho3 hg3 hl3; have E4 := Lib.hid E3; clear ho3 hg3 hl3 hs3 E3))
  all_goals
    go_wp2_with fail
    go_end0
    exact ⟨rfl, g3, gc, E4.out⟩

set_option maxRecDepth 100000 in
theorem holdsB_any (q : Addr) (x1 x2 : Int) (W : World) : Calls Try.prog 64 #[.pointer (some q), .agg #[.int .i64 x1, .int .i64 x2]] W fun e w' => e = .returned (.bool (decide (x1 < 0) && decide (0 ≤ x2))) ∧ Below W.heap.size W w' := by
  have hB := Lib.hid ((Below.refl _ W).alloc (Nat.le_refl _) (.cells #[.int .i64 x1, .int .i64 x2] 37))
  by_cases h1 : x1 < 0
  · have hb : (decide (x1 < 0) = true) := by simp [h1]
    go_enter Try.func64, Try.ntmps64
    go_wp2_with fail
    go_ret
    exact ⟨by first | (simp; done) | simp [h1], hB.out⟩
  · have hb : (decide (x1 < 0) = false) := by simp; omega
    go_enter Try.func64, Try.ntmps64
    go_wp2_with fail
    go_ret
    exact ⟨by first | (simp; done) | simp [h1], hB.out⟩

set_option maxRecDepth 100000 in
set_option maxHeartbeats 2000000 in
theorem keepB_any (B s : Nat) (ao : Option Addr) (n cp : Nat) (cs : List Value) (x1 x2 : Int) (W : World) (hB : W.heap[B]? = some (.cells #[.slice ao n cp] 56 (0, 0))) (hn : n ≤ 1048576) (hs : B < s) (hsW : s ≤ W.heap.size) (hO : W.ownsRow s 3 1 (.slice ao n cp) n cs) :
    Calls Try.prog 65 #[.pointer (some ⟨B, 0, none⟩), .agg #[.int .i64 x1, .int .i64 x2]] W fun e w' => e = .returned (.tuple #[]) ∧ ∃ g cap, KeepOut 56 3 1 B s (.slice ao n cp) n (cs ++ [Value.int .i64 x2]) W w' g cap := by
  have hinfo : (Try.prog.info? 3).map (fun i => (i.zero, i.size, i.bytes)) = some (some (.int .i64 0), 1, 8) := by kernel_rfl
  obtain ⟨i0, hi, hz0, hz1, hz2⟩ := info_parts2 hinfo
  have HI := Lib.hid hi
  obtain ⟨V, HV⟩ : ∃ V, Hid (V = W.alloc (.cells #[.int .i64 x1, .int .i64 x2] 37)) := ⟨_, Lib.hid rfl⟩
  have hVh : V.heap[W.heap.size]? = some (.cells #[.int .i64 x1, .int .i64 x2] 37 (0, 0)) := by rw [HV.out]; exact World.alloc_heap_new _ _
  have v0 : V.cell? ⟨W.heap.size, 0, none⟩ = some (.int .i64 x1) := (Lib.cell_of_heap hVh 0).trans rfl
  have v1 : V.cell? ⟨W.heap.size, 1, none⟩ = some (.int .i64 x2) := (Lib.cell_of_heap hVh 1).trans rfl
  have hbV : Below W.heap.size W V := by rw [HV.out]; exact (Below.refl _ W).alloc (Nat.le_refl _) _
  have hVB : V.heap[B]? = some (.cells #[.slice ao n cp] 56 (0, 0)) := (hbV.block B (by omega)).trans hB
  obtain ⟨c0, f0⟩ := cell_of_box_l hVB
  obtain ⟨OB, hOB⟩ : ∃ OB : Obj, OB = .cells #[Value.int .i64 x2] 3 := ⟨_, rfl⟩
  have HO1 := Lib.hid ((ownsRow_below hO hbV).drew.alloc (.cells #[Value.int .i64 x2] 3))
  have hVs : V.heap.size = W.heap.size + 1 := by rw [HV.out]; simp
  have HNW := Lib.hid (lit_cellI V.drew (.int .i64 x2))
  have d0 : (V.alloc (.cells #[Value.int .i64 x2] 3)).cell? ⟨B, 0, none⟩ = some (.slice ao n cp) := cell_grown c0 (grown_below (row := none) (alloc_belowK0 V _)) (by simp)
  have d1 : (V.alloc (.cells #[Value.int .i64 x2] 3)).cell? ⟨W.heap.size, 0, none⟩ = some (.int .i64 x1) := cell_grown v0 (grown_below (row := none) (alloc_belowK0 V _)) (by simp)
  have d2 : (V.alloc (.cells #[Value.int .i64 x2] 3)).cell? ⟨W.heap.size, 1, none⟩ = some (.int .i64 x2) := cell_grown v1 (grown_below (row := none) (alloc_belowK0 V _)) (by simp)
  have FIN : Hid (∀ w3 g cap, w3.ownsRow s 3 1 (.slice (some ⟨g, 0, none⟩) (n + 1) cap) (n + 1) (cs ++ [Value.int .i64 x2]) → (V.drew.alloc (.cells #[Value.int .i64 x2] 3)).grownBy w3 (Value.slice ao n cp).ownBlock → ((Value.slice ao n cp).ownBlock = some g ∨ g = (V.drew.alloc (.cells #[Value.int .i64 x2] 3)).heap.size) → w3.cell? ⟨B, 0, none⟩ = some (.slice ao n cp) ∧ w3.frozen? ⟨B, 0, none⟩ = false ∧ KeepOut 56 3 1 B s (.slice ao n cp) n (cs ++ [Value.int .i64 x2]) W (w3.setCell ⟨B, 0, none⟩ (.slice (some ⟨g, 0, none⟩) (n + 1) cap)) g cap) := Lib.hid (fun w3 g cap h1 h2 h3 => by
    have hBne : some B ≠ (Value.slice ao n cp).ownBlock := fun e => by have := (hO.lt B e.symm).1; omega
    have h4 : w3.heap[B]? = some (.cells #[.slice ao n cp] 56 (0, 0)) := by
      rw [h2.block B (by rw [drew_alloc_size]; omega) hBne, Below.heap_alloc _ _ _ (by rw [drew_size]; omega)]; exact hVB
    exact ⟨(cell_of_box_l h4).1, (cell_of_box_l h4).2, keep_out HV.out hB hs hsW hO h1 h2 h3⟩)
  have hbase : s ≤ (V.drew.alloc (.cells #[Value.int .i64 x2] 3)).heap.size := by rw [drew_alloc_size]; omega
  clear hi hinfo hB hO hbV hVB hVh hVs
  go_enter Try.func65, Try.ntmps65
  go_upto_region 1 with fail
  rw [← HV.out]
  clear HV
  go_region_law
    (first | (refine step_append_lies _ (by rfl) _ _ 30 (by rfl) s 3 i0 (.int .i64 0) 1 8 Try.underlying30 HI.out hz0 hz1 hz2 rfl (by decide) (.slice ao n cp) n cs (by rfl) HO1.out ⟨V.heap.size, 0, none⟩ 1 1 [Value.int .i64 x2] (by rfl) rfl HNW.out (fun u hu => by simp at hu; subst hu; rfl) (by decide) (by unfold maxLen; omega) (by omega) hbase _ rfl ?_; intro g3 gc w3 ho3 hg3 hl3 hs3; obtain ⟨e1, e2, E3⟩ := FIN.out w3 g3 gc ho3 hg3 hl3; have E4 := Lib.hid E3; clear ho3 hg3 hl3 hs3 E3))
  all_goals
    go_wp2_with fail
    go_end0
    exact ⟨rfl, g3, gc, E4.out⟩
end Go.Proofs.Ytolcdhdmonaeaaa
