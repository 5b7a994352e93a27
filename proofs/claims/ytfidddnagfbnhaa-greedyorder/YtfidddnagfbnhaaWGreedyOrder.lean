/-
  The walk of the statement GreedyOrder.
  Conditions: none beyond the form of claims.
-/
import Derived.WalkKit
import Derived.WalkMore
import Derived.BigQuiet
import Derived.Laws.StructEq
import Derived.Deep.QuietTactic
import Derived.Lib.QuietBelow
import Derived.Lib.Hide
import Derived.Test.YtfidddnagfbnhaaProg
import Derived.Test.YtfidddnagfbnhaaGOpen
import Derived.Test.YtfidddnagfbnhaaGWorks
namespace Go.Proofs.Ytfidddnagfbnhaa
open Go.RowKit Go.Shelf Go.Lib
set_option linter.unusedVariables false

theorem neq_trip (a1 a2 a3 b1 b2 b3 : Int) (W : World) : (binOp .neq 24 (.agg #[.int .i64 a1, .int .i64 a2, .int .i64 a3]) (.agg #[.int .i64 b1, .int .i64 b2, .int .i64 b3])).run Try.prog W = .ok (.bool (decide (((a1, a2, a3) : T3) ≠ (b1, b2, b3)))) W := by
  have u3 := Try.underlying3
  have a3' := Try.isAgg3
  have z3 := Try.sizeOf3
  have hS : Try.prog.underlying 24 = some (.struct (Try.prog.fieldsOf 24)) := by kernel_rfl
  have hp : Try.prog.stoodInHeld 24 = false := by kernel_rfl
  rw [run_neq_struct, show (10000 : Nat) = 9999 + 1 from rfl, run_equalIn_agg W 9999 24 _ _ hS hp]
  simp only [Program.fieldsOf, Try.underlying24]
  go_simp
  by_cases h1 : a1 = b1 <;> by_cases h2 : a2 = b2 <;> by_cases h3 : a3 = b3 <;> simp [h1, h2, h3]
theorem better_diff (c d : T3) : (betterT c d != betterT d c) = decide (c ≠ d) := by
  by_cases h : c = d
  · subst h; simp
  · rw [decide_eq_true h]
    cases h1 : betterT c d with
    | true => rw [better_one h1]; rfl
    | false =>
      cases h2 : betterT d c with
      | true => rfl
      | false => exact absurd (better_either h1 h2) h

theorem three_new (w : World) (o p q : Obj) : (((w.alloc o).alloc p).alloc q).heap[w.heap.size]? = some o ∧ (((w.alloc o).alloc p).alloc q).heap[w.heap.size + 1]? = some p ∧ (((w.alloc o).alloc p).alloc q).heap[w.heap.size + 2]? = some q := by
  obtain ⟨h0, h1, h2⟩ := two_new w o p
  refine ⟨?_, ?_, ?_⟩
  · rw [Below.heap_alloc _ _ _ (by rw [h0]; omega)]; exact h1
  · rw [Below.heap_alloc _ _ _ (by rw [h0]; omega)]; exact h2
  · rw [← h0]; exact World.alloc_heap_new _ q

set_option maxRecDepth 100000 in
set_option maxHeartbeats 4000000 in
theorem walkGreedyOrder (a1 a2 a3 b1 b2 b3 c1 c2 c3 : Int) (w : World) (hA : TripArg (a1, a2, a3)) (hB : TripArg (b1, b2, b3)) (hC : TripArg (c1, c2, c3)) :
    Calls Try.prog 7 #[.agg #[.int .i64 a1, .int .i64 a2, .int .i64 a3], .agg #[.int .i64 b1, .int .i64 b2, .int .i64 b3], .agg #[.int .i64 c1, .int .i64 c2, .int .i64 c3]] w fun e w' => e = .returned (.bool true) ∧ Below w.heap.size w w' := by
  have C0 := Lib.hid (fun W => gworks_any W)
  have K1 := Lib.hid (fun W => better_any (a1, a2, a3) (b1, b2, b3) W)
  have K2 := Lib.hid (fun W => better_any (b1, b2, b3) (a1, a2, a3) W)
  have K3 := Lib.hid (fun W => better_any (b1, b2, b3) (c1, c2, c3) W)
  have K4 := Lib.hid (fun W => better_any (a1, a2, a3) (c1, c2, c3) W)
  have K5 := Lib.hid (fun W => better_any (a1, a2, a3) (a1, a2, a3) W)
  have F1 := Lib.hid (better_diff (a1, a2, a3) (b1, b2, b3))
  have F2 : Hid (betterT (a1, a2, a3) (b1, b2, b3) = true → betterT (b1, b2, b3) (c1, c2, c3) = true → betterT (a1, a2, a3) (c1, c2, c3) = true) := Lib.hid (fun h k => better_trans h k)
  have hne := fun W => neq_trip a1 a2 a3 b1 b2 b3 W
  rw [better_irrefl] at K5
  rw [← F1.out] at hne
  generalize betterT (a1, a2, a3) (b1, b2, b3) = tab at K1 F1 F2 hne
  generalize betterT (b1, b2, b3) (a1, a2, a3) = tba at K2 F1 hne
  generalize betterT (b1, b2, b3) (c1, c2, c3) = tbc at K3 F2
  generalize betterT (a1, a2, a3) (c1, c2, c3) = tac at K4 F2
  obtain ⟨ee, hee⟩ : ∃ ee, (tab != tba) = ee := ⟨_, rfl⟩
  rw [hee] at hne
  dsimp only at K1 K2 K3 K4 K5
  have hgt : Try.prog.eqGuardType Try.prog.depth 24 = false := by kernel_rfl
  obtain ⟨V, HV⟩ : ∃ V, Hid (V = ((w.alloc (.cells #[.int .i64 a1, .int .i64 a2, .int .i64 a3] 24)).alloc (.cells #[.int .i64 b1, .int .i64 b2, .int .i64 b3] 24)).alloc (.cells #[.int .i64 c1, .int .i64 c2, .int .i64 c3] 24)) := ⟨_, Lib.hid rfl⟩
  have BV : Hid (Below w.heap.size w V) := Lib.hid (by rw [HV.out]; exact (two_below _ _ _).alloc (by simp; omega) _)
  obtain ⟨hx, hy, hz⟩ := three_new w (.cells #[.int .i64 a1, .int .i64 a2, .int .i64 a3] 24) (.cells #[.int .i64 b1, .int .i64 b2, .int .i64 b3] 24) (.cells #[.int .i64 c1, .int .i64 c2, .int .i64 c3] 24)
  rw [← HV.out] at hx hy hz
  have HBx : Hid (∀ W, Below V.heap.size V W → (W.cell? ⟨w.heap.size, 0, none⟩ = some (.int .i64 a1) ∧ W.cell? ⟨w.heap.size, 1, none⟩ = some (.int .i64 a2) ∧ W.cell? ⟨w.heap.size, 2, none⟩ = some (.int .i64 a3)) ∧ (W.cell? ⟨w.heap.size + 1, 0, none⟩ = some (.int .i64 b1) ∧ W.cell? ⟨w.heap.size + 1, 1, none⟩ = some (.int .i64 b2) ∧ W.cell? ⟨w.heap.size + 1, 2, none⟩ = some (.int .i64 b3)) ∧ W.cell? ⟨w.heap.size + 1 + 1, 0, none⟩ = some (.int .i64 c1) ∧ W.cell? ⟨w.heap.size + 1 + 1, 1, none⟩ = some (.int .i64 c2) ∧ W.cell? ⟨w.heap.size + 1 + 1, 2, none⟩ = some (.int .i64 c3)) := Lib.hid (fun W h => by
    have g1 := (h.block _ (lt_of_heap hx)).trans hx
    have g2 := (h.block _ (lt_of_heap hy)).trans hy
    have g3 := (h.block _ (lt_of_heap hz)).trans hz
    exact ⟨⟨(Lib.cell_of_heap g1 0).trans rfl, (Lib.cell_of_heap g1 1).trans rfl, (Lib.cell_of_heap g1 2).trans rfl⟩, ⟨(Lib.cell_of_heap g2 0).trans rfl, (Lib.cell_of_heap g2 1).trans rfl, (Lib.cell_of_heap g2 2).trans rfl⟩, (Lib.cell_of_heap g3 0).trans rfl, (Lib.cell_of_heap g3 1).trans rfl, (Lib.cell_of_heap g3 2).trans rfl⟩)
  clear hA hB hC hx hy hz F1
  go_enter Try.func7, Try.ntmps7
  go_upto_region 1 with fail
  rw [← HV.out]
  go_wp2_with fail
  refine (C0.out _).mono ?_; rintro e W ⟨rfl, b⟩
  have B := Lib.hid b
  clear b C0
  obtain ⟨⟨p0, p1, p2⟩, ⟨p3, p4, p5⟩, -, -, -⟩ := HBx.out W B.out
  have g0 := cell_regrown p0
  have g1 := cell_regrown p1
  have g2 := cell_regrown p2
  have g3 := cell_regrown p3
  have g4 := cell_regrown p4
  have g5 := cell_regrown p5
  clear p0 p1 p2 p3 p4 p5
  go_upto_region 4 with fail
  refine wp_region_quiet_below (by kernel_rfl) (by kernel_rfl) ?_
  repeat (first
    | go_big_quiet_step (first | with_reducible exact Calls.regrown_of (K1.out _) | with_reducible exact Calls.regrown_of (K2.out _))
    | quiet_step (first | with_reducible exact Calls.regrown_of (K1.out _) | with_reducible exact Calls.regrown_of (K2.out _)))
  refine wpQuiet_nil ?_
  intro _ hw'
  obtain ⟨⟨dq, osq⟩, hw''⟩ := hw'
  have B := Lib.hid (below_up B.out (below_regrown W dq osq))
  rw [← hw''] at B
  rename_i W1
  have hq : (!(tab == tba)) = ee := hee
  rw [hq]
  have e1 : (ee == ee) = true := by simp
  obtain ⟨⟨p0, p1, p2⟩, ⟨p3, p4, p5⟩, p6, p7, p8⟩ := HBx.out W1 B.out
  clear hw'' g0 g1 g2 g3 g4 g5 hee hq K2
  cases tab with
  | true =>
    cases tbc with
    | true =>
      obtain rfl := F2.out rfl rfl
      clear F2
      go_wp2_with fail
      refine (K1.out _).mono ?_; rintro e W2 ⟨rfl, b⟩
      have B := Lib.hid (below_up B.out b)
      obtain ⟨⟨p0, p1, p2⟩, ⟨p3, p4, p5⟩, p6, p7, p8⟩ := HBx.out W2 B.out
      clear b
      go_wp2_with fail
      refine (K3.out _).mono ?_; rintro e W3 ⟨rfl, b⟩
      have B := Lib.hid (below_up B.out b)
      obtain ⟨⟨p0, p1, p2⟩, ⟨p3, p4, p5⟩, p6, p7, p8⟩ := HBx.out W3 B.out
      clear b
      go_wp2_with fail
      refine (K4.out _).mono ?_; rintro e W4 ⟨rfl, b⟩
      have B := Lib.hid (below_up B.out b)
      obtain ⟨⟨p0, p1, p2⟩, ⟨p3, p4, p5⟩, p6, p7, p8⟩ := HBx.out W4 B.out
      clear b
      go_wp2_with fail
      refine (K5.out _).mono ?_; rintro e W5 ⟨rfl, b⟩
      have B := Lib.hid (below_up BV.out (below_up B.out b))
      clear b
      go_wp2_with fail
      go_ret
      exact ⟨rfl, B.out⟩
    | false =>
      clear F2
      go_wp2_with fail
      refine (K1.out _).mono ?_; rintro e W2 ⟨rfl, b⟩
      have B := Lib.hid (below_up B.out b)
      obtain ⟨⟨p0, p1, p2⟩, ⟨p3, p4, p5⟩, p6, p7, p8⟩ := HBx.out W2 B.out
      clear b
      go_wp2_with fail
      refine (K3.out _).mono ?_; rintro e W3 ⟨rfl, b⟩
      have B := Lib.hid (below_up B.out b)
      obtain ⟨⟨p0, p1, p2⟩, ⟨p3, p4, p5⟩, p6, p7, p8⟩ := HBx.out W3 B.out
      clear b
      go_wp2_with fail
      refine (K5.out _).mono ?_; rintro e W5 ⟨rfl, b⟩
      have B := Lib.hid (below_up BV.out (below_up B.out b))
      clear b
      go_wp2_with fail
      go_ret
      exact ⟨rfl, B.out⟩
  | false =>
    clear F2
    go_wp2_with fail
    refine (K1.out _).mono ?_; rintro e W2 ⟨rfl, b⟩
    have B := Lib.hid (below_up B.out b)
    obtain ⟨⟨p0, p1, p2⟩, ⟨p3, p4, p5⟩, p6, p7, p8⟩ := HBx.out W2 B.out
    clear b
    go_wp2_with fail
    refine (K5.out _).mono ?_; rintro e W5 ⟨rfl, b⟩
    have B := Lib.hid (below_up BV.out (below_up B.out b))
    clear b
    go_wp2_with fail
    go_ret
    exact ⟨rfl, B.out⟩
end Go.Proofs.Ytfidddnagfbnhaa
