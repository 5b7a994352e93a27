/-
  The walk of the statement GreedyPicks.
  Conditions: none beyond the form of claims.
-/
import Derived.WalkKit
import Derived.WalkMore
import Derived.BigQuiet
import Derived.Deep.QuietTactic
import Derived.Lib.QuietBelow
import Derived.Lib.Hide
import Derived.Test.YtfidddnagfbnhaaProg
import Derived.Test.YtfidddnagfbnhaaGOpen
import Derived.Test.YtfidddnagfbnhaaGWorks
import Derived.Test.YtfidddnagfbnhaaGRef2
namespace Go.Proofs.Ytfidddnagfbnhaa
open Go.RowKit Go.Shelf Go.Lib
set_option linter.unusedVariables false

set_option maxRecDepth 100000 in
set_option maxHeartbeats 4000000 in
theorem walkGreedyPicks (ao : Option Addr) (ca : Nat) (xs : TL) (c1 c2 c3 d1 d2 d3 : Int) (w : World) (hA : TripsArg w ao ca xs) (hC : TripArg (c1, c2, c3)) (hD : TripArg (d1, d2, d3)) :
    Calls Try.prog 3 #[.slice ao xs.length ca, .agg #[.int .i64 c1, .int .i64 c2, .int .i64 c3], .agg #[.int .i64 d1, .int .i64 d2, .int .i64 d3]] w fun e w' => e = .returned (.bool true) ∧ Below w.heap.size w w' := by
  have HA := Lib.hid hA
  have C0 := Lib.hid (fun W => gworks_any W)
  have K1 := Lib.hid (fun W => better_any (c1, c2, c3) (d1, d2, d3) W)
  have K2 := Lib.hid (fun W => rbetter_any (c1, c2, c3) (d1, d2, d3) W)
  generalize betterT (c1, c2, c3) (d1, d2, d3) = t at K1 K2
  dsimp only at K1 K2
  obtain ⟨V, HV⟩ : ∃ V, Hid (V = (w.alloc (.cells #[.int .i64 c1, .int .i64 c2, .int .i64 c3] 24)).alloc (.cells #[.int .i64 d1, .int .i64 d2, .int .i64 d3] 24)) := ⟨_, Lib.hid rfl⟩
  have BV : Hid (Below w.heap.size w V) := Lib.hid (by rw [HV.out]; exact two_below _ _ _)
  have hA2 : V.heap[w.heap.size]? = some (.cells #[.int .i64 c1, .int .i64 c2, .int .i64 c3] 24 (0, 0)) := by rw [HV.out]; exact (two_new _ _ _).2.1
  have hD2 : V.heap[w.heap.size + 1]? = some (.cells #[.int .i64 d1, .int .i64 d2, .int .i64 d3] 24 (0, 0)) := by rw [HV.out]; exact (two_new _ _ _).2.2
  have HBx : Hid (∀ W, Below V.heap.size V W → (W.cell? ⟨w.heap.size, 0, none⟩ = some (.int .i64 c1) ∧ W.cell? ⟨w.heap.size, 1, none⟩ = some (.int .i64 c2) ∧ W.cell? ⟨w.heap.size, 2, none⟩ = some (.int .i64 c3)) ∧ W.cell? ⟨w.heap.size + 1, 0, none⟩ = some (.int .i64 d1) ∧ W.cell? ⟨w.heap.size + 1, 1, none⟩ = some (.int .i64 d2) ∧ W.cell? ⟨w.heap.size + 1, 2, none⟩ = some (.int .i64 d3)) := Lib.hid (fun W h => by
    have g1 := (h.block _ (lt_of_heap hA2)).trans hA2
    have g2 := (h.block _ (lt_of_heap hD2)).trans hD2
    exact ⟨⟨(Lib.cell_of_heap g1 0).trans rfl, (Lib.cell_of_heap g1 1).trans rfl, (Lib.cell_of_heap g1 2).trans rfl⟩, (Lib.cell_of_heap g2 0).trans rfl, (Lib.cell_of_heap g2 1).trans rfl, (Lib.cell_of_heap g2 2).trans rfl⟩)
  clear hA hC hD hA2 hD2
  by_cases h1 : xs.length ≤ 60
  · have C1 := Lib.hid (fun U (h : Below w.heap.size w U) => pick_any ao ca xs U (by omega) HA.out.ok (HA.out.trips.kept h))
    have C2 := Lib.hid (fun U (h : Below w.heap.size w U) => rpick_any ao ca xs U (by omega) (HA.out.trips.kept h))
    have hl := pick_len xs
    generalize pickL xs = R at C1 C2 hl
    have C3 : Hid (∀ ao bo ca cb U, PairsAt U ao R → PairsAt U bo R → Calls Try.prog 9 #[.slice ao R.length ca, .slice bo R.length cb] U fun e w' => e = .returned (.bool true) ∧ Below U.heap.size U w') := Lib.hid (fun ao bo ca cb U h1 h2 => by have := psameR_any ao bo ca cb R R U (by omega) h1 h2; rwa [show sameL R R = true from by simp [sameL]] at this)
    go_enter Try.func3, Try.ntmps3
    go_upto_region 1 with fail
    rw [← HV.out]
    go_wp2_with fail
    refine (C0.out _).mono ?_; rintro e W ⟨rfl, b⟩
    have B := Lib.hid b
    clear b C0
    go_wp2_with fail
    refine (C1.out _ (below_up BV.out B.out)).mono ?_; rintro e W1 ⟨o1, q1, rfl, p1, -, -, b⟩
    have B := Lib.hid (below_up B.out b)
    have P1 := Lib.hid p1
    clear b p1 C1
    go_wp2_with fail
    refine (C2.out _ (below_up BV.out B.out)).mono ?_; rintro e W2 ⟨o2, q2, rfl, p2, -, -, b⟩
    have B := Lib.hid (below_up B.out b)
    have S := Lib.hid (C3.out o1 o2 q1 q2 W2 (P1.out.kept b) p2)
    clear b p2 C2 P1 C3
    go_wp2_with fail
    refine S.out.mono ?_; rintro e W3 ⟨rfl, b⟩
    have B := Lib.hid (below_up B.out b)
    clear b S
    obtain ⟨⟨p0, p1, p2⟩, p3, p4, p5⟩ := HBx.out W3 B.out
    have g0 := cell_regrown p0
    have g1 := cell_regrown p1
    have g2 := cell_regrown p2
    have g3 := cell_regrown p3
    have g4 := cell_regrown p4
    have g5 := cell_regrown p5
    clear p0 p1 p2 p3 p4 p5 HBx
    have HQ := Lib.hid (fun d os => below_up (below_up BV.out B.out) (below_regrown W3 d os))
    have e1 : (t == t) = true := by simp
    go_wp2_with fail
    refine wp_region_quiet_below (by kernel_rfl) (by kernel_rfl) ?_
    repeat (first
      | go_big_quiet_step (first | exact Calls.regrown_of (K1.out _) | exact Calls.regrown_of (K2.out _))
      | quiet_step (first | exact Calls.regrown_of (K1.out _) | exact Calls.regrown_of (K2.out _)))
    refine wpQuiet_nil ?_
    intro _ hw'
    obtain ⟨⟨dq, osq⟩, hw''⟩ := hw'
    subst hw''
    go_wp2_with fail
    go_ret
    exact ⟨rfl, HQ.out dq osq⟩
  · go_enter Try.func3, Try.ntmps3
    go_upto_region 1 with fail
    rw [← HV.out]
    go_wp2_with fail
    refine (C0.out _).mono ?_; rintro e W ⟨rfl, b⟩
    have B := Lib.hid (below_up BV.out b)
    clear b C0
    go_wp2_with fail
    go_ret
    exact ⟨rfl, B.out⟩
end Go.Proofs.Ytfidddnagfbnhaa
