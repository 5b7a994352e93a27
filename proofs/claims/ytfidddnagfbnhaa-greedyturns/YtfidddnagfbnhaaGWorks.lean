/-
  The document's examples of choices: what the statements' first function answers.
  Conditions: none.
-/
import Derived.WalkKit
import Derived.WalkMore
import Derived.Lib.Hide
import Derived.Test.YtfidddnagfbnhaaProg
import Derived.Test.YtfidddnagfbnhaaGPick
import Derived.Test.YtfidddnagfbnhaaPWorks
namespace Go.Proofs.Ytfidddnagfbnhaa
open Go.RowKit Go.Shelf
set_option linter.unusedVariables false

theorem okT3_lits (l : TL) (h : l.all (fun c => (Lit.int .i64 c.1).wf && (Lit.int .i64 c.2.1).wf && (Lit.int .i64 c.2.2).wf) = true) : okT3 l := fun c hc => by
  have := List.all_eq_true.1 h c hc
  simp only [Bool.and_eq_true] at this
  exact ⟨this.1.1, this.1.2, this.2⟩

set_option maxRecDepth 100000 in
set_option maxHeartbeats 2000000 in
theorem gworks_any (w : World) : Calls Try.prog 8 #[] w fun e w' => e = .returned (.bool true) ∧ Below w.heap.size w w' := by
  have CP : Hid (∀ ao bo ca cb (xs : PL) W, xs.length ≤ 4 → PairsAt W ao xs → PairsAt W bo xs → Calls Try.prog 9 #[.slice ao xs.length ca, .slice bo xs.length cb] W fun e w' => e = .returned (.bool true) ∧ Below W.heap.size W w') := Lib.hid (fun ao bo ca cb xs W hl h1 h2 => by have := psameR_any ao bo ca cb xs xs W (by omega) h1 h2; rwa [show sameL xs xs = true from by simp [sameL]] at this)
  have S1 : Hid (∀ W : World, Calls Try.prog 10 #[.slice (some ⟨W.heap.size, 0, none⟩) 3 3] (W.alloc (.cells #[.int .i64 0, .int .i64 0, .int .i64 2, .int .i64 0, .int .i64 1, .int .i64 3, .int .i64 1, .int .i64 1, .int .i64 3] 24)) (PairsOut [(0, 1)] (W.alloc (.cells #[.int .i64 0, .int .i64 0, .int .i64 2, .int .i64 0, .int .i64 1, .int .i64 3, .int .i64 1, .int .i64 1, .int .i64 3] 24)))) := Lib.hid (fun W => by
    have := pick_any (some ⟨W.heap.size, 0, none⟩) 3 [(0, 0, 2), (0, 1, 3), (1, 1, 3)] _ (by decide) (okT3_lits _ (by decide)) (lit_trip W [(0, 0, 2), (0, 1, 3), (1, 1, 3)] 24)
    rwa [show pickL [(0, 0, 2), (0, 1, 3), (1, 1, 3)] = [(0, 1)] from by rw [pick_ref]; decide] at this)
  have S2 : Hid (∀ W : World, Calls Try.prog 10 #[.slice (some ⟨W.heap.size, 0, none⟩) 2 2] (W.alloc (.cells #[.int .i64 0, .int .i64 0, .int .i64 2, .int .i64 1, .int .i64 1, .int .i64 3] 24)) (PairsOut [(0, 0), (1, 1)] (W.alloc (.cells #[.int .i64 0, .int .i64 0, .int .i64 2, .int .i64 1, .int .i64 1, .int .i64 3] 24)))) := Lib.hid (fun W => by
    have := pick_any (some ⟨W.heap.size, 0, none⟩) 2 [(0, 0, 2), (1, 1, 3)] _ (by decide) (okT3_lits _ (by decide)) (lit_trip W [(0, 0, 2), (1, 1, 3)] 24)
    rwa [show pickL [(0, 0, 2), (1, 1, 3)] = [(0, 0), (1, 1)] from by rw [pick_ref]; decide] at this)
  have S3 : Hid (∀ W : World, Calls Try.prog 12 #[.agg #[.int .i64 9, .int .i64 0, .int .i64 3], .agg #[.int .i64 0, .int .i64 0, .int .i64 2]] W fun e w' => e = .returned (.bool true) ∧ Below W.heap.size W w') := Lib.hid (fun W => better_any (9, 0, 3) (0, 0, 2) W)
  have S4 : Hid (∀ W : World, Calls Try.prog 12 #[.agg #[.int .i64 0, .int .i64 0, .int .i64 0], .agg #[.int .i64 0, .int .i64 0, .int .i64 0]] W fun e w' => e = .returned (.bool false) ∧ Below W.heap.size W w') := Lib.hid (fun W => better_any (0, 0, 0) (0, 0, 0) W)
  go_enter Try.func8, Try.ntmps8
  go_wp2_with fail
  have B := Lib.hid (alloc_below w (.cells #[.int .i64 0, .int .i64 0, .int .i64 2, .int .i64 0, .int .i64 1, .int .i64 3, .int .i64 1, .int .i64 1, .int .i64 3] 24))
  refine (S1.out _).mono ?_; rintro e W1 ⟨ao, ca, rfl, h1, -, -, h2⟩
  have B := Lib.hid (below_up B.out h2)
  have I1 := Lib.hid (CP.out ao (some ⟨W1.heap.size, 0, none⟩) ca 1 [(0, 1)] _ (by decide) (h1.kept (alloc_below W1 _)) (lit_pairs W1 [(0, 1)] 32))
  have B := Lib.hid (below_up B.out (alloc_below W1 (.cells (cellsP [(0, 1)]).toArray 32)))
  clear h1 h2
  go_wp2_with fail
  refine I1.out.mono ?_; rintro e W2 ⟨rfl, h2⟩
  have B := Lib.hid (below_up B.out h2)
  clear h2 I1
  go_wp2_with fail
  have B := Lib.hid (below_up B.out (alloc_below W2 (.cells #[.int .i64 0, .int .i64 0, .int .i64 2, .int .i64 1, .int .i64 1, .int .i64 3] 24)))
  refine (S2.out _).mono ?_; rintro e W3 ⟨ao3, ca3, rfl, h1, -, -, h2⟩
  have B := Lib.hid (below_up B.out h2)
  have I1 := Lib.hid (CP.out ao3 (some ⟨W3.heap.size, 0, none⟩) ca3 2 [(0, 0), (1, 1)] _ (by decide) (h1.kept (alloc_below W3 _)) (lit_pairs W3 [(0, 0), (1, 1)] 32))
  have B := Lib.hid (below_up B.out (alloc_below W3 (.cells (cellsP [(0, 0), (1, 1)]).toArray 32)))
  clear h1 h2
  go_wp2_with fail
  refine I1.out.mono ?_; rintro e W4 ⟨rfl, h2⟩
  have B := Lib.hid (below_up B.out h2)
  clear h2 I1
  go_wp2_with fail
  refine (S3.out _).mono ?_; rintro e W5 ⟨rfl, h2⟩
  have B := Lib.hid (below_up B.out h2)
  clear h2
  go_wp2_with fail
  refine (S4.out _).mono ?_; rintro e W6 ⟨rfl, h2⟩
  have B := Lib.hid (below_up B.out h2)
  clear h2
  go_wp2_with fail
  go_ret
  exact ⟨rfl, B.out⟩
end Go.Proofs.Ytfidddnagfbnhaa
