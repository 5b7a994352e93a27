/-
  The document's example of weaving: what the statements' first function answers.
  Conditions: none.
-/
import Derived.WalkKit
import Derived.WalkMore
import Derived.Lib.Hide
import Derived.Test.YtolcdhdmonaeaaaProg
import Derived.Test.YtolcdhdmonaeaaaWvOrder
import Derived.Test.YtolcdhdmonaeaaaWvSplit
import Derived.Test.YtolcdhdmonaeaaaPSame
namespace Go.Proofs.Ytolcdhdmonaeaaa
open Go.RowKit Go.Shelf
set_option linter.unusedVariables false

theorem lit_pairsW (w : World) (l : PL) (T : TypeId) : PairsAt (w.alloc (.cells (cellsP l).toArray T)) (some ⟨w.heap.size, 0, none⟩) l := by
  refine .inr ⟨w.heap.size, 0, rfl, by simp, fun i p hp => ?_⟩
  obtain ⟨c1, c2⟩ := cellsP_at l i p hp
  have h := World.alloc_heap_new w (.cells (cellsP l).toArray T)
  constructor
  · rw [Lib.cell_of_heap h]; simpa using c1
  · rw [Lib.cell_of_heap h]; simpa using c2
theorem add_zeroA (A : Addr) : A.add 0 = A := by
  obtain ⟨b, o, s⟩ := A
  cases s <;> simp [Addr.add]
theorem ints_one {w : World} {ao : Option Addr} {x : Int} (h : IntsAt w ao [x]) : ∃ A, ao = some A ∧ w.cell? A = some (.int .i64 x) := by
  rcases h with h | ⟨A, h1, _, h3⟩
  · cases h
  · have := h3 0 x rfl
    exact ⟨A, h1, by rwa [add_zeroA] at this⟩

set_option maxRecDepth 100000 in
set_option maxHeartbeats 4000000 in
theorem wworks_any (w : World) : Calls Try.prog 7 #[] w fun e w' => e = .returned (.bool true) ∧ Below w.heap.size w w' := by
  have HP := Lib.hid (lit_pairsW w [(0, 0), (2, 2)] 37)
  have B := Lib.hid (alloc_belowW w (.cells (cellsP [(0, 0), (2, 2)]).toArray 37))
  have ok : okP [(0, 0), (2, 2)] := fun p hp => by
    simp only [List.mem_cons, List.not_mem_nil, or_false] at hp
    rcases hp with rfl | rfl <;> exact ⟨by decide, by decide⟩
  have C1 : Hid (Calls Try.prog 8 #[.slice (some ⟨w.heap.size, 0, none⟩) 2 2, .int .i64 3, .int .i64 3] (w.alloc (.cells (cellsP [(0, 0), (2, 2)]).toArray 37)) (OrderOut [(0, 0), (-1, 1), (1, -1), (2, 2)] 0 (w.alloc (.cells (cellsP [(0, 0), (2, 2)]).toArray 37)))) := Lib.hid (by
    have := order_any (some ⟨w.heap.size, 0, none⟩) 2 [(0, 0), (2, 2)] 3 3 _ (by decide) ok HP.out (by decide) (by decide)
    rwa [show orderP [(0, 0), (2, 2)] 3 3 = [(0, 0), (-1, 1), (1, -1), (2, 2)] from by decide, show checkP [(0, 0), (2, 2)] 3 3 = 0 from by decide] at this)
  have C2 : Hid (∀ W, Calls Try.prog 8 #[.slice none 0 0, .int .i64 (-1), .int .i64 0] W (OrderOut [] 1 W)) := Lib.hid (fun W => by
    have := order_any none 0 [] (-1) 0 W (by decide) (fun p hp => by cases hp) (.inl rfl) (by decide) (by decide)
    rwa [show orderP [] (-1) 0 = [] from by decide, show checkP [] (-1) 0 = 1 from by decide] at this)
  have C3 : Hid (∀ ao cap W, PairsAt W ao [(0, 0), (-1, 1), (1, -1), (2, 2)] → Calls Try.prog 12 #[.slice ao 4 cap] W (SplitOut [(0, 0), (-1, 1), (1, -1), (2, 2)] W)) := Lib.hid (fun ao cap W h => split_any ao cap _ W (by decide) h)
  have CP : Hid (∀ ao bo ca cb (xs : PL) W, xs.length ≤ 4 → PairsAt W ao xs → PairsAt W bo xs → Calls Try.prog 10 #[.slice ao xs.length ca, .slice bo xs.length cb] W fun e w' => e = .returned (.bool true) ∧ Below W.heap.size W w') := Lib.hid (fun ao bo ca cb xs W hl h1 h2 => by have := psameR_any ao bo ca cb xs xs W (by omega) h1 h2; rwa [show sameL xs xs = true from by simp [sameL]] at this)
  clear HP ok
  go_enter Try.func7, Try.ntmps7
  go_wp2_with fail
  refine C1.out.mono ?_; rintro e W1 ⟨ao, ca, rfl, h1, -, -, h2⟩
  have B := Lib.hid (below_up B.out h2)
  have P4 := Lib.hid h1
  have I1 := Lib.hid (CP.out ao (some ⟨W1.heap.size, 0, none⟩) ca 4 [(0, 0), (-1, 1), (1, -1), (2, 2)] _ (by decide) (h1.kept (alloc_belowW W1 _)) (lit_pairsW W1 [(0, 0), (-1, 1), (1, -1), (2, 2)] 37))
  have P4 := Lib.hid (P4.out.kept (alloc_belowW W1 (.cells (cellsP [(0, 0), (-1, 1), (1, -1), (2, 2)]).toArray 37)))
  have B := Lib.hid (below_up B.out (alloc_belowW W1 (.cells (cellsP [(0, 0), (-1, 1), (1, -1), (2, 2)]).toArray 37)))
  clear h1 h2 C1
  go_wp2_with fail
  refine I1.out.mono ?_; rintro e W2 ⟨rfl, h2⟩
  have B := Lib.hid (below_up B.out h2)
  have P4 := Lib.hid (P4.out.kept h2)
  clear h2 I1
  go_wp2_with fail
  refine (C3.out ao ca W2 P4.out).mono ?_; rintro e W3 ⟨po, pc, qo, qc, ro, rc, rfl, -, h3, h4, h2⟩
  have B := Lib.hid (below_up B.out h2)
  have H3 := Lib.hid (show IntsAt W3 qo [1] from h3)
  have H4 := Lib.hid (show IntsAt W3 ro [1] from h4)
  rw [show (bothOf [(0, 0), (-1, 1), (1, -1), (2, 2)]).length = 2 from rfl, show (goneOf [(0, 0), (-1, 1), (1, -1), (2, 2)]).length = 1 from rfl, show (newOf [(0, 0), (-1, 1), (1, -1), (2, 2)]).length = 1 from rfl]
  clear h2 h3 h4 P4
  go_wp2_with fail
  refine (C2.out W3).mono ?_; rintro e W4 ⟨so, sc, rfl, -, -, -, h2⟩
  have B := Lib.hid (below_up B.out h2)
  obtain ⟨A1, rfl, c1⟩ := ints_one (H3.out.kept h2)
  obtain ⟨A2, rfl, c2⟩ := ints_one (H4.out.kept h2)
  clear h2 H3 H4
  go_wp2_with fail
  go_ret
  exact ⟨rfl, B.out⟩
end Go.Proofs.Ytolcdhdmonaeaaa
