/-
  The document's examples of the longest common row: what the statements' first function answers; and whether lists are short.
  Conditions: none.
-/
import Derived.WalkKit
import Derived.WalkMore
import Derived.Lib.Hide
import Derived.Test.YtcdamnnbpifhpaaProg
import Derived.Test.YtcdamnnbpifhpaaLcPairs
import Derived.Test.YtcdamnnbpifhpaaPSame
namespace Go.Proofs.Ytcdamnnbpifhpaa
open Go.RowKit Go.Shelf
set_option linter.unusedVariables false

theorem lit_pairsL (w : World) (l : PL) (T : TypeId) : PairsAt (w.alloc (.cells (cellsP l).toArray T)) (some ⟨w.heap.size, 0, none⟩) l := by
  refine .inr ⟨w.heap.size, 0, rfl, by simp, fun i p hp => ?_⟩
  obtain ⟨c1, c2⟩ := cellsP_at l i p hp
  have h := World.alloc_heap_new w (.cells (cellsP l).toArray T)
  constructor
  · rw [Lib.cell_of_heap h]; simpa using c1
  · rw [Lib.cell_of_heap h]; simpa using c2
theorem alloc_belowL (w : World) (o : Obj) : Below w.heap.size w (w.alloc o) := (Below.refl _ w).alloc (Nat.le_refl _) _
abbrev litW (w : World) (xs ys : List ByteArray) : World := (w.alloc (.cells (xs.map Value.string).toArray 9)).alloc (.cells (ys.map Value.string).toArray 9)
theorem lit_two (w : World) (xs ys : List ByteArray) : StrRow (litW w xs ys) (some ⟨w.heap.size, 0, none⟩) xs ∧ StrRow (litW w xs ys) (some ⟨w.heap.size + 1, 0, none⟩) ys ∧ Below w.heap.size w (litW w xs ys) := by
  refine ⟨(new_row w xs 9).kept ((Below.refl _ _).alloc (Nat.le_refl _) _), ?_, two_below _ _ _⟩
  have h := new_row (w.alloc (.cells (xs.map Value.string).toArray 9)) ys 9
  rw [World.size_alloc] at h
  exact h
def tA : ByteArray := ⟨#[97]⟩
def tB : ByteArray := ⟨#[98]⟩
def tC : ByteArray := ⟨#[99]⟩
theorem ex_way : wayL 0 0 (bytesOf [tA, tB, tC]) (bytesOf [tB, tC, tA]) = [(1, 0), (2, 1)] := by
  simp [bytesOf, tA, tB, tC, way_cons, way_nil, lcs_cons, lcs_nil, lcs_nil2]
theorem ex_way2 : wayL 0 0 (bytesOf [tA, tB]) (bytesOf [tB, tA]) = [(1, 0)] := by
  simp [bytesOf, tA, tB, way_cons, way_nil, lcs_cons, lcs_nil, lcs_nil2]
theorem ex_len : lcsN (bytesOf [tA, tB, tC]) (bytesOf [tB, tC, tA]) = 2 := by
  simp [bytesOf, tA, tB, tC, lcs_cons, lcs_nil, lcs_nil2]

set_option maxRecDepth 100000 in
set_option maxHeartbeats 4000000 in
theorem lworks_any (w : World) : Calls Try.prog 8 #[] w fun e w' => e = .returned (.bool true) ∧ Below w.heap.size w w' := by
  have sz : ∀ c ∈ [tA, tB, tC], c.size ≤ maxLen := fun c hc => by
    simp at hc; rcases hc with rfl | rfl | rfl <;> decide
  have sz2 : ∀ c ∈ [tB, tC, tA], c.size ≤ maxLen := fun c hc => by
    simp at hc; rcases hc with rfl | rfl | rfl <;> decide
  have sz3 : ∀ c ∈ [tA, tB], c.size ≤ maxLen := fun c hc => by
    simp at hc; rcases hc with rfl | rfl <;> decide
  have sz4 : ∀ c ∈ [tB, tA], c.size ≤ maxLen := fun c hc => by
    simp at hc; rcases hc with rfl | rfl <;> decide
  have C1 : Hid (∀ W : World, Calls Try.prog 11 #[.slice (some ⟨W.heap.size, 0, none⟩) 3 3, .slice (some ⟨W.heap.size + 1, 0, none⟩) 3 3] (litW W [tA, tB, tC] [tB, tC, tA]) (PairsOut [(1, 0), (2, 1)] (litW W [tA, tB, tC] [tB, tC, tA]))) := Lib.hid (fun W => by
    have h := lit_two W [tA, tB, tC] [tB, tC, tA]
    have := lcPairs_any (some ⟨W.heap.size, 0, none⟩) (some ⟨W.heap.size + 1, 0, none⟩) 3 3 [tA, tB, tC] [tB, tC, tA] _ (by decide) (by decide) sz sz2 h.1 h.2.1
    rw [ex_way] at this; exact this)
  have C2 : Hid (∀ W : World, Calls Try.prog 11 #[.slice (some ⟨W.heap.size, 0, none⟩) 2 2, .slice (some ⟨W.heap.size + 1, 0, none⟩) 2 2] (litW W [tA, tB] [tB, tA]) (PairsOut [(1, 0)] (litW W [tA, tB] [tB, tA]))) := Lib.hid (fun W => by
    have h := lit_two W [tA, tB] [tB, tA]
    have := lcPairs_any (some ⟨W.heap.size, 0, none⟩) (some ⟨W.heap.size + 1, 0, none⟩) 2 2 [tA, tB] [tB, tA] _ (by decide) (by decide) sz3 sz4 h.1 h.2.1
    rw [ex_way2] at this; exact this)
  have C3 : Hid (∀ W : World, Calls Try.prog 13 #[.slice (some ⟨W.heap.size, 0, none⟩) 3 3, .slice (some ⟨W.heap.size + 1, 0, none⟩) 3 3] (litW W [tA, tB, tC] [tB, tC, tA]) fun e w' => e = .returned (.int .i64 2) ∧ Below (litW W [tA, tB, tC] [tB, tC, tA]).heap.size (litW W [tA, tB, tC] [tB, tC, tA]) w') := Lib.hid (fun W => by
    have h := lit_two W [tA, tB, tC] [tB, tC, tA]
    have := length_any (some ⟨W.heap.size, 0, none⟩) (some ⟨W.heap.size + 1, 0, none⟩) 3 3 [tA, tB, tC] [tB, tC, tA] _ (by decide) (by decide) sz sz2 h.1 h.2.1
    rw [ex_len] at this; exact this)
  have C4 : Hid (∀ W : World, Calls Try.prog 13 #[.slice none 0 0, .slice none 0 0] W fun e w' => e = .returned (.int .i64 0) ∧ Below W.heap.size W w') := Lib.hid (fun W => by
    have := length_any none none 0 0 [] [] W (by decide) (by decide) (fun c hc => by cases hc) (fun c hc => by cases hc) (.inl rfl) (.inl rfl)
    rw [show lcsN (bytesOf []) (bytesOf []) = 0 from lcs_nil _] at this; exact this)
  have CP : Hid (∀ ao bo ca cb (xs : PL) W, xs.length ≤ 4 → PairsAt W ao xs → PairsAt W bo xs → Calls Try.prog 10 #[.slice ao xs.length ca, .slice bo xs.length cb] W fun e w' => e = .returned (.bool true) ∧ Below W.heap.size W w') := Lib.hid (fun ao bo ca cb xs W hl h1 h2 => by have := psameR_any ao bo ca cb xs xs W (by omega) h1 h2; rwa [show sameL xs xs = true from by simp [sameL]] at this)
  have B := Lib.hid (lit_two w [tA, tB, tC] [tB, tC, tA]).2.2
  clear sz sz2 sz3 sz4
  go_enter Try.func8, Try.ntmps8
  go_wp2_with fail
  refine (C1.out w).mono ?_; rintro e W1 ⟨ao, ca, rfl, h1, -, -, h2⟩
  have B := Lib.hid (below_up B.out h2)
  have I1 := Lib.hid (CP.out ao (some ⟨W1.heap.size, 0, none⟩) ca 2 [(1, 0), (2, 1)] _ (by decide) (h1.kept (alloc_belowL W1 _)) (lit_pairsL W1 [(1, 0), (2, 1)] 30))
  have B := Lib.hid (below_up B.out (alloc_belowL W1 (.cells (cellsP [(1, 0), (2, 1)]).toArray 30)))
  clear h1 h2 C1
  go_wp2_with fail
  refine I1.out.mono ?_; rintro e W2 ⟨rfl, h2⟩
  have B := Lib.hid (below_up B.out h2)
  have B := Lib.hid (below_up B.out (lit_two W2 [tA, tB] [tB, tA]).2.2)
  clear h2 I1
  go_wp2_with fail
  refine (C2.out W2).mono ?_; rintro e W3 ⟨bo, cb, rfl, h1, -, -, h2⟩
  have B := Lib.hid (below_up B.out h2)
  have I2 := Lib.hid (CP.out bo (some ⟨W3.heap.size, 0, none⟩) cb 1 [(1, 0)] _ (by decide) (h1.kept (alloc_belowL W3 _)) (lit_pairsL W3 [(1, 0)] 30))
  have B := Lib.hid (below_up B.out (alloc_belowL W3 (.cells (cellsP [(1, 0)]).toArray 30)))
  clear h1 h2 C2
  go_wp2_with fail
  refine I2.out.mono ?_; rintro e W4 ⟨rfl, h2⟩
  have B := Lib.hid (below_up B.out h2)
  have B := Lib.hid (below_up B.out (lit_two W4 [tA, tB, tC] [tB, tC, tA]).2.2)
  clear h2 I2
  go_wp2_with fail
  refine (C3.out W4).mono ?_; rintro e W5 ⟨rfl, h2⟩
  have B := Lib.hid (below_up B.out h2)
  clear h2 C3
  go_wp2_with fail
  refine (C4.out W5).mono ?_; rintro e W6 ⟨rfl, h2⟩
  have B := Lib.hid (below_up B.out h2)
  clear h2 C4
  go_wp2_with fail
  go_ret
  exact ⟨rfl, B.out⟩

set_option maxRecDepth 100000 in
set_option maxHeartbeats 1000000 in
theorem small_any (ao bo : Option Addr) (n m ca cb : Nat) (w : World) : Calls Try.prog 9 #[.slice ao n ca, .slice bo m cb] w fun e w' => e = .returned (.bool (decide (n ≤ 60) && decide (m ≤ 60))) ∧ w' = w := by
  by_cases h1 : n ≤ 60
  · by_cases h2 : m ≤ 60
    · go_enter Try.func9, Try.ntmps9
      go_wp2_with fail
      go_ret
      exact ⟨by simp [h1, h2]; omega, rfl⟩
    · go_enter Try.func9, Try.ntmps9
      go_wp2_with fail
      go_ret
      exact ⟨by simp [h2]; omega, rfl⟩
  · go_enter Try.func9, Try.ntmps9
    go_wp2_with fail
    go_ret
    exact ⟨by first | (simp; done) | (simp; omega), rfl⟩
end Go.Proofs.Ytcdamnnbpifhpaa
