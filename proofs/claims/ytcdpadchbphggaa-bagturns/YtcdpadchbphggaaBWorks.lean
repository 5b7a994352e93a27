/-
  The document's examples of what is in common: what the statements' first function answers.
  Conditions: none.
-/
import Derived.WalkKit
import Derived.WalkMore
import Derived.Lib.Hide
import Derived.Test.YtcdpadchbphggaaProg
import Derived.Test.YtcdpadchbphggaaBSame
import Derived.Test.YtcdpadchbphggaaTOpen
namespace Go.Proofs.Ytcdpadchbphggaa
open Go.RowKit Go.Shelf
set_option linter.unusedVariables false

theorem StrArg.mx {w : World} {ao : Option Addr} {cap : Nat} {xs : List ByteArray} (h : StrArg w ao cap xs) : ∀ c ∈ xs, c.size ≤ maxLen := fun c hc => by
  have := h.size c hc
  unfold maxLen; omega
theorem alloc_belowB (w : World) (o : Obj) : Below w.heap.size w (w.alloc o) := (Below.refl _ w).alloc (Nat.le_refl _) _
abbrev litB (w : World) (xs ys : List ByteArray) : World := (w.alloc (.cells (xs.map Value.string).toArray 9)).alloc (.cells (ys.map Value.string).toArray 9)
theorem litB_two (w : World) (xs ys : List ByteArray) : StrRow (litB w xs ys) (some ⟨w.heap.size, 0, none⟩) xs ∧ StrRow (litB w xs ys) (some ⟨w.heap.size + 1, 0, none⟩) ys ∧ Below w.heap.size w (litB w xs ys) := by
  refine ⟨(new_row w xs 9).kept ((Below.refl _ _).alloc (Nat.le_refl _) _), ?_, two_below _ _ _⟩
  have h := new_row (w.alloc (.cells (xs.map Value.string).toArray 9)) ys 9
  rw [World.size_alloc] at h
  exact h
def bA : ByteArray := ⟨#[97]⟩
def bB : ByteArray := ⟨#[98]⟩
theorem exB1 : overL (bytesOf [bA, bA, bB]) (bytesOf [bA, bB, bB]) = 2 := by decide
theorem exB2 : sameB (bytesOf [bA, bB]) (bytesOf [bB, bA]) = true := by decide
theorem exB3 : sameB (bytesOf [bA]) (bytesOf [bA, bA]) = false := by decide
theorem exB4 : cntN bA.data.toList (bytesOf [bA, bB, bA]) = 2 := by decide

set_option maxRecDepth 100000 in
set_option maxHeartbeats 4000000 in
theorem bworks_any (w : World) : Calls Try.prog 7 #[] w fun e w' => e = .returned (.bool true) ∧ Below w.heap.size w w' := by
  have sz : ∀ xs : List ByteArray, (∀ c ∈ xs, c = bA ∨ c = bB) → ∀ c ∈ xs, c.size ≤ maxLen := fun xs h c hc => by
    rcases h c hc with rfl | rfl <;> decide
  have C1 : Hid (∀ W : World, Calls Try.prog 8 #[.slice (some ⟨W.heap.size, 0, none⟩) 3 3, .slice (some ⟨W.heap.size + 1, 0, none⟩) 3 3] (litB W [bA, bA, bB] [bA, bB, bB]) fun e w' => e = .returned (.int .i64 2) ∧ Below (litB W [bA, bA, bB] [bA, bB, bB]).heap.size (litB W [bA, bA, bB] [bA, bB, bB]) w') := Lib.hid (fun W => by
    have h := litB_two W [bA, bA, bB] [bA, bB, bB]
    have := over_any (some ⟨W.heap.size, 0, none⟩) (some ⟨W.heap.size + 1, 0, none⟩) 3 3 [bA, bA, bB] [bA, bB, bB] _ (by decide) (by decide) (sz _ (by simp)) (sz _ (by simp)) h.1 h.2.1
    rw [exB1] at this; exact this)
  have C2 : Hid (∀ W : World, Calls Try.prog 10 #[.slice (some ⟨W.heap.size, 0, none⟩) 2 2, .slice (some ⟨W.heap.size + 1, 0, none⟩) 2 2] (litB W [bA, bB] [bB, bA]) fun e w' => e = .returned (.bool true) ∧ Below (litB W [bA, bB] [bB, bA]).heap.size (litB W [bA, bB] [bB, bA]) w') := Lib.hid (fun W => by
    have h := litB_two W [bA, bB] [bB, bA]
    have := bsame_any (some ⟨W.heap.size, 0, none⟩) (some ⟨W.heap.size + 1, 0, none⟩) 2 2 [bA, bB] [bB, bA] _ (by decide) (by decide) (sz _ (by simp)) (sz _ (by simp)) h.1 h.2.1
    rw [exB2] at this; exact this)
  have C3 : Hid (∀ W : World, Calls Try.prog 10 #[.slice (some ⟨W.heap.size, 0, none⟩) 1 1, .slice (some ⟨W.heap.size + 1, 0, none⟩) 2 2] (litB W [bA] [bA, bA]) fun e w' => e = .returned (.bool false) ∧ Below (litB W [bA] [bA, bA]).heap.size (litB W [bA] [bA, bA]) w') := Lib.hid (fun W => by
    have h := litB_two W [bA] [bA, bA]
    have := bsame_any (some ⟨W.heap.size, 0, none⟩) (some ⟨W.heap.size + 1, 0, none⟩) 1 2 [bA] [bA, bA] _ (by decide) (by decide) (sz _ (by simp)) (sz _ (by simp)) h.1 h.2.1
    rw [exB3] at this; exact this)
  have C4 : Hid (∀ W : World, Calls Try.prog 12 #[.slice (some ⟨W.heap.size, 0, none⟩) 3 3, .string bA] (W.alloc (.cells ([bA, bB, bA].map Value.string).toArray 9)) fun e w' => e = .returned (.int .i64 2) ∧ Below (W.alloc (.cells ([bA, bB, bA].map Value.string).toArray 9)).heap.size (W.alloc (.cells ([bA, bB, bA].map Value.string).toArray 9)) w') := Lib.hid (fun W => by
    have := bcount_any (some ⟨W.heap.size, 0, none⟩) 3 [bA, bB, bA] bA _ (by decide) (sz _ (by simp)) (by decide) (new_row W [bA, bB, bA] 9)
    rw [exB4] at this; exact this)
  have B := Lib.hid (litB_two w [bA, bA, bB] [bA, bB, bB]).2.2
  clear sz
  go_enter Try.func7, Try.ntmps7
  go_wp2_with fail
  refine (C1.out w).mono ?_; rintro e W1 ⟨rfl, h2⟩
  have B := Lib.hid (below_up B.out h2)
  have B := Lib.hid (below_up B.out (litB_two W1 [bA, bB] [bB, bA]).2.2)
  clear h2 C1
  go_wp2_with fail
  refine (C2.out W1).mono ?_; rintro e W2 ⟨rfl, h2⟩
  have B := Lib.hid (below_up B.out h2)
  have B := Lib.hid (below_up B.out (litB_two W2 [bA] [bA, bA]).2.2)
  clear h2 C2
  go_wp2_with fail
  refine (C3.out W2).mono ?_; rintro e W3 ⟨rfl, h2⟩
  have B := Lib.hid (below_up B.out h2)
  have B := Lib.hid (below_up B.out (alloc_belowB W3 (.cells ([bA, bB, bA].map Value.string).toArray 9)))
  clear h2 C3
  go_wp2_with fail
  refine (C4.out W3).mono ?_; rintro e W4 ⟨rfl, h2⟩
  have B := Lib.hid (below_up B.out h2)
  clear h2 C4
  go_wp2_with fail
  go_ret
  exact ⟨rfl, B.out⟩
end Go.Proofs.Ytcdpadchbphggaa
