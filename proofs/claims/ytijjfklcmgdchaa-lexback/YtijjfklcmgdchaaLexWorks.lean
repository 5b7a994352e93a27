/-
  The fixed facts that each of layer 2's statements asks first hold: the document's examples.
  Conditions: none.
-/
import Derived.WalkKit
import Derived.WalkMore
import Derived.Lib.Hide
import Derived.Test.YtijjfklcmgdchaaProg
import Derived.Test.YtijjfklcmgdchaaLexRec2
namespace Go.Proofs.Ytijjfklcmgdchaa
open Go.RowKit Go.Shelf

theorem lfield1 (w : World) : Calls Try.prog 8 #[.string ⟨#[97, 98, 44, 99]⟩, .int .i64 0, .int .u8 44] w fun e w' => e = .returned (.tuple #[.string ⟨#[97, 98]⟩, .int .i64 3, .int .i64 1, .int .i64 0]) ∧ Below w.heap.size w w' := field_any ⟨#[97, 98, 44, 99]⟩ 0 44 w (by decide) (by decide) (by decide)
theorem lfield2 (w : World) : Calls Try.prog 8 #[.string ⟨#[97, 98, 44, 99]⟩, .int .i64 3, .int .u8 44] w fun e w' => e = .returned (.tuple #[.string ⟨#[99]⟩, .int .i64 4, .int .i64 3, .int .i64 0]) ∧ Below w.heap.size w w' := field_any ⟨#[97, 98, 44, 99]⟩ 3 44 w (by decide) (by decide) (by decide)
theorem lfield3 (w : World) : Calls Try.prog 8 #[.string ⟨#[97, 34, 98]⟩, .int .i64 0, .int .u8 44] w fun e w' => e = .returned (.tuple #[.string ⟨#[]⟩, .int .i64 1, .int .i64 0, .int .i64 3]) ∧ Below w.heap.size w w' := field_any ⟨#[97, 34, 98]⟩ 0 44 w (by decide) (by decide) (by decide)
theorem lbreak1 (w : World) : Calls Try.prog 10 #[.string ⟨#[97, 13, 10]⟩, .int .i64 1] w fun e w' => e = .returned (.int .i64 2) ∧ w = w' := break_any ⟨#[97, 13, 10]⟩ 1 w (by decide) (by decide) (by decide)
theorem lbreak2 (w : World) : Calls Try.prog 10 #[.string ⟨#[97, 13]⟩, .int .i64 1] w fun e w' => e = .returned (.int .i64 0) ∧ w = w' := break_any ⟨#[97, 13]⟩ 1 w (by decide) (by decide) (by decide)
theorem lwrite1 (w : World) : Calls Try.prog 13 #[.slice (some ⟨w.heap.size, 0, none⟩) 2 2, .int .u8 44, .bool false] (w.alloc (.cells #[.string ⟨#[97]⟩, .string ⟨#[97, 44, 98]⟩] 9)) fun e w' => e = .returned (.string ⟨#[97, 44, 34, 97, 44, 98, 34, 10]⟩) ∧ Below w.heap.size w w' := by
  refine (write_any 44 false (some ⟨w.heap.size, 0, none⟩) 2 [⟨#[97]⟩, ⟨#[97, 44, 98]⟩] (w.alloc (.cells #[.string ⟨#[97]⟩, .string ⟨#[97, 44, 98]⟩] 9)) (by decide) (by decide) (.inr ⟨_, rfl, by simp, fun i c hc => ?_⟩)).mono ?_
  · rw [cell_row (World.alloc_heap_new w _)]
    match i, hc with
    | 0, hc => simp at hc; subst hc; rfl
    | 1, hc => simp at hc; subst hc; rfl
  · rintro e w' ⟨rfl, hb⟩
    exact ⟨rfl, ((Below.refl _ w).alloc (Nat.le_refl _) _).trans (hb.mono (by simp))⟩

set_option maxRecDepth 100000 in
set_option maxHeartbeats 2000000 in
theorem lworks_any (w : World) : Calls Try.prog 7 #[] w fun e w' => e = .returned (.bool true) ∧ Below w.heap.size w w' := by
  go_enter Try.func7, Try.ntmps7
  go_wp2_with fail
  refine (lfield1 _).mono ?_; rintro e w1 ⟨rfl, b1⟩
  go_wp2_with fail
  refine (lfield2 _).mono ?_; rintro e w2 ⟨rfl, b2⟩
  replace b2 := below_up b1 b2; clear b1
  go_wp2_with fail
  refine (lfield3 _).mono ?_; rintro e w3 ⟨rfl, b3⟩
  replace b3 := below_up b2 b3; clear b2
  go_wp2_with fail
  refine (lwrite1 _).mono ?_; rintro e w4 ⟨rfl, b4⟩
  replace b4 := below_up b3 b4; clear b3
  go_wp2_with fail
  refine (lbreak1 _).mono ?_; rintro e _ ⟨rfl, rfl⟩
  go_wp2_with fail
  refine (lbreak2 _).mono ?_; rintro e _ ⟨rfl, rfl⟩
  go_wp2_with fail
  go_ret
  exact ⟨rfl, b4⟩
end Go.Proofs.Ytijjfklcmgdchaa
