/-
  The fixed facts that each of the statements asks first hold: the document's examples.
  Conditions: none.
-/
import Derived.WalkKit
import Derived.WalkMore
import Derived.Lib.Hide
import Derived.Test.YtgnkkggcifaabaaProg
import Derived.Test.YtgnkkggcifaabaaGot
namespace Go.Proofs.Ytgnkkggcifaabaa
open Go.RowKit Go.Shelf

theorem get1 (w : World) : Calls Try.prog 19 #[.string ⟨#[34, 34, 34, 34, 120]⟩] w fun e w' => e = .returned (.tuple #[.string ⟨#[34]⟩, .int .i64 4, .int .i64 0]) ∧ Below w.heap.size w w' := get_any ⟨#[34, 34, 34, 34, 120]⟩ w (by decide)
theorem get2 (w : World) : Calls Try.prog 19 #[.string ⟨#[34, 34, 34]⟩] w fun e w' => e = .returned (.tuple #[.string ⟨#[]⟩, .int .i64 0, .int .i64 4]) ∧ Below w.heap.size w w' := get_any ⟨#[34, 34, 34]⟩ w (by decide)
theorem get3 (w : World) : Calls Try.prog 19 #[.string ⟨#[120]⟩] w fun e w' => e = .returned (.tuple #[.string ⟨#[]⟩, .int .i64 0, .int .i64 3]) ∧ Below w.heap.size w w' := get_any ⟨#[120]⟩ w (by decide)
theorem put1 (w : World) : Calls Try.prog 11 #[.string ⟨#[97, 44, 98]⟩, .int .u8 44] w fun e w' => e = .returned (.string ⟨#[34, 97, 44, 98, 34]⟩) ∧ Below w.heap.size w w' := put_any ⟨#[97, 44, 98]⟩ 44 w (by decide)
theorem put2 (w : World) : Calls Try.prog 11 #[.string ⟨#[97, 44, 98]⟩, .int .u8 59] w fun e w' => e = .returned (.string ⟨#[97, 44, 98]⟩) ∧ Below w.heap.size w w' := put_any ⟨#[97, 44, 98]⟩ 59 w (by decide)
theorem quoted1 (w : World) : Calls Try.prog 12 #[.string ⟨#[34]⟩] w fun e w' => e = .returned (.string ⟨#[34, 34, 34, 34]⟩) ∧ Below w.heap.size w w' := quoted_any ⟨#[34]⟩ w (by decide)
theorem good1 (w : World) : Calls Try.prog 15 #[.int .u8 59] w fun e w' => e = .returned (.bool true) ∧ w = w' := good_any 59 w
theorem good2 (w : World) : Calls Try.prog 15 #[.int .u8 34] w fun e w' => e = .returned (.bool false) ∧ w = w' := good_any 34 w
theorem plain1 (w : World) : Calls Try.prog 17 #[.string ⟨#[97, 98]⟩, .int .u8 44] w fun e w' => e = .returned (.bool true) ∧ w = w' := plain_any ⟨#[97, 98]⟩ 44 w (by decide)
theorem plain2 (w : World) : Calls Try.prog 17 #[.string ⟨#[97, 10]⟩, .int .u8 44] w fun e w' => e = .returned (.bool false) ∧ w = w' := plain_any ⟨#[97, 10]⟩ 44 w (by decide)
theorem size1 (w : World) : Calls Try.prog 14 #[.string ⟨#[97, 44]⟩, .int .u8 44] w fun e w' => e = .returned (.int .i64 4) ∧ Below w.heap.size w w' := size_any ⟨#[97, 44]⟩ 44 w (by decide)

theorem below_up {a b c : World} (h : Below a.heap.size a b) (k : Below b.heap.size b c) : Below a.heap.size a c := h.trans (k.mono h.size)

set_option maxRecDepth 100000 in
set_option maxHeartbeats 2000000 in
theorem works_any (w : World) : Calls Try.prog 9 #[] w fun e w' => e = .returned (.bool true) ∧ Below w.heap.size w w' := by
  go_enter Try.func9, Try.ntmps9
  go_wp2_with fail
  refine (get1 _).mono ?_; rintro e w1 ⟨rfl, b1⟩
  go_wp2_with fail
  refine (get2 _).mono ?_; rintro e w2 ⟨rfl, b2⟩
  replace b2 := below_up b1 b2; clear b1
  go_wp2_with fail
  refine (get3 _).mono ?_; rintro e w3 ⟨rfl, b3⟩
  replace b3 := below_up b2 b3; clear b2
  go_wp2_with fail
  refine (put1 _).mono ?_; rintro e w4 ⟨rfl, b4⟩
  replace b4 := below_up b3 b4; clear b3
  go_wp2_with fail
  refine (put2 _).mono ?_; rintro e w5 ⟨rfl, b5⟩
  replace b5 := below_up b4 b5; clear b4
  go_wp2_with fail
  refine (quoted1 _).mono ?_; rintro e w6 ⟨rfl, b6⟩
  replace b6 := below_up b5 b6; clear b5
  go_wp2_with fail
  refine (good1 _).mono ?_; rintro e _ ⟨rfl, rfl⟩
  go_wp2_with fail
  refine (good2 _).mono ?_; rintro e _ ⟨rfl, rfl⟩
  go_wp2_with fail
  refine (plain1 _).mono ?_; rintro e _ ⟨rfl, rfl⟩
  go_wp2_with fail
  refine (plain2 _).mono ?_; rintro e _ ⟨rfl, rfl⟩
  go_wp2_with fail
  refine (size1 _).mono ?_; rintro e w7 ⟨rfl, b7⟩
  replace b7 := below_up b6 b7; clear b6
  go_wp2_with fail
  go_ret
  exact ⟨rfl, b7⟩
end Go.Proofs.Ytgnkkggcifaabaa
