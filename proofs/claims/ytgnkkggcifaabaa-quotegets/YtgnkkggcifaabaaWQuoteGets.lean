/-
  The walk of the statement QuoteGets: at every text it answers true.
  Conditions: none but that the text is a Go string.
-/
import Derived.WalkKit
import Derived.WalkSmall
import Derived.Lib.Hide
import Derived.Test.YtgnkkggcifaabaaProg
import Derived.Test.YtgnkkggcifaabaaWorks
namespace Go.Proofs.Ytgnkkggcifaabaa
open Go.RowKit Go.Shelf

set_option maxRecDepth 100000 in
set_option maxHeartbeats 2000000 in
theorem walkQuoteGets (s : ByteArray) (w0 : s.size ≤ maxLen) (w : World) :
    Calls Try.prog 4 #[.string s] w fun e w' => e = .returned (.bool true) ∧ Below w.heap.size w w' := by
  unfold maxLen at w0
  by_cases hbig : 2000 < s.size
  · go_enter Try.func4, Try.ntmps4
    go_wp2_with fail
    refine (works_any _).mono ?_; rintro e w1 ⟨rfl, b1⟩
    go_wp2_with fail
    go_ret
    exact ⟨rfl, b1⟩
  · have hs : s.size ≤ 1099511627776 := by omega
    have A1 := Lib.hid (fun w => get_any s w hs)
    have A2 := Lib.hid (fun w => rget_any s w hs)
    obtain ⟨t, n, x, hx⟩ : ∃ t n x, gotV (getL s.data.toList) = .tuple #[.string t, .int .i64 n, .int .i64 x] := ⟨_, _, _, rfl⟩
    rw [hx] at A1 A2
    clear hx
    go_enter Try.func4, Try.ntmps4
    go_wp2_with fail
    refine (works_any _).mono ?_; rintro e w1 ⟨rfl, b1⟩
    go_wp2_with fail
    refine (A1.out _).mono ?_; rintro e w2 ⟨rfl, b2⟩
    replace b2 := below_up b1 b2; clear b1 A1
    go_wp2_with fail
    refine (A2.out _).mono ?_; rintro e _ ⟨rfl, rfl⟩
    clear A2
    go_wp2_with fail
    go_ret
    exact ⟨rfl, b2⟩
end Go.Proofs.Ytgnkkggcifaabaa
