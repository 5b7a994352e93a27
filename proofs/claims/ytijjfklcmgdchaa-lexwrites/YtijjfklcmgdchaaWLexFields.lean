/-
  The walk of the statement LexFields: at every text, every place and every byte between fields it answers true.
  Conditions: none but that the text is a Go string and the place a Go int.
-/
import Derived.WalkKit
import Derived.WalkSmall
import Derived.Lib.Hide
import Derived.Test.YtijjfklcmgdchaaProg
import Derived.Test.YtijjfklcmgdchaaLexWorks
namespace Go.Proofs.Ytijjfklcmgdchaa
open Go.RowKit Go.Shelf

theorem i64_wf (a : Int) (h : (Lit.int .i64 a).wf = true) : -9223372036854775808 ≤ a ∧ a ≤ 9223372036854775807 := by
  simp [Lit.wf] at h
  have e1 : IntKind.i64.min = -9223372036854775808 := by decide
  have e2 : IntKind.i64.max = 9223372036854775807 := by decide
  omega

set_option maxRecDepth 100000 in
set_option maxHeartbeats 2000000 in
theorem walkLexFields (s : ByteArray) (a d : Int) (w0 : s.size ≤ maxLen) (h1 : (Lit.int .i64 a).wf = true) (_ : (Lit.int .u8 d).wf = true) (w : World) :
    Calls Try.prog 3 #[.string s, .int .i64 a, .int .u8 d] w fun e w' => e = .returned (.bool true) ∧ Below w.heap.size w w' := by
  unfold maxLen at w0
  obtain ⟨ha, ha'⟩ := i64_wf a h1
  clear h1
  by_cases hbig : 2000 < s.size
  · go_enter Try.func3, Try.ntmps3
    go_wp2_with fail
    refine (lworks_any _).mono ?_; rintro e w1 ⟨rfl, b1⟩
    go_wp2_with fail
    go_ret
    exact ⟨rfl, b1⟩
  · have hs : s.size ≤ 1099511627776 := by omega
    have A1 := Lib.hid (fun w => field_any s a d w hs ha ha')
    have A2 := Lib.hid (fun w => rfield_any s a d w hs ha ha')
    have A3 := Lib.hid (fun w => break_any s a w hs ha ha')
    have A4 := Lib.hid (fun w => rbreak_any s a w hs ha ha')
    generalize fieldOut s.data.toList a d = x at A1 A2
    generalize brkI s.data.toList a = n at A3 A4
    obtain ⟨t, p, k, er⟩ := x
    go_enter Try.func3, Try.ntmps3
    go_wp2_with fail
    refine (lworks_any _).mono ?_; rintro e w1 ⟨rfl, b1⟩
    go_wp2_with fail
    refine (A1.out _).mono ?_; rintro e w2 ⟨rfl, b2⟩
    replace b2 := below_up b1 b2; clear b1 A1
    simp only [fieldV]
    go_wp2_with fail
    refine (A2.out _).mono ?_; rintro e _ ⟨rfl, rfl⟩
    simp only [fieldV]
    go_wp2_with fail
    refine (A3.out _).mono ?_; rintro e _ ⟨rfl, rfl⟩
    go_wp2_with fail
    refine (A4.out _).mono ?_; rintro e _ ⟨rfl, rfl⟩
    go_wp2_with fail
    go_ret
    exact ⟨rfl, b2⟩
end Go.Proofs.Ytijjfklcmgdchaa
