/-
  The walk of the statement QuotePuts: at every text and every byte between fields it answers true.
  Conditions: none but that the text is a Go string.
-/
import Derived.WalkKit
import Derived.WalkSmall
import Derived.Lib.Hide
import Derived.Test.YtgnkkggcifaabaaProg
import Derived.Test.YtgnkkggcifaabaaWorks
namespace Go.Proofs.Ytgnkkggcifaabaa
open Go.RowKit Go.Shelf

theorem rput_b (s : ByteArray) (d : Int) (w : World) (hs : s.size ≤ 1099511627776) :
    Calls Try.prog 10 #[.string s, .int .u8 d] w fun e w' => e = .returned (.string ⟨(putL s.data.toList d).toArray⟩) ∧ Below w.heap.size w w' :=
  (rput_any s d w hs).mono fun _ _ ⟨he, m, hw⟩ => ⟨he, by subst hw; exact below_drewN (Below.refl _ _) m⟩
theorem rquoted_b (s : ByteArray) (w : World) (hs : s.size ≤ 1099511627776) :
    Calls Try.prog 13 #[.string s] w fun e w' => e = .returned (.string ⟨(quoted s.data.toList).toArray⟩) ∧ Below w.heap.size w w' :=
  (rquoted_any s w hs).mono fun _ _ ⟨he, m, hw⟩ => ⟨he, by subst hw; exact below_drewN (Below.refl _ _) m⟩

set_option maxRecDepth 100000 in
set_option maxHeartbeats 2000000 in
theorem walkQuotePuts (s : ByteArray) (d : Int) (w0 : s.size ≤ maxLen) (_ : (Lit.int .u8 d).wf = true) (w : World) :
    Calls Try.prog 3 #[.string s, .int .u8 d] w fun e w' => e = .returned (.bool true) ∧ Below w.heap.size w w' := by
  unfold maxLen at w0
  by_cases hbig : 2000 < s.size
  · go_enter Try.func3, Try.ntmps3
    go_wp2_with fail
    refine (works_any _).mono ?_; rintro e w1 ⟨rfl, b1⟩
    go_wp2_with fail
    go_ret
    exact ⟨rfl, b1⟩
  · have hs : s.size ≤ 1099511627776 := by omega
    have A1 := Lib.hid (fun w => rput_b s d w hs)
    have A2 := Lib.hid (fun w => put_any s d w hs)
    have A3 := Lib.hid (fun w => size_any s d w hs)
    have hl : ((putL s.data.toList d).length : Int) = ((⟨(putL s.data.toList d).toArray⟩ : ByteArray).size : Int) := by rw [ba_mk_size]
    rw [hl] at A3
    have A4 := Lib.hid (fun w => quoted_any s w hs)
    have A5 := Lib.hid (fun w => rquoted_b s w hs)
    have A6 := Lib.hid (fun w => plain_any s d w (by omega))
    have A7 := Lib.hid (fun w => rplain_any s d w (by omega))
    have A8 := Lib.hid (fun w => good_any d w)
    have A9 := Lib.hid (fun w => rgood_any d w)
    clear hl
    generalize (⟨(putL s.data.toList d).toArray⟩ : ByteArray) = P at A1 A2 A3
    generalize (⟨(quoted s.data.toList).toArray⟩ : ByteArray) = Q at A4 A5
    generalize plainB s.data.toList d = pl at A6 A7
    generalize goodI d = gd at A8 A9
    go_enter Try.func3, Try.ntmps3
    go_wp2_with fail
    refine (works_any _).mono ?_; rintro e w1 ⟨rfl, b1⟩
    go_wp2_with fail
    refine (A1.out _).mono ?_; rintro e w2 ⟨rfl, b2⟩
    replace b2 := below_up b1 b2; clear b1 A1
    go_wp2_with fail
    refine (A2.out _).mono ?_; rintro e w3 ⟨rfl, b3⟩
    replace b3 := below_up b2 b3; clear b2 A2
    go_wp2_with fail
    refine (A4.out _).mono ?_; rintro e w4 ⟨rfl, b4⟩
    replace b4 := below_up b3 b4; clear b3 A4
    go_wp2_with fail
    refine (A5.out _).mono ?_; rintro e w5 ⟨rfl, b5⟩
    replace b5 := below_up b4 b5; clear b4 A5
    go_wp2_with fail
    refine (A3.out _).mono ?_; rintro e w6 ⟨rfl, b6⟩
    replace b6 := below_up b5 b6; clear b5 A3
    go_wp2_with fail
    refine (A8.out _).mono ?_; rintro e _ ⟨rfl, rfl⟩
    go_wp2_with fail
    refine (A9.out _).mono ?_; rintro e _ ⟨rfl, rfl⟩
    go_wp2_with fail
    refine (A6.out _).mono ?_; rintro e _ ⟨rfl, rfl⟩
    go_wp2_with fail
    refine (A7.out _).mono ?_; rintro e _ ⟨rfl, rfl⟩
    go_wp2_with fail
    go_ret
    exact ⟨rfl, b6⟩
end Go.Proofs.Ytgnkkggcifaabaa
