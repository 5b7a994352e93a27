/-
  The walk of the statement QuoteSizes: at every two texts and every byte between fields it answers true.
  Conditions: none but that both are Go strings.
-/
import Derived.WalkKit
import Derived.WalkSmall
import Derived.Lib.Hide
import Derived.BigQuiet
import Derived.Lib.QuietBelow
import Derived.Test.YtgnkkggcifaabaaProg
import Derived.Test.YtgnkkggcifaabaaWorks
namespace Go.Proofs.Ytgnkkggcifaabaa
open Go.RowKit Go.Shelf

set_option maxRecDepth 100000 in
set_option maxHeartbeats 2000000 in
theorem walkQuoteSizes (s t : ByteArray) (d : Int) (w0 : s.size ≤ maxLen) (w1 : t.size ≤ maxLen) (_ : (Lit.int .u8 d).wf = true) (w : World) :
    Calls Try.prog 8 #[.string s, .string t, .int .u8 d] w fun e w' => e = .returned (.bool true) ∧ Below w.heap.size w w' := by
  unfold maxLen at w0 w1
  by_cases hbig : 2000 < s.size
  · go_enter Try.func8, Try.ntmps8
    go_wp2_with fail
    refine (works_any _).mono ?_; rintro e w1 ⟨rfl, b1⟩
    go_wp2_with fail
    go_ret
    exact ⟨rfl, b1⟩
  by_cases hbig2 : 2000 < t.size
  · go_enter Try.func8, Try.ntmps8
    go_wp2_with fail
    refine (works_any _).mono ?_; rintro e w1 ⟨rfl, b1⟩
    go_wp2_with fail
    go_ret
    exact ⟨rfl, b1⟩
  have hsa : (s ++ t).size = s.size + t.size := ByteArray.size_append
  have A1 := Lib.hid (fun w => quoted_any s w (by omega))
  have A2 := Lib.hid (fun w => quoted_any t w (by omega))
  have A3 := Lib.hid (fun w => quoted_any (s ++ t) w (by omega))
  have A4 := Lib.hid (fun w => plain_any s d w (by omega))
  have A5 := Lib.hid (fun w => plain_any t d w (by omega))
  have A6 := Lib.hid (fun w => plain_any (s ++ t) d w (by omega))
  have A7 := Lib.hid (fun w => size_any s d w (by omega))
  have hp : plainB (s ++ t).data.toList d = (plainB s.data.toList d && plainB t.data.toList d) := by rw [ba_app, plainB_append]
  have hz : (((putL s.data.toList d).length : Int) == (s.size : Int)) = plainB s.data.toList d := by
    rw [Bool.eq_iff_iff, ← put_length_eq]; rw [beq_iff_eq, ba_size]; omega
  obtain ⟨Q1, Q2, Q3, h1, h2, h3⟩ : ∃ Q1 Q2 Q3 : ByteArray, Q1 = ⟨(quoted s.data.toList).toArray⟩ ∧ Q2 = ⟨(quoted t.data.toList).toArray⟩ ∧ Q3 = ⟨(quoted (s ++ t).data.toList).toArray⟩ := ⟨_, _, _, rfl, rfl, rfl⟩
  have l1 : Q1.size = s.size + cnt s.data.toList + 2 := by rw [h1, ba_mk_size (quoted s.data.toList), quoted_length, ba_size]
  have l2 : Q2.size = t.size + cnt t.data.toList + 2 := by rw [h2, ba_mk_size (quoted t.data.toList), quoted_length, ba_size]
  have l3 : Q3.size = s.size + t.size + (cnt s.data.toList + cnt t.data.toList) + 2 := by rw [h3, ba_mk_size (quoted (s ++ t).data.toList), quoted_length, ba_size, hsa, ba_app, cnt_append]
  have c1 := cnt_le s.data.toList; have c2 := cnt_le t.data.toList
  rw [ba_size] at c1 c2
  rw [← h1] at A1; rw [← h2] at A2; rw [← h3] at A3
  rw [hp] at A6
  have hq : (((Q1.size : Int) + (Q2.size : Int)) != ((Q3.size : Int) + 2)) = false := by
    rw [bne_eq_false_iff_eq]; omega
  have b1 : Q1.size ≤ 5000 := by omega
  have b2 : Q2.size ≤ 5000 := by omega
  have b3 : Q3.size ≤ 10000 := by omega
  clear h1 h2 h3 hp l1 l2 l3 c1 c2 hsa
  generalize (putL s.data.toList d).length = z at A7 hz
  generalize plainB s.data.toList d = p1 at A4 A6 hz
  generalize plainB t.data.toList d = p2 at A5 A6
  have hlim : s.size + t.size ≤ 9223372036854775807 := by omega
  cases p1 with
  | false =>
    rw [Bool.false_and] at A6
    go_enter Try.func8, Try.ntmps8
    go_wp2_with fail
    refine (works_any _).mono ?_; rintro e w1 ⟨rfl, b1⟩
    go_wp2_with fail
    refine (A1.out _).mono ?_; rintro e w2 ⟨rfl, b2⟩
    replace b2 := below_up b1 b2; clear b1
    go_wp2_with fail
    refine (A2.out _).mono ?_; rintro e w3 ⟨rfl, b3⟩
    replace b3 := below_up b2 b3; clear b2
    go_wp2_with fail
    refine (A3.out _).mono ?_; rintro e w4 ⟨rfl, b4⟩
    replace b4 := below_up b3 b4; clear b3
    go_wp2_with fail
    refine (A4.out _).mono ?_; rintro e _ ⟨rfl, rfl⟩
    go_wp2_with fail
    refine (A6.out _).mono ?_; rintro e _ ⟨rfl, rfl⟩
    go_wp2_with fail
    refine (A7.out _).mono ?_; rintro e w5 ⟨rfl, b5⟩
    replace b5 := below_up b4 b5; clear b4
    go_wp2_with fail
    refine (A4.out _).mono ?_; rintro e _ ⟨rfl, rfl⟩
    go_wp2_with fail
    go_ret
    exact ⟨rfl, b5⟩
  | true =>
    rw [Bool.true_and] at A6
    go_enter Try.func8, Try.ntmps8
    go_wp2_with fail
    refine (works_any _).mono ?_; rintro e w1 ⟨rfl, b1⟩
    go_wp2_with fail
    refine (A1.out _).mono ?_; rintro e w2 ⟨rfl, b2⟩
    replace b2 := below_up b1 b2; clear b1
    go_wp2_with fail
    refine (A2.out _).mono ?_; rintro e w3 ⟨rfl, b3⟩
    replace b3 := below_up b2 b3; clear b2
    go_wp2_with fail
    refine (A3.out _).mono ?_; rintro e w4 ⟨rfl, b4⟩
    replace b4 := below_up b3 b4; clear b3
    go_wp2_with fail
    refine (A4.out _).mono ?_; rintro e _ ⟨rfl, rfl⟩
    go_wp2_with fail
    refine (A5.out _).mono ?_; rintro e _ ⟨rfl, rfl⟩
    go_wp2_with fail
    refine (A6.out _).mono ?_; rintro e _ ⟨rfl, rfl⟩
    go_wp2_with fail
    refine (A7.out _).mono ?_; rintro e w5 ⟨rfl, b5⟩
    replace b5 := below_up b4 b5; clear b4
    go_wp2_with fail
    refine (A4.out _).mono ?_; rintro e _ ⟨rfl, rfl⟩
    go_wp2_with fail
    go_ret
    exact ⟨rfl, b5⟩
end Go.Proofs.Ytgnkkggcifaabaa
