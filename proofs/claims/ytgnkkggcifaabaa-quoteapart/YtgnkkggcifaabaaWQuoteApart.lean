/-
  The walk of the statement QuoteApart: at every two texts and every byte between fields it answers true.
  Conditions: none but that both are Go strings.
-/
import Derived.WalkKit
import Derived.WalkSmall
import Derived.Lib.Hide
import Derived.BigQuiet
import Derived.Lib.QuietBelow
import Derived.Test.YtgnkkggcifaabaaProg
import Derived.Test.YtgnkkggcifaabaaWorks
namespace Go.Proofs.Ytgnkkggcifaabaa
open Go.RowKit Go.Shelf

/-- whether two texts are alike, told by their lists of bytes -/
theorem beq_of {a b : ByteArray} {x y : List UInt8} (f : List UInt8 → List UInt8) (ha : a = ⟨(f x).toArray⟩) (hb : b = ⟨(f y).toArray⟩) (hf : f x = f y → x = y) : (a.toList == b.toList) = (x == y) := by
  rw [ba_toList, ba_toList, ha, hb]
  rw [Bool.eq_iff_iff]; simp only [beq_iff_eq]
  exact ⟨hf, fun h => by rw [h]⟩

set_option maxRecDepth 100000 in
set_option maxHeartbeats 2000000 in
theorem walkQuoteApart (s t : ByteArray) (d : Int) (w0 : s.size ≤ maxLen) (w1 : t.size ≤ maxLen) (_ : (Lit.int .u8 d).wf = true) (w : World) :
    Calls Try.prog 7 #[.string s, .string t, .int .u8 d] w fun e w' => e = .returned (.bool true) ∧ Below w.heap.size w w' := by
  unfold maxLen at w0 w1
  by_cases hbig : 2000 < s.size
  · go_enter Try.func7, Try.ntmps7
    go_wp2_with fail
    refine (works_any _).mono ?_; rintro e w1 ⟨rfl, b1⟩
    go_wp2_with fail
    go_ret
    exact ⟨rfl, b1⟩
  by_cases hbig2 : 2000 < t.size
  · go_enter Try.func7, Try.ntmps7
    go_wp2_with fail
    refine (works_any _).mono ?_; rintro e w1 ⟨rfl, b1⟩
    go_wp2_with fail
    go_ret
    exact ⟨rfl, b1⟩
  have A1 := Lib.hid (fun w => put_any s d w (by omega))
  have A2 := Lib.hid (fun w => put_any t d w (by omega))
  have A3 := Lib.hid (fun w => quoted_any s w (by omega))
  have A4 := Lib.hid (fun w => quoted_any t w (by omega))
  obtain ⟨P1, h1⟩ : ∃ P : ByteArray, P = ⟨(putL s.data.toList d).toArray⟩ := ⟨_, rfl⟩
  obtain ⟨P2, h2⟩ : ∃ P : ByteArray, P = ⟨(putL t.data.toList d).toArray⟩ := ⟨_, rfl⟩
  obtain ⟨Q1, h3⟩ : ∃ P : ByteArray, P = ⟨(quoted s.data.toList).toArray⟩ := ⟨_, rfl⟩
  obtain ⟨Q2, h4⟩ : ∃ P : ByteArray, P = ⟨(quoted t.data.toList).toArray⟩ := ⟨_, rfl⟩
  have e1 := beq_of (fun l => putL l d) h1 h2 (put_inj d)
  have e2 := beq_of quoted h3 h4 quoted_inj
  have e3 : (s.toList == t.toList) = (s.data.toList == t.data.toList) := by rw [ba_toList, ba_toList]
  rw [← h1] at A1; rw [← h2] at A2; rw [← h3] at A3; rw [← h4] at A4
  clear h1 h2 h3 h4
  generalize (s.data.toList == t.data.toList) = q at e1 e2 e3
  cases q with
  | true =>
    go_enter Try.func7, Try.ntmps7
    go_wp2_with fail
    refine (works_any _).mono ?_; rintro e w1 ⟨rfl, b1⟩
    go_wp2_with fail
    refine (A1.out _).mono ?_; rintro e w2 ⟨rfl, b2⟩
    replace b2 := below_up b1 b2; clear b1
    go_wp2_with fail
    refine (A2.out _).mono ?_; rintro e w3 ⟨rfl, b3⟩
    replace b3 := below_up b2 b3; clear b2
    go_wp2_with fail
    refine (A3.out _).mono ?_; rintro e w4 ⟨rfl, b4⟩
    replace b4 := below_up b3 b4; clear b3
    go_wp2_with fail
    refine (A4.out _).mono ?_; rintro e w5 ⟨rfl, b5⟩
    replace b5 := below_up b4 b5; clear b4
    go_wp2_with fail
    go_ret
    exact ⟨rfl, b5⟩
  | false =>
    go_enter Try.func7, Try.ntmps7
    go_wp2_with fail
    refine (works_any _).mono ?_; rintro e w1 ⟨rfl, b1⟩
    go_wp2_with fail
    refine (A1.out _).mono ?_; rintro e w2 ⟨rfl, b2⟩
    replace b2 := below_up b1 b2; clear b1
    go_wp2_with fail
    refine (A2.out _).mono ?_; rintro e w3 ⟨rfl, b3⟩
    replace b3 := below_up b2 b3; clear b2
    go_wp2_with fail
    refine (A3.out _).mono ?_; rintro e w4 ⟨rfl, b4⟩
    replace b4 := below_up b3 b4; clear b3
    go_wp2_with fail
    refine (A4.out _).mono ?_; rintro e w5 ⟨rfl, b5⟩
    replace b5 := below_up b4 b5; clear b4
    go_wp2_with fail
    go_ret
    exact ⟨rfl, b5⟩
end Go.Proofs.Ytgnkkggcifaabaa
