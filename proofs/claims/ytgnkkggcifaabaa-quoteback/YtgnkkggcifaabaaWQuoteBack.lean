/-
  The walk of the statement QuoteBack: at every text and whatever stands behind it, it answers true.
  Conditions: none but that both are Go strings.
-/
import Derived.WalkKit
import Derived.WalkSmall
import Derived.Lib.Hide
import Derived.Test.YtgnkkggcifaabaaProg
import Derived.Test.YtgnkkggcifaabaaWorks
namespace Go.Proofs.Ytgnkkggcifaabaa
open Go.RowKit Go.Shelf

theorem nq_of (b : ByteArray) (h : b.size = 0 ∨ ∃ hp : 0 < b.size, b[0] ≠ 34) : noQuote b.data.toList = true := by
  rcases h with h | ⟨hp, h⟩
  · have e : b.data.toList = [] := List.eq_nil_of_length_eq_zero (by rw [ba_size]; exact h)
    rw [e]; rfl
  · rw [ba_head b hp]; simpa [noQuote] using h

set_option maxRecDepth 100000 in
set_option maxHeartbeats 2000000 in
theorem back_walk (s b : ByteArray) (w : World) (hs : s.size ≤ 2000) (hb : b.size ≤ 2000) (hq : b.size = 0 ∨ ∃ hp : 0 < b.size, b[0] ≠ 34) :
    Calls Try.prog 5 #[.string s, .string b] w fun e w' => e = .returned (.bool true) ∧ Below w.heap.size w w' := by
  have A1 := Lib.hid (fun w => quoted_any s w (by omega))
  obtain ⟨Q, HQ, hQs⟩ : ∃ Q : ByteArray, Hid (Q = ⟨(quoted s.data.toList).toArray⟩) ∧ (s.size + 2 ≤ Q.size ∧ Q.size ≤ 4002) := by
    refine ⟨_, Lib.hid rfl, ?_⟩
    have h1 := quoted_length s.data.toList; have h2 := cnt_le s.data.toList; have h3 := ba_size s
    rw [ba_mk_size (quoted s.data.toList)]; omega
  rw [← HQ.out] at A1
  have A2 := Lib.hid (fun w => get_any (Q ++ b) w (by rw [ByteArray.size_append]; omega))
  have hg : gotV (getL (Q ++ b).data.toList) = .tuple #[.string s, .int .i64 (Q.size : Int), .int .i64 0] := by
    have e : (Q ++ b).data.toList = quoted s.data.toList ++ b.data.toList := by rw [ba_app, HQ.out]
    have e2 : (quoted s.data.toList).length = Q.size := by rw [HQ.out, ba_mk_size (quoted s.data.toList)]
    rw [e, get_quoted _ _ (nq_of b hq), e2]; rfl
  rw [hg] at A2
  clear hg HQ
  obtain ⟨hQ1, hQ2⟩ := hQs
  have hlim : Q.size + b.size ≤ 9223372036854775807 := by omega
  by_cases h0 : b.size = 0
  · have h0' : ¬ (0 : Int) < (b.size : Int) := by omega
    have hb0 := Lib.hid h0
    clear h0 hq
    go_enter Try.func5, Try.ntmps5
    go_wp2_with fail
    refine (works_any _).mono ?_; rintro e w1 ⟨rfl, b1⟩
    go_wp2_with fail
    refine (A1.out _).mono ?_; rintro e w2 ⟨rfl, b2⟩
    replace b2 := below_up b1 b2; clear b1 A1
    go_wp2_with fail
    refine (A2.out _).mono ?_; rintro e w3 ⟨rfl, b3⟩
    replace b3 := below_up b2 b3; clear b2 A2
    go_wp2_with fail
    go_ret
    exact ⟨ret_bool (decide_eq_true (by omega)), b3⟩
  · have hp : 0 < b.size := by omega
    have hq' : b[0] ≠ 34 := by rcases hq with h | ⟨_, h⟩; exact absurd h h0; exact h
    obtain ⟨q1, q2⟩ := byte_no _ hq'
    clear h0 hq hq'
    go_enter Try.func5, Try.ntmps5
    go_wp2_with fail
    refine (works_any _).mono ?_; rintro e w1 ⟨rfl, b1⟩
    go_wp2_with fail
    refine (A1.out _).mono ?_; rintro e w2 ⟨rfl, b2⟩
    replace b2 := below_up b1 b2; clear b1 A1
    go_wp2_with fail
    refine (A2.out _).mono ?_; rintro e w3 ⟨rfl, b3⟩
    replace b3 := below_up b2 b3; clear b2 A2
    go_wp2_with fail
    go_ret
    exact ⟨ret_bool (decide_eq_true (by omega)), b3⟩

set_option maxRecDepth 100000 in
set_option maxHeartbeats 2000000 in
theorem walkQuoteBack (s b : ByteArray) (w0 : s.size ≤ maxLen) (w1 : b.size ≤ maxLen) (w : World) :
    Calls Try.prog 5 #[.string s, .string b] w fun e w' => e = .returned (.bool true) ∧ Below w.heap.size w w' := by
  unfold maxLen at w0 w1
  by_cases hbig : 2000 < s.size
  · go_enter Try.func5, Try.ntmps5
    go_wp2_with fail
    refine (works_any _).mono ?_; rintro e w1 ⟨rfl, b1⟩
    go_wp2_with fail
    go_ret
    exact ⟨rfl, b1⟩
  by_cases hbig2 : 2000 < b.size
  · go_enter Try.func5, Try.ntmps5
    go_wp2_with fail
    refine (works_any _).mono ?_; rintro e w1 ⟨rfl, b1⟩
    go_wp2_with fail
    go_ret
    exact ⟨rfl, b1⟩
  by_cases h0 : b.size = 0
  · exact back_walk s b w (by omega) (by omega) (Or.inl h0)
  have hp : 0 < b.size := by omega
  by_cases hc : b[0] = 34
  · obtain ⟨q1, q2⟩ := byte_yes _ hc
    clear hc h0
    go_enter Try.func5, Try.ntmps5
    go_wp2_with fail
    refine (works_any _).mono ?_; rintro e w1 ⟨rfl, b1⟩
    go_wp2_with fail
    go_ret
    exact ⟨rfl, b1⟩
  · exact back_walk s b w (by omega) (by omega) (Or.inr ⟨hp, hc⟩)
end Go.Proofs.Ytgnkkggcifaabaa
