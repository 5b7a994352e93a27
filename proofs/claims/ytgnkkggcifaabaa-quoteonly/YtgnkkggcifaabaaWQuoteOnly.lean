/-
  The walk of the statement QuoteOnly: at every text it answers true.
  Conditions: none but that the text is a Go string.
-/
import Derived.WalkKit
import Derived.WalkSmall
import Derived.Lib.Hide
import Derived.BigQuiet
import Derived.Lib.QuietBelow
import Derived.Test.YtgnkkggcifaabaaProg
import Derived.Test.YtgnkkggcifaabaaWorks
namespace Go.Proofs.Ytgnkkggcifaabaa
open Go.RowKit Go.Shelf

set_option maxRecDepth 100000 in
set_option maxHeartbeats 2000000 in
theorem walkQuoteOnly (s : ByteArray) (w0 : s.size ≤ maxLen) (w : World) :
    Calls Try.prog 6 #[.string s] w fun e w' => e = .returned (.bool true) ∧ Below w.heap.size w w' := by
  unfold maxLen at w0
  by_cases hbig : 2000 < s.size
  · go_enter Try.func6, Try.ntmps6
    go_wp2_with fail
    refine (works_any _).mono ?_; rintro e w1 ⟨rfl, b1⟩
    go_wp2_with fail
    go_ret
    exact ⟨rfl, b1⟩
  have hs : s.size ≤ 1099511627776 := by omega
  have A1 := Lib.hid (fun w => get_any s w hs)
  obtain ⟨l, n, x, hx⟩ : ∃ l n x, getL s.data.toList = (l, n, x) := ⟨_, _, _, rfl⟩
  rw [hx] at A1
  by_cases hx0 : x = 0
  · subst hx0
    obtain ⟨b, hb, hq, hn⟩ := get_only _ _ _ hx
    have hlen : n + b.length = s.size := by rw [← ba_size, hb, List.length_append, hn]
    have h2 : 2 ≤ n := by rw [hn, quoted_length]; omega
    obtain ⟨t, Ht⟩ : ∃ t : ByteArray, Hid (t = ⟨l.toArray⟩) := ⟨_, Lib.hid rfl⟩
    have hl : t.data.toList = l := by rw [Ht.out]
    have hts : t.size ≤ 1099511627776 := by
      have h3 := quoted_length l; rw [Ht.out, ba_mk_size]; omega
    have A2 := Lib.hid (fun w => quoted_any t w hts)
    have hE : (⟨(quoted t.data.toList).toArray⟩ : ByteArray) = s.extract 0 n := by
      apply ba_eq; rw [ba_ext, hb, hl, hn]; simp
    rw [hE] at A2
    have hA1 : Hid (∀ w, Calls Try.prog 19 #[.string s] w fun e w' => e = .returned (.tuple #[.string t, .int .i64 (n : Int), .int .i64 0]) ∧ Below w.heap.size w w') := by
      rw [Ht.out]; exact A1
    have hnle : n ≤ s.size := by omega
    have hb1 : (0 : Int) ≤ (n : Int) := by omega
    have hb2 : (n : Int) ≤ (s.size : Int) := by omega
    by_cases he : n = s.size
    · have q1 : ((n : Int) == (s.size : Int)) = true := by rw [he]; simp
      clear A1 hx hb hq hn hlen hl hE Ht hts w0 hs
      have HE := Lib.hid he; clear he
      go_enter Try.func6, Try.ntmps6
      go_wp2_with fail
      refine (works_any _).mono ?_; rintro e w1 ⟨rfl, b1⟩
      go_wp2_with fail
      refine (hA1.out _).mono ?_; rintro e w2 ⟨rfl, b2⟩
      replace b2 := below_up b1 b2; clear b1
      go_wp2_with fail
      refine wp_region_quiet_below (by kernel_rfl) (by kernel_rfl) ?_
      repeat (first | go_big_quiet_step (exact Calls.regrown_of (A2.out _)) | quiet_step (exact Calls.regrown_of (A2.out _)))
      refine wpQuiet_nil ?_
      intro _ hw'
      obtain ⟨⟨dq, osq⟩, hw''⟩ := hw'
      subst hw''
      go_wp2_with fail
      go_ret
      exact ⟨rfl, below_up b2 (below_regrown w2 dq osq)⟩
    · have hlt : n < s.size := by omega
      have hd : s[n] ≠ 34 := by
        have e1 := ba_drop s n hlt
        have e2 : s.data.toList.drop n = b := by rw [hb, hn, List.drop_left]
        rw [← e2, e1] at hq
        simpa [noQuote] using hq
      obtain ⟨q3, q4⟩ := byte_no _ hd
      have q1 : ((n : Int) == (s.size : Int)) = false := beq_eq_false_iff_ne.2 (by omega)
      clear A1 hx hb hq hn hlen hl hE Ht hts w0 hs he hd
      go_enter Try.func6, Try.ntmps6
      go_wp2_with fail
      refine (works_any _).mono ?_; rintro e w1 ⟨rfl, b1⟩
      go_wp2_with fail
      refine (hA1.out _).mono ?_; rintro e w2 ⟨rfl, b2⟩
      replace b2 := below_up b1 b2; clear b1
      go_wp2_with fail
      refine wp_region_quiet_below (by kernel_rfl) (by kernel_rfl) ?_
      repeat (first | go_big_quiet_step (exact Calls.regrown_of (A2.out _)) | quiet_step (exact Calls.regrown_of (A2.out _)))
      refine wpQuiet_nil ?_
      intro _ hw'
      obtain ⟨⟨dq, osq⟩, hw''⟩ := hw'
      subst hw''
      go_wp2_with fail
      go_ret
      exact ⟨rfl, below_up b2 (below_regrown w2 dq osq)⟩
  · obtain ⟨rfl, rfl⟩ := get_err _ _ _ _ hx hx0
    have q1 : ((x : Int) != 0) = true := by rw [bne_iff_ne]; omega
    clear hx hx0
    have hA1 : Hid (∀ w, Calls Try.prog 19 #[.string s] w fun e w' => e = .returned (.tuple #[.string ⟨#[]⟩, .int .i64 0, .int .i64 (x : Int)]) ∧ Below w.heap.size w w') := A1
    clear A1
    go_enter Try.func6, Try.ntmps6
    go_wp2_with fail
    refine (works_any _).mono ?_; rintro e w1 ⟨rfl, b1⟩
    go_wp2_with fail
    refine (hA1.out _).mono ?_; rintro e w2 ⟨rfl, b2⟩
    replace b2 := below_up b1 b2; clear b1
    go_wp2_with fail
    go_ret
    exact ⟨rfl, b2⟩
end Go.Proofs.Ytgnkkggcifaabaa
