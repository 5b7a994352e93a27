/-
  The walk of the statement CsvParses.
  Conditions: none beyond the form of claims.
-/
import Derived.WalkKit
import Derived.WalkMore
import Derived.Lib.Hide
import Derived.Test.YtacclgfpmkhodaaProg
import Derived.Test.YtacclgfpmkhodaaCsvWorks
import Derived.Test.YtacclgfpmkhodaaCsvLaw
import Derived.Test.YtacclgfpmkhodaaCsvMath4
import Derived.Test.YtacclgfpmkhodaaCsvRd10
namespace Go.Proofs.Ytacclgfpmkhodaa
open Go.RowKit Go.Shelf
set_option linter.unusedVariables false

theorem readL_small (l : List UInt8) (d : Int) : ∀ (f a : Nat) (done : Recs) (row : List (List UInt8)), (∀ r ∈ done, r.length ≤ 128) → row.length ≤ 128 → done.length ≤ 2048 → (readL l d f a done row).1.length ≤ 2048 ∧ ∀ r ∈ (readL l d f a done row).1, r.length ≤ 128 := by
  intro f
  induction f with
  | zero => intro a done row h1 _ h3; exact ⟨h3, h1⟩
  | succ f ih =>
    intro a done row h1 h2 h3
    unfold readL
    split
    · exact ⟨h3, h1⟩
    split
    · exact ⟨by simp, by simp⟩
    rename_i _ he
    have hfit : fitsB done row = true := by
      cases hh : fitsB done row with
      | true => rfl
      | false => exfalso; apply he; unfold cellOut; rw [hh]; simp
    simp only [fitsB, Bool.and_eq_true, decide_eq_true_eq] at hfit
    split
    · exact ih _ _ _ h1 (by simp; omega) h3
    · refine ih _ _ _ (fun r hr => ?_) (by simp) (by simp; omega)
      rcases List.mem_append.1 hr with h | h
      · exact h1 r h
      · simp at h; subst h; simp; omega
theorem parseL_small (l : List UInt8) (d : Int) : (parseL l d).1.length ≤ 2048 ∧ ∀ r ∈ (parseL l d).1, r.length ≤ 128 := by
  unfold parseL
  split
  · exact ⟨by simp, by simp⟩
  split
  · exact ⟨by simp, by simp⟩
  · exact readL_small l d _ _ _ _ (by simp) (by simp) (by simp)

set_option maxRecDepth 100000 in
set_option maxHeartbeats 4000000 in
theorem walkCsvParses (s : ByteArray) (d : Int) (w : World) (hs : s.size ≤ maxLen) (hd : (Lit.int .u8 d).wf = true) :
    Calls Try.prog 3 #[.string s, .int .u8 d] w fun e w' => e = .returned (.bool true) ∧ Below w.heap.size w w' := by
  obtain ⟨u, rfl⟩ := u8_of d hd
  unfold maxLen at hs
  clear hd
  go_enter Try.func3, Try.ntmps3
  go_wp2_with fail
  refine (cworks_any _).mono ?_; rintro e w1 ⟨rfl, b1⟩
  have B1 := Lib.hid b1
  clear b1
  by_cases hb : 3000 < s.size
  · go_wp2_with fail
    go_ret
    exact ⟨rfl, B1.out⟩
  have C1 := Lib.hid (fun W => parse_any s u W (by omega))
  have C2 := Lib.hid (fun W => rparse_any s u W (by omega))
  have HS := Lib.hid (parseL_small s.data.toList (u.toNat : Int))
  generalize parseL s.data.toList (u.toNat : Int) = y at C1 C2 HS
  obtain ⟨L, n, e⟩ := y
  go_wp2_with fail
  refine (C1.out _).mono ?_; rintro e1 w2 ⟨ao, cap, rs, rfl, h2, h3, b2⟩
  simp only [parseV]
  have H2 := Lib.hid h2
  have E2 := Lib.hid h3
  have B2 := Lib.hid (below_up B1.out b2)
  clear h2 h3 b2 C1 B1
  go_wp2_with fail
  refine (C2.out _).mono ?_; rintro e1 w3 ⟨bo, cbp, ss, rfl, h2, h3, b3⟩
  simp only [parseV]
  have H3 := Lib.hid h2
  have E3 := Lib.hid h3
  have H2 := Lib.hid (H2.out.kept b3)
  have B3 := Lib.hid (below_up B2.out b3)
  clear h2 h3 b3 C2 B2
  have hlen := (rows_len rs L E2.out).1
  have hrow := (rows_len rs L E2.out).2 128 HS.out.2
  have hln : rs.length ≤ 2048 := by rw [hlen]; exact HS.out.1
  have S := Lib.hid (rsame_any ao bo cap cbp rs ss w3 (by omega) (fun r hr => by have := hrow r hr; omega) H2.out H3.out)
  rw [show sameRecs rs ss = true from by unfold sameRecs; rw [E2.out, E3.out]; simp] at S
  clear hlen hrow
  go_wp2_with fail
  refine S.out.mono ?_; rintro e1 w4 ⟨rfl, b4⟩
  have B4 := Lib.hid (below_up B3.out b4)
  clear b4
  have t1 : (n == n) = true := by simp
  have t2 : ((e : Int) == (e : Int)) = true := by simp
  go_wp2_with fail
  go_ret
  exact ⟨rfl, B4.out⟩
end Go.Proofs.Ytacclgfpmkhodaa
