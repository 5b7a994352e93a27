/-
  The walk of the statement BagCommon.
  Conditions: none beyond the form of claims.
-/
import Derived.WalkKit
import Derived.WalkMore
import Derived.Lib.Hide
import Derived.Test.YtcdpadchbphggaaProg
import Derived.Test.YtcdpadchbphggaaPOpen
import Derived.Test.YtcdpadchbphggaaTOpen
import Derived.Test.YtcdpadchbphggaaBWorks
import Derived.Test.YtcdpadchbphggaaLcLength
namespace Go.Proofs.Ytcdpadchbphggaa
open Go.RowKit Go.Shelf
set_option linter.unusedVariables false

theorem same_is (N n m : Nat) : (decide (n = m) && decide (N = n)) = (decide (N = n) && decide (N = m)) := by
  by_cases h : N = n
  · subst h; simp
  · simp [h]

set_option maxRecDepth 100000 in
set_option maxHeartbeats 8000000 in
theorem walkBagCommon (ao : Option Addr) (ca : Nat) (xs : List ByteArray) (bo : Option Addr) (cb : Nat) (ys : List ByteArray) (w : World) (hA : StrArg w ao ca xs) (hB : StrArg w bo cb ys) :
    Calls Try.prog 6 #[.slice ao xs.length ca, .slice bo ys.length cb] w fun e w' => e = .returned (.bool true) ∧ Below w.heap.size w w' := by
  have HA := Lib.hid hA
  have HB := Lib.hid hB
  have C0 := Lib.hid (bworks_any w)
  clear hA hB
  by_cases h1 : xs.length ≤ 60
  · by_cases h2 : ys.length ≤ 60
    · have C1 := Lib.hid (fun V (h : Below w.heap.size w V) => over_any ao bo ca cb xs ys V (by omega) (by omega) HA.out.mx HB.out.mx (HA.out.row.kept h) (HB.out.row.kept h))
      have C2 := Lib.hid (fun V (h : Below w.heap.size w V) => length_any ao bo ca cb xs ys V (by omega) (by omega) HA.out.mx HB.out.mx (HA.out.row.kept h) (HB.out.row.kept h))
      have C3 := Lib.hid (fun V (h : Below w.heap.size w V) => bsame_any ao bo ca cb xs ys V (by omega) (by omega) HA.out.mx HB.out.mx (HA.out.row.kept h) (HB.out.row.kept h))
      have hle := over_lcs (bytesOf xs) (bytesOf ys)
      have HF : Hid (sameB (bytesOf xs) (bytesOf ys) = (decide (overL (bytesOf xs) (bytesOf ys) = xs.length) && decide (overL (bytesOf xs) (bytesOf ys) = ys.length))) := Lib.hid (by
        unfold sameB; rw [bytes_len, bytes_len]; exact same_is _ _ _)
      generalize overL (bytesOf xs) (bytesOf ys) = N at C1 hle HF
      generalize lcsN (bytesOf xs) (bytesOf ys) = L at C2 hle
      generalize sameB (bytesOf xs) (bytesOf ys) = F at C3 HF
      by_cases e1 : N = xs.length
      · by_cases e2 : N = ys.length
        · obtain rfl : F = true := by rw [HF.out]; simp [e1, ← e2]
          have q1 : ((N : Int) == (xs.length : Int)) = true := by rw [beq_iff_eq]; omega
          have q2 : ((N : Int) == (ys.length : Int)) = true := by rw [beq_iff_eq]; omega
          clear HF e1 e2
          go_enter Try.func6, Try.ntmps6
          go_wp2_with fail
          refine C0.out.mono ?_; rintro e W ⟨rfl, b0⟩
          have B := Lib.hid b0
          clear b0 C0
          go_wp2_with fail
          refine (C1.out W B.out).mono ?_; rintro e W1 ⟨rfl, b⟩
          have B := Lib.hid (below_up B.out b)
          clear b C1
          go_wp2_with fail
          refine (C2.out W1 B.out).mono ?_; rintro e W2 ⟨rfl, b⟩
          have B := Lib.hid (below_up B.out b)
          clear b C2
          go_wp2_with fail
          refine (C3.out W2 B.out).mono ?_; rintro e W3 ⟨rfl, b⟩
          have B := Lib.hid (below_up B.out b)
          clear b C3
          go_wp2_with fail
          go_ret
          exact ⟨rfl, B.out⟩
        · obtain rfl : F = false := by rw [HF.out]; simp [e2]
          have q1 : ((N : Int) == (xs.length : Int)) = true := by rw [beq_iff_eq]; omega
          have q2 : ((N : Int) == (ys.length : Int)) = false := by rw [beq_eq_false_iff_ne]; omega
          clear HF e1 e2
          go_enter Try.func6, Try.ntmps6
          go_wp2_with fail
          refine C0.out.mono ?_; rintro e W ⟨rfl, b0⟩
          have B := Lib.hid b0
          clear b0 C0
          go_wp2_with fail
          refine (C1.out W B.out).mono ?_; rintro e W1 ⟨rfl, b⟩
          have B := Lib.hid (below_up B.out b)
          clear b C1
          go_wp2_with fail
          refine (C2.out W1 B.out).mono ?_; rintro e W2 ⟨rfl, b⟩
          have B := Lib.hid (below_up B.out b)
          clear b C2
          go_wp2_with fail
          refine (C3.out W2 B.out).mono ?_; rintro e W3 ⟨rfl, b⟩
          have B := Lib.hid (below_up B.out b)
          clear b C3
          go_wp2_with fail
          go_ret
          exact ⟨rfl, B.out⟩
      · obtain rfl : F = false := by rw [HF.out]; simp [e1]
        have q1 : ((N : Int) == (xs.length : Int)) = false := by rw [beq_eq_false_iff_ne]; omega
        clear HF e1
        go_enter Try.func6, Try.ntmps6
        go_wp2_with fail
        refine C0.out.mono ?_; rintro e W ⟨rfl, b0⟩
        have B := Lib.hid b0
        clear b0 C0
        go_wp2_with fail
        refine (C1.out W B.out).mono ?_; rintro e W1 ⟨rfl, b⟩
        have B := Lib.hid (below_up B.out b)
        clear b C1
        go_wp2_with fail
        refine (C2.out W1 B.out).mono ?_; rintro e W2 ⟨rfl, b⟩
        have B := Lib.hid (below_up B.out b)
        clear b C2
        go_wp2_with fail
        refine (C3.out W2 B.out).mono ?_; rintro e W3 ⟨rfl, b⟩
        have B := Lib.hid (below_up B.out b)
        clear b C3
        go_wp2_with fail
        go_ret
        exact ⟨rfl, B.out⟩
    · go_enter Try.func6, Try.ntmps6
      go_wp2_with fail
      refine C0.out.mono ?_; rintro e W ⟨rfl, b0⟩
      have B := Lib.hid b0
      clear b0 C0
      go_wp2_with fail
      go_ret
      exact ⟨rfl, B.out⟩
  · go_enter Try.func6, Try.ntmps6
    go_wp2_with fail
    refine C0.out.mono ?_; rintro e W ⟨rfl, b0⟩
    have B := Lib.hid b0
    clear b0 C0
    go_wp2_with fail
    go_ret
    exact ⟨rfl, B.out⟩
end Go.Proofs.Ytcdpadchbphggaa
