/-
  The walk of the statement PairsRests.
  Conditions: none beyond the form of claims.
-/
import Derived.WalkKit
import Derived.WalkMore
import Derived.Lib.Hide
import Derived.Test.YtpejdnmfagjfhaaProg
import Derived.Test.YtpejdnmfagjfhaaPOpen
import Derived.Test.YtpejdnmfagjfhaaPWorks
namespace Go.Proofs.Ytpejdnmfagjfhaa
open Go.RowKit Go.Shelf
set_option linter.unusedVariables false

theorem wf_lo {n : Int} (h : (Lit.int .i64 n).wf = true) : -9223372036854775808 ≤ n ∧ n ≤ 9223372036854775807 := by
  simp only [Lit.wf, Bool.and_eq_true, decide_eq_true_eq] at h
  exact h
theorem same_self {α : Type} [DecidableEq α] (l : List α) : sameL l l = true := by simp [sameL]

set_option maxRecDepth 100000 in
set_option maxHeartbeats 2000000 in
theorem walkPairsRests (ao : Option Addr) (ca : Nat) (xs : PL) (na nb : Int) (w : World)
    (hA : PairsArg w ao ca xs) (ha : (Lit.int .i64 na).wf = true) (hb : (Lit.int .i64 nb).wf = true) :
    Calls Try.prog 6 #[.slice ao xs.length ca, .int .i64 na, .int .i64 nb] w fun e w' => e = .returned (.bool true) ∧ Below w.heap.size w w' := by
  have HA := Lib.hid hA
  have C0 := Lib.hid (works_any w)
  have HWa := Lib.hid (wf_lo ha)
  have HWb := Lib.hid (wf_lo hb)
  clear hA ha hb
  go_enter Try.func6, Try.ntmps6
  go_wp2_with fail
  refine C0.out.mono ?_; rintro e W ⟨rfl, b0⟩
  have B := Lib.hid b0
  clear b0
  by_cases h1 : 60 < xs.length
  · go_wp2_with fail
    go_ret
    exact ⟨rfl, B.out⟩
  by_cases h2 : 1000 < na
  · go_wp2_with fail
    go_ret
    exact ⟨rfl, B.out⟩
  by_cases h3 : 1000 < nb
  · go_wp2_with fail
    go_ret
    exact ⟨rfl, B.out⟩
  have C1 := Lib.hid (fun V (h : Below w.heap.size w V) => restA_any ao ca xs na V (by omega) HA.out.ok (HA.out.pairs.kept h) HWa.out.1 (by omega))
  have C2 := Lib.hid (fun V (h : Below w.heap.size w V) => rrestA_any ao ca xs na V (by omega) (HA.out.pairs.kept h) HWa.out.1 (by omega))
  have C3 := Lib.hid (fun V (h : Below w.heap.size w V) => restB_any ao ca xs nb V (by omega) HA.out.ok (HA.out.pairs.kept h) HWb.out.1 (by omega))
  have C4 := Lib.hid (fun V (h : Below w.heap.size w V) => rrestB_any ao ca xs nb V (by omega) (HA.out.pairs.kept h) HWb.out.1 (by omega))
  have hl1 : (outOf (xs.map Prod.fst) na.toNat).length ≤ 1000 := by have := outOf_le (xs.map Prod.fst) na.toNat; omega
  have hl2 : (outOf (xs.map Prod.snd) nb.toNat).length ≤ 1000 := by have := outOf_le (xs.map Prod.snd) nb.toNat; omega
  have CI := Lib.hid (fun a b c d (l : List Int) V (hl : l.length ≤ 1000) h k => (by have := ints_any a b c d l l V (by omega) h k; rwa [same_self] at this : Calls Try.prog 19 #[.slice a l.length c, .slice b l.length d] V fun e w' => e = .returned (.bool true) ∧ Below V.heap.size V w'))
  generalize outOf (xs.map Prod.fst) na.toNat = O1 at C1 C2 hl1
  generalize outOf (xs.map Prod.snd) nb.toNat = O2 at C3 C4 hl2
  go_wp2_with fail
  refine (C1.out _ B.out).mono ?_; rintro e W1 ⟨o1, c1, rfl, i1, -, -, b1⟩
  have B := Lib.hid (below_up B.out b1)
  have I1 := Lib.hid i1
  clear b1 i1
  go_wp2_with fail
  refine (C2.out _ B.out).mono ?_; rintro e W2 ⟨o2, c2, rfl, i2, -, -, b1⟩
  have B := Lib.hid (below_up B.out b1)
  have I1 := Lib.hid (I1.out.kept b1)
  have I2 := Lib.hid i2
  clear b1 i2
  go_wp2_with fail
  refine (CI.out _ _ _ _ O1 _ hl1 I1.out I2.out).mono ?_; rintro e W3 ⟨rfl, b1⟩
  have B := Lib.hid (below_up B.out b1)
  clear b1 I1 I2
  go_wp2_with fail
  refine (C3.out _ B.out).mono ?_; rintro e W4 ⟨o1, c1, rfl, i1, -, -, b1⟩
  have B := Lib.hid (below_up B.out b1)
  have I1 := Lib.hid i1
  clear b1 i1
  go_wp2_with fail
  refine (C4.out _ B.out).mono ?_; rintro e W5 ⟨o2, c2, rfl, i2, -, -, b1⟩
  have B := Lib.hid (below_up B.out b1)
  have I1 := Lib.hid (I1.out.kept b1)
  have I2 := Lib.hid i2
  clear b1 i2
  go_wp2_with fail
  refine (CI.out _ _ _ _ O2 _ hl2 I1.out I2.out).mono ?_; rintro e W6 ⟨rfl, b1⟩
  have B := Lib.hid (below_up B.out b1)
  clear b1 I1 I2
  go_wp2_with fail
  go_ret
  exact ⟨rfl, B.out⟩
end Go.Proofs.Ytpejdnmfagjfhaa
