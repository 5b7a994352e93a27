/-
  The walk of the statement PairsChecks.
  Conditions: none beyond the form of claims.
-/
import Derived.WalkKit
import Derived.WalkMore
import Derived.Lib.Hide
import Derived.Test.YtpejdnmfagjfhaaProg
import Derived.Test.YtpejdnmfagjfhaaPOpen
import Derived.Test.YtpejdnmfagjfhaaPWorks
namespace Go.Proofs.Ytpejdnmfagjfhaa
open Go.RowKit Go.Shelf
set_option linter.unusedVariables false

set_option maxRecDepth 100000 in
set_option maxHeartbeats 2000000 in
theorem walkPairsChecks (ao : Option Addr) (ca : Nat) (xs : PL) (bo : Option Addr) (cb : Nat) (ys : PL) (na nb : Int) (w : World)
    (hA : PairsArg w ao ca xs) (hB : PairsArg w bo cb ys) (ha : (Lit.int .i64 na).wf = true) (hb : (Lit.int .i64 nb).wf = true) :
    Calls Try.prog 3 #[.slice ao xs.length ca, .slice bo ys.length cb, .int .i64 na, .int .i64 nb] w fun e w' => e = .returned (.bool true) ∧ Below w.heap.size w w' := by
  have HA := Lib.hid hA
  have HB := Lib.hid hB
  have C0 := Lib.hid (works_any w)
  clear hA hB
  go_enter Try.func3, Try.ntmps3
  go_wp2_with fail
  refine C0.out.mono ?_; rintro e W ⟨rfl, b0⟩
  have B := Lib.hid b0
  clear b0
  by_cases h1 : 60 < xs.length
  · go_wp2_with fail
    go_ret
    exact ⟨rfl, B.out⟩
  by_cases h2 : 60 < ys.length
  · go_wp2_with fail
    go_ret
    exact ⟨rfl, B.out⟩
  have C1 := Lib.hid (fun V (h : Below w.heap.size w V) => psameR_any ao bo ca cb xs ys V (by omega) (HA.out.pairs.kept h) (HB.out.pairs.kept h))
  have C2 := Lib.hid (fun V (h : Below w.heap.size w V) => pcheck_any ao ca xs na nb V (by omega) HA.out.ok (HA.out.pairs.kept h))
  have C3 := Lib.hid (fun V (h : Below w.heap.size w V) => rcheck_any ao ca xs na nb V (by omega) (HA.out.pairs.kept h))
  have C4 := Lib.hid (fun V (h : Below w.heap.size w V) => psame_any ao bo ca cb xs ys V (by omega) (HA.out.pairs.kept h) (HB.out.pairs.kept h))
  generalize sameL xs ys = b at C1 C4
  generalize checkP xs na nb = c at C2 C3
  go_wp2_with fail
  refine (C1.out _ B.out).mono ?_; rintro e W1 ⟨rfl, b1⟩
  have B := Lib.hid (below_up B.out b1)
  clear b1
  go_wp2_with fail
  refine (C2.out _ B.out).mono ?_; rintro e W2 ⟨rfl, b1⟩
  have B := Lib.hid (below_up B.out b1)
  clear b1
  go_wp2_with fail
  refine (C3.out _ B.out).mono ?_; rintro e W3 ⟨rfl, b1⟩
  have B := Lib.hid (below_up B.out b1)
  clear b1
  go_wp2_with fail
  refine (C4.out _ B.out).mono ?_; rintro e W4 ⟨rfl, b1⟩
  have B := Lib.hid (below_up B.out b1)
  clear b1
  go_wp2_with fail
  go_ret
  exact ⟨by simp, B.out⟩
end Go.Proofs.Ytpejdnmfagjfhaa
