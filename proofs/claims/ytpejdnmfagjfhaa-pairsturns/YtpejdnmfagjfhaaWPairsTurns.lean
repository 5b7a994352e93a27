/-
  The walk of the statement PairsTurns.
  Conditions: none beyond the form of claims.
-/
import Derived.WalkKit
import Derived.WalkMore
import Derived.Lib.Hide
import Derived.Test.YtpejdnmfagjfhaaProg
import Derived.Test.YtpejdnmfagjfhaaPOpen
import Derived.Test.YtpejdnmfagjfhaaPWorks
import Derived.Test.YtpejdnmfagjfhaaPStable
import Derived.Test.YtpejdnmfagjfhaaPPutR
import Derived.Test.YtpejdnmfagjfhaaPThroughR
namespace Go.Proofs.Ytpejdnmfagjfhaa
open Go.RowKit Go.Shelf
set_option linter.unusedVariables false

set_option maxRecDepth 100000 in
set_option maxHeartbeats 2000000 in
theorem walkPairsTurns (ao : Option Addr) (ca : Nat) (xs : PL) (bo : Option Addr) (cb : Nat) (ys : PL) (w : World) (hA : PairsArg w ao ca xs) (hB : PairsArg w bo cb ys) :
    Calls Try.prog 4 #[.slice ao xs.length ca, .slice bo ys.length cb] w fun e w' => e = .returned (.bool true) ∧ Below w.heap.size w w' := by
  have HA := Lib.hid hA
  have HB := Lib.hid hB
  have C0 := Lib.hid (works_any w)
  clear hA hB
  go_enter Try.func4, Try.ntmps4
  go_wp2_with fail
  refine C0.out.mono ?_; rintro e W ⟨rfl, b0⟩
  have B := Lib.hid b0
  clear b0
  by_cases h1 : 60 < xs.length
  · go_wp2_with fail
    go_ret
    exact ⟨rfl, B.out⟩
  by_cases h2 : 60 < ys.length
  · go_wp2_with fail
    go_ret
    exact ⟨rfl, B.out⟩
  have C1 := Lib.hid (fun V (h : Below w.heap.size w V) => turn_of _ stable_any ao ca xs V (by omega) (by omega) (HA.out.pairs.kept h))
  have C2 := Lib.hid (fun V (h : Below w.heap.size w V) => rturn_any ao ca xs V (by omega) (HA.out.pairs.kept h))
  have C3 := Lib.hid (fun V (h : Below w.heap.size w V) => through_any ao bo ca cb xs ys V (by omega) (by omega) HA.out.ok HB.out.ok (HA.out.pairs.kept h) (HB.out.pairs.kept h))
  have C4 := Lib.hid (fun V (h : Below w.heap.size w V) => rthrough_any ao bo ca cb xs ys V (by omega) (by omega) (HA.out.pairs.kept h) (HB.out.pairs.kept h))
  have hl1 : (turnL xs).length ≤ 1000 := by rw [turnL_len]; omega
  have hl2 : (throughL xs ys).length ≤ 1000 := by have := through_len xs ys; omega
  have CI := Lib.hid (fun a b c d (l : PL) V (hl : l.length ≤ 1000) h k => (by have := psameR_any a b c d l l V (by omega) h k; rwa [show sameL l l = true from by simp [sameL]] at this : Calls Try.prog 11 #[.slice a l.length c, .slice b l.length d] V fun e w' => e = .returned (.bool true) ∧ Below V.heap.size V w'))
  generalize turnL xs = O1 at C1 C2 hl1
  generalize throughL xs ys = O2 at C3 C4 hl2
  go_wp2_with fail
  refine (C1.out _ B.out).mono ?_; rintro e W1 ⟨o1, c1, rfl, i1, -, -, b1⟩
  have B := Lib.hid (below_up B.out b1)
  have I1 := Lib.hid i1
  clear b1 i1
  go_wp2_with fail
  refine (C2.out _ B.out).mono ?_; rintro e W2 ⟨o2, c2, rfl, i2, -, -, b1⟩
  have B := Lib.hid (below_up B.out b1)
  have I1 := Lib.hid (I1.out.kept b1)
  have I2 := Lib.hid i2
  clear b1 i2
  go_wp2_with fail
  refine (CI.out _ _ _ _ O1 _ hl1 I1.out I2.out).mono ?_; rintro e W3 ⟨rfl, b1⟩
  have B := Lib.hid (below_up B.out b1)
  clear b1 I1 I2
  go_wp2_with fail
  refine (C3.out _ B.out).mono ?_; rintro e W4 ⟨o1, c1, rfl, i1, -, -, b1⟩
  have B := Lib.hid (below_up B.out b1)
  have I1 := Lib.hid i1
  clear b1 i1
  go_wp2_with fail
  refine (C4.out _ B.out).mono ?_; rintro e W5 ⟨o2, c2, rfl, i2, -, -, b1⟩
  have B := Lib.hid (below_up B.out b1)
  have I1 := Lib.hid (I1.out.kept b1)
  have I2 := Lib.hid i2
  clear b1 i2
  go_wp2_with fail
  refine (CI.out _ _ _ _ O2 _ hl2 I1.out I2.out).mono ?_; rintro e W6 ⟨rfl, b1⟩
  have B := Lib.hid (below_up B.out b1)
  clear b1 I1 I2
  go_wp2_with fail
  go_ret
  exact ⟨rfl, B.out⟩
end Go.Proofs.Ytpejdnmfagjfhaa
