/-
  The walk of the statement PairsStill.
  Conditions: none beyond the form of claims.
-/
import Derived.WalkKit
import Derived.WalkMore
import Derived.Lib.Hide
import Derived.Test.YtpejdnmfagjfhaaProg
import Derived.Test.YtpejdnmfagjfhaaPOpen
import Derived.Test.YtpejdnmfagjfhaaPWorks
import Derived.Test.YtpejdnmfagjfhaaPStillR
namespace Go.Proofs.Ytpejdnmfagjfhaa
open Go.RowKit Go.Shelf
set_option linter.unusedVariables false

theorem still_le (xs : PL) : (stillL xs).length ≤ xs.length := by
  have := pick_le (longs (xs.map Prod.fst)) 0 (most (longs (xs.map Prod.fst)))
  rw [longs_len] at this; simpa [stillL] using this

set_option maxRecDepth 100000 in
set_option maxHeartbeats 2000000 in
theorem walkPairsStill (ao : Option Addr) (ca : Nat) (xs : PL) (w : World) (hA : PairsArg w ao ca xs) :
    Calls Try.prog 5 #[.slice ao xs.length ca] w fun e w' => e = .returned (.bool true) ∧ Below w.heap.size w w' := by
  have HA := Lib.hid hA
  have C0 := Lib.hid (works_any w)
  clear hA
  go_enter Try.func5, Try.ntmps5
  go_wp2_with fail
  refine C0.out.mono ?_; rintro e W ⟨rfl, b0⟩
  have B := Lib.hid b0
  clear b0
  by_cases h1 : 60 < xs.length
  · go_wp2_with fail
    go_ret
    exact ⟨rfl, B.out⟩
  have C1 := Lib.hid (fun V (h : Below w.heap.size w V) => still_any ao ca xs V (by omega) (HA.out.pairs.kept h))
  have C2 := Lib.hid (fun V (h : Below w.heap.size w V) => rstill_any ao ca xs V (by omega) (HA.out.pairs.kept h))
  have hl1 : (stillL xs).length ≤ 1000 := by have := still_le xs; omega
  have CI := Lib.hid (fun a b c d (l : List Int) V (hl : l.length ≤ 1000) h k => (by have := ints_any a b c d l l V (by omega) h k; rwa [show sameL l l = true from by simp [sameL]] at this : Calls Try.prog 19 #[.slice a l.length c, .slice b l.length d] V fun e w' => e = .returned (.bool true) ∧ Below V.heap.size V w'))
  generalize stillL xs = O1 at C1 C2 hl1
  go_wp2_with fail
  refine (C1.out _ B.out).mono ?_; rintro e W1 ⟨o1, c1, rfl, i1, -, -, b1⟩
  have B := Lib.hid (below_up B.out b1)
  have I1 := Lib.hid i1
  clear b1 i1
  go_wp2_with fail
  refine (C2.out _ B.out).mono ?_; rintro e W2 ⟨o2, c2, rfl, i2, -, -, b1⟩
  have B := Lib.hid (below_up B.out b1)
  have I1 := Lib.hid (I1.out.kept b1)
  have I2 := Lib.hid i2
  clear b1 i2
  go_wp2_with fail
  refine (CI.out _ _ _ _ O1 _ hl1 I1.out I2.out).mono ?_; rintro e W3 ⟨rfl, b1⟩
  have B := Lib.hid (below_up B.out b1)
  clear b1 I1 I2
  go_wp2_with fail
  go_ret
  exact ⟨rfl, B.out⟩
end Go.Proofs.Ytpejdnmfagjfhaa
