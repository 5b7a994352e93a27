/-
  The walk of the statement LcsPairs.
  Conditions: none beyond the form of claims.
-/
import Derived.WalkKit
import Derived.WalkMore
import Derived.IntWalk
import Derived.Lib.Hide
import Derived.Test.YtcdamnnbpifhpaaProg
import Derived.Test.YtcdamnnbpifhpaaLcWorks
import Derived.Test.YtcdamnnbpifhpaaLcRef3
import Derived.Test.YtcdamnnbpifhpaaWLcsCommon
namespace Go.Proofs.Ytcdamnnbpifhpaa
open Go.RowKit Go.Shelf
set_option linter.unusedVariables false

set_option maxRecDepth 100000 in
set_option maxHeartbeats 2000000 in
theorem walkLcsPairs (ao : Option Addr) (ca : Nat) (xs : List ByteArray) (bo : Option Addr) (cb : Nat) (ys : List ByteArray) (w : World) (hA : StrArg w ao ca xs) (hB : StrArg w bo cb ys) :
    Calls Try.prog 3 #[.slice ao xs.length ca, .slice bo ys.length cb] w fun e w' => e = .returned (.bool true) ∧ Below w.heap.size w w' := by
  have HA := Lib.hid hA
  have HB := Lib.hid hB
  have C0 := Lib.hid (lworks_any w)
  have CS := Lib.hid (fun V => small_any ao bo xs.length ys.length ca cb V)
  clear hA hB
  go_enter Try.func3, Try.ntmps3
  go_wp2_with fail
  refine C0.out.mono ?_; rintro e W ⟨rfl, b0⟩
  have B := Lib.hid b0
  clear b0 C0
  by_cases hsm : (decide (xs.length ≤ 60) && decide (ys.length ≤ 60)) = true
  · rw [hsm] at CS
    simp only [Bool.and_eq_true, decide_eq_true_eq] at hsm
    obtain ⟨h1, h2⟩ := hsm
    have C1 := Lib.hid (fun V (h : Below w.heap.size w V) => lcPairs_any ao bo ca cb xs ys V (by omega) (by omega) HA.out.max HB.out.max (HA.out.row.kept h) (HB.out.row.kept h))
    have C2 := Lib.hid (fun V (h : Below w.heap.size w V) => rlpairs_any ao bo ca cb xs ys V (by omega) (by omega) (HA.out.row.kept h) (HB.out.row.kept h))
    have C3 := Lib.hid (fun V (h : Below w.heap.size w V) => length_any ao bo ca cb xs ys V (by omega) (by omega) HA.out.max HB.out.max (HA.out.row.kept h) (HB.out.row.kept h))
    have C4 := Lib.hid (fun V (h : Below w.heap.size w V) => rllength_any ao bo ca cb xs ys V (by omega) (by omega) (HA.out.row.kept h) (HB.out.row.kept h))
    have hLn := way_len 0 0 (bytesOf xs) (bytesOf ys)
    have hle := (lcs_le (bytesOf xs) (bytesOf ys)).1
    rw [bytes_len] at hle
    have HL60 : Hid ((wayL 0 0 (bytesOf xs) (bytesOf ys)).length ≤ 1099511627776) := Lib.hid (by rw [hLn]; omega)
    clear hLn hle
    generalize wayL 0 0 (bytesOf xs) (bytesOf ys) = L at C1 C2 HL60
    generalize lcsN (bytesOf xs) (bytesOf ys) = n at C3 C4
    have C5 := Lib.hid (fun lo mo lc mc V (h : PairsAt V lo L) (k : PairsAt V mo L) => psameR_any lo mo lc mc L L V HL60.out h k)
    rw [show sameL L L = true from by unfold sameL; simp] at C5
    go_wp2_with fail
    refine (CS.out W).mono ?_; rintro e W' ⟨rfl, rfl⟩
    go_wp2_with fail
    refine (C1.out W' B.out).mono ?_; rintro e W1 ⟨lo, lc, rfl, i1, -, -, b1⟩
    have B1 := Lib.hid (below_up B.out b1)
    have I1 := Lib.hid i1
    clear b1 i1 C1 CS B
    go_wp2_with fail
    refine (C2.out W1 B1.out).mono ?_; rintro e W2 ⟨mo, mc, rfl, i2, -, -, b2⟩
    have B2 := Lib.hid (below_up B1.out b2)
    have I2 := Lib.hid i2
    have I1 := Lib.hid (I1.out.kept b2)
    clear b2 i2 C2 B1
    go_wp2_with fail
    refine (C5.out lo mo lc mc W2 I1.out I2.out).mono ?_; rintro e W3 ⟨rfl, b3⟩
    have B3 := Lib.hid (below_up B2.out b3)
    clear b3 C5 B2
    go_wp2_with fail
    refine (C3.out W3 B3.out).mono ?_; rintro e W4 ⟨rfl, b4⟩
    have B4 := Lib.hid (below_up B3.out b4)
    clear b4 C3 B3
    go_wp2_with fail
    refine (C4.out W4 B4.out).mono ?_; rintro e W5 ⟨rfl, b5⟩
    have B5 := Lib.hid (below_up B4.out b5)
    clear b5 C4 B4
    go_wp2_with fail
    go_ret
    exact ⟨rfl, B5.out⟩
  · have hsm' : (decide (xs.length ≤ 60) && decide (ys.length ≤ 60)) = false := by simpa using hsm
    rw [hsm'] at CS
    clear hsm hsm'
    go_wp2_with fail
    refine (CS.out W).mono ?_; rintro e W' ⟨rfl, rfl⟩
    go_wp2_with fail
    go_ret
    exact ⟨rfl, B.out⟩
end Go.Proofs.Ytcdamnnbpifhpaa
