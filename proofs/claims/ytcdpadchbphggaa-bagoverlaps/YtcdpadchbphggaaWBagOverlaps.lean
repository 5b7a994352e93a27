/-
  The walk of the statement BagOverlaps.
  Conditions: none beyond the form of claims.
-/
import Derived.WalkKit
import Derived.WalkMore
import Derived.Lib.Hide
import Derived.Test.YtcdpadchbphggaaProg
import Derived.Test.YtcdpadchbphggaaPOpen
import Derived.Test.YtcdpadchbphggaaTOpen
import Derived.Test.YtcdpadchbphggaaBWorks
import Derived.Test.YtcdpadchbphggaaBRef
namespace Go.Proofs.Ytcdpadchbphggaa
open Go.RowKit Go.Shelf
set_option linter.unusedVariables false

set_option maxRecDepth 100000 in
set_option maxHeartbeats 8000000 in
theorem walkBagOverlaps (ao : Option Addr) (ca : Nat) (xs : List ByteArray) (bo : Option Addr) (cb : Nat) (ys : List ByteArray) (s : ByteArray) (w : World) (hA : StrArg w ao ca xs) (hB : StrArg w bo cb ys) (hs : s.size ≤ 140737488351232) :
    Calls Try.prog 3 #[.slice ao xs.length ca, .slice bo ys.length cb, .string s] w fun e w' => e = .returned (.bool true) ∧ Below w.heap.size w w' := by
  have HA := Lib.hid hA
  have HB := Lib.hid hB
  have HS : Hid (s.size ≤ maxLen) := Lib.hid (by unfold maxLen; omega)
  have C0 := Lib.hid (bworks_any w)
  clear hA hB hs
  by_cases h1 : xs.length ≤ 60
  · by_cases h2 : ys.length ≤ 60
    · have C1 := Lib.hid (fun V (h : Below w.heap.size w V) => over_any ao bo ca cb xs ys V (by omega) (by omega) HA.out.mx HB.out.mx (HA.out.row.kept h) (HB.out.row.kept h))
      have C2 := Lib.hid (fun V (h : Below w.heap.size w V) => rover_any ao bo ca cb xs ys V (by omega) (by omega) HA.out.cap (HA.out.row.kept h) (HB.out.row.kept h))
      have C3 := Lib.hid (fun V (h : Below w.heap.size w V) => bsame_any ao bo ca cb xs ys V (by omega) (by omega) HA.out.mx HB.out.mx (HA.out.row.kept h) (HB.out.row.kept h))
      have C4 := Lib.hid (fun V (h : Below w.heap.size w V) => rsame_any ao bo ca cb xs ys V (by omega) (by omega) HA.out.cap (HA.out.row.kept h) (HB.out.row.kept h))
      have C5 := Lib.hid (fun V (h : Below w.heap.size w V) => bcount_any ao ca xs s V (by omega) HA.out.mx HS.out (HA.out.row.kept h))
      have C6 := Lib.hid (fun V (h : Below w.heap.size w V) => rcnt_any ao ca xs s V (by omega) (HA.out.row.kept h))
      generalize overL (bytesOf xs) (bytesOf ys) = N at C1 C2
      generalize sameB (bytesOf xs) (bytesOf ys) = F at C3 C4
      generalize cntN s.data.toList (bytesOf xs) = K at C5 C6
      go_enter Try.func3, Try.ntmps3
      go_wp2_with fail
      refine C0.out.mono ?_; rintro e W ⟨rfl, b0⟩
      have B := Lib.hid b0
      clear b0 C0
      go_wp2_with fail
      refine (C1.out W B.out).mono ?_; rintro e W1 ⟨rfl, b⟩
      have B := Lib.hid (below_up B.out b)
      clear b C1
      go_wp2_with fail
      refine (C2.out W1 B.out).mono ?_; rintro e W2 ⟨rfl, b⟩
      have B := Lib.hid (below_up B.out b)
      clear b C2
      go_wp2_with fail
      refine (C3.out W2 B.out).mono ?_; rintro e W3 ⟨rfl, b⟩
      have B := Lib.hid (below_up B.out b)
      clear b C3
      go_wp2_with fail
      refine (C4.out W3 B.out).mono ?_; rintro e W4 ⟨rfl, b⟩
      have B := Lib.hid (below_up B.out b)
      clear b C4
      go_wp2_with fail
      refine (C5.out W4 B.out).mono ?_; rintro e W5 ⟨rfl, b⟩
      have B := Lib.hid (below_up B.out b)
      clear b C5
      go_wp2_with fail
      refine (C6.out W5 B.out).mono ?_; rintro e W6 ⟨rfl, rfl⟩
      clear C6
      go_wp2_with fail
      go_ret
      exact ⟨rfl, B.out⟩
    · go_enter Try.func3, Try.ntmps3
      go_wp2_with fail
      refine C0.out.mono ?_; rintro e W ⟨rfl, b0⟩
      have B := Lib.hid b0
      clear b0 C0
      go_wp2_with fail
      go_ret
      exact ⟨rfl, B.out⟩
  · go_enter Try.func3, Try.ntmps3
    go_wp2_with fail
    refine C0.out.mono ?_; rintro e W ⟨rfl, b0⟩
    have B := Lib.hid b0
    clear b0 C0
    go_wp2_with fail
    go_ret
    exact ⟨rfl, B.out⟩
end Go.Proofs.Ytcdpadchbphggaa
