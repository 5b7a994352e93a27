/-
  The walk of the statement WeaveOrders.
  Conditions: none beyond the form of claims.
-/
import Derived.WalkKit
import Derived.WalkMore
import Derived.IntWalk
import Derived.Lib.Hide
import Derived.Test.YtolcdhdmonaeaaaProg
import Derived.Test.YtolcdhdmonaeaaaPOpen
import Derived.Test.YtolcdhdmonaeaaaWvRef3
import Derived.Test.YtolcdhdmonaeaaaWWeaveAll
namespace Go.Proofs.Ytolcdhdmonaeaaa
open Go.RowKit Go.Shelf
set_option linter.unusedVariables false

theorem orderP_len (xs : PL) (na nb : Int) (hn : na ≤ 60) (hb : nb ≤ 60) : (orderP xs na nb).length ≤ 1000 := by
  unfold orderP
  split
  · rename_i h
    have := weave_count (may_of xs na nb h); omega
  · simp

set_option maxRecDepth 100000 in
set_option maxHeartbeats 2000000 in
theorem walkWeaveOrders (ao : Option Addr) (ca : Nat) (xs : PL) (na nb : Int) (w : World)
    (hA : PairsArg w ao ca xs) (ha : (Lit.int .i64 na).wf = true) (hb : (Lit.int .i64 nb).wf = true) :
    Calls Try.prog 3 #[.slice ao xs.length ca, .int .i64 na, .int .i64 nb] w fun e w' => e = .returned (.bool true) ∧ Below w.heap.size w w' := by
  have HA := Lib.hid hA
  have C0 := Lib.hid (wworks_any w)
  have HWa := Lib.hid (wf_lo ha)
  have HWb := Lib.hid (wf_lo hb)
  clear hA ha hb
  go_enter Try.func3, Try.ntmps3
  go_wp2_with fail
  refine C0.out.mono ?_; rintro e W ⟨rfl, b0⟩
  have B := Lib.hid b0
  clear b0 C0
  by_cases h1 : 60 < xs.length
  · go_wp2_with fail
    go_ret
    exact ⟨rfl, B.out⟩
  by_cases h2 : 60 < na
  · go_wp2_with fail
    go_ret
    exact ⟨rfl, B.out⟩
  by_cases h3 : 60 < nb
  · go_wp2_with fail
    go_ret
    exact ⟨rfl, B.out⟩
  have C1 := Lib.hid (fun V (h : Below w.heap.size w V) => order_any ao ca xs na nb V (by omega) HA.out.ok (HA.out.pairs.kept h) ⟨HWa.out.1, by omega⟩ ⟨HWb.out.1, by omega⟩)
  have C2 := Lib.hid (fun V (h : Below w.heap.size w V) => rorder_any ao ca xs na nb V (by omega) (HA.out.pairs.kept h) ⟨HWa.out.1, by omega⟩ ⟨HWb.out.1, by omega⟩)
  have hl := orderP_len xs na nb (by omega) (by omega)
  have CP := Lib.hid (fun a b c d (l : PL) V (hl : l.length ≤ 1000) (h : PairsAt V a l) (k : PairsAt V b l) => (by have := psameR_any a b c d l l V (by omega) h k; rwa [same_self] at this : Calls Try.prog 10 #[.slice a l.length c, .slice b l.length d] V fun e w' => e = .returned (.bool true) ∧ Below V.heap.size V w'))
  generalize orderP xs na nb = L at C1 C2 hl
  generalize checkP xs na nb = c at C1 C2
  go_wp2_with fail
  refine (C1.out _ B.out).mono ?_; rintro e W1 ⟨o1, c1, rfl, i1, -, -, b1⟩
  have B := Lib.hid (below_up B.out b1)
  have I1 := Lib.hid i1
  clear b1 i1
  go_wp2_with fail
  refine (C2.out _ B.out).mono ?_; rintro e W2 ⟨o2, c2, rfl, i2, -, -, b1⟩
  have B := Lib.hid (below_up B.out b1)
  have I1 := Lib.hid (I1.out.kept b1)
  have I2 := Lib.hid i2
  clear b1 i2
  go_wp2_with fail
  refine (CP.out o1 o2 c1 c2 L W2 hl I1.out I2.out).mono ?_; rintro e W3 ⟨rfl, b1⟩
  have B := Lib.hid (below_up B.out b1)
  clear b1
  go_wp2_with fail
  go_ret
  exact ⟨by simp, B.out⟩
end Go.Proofs.Ytolcdhdmonaeaaa
