/-
  The walk of the statement WeaveAll.
  Conditions: none beyond the form of claims.
-/
import Derived.WalkKit
import Derived.WalkMore
import Derived.IntWalk
import Derived.Lib.Hide
import Derived.Test.YtolcdhdmonaeaaaProg
import Derived.Test.YtolcdhdmonaeaaaPOpen
import Derived.Test.YtolcdhdmonaeaaaWvWorks
namespace Go.Proofs.Ytolcdhdmonaeaaa
open Go.RowKit Go.Shelf
set_option linter.unusedVariables false

theorem wf_lo {n : Int} (h : (Lit.int .i64 n).wf = true) : -9223372036854775808 ≤ n ∧ n ≤ 9223372036854775807 := by
  simp only [Lit.wf, Bool.and_eq_true, decide_eq_true_eq] at h
  exact h
theorem same_self {α : Type} [DecidableEq α] (l : List α) : sameL l l = true := by simp [sameL]

set_option maxRecDepth 100000 in
set_option maxHeartbeats 2000000 in
theorem walkWeaveAll (ao : Option Addr) (ca : Nat) (xs : PL) (na nb : Int) (w : World)
    (hA : PairsArg w ao ca xs) (ha : (Lit.int .i64 na).wf = true) (hb : (Lit.int .i64 nb).wf = true) :
    Calls Try.prog 4 #[.slice ao xs.length ca, .int .i64 na, .int .i64 nb] w fun e w' => e = .returned (.bool true) ∧ Below w.heap.size w w' := by
  have HA := Lib.hid hA
  have C0 := Lib.hid (wworks_any w)
  have HWa := Lib.hid (wf_lo ha)
  have HWb := Lib.hid (wf_lo hb)
  clear hA ha hb
  go_enter Try.func4, Try.ntmps4
  go_wp2_with fail
  refine C0.out.mono ?_; rintro e W ⟨rfl, b0⟩
  have B := Lib.hid b0
  clear b0
  by_cases h1 : 60 < xs.length
  · go_wp2_with fail
    go_ret
    exact ⟨rfl, B.out⟩
  by_cases h2 : 60 < na
  · go_wp2_with fail
    go_ret
    exact ⟨rfl, B.out⟩
  by_cases h3 : 60 < nb
  · go_wp2_with fail
    go_ret
    exact ⟨rfl, B.out⟩
  have C1 := Lib.hid (fun V (h : Below w.heap.size w V) => order_any ao ca xs na nb V (by omega) HA.out.ok (HA.out.pairs.kept h) ⟨HWa.out.1, by omega⟩ ⟨HWb.out.1, by omega⟩)
  by_cases hM : checkP xs na nb = 0
  · have M := may_of xs na nb hM
    have hcnt := weave_count M
    obtain ⟨s1, s2, s3⟩ := split_woven M
    have hoP : orderP xs na nb = weaveL xs na nb := by unfold orderP; rw [if_pos hM]
    rw [hoP, hM] at C1
    have hl1 : (outOf (xs.map Prod.fst) na.toNat).length ≤ 1000 := by have := outOf_le (xs.map Prod.fst) na.toNat; omega
    have hl2 : (outOf (xs.map Prod.snd) nb.toNat).length ≤ 1000 := by have := outOf_le (xs.map Prod.snd) nb.toNat; omega
    have C2 := Lib.hid (fun o c V (h : PairsAt V o (weaveL xs na nb)) => split_any o c (weaveL xs na nb) V (by omega) h)
    have C3 := Lib.hid (fun V (h : Below w.heap.size w V) => restA_any ao ca xs na V (by omega) HA.out.ok (HA.out.pairs.kept h) HWa.out.1 (by omega))
    have C4 := Lib.hid (fun V (h : Below w.heap.size w V) => restB_any ao ca xs nb V (by omega) HA.out.ok (HA.out.pairs.kept h) HWb.out.1 (by omega))
    have CI := Lib.hid (fun a b c d (l : List Int) V (hl : l.length ≤ 1000) h k => (by have := ints_any a b c d l l V (by omega) h k; rwa [same_self] at this : Calls Try.prog 13 #[.slice a l.length c, .slice b l.length d] V fun e w' => e = .returned (.bool true) ∧ Below V.heap.size V w'))
    have CP := Lib.hid (fun o c V (h : Below w.heap.size w V) (k : PairsAt V o xs) => (by have := psameR_any o ao c ca xs xs V (by omega) k (HA.out.pairs.kept h); rwa [same_self] at this : Calls Try.prog 10 #[.slice o xs.length c, .slice ao xs.length ca] V fun e w' => e = .returned (.bool true) ∧ Below V.heap.size V w'))
    unfold SplitOut at C2
    rw [s1, s2, s3] at C2
    have M0 := M.a0
    have N0 := M.b0
    clear M hM hoP s1 s2 s3
    generalize weaveL xs na nb = L at C1 C2 hcnt
    generalize outOf (xs.map Prod.fst) na.toNat = O1 at C2 C3 hl1
    generalize outOf (xs.map Prod.snd) nb.toNat = O2 at C2 C4 hl2
    have w1 : IntKind.i64.wrap (na + nb) = na + nb := IntWalk.i64_in _ (by omega)
    have w2 : IntKind.i64.wrap (na + nb - (xs.length : Int)) = na + nb - (xs.length : Int) := IntWalk.i64_in _ (by omega)
    have hbq : (((L.length : Int) == na + nb - (xs.length : Int)) = true) := by simp [hcnt]
    clear hcnt
    go_wp2_with fail
    refine (C1.out _ B.out).mono ?_; rintro e W1 ⟨o1, c1, rfl, i1, -, -, b1⟩
    have B := Lib.hid (below_up B.out b1)
    have I1 := Lib.hid i1
    clear b1 i1
    go_wp2_with fail
    refine (C2.out o1 c1 W1 I1.out).mono ?_; rintro e W2 ⟨po, pc, qo, qc, ro, rc, rfl, i1, i2, i3, b1⟩
    have B := Lib.hid (below_up B.out b1)
    have J1 := Lib.hid i1
    have J2 := Lib.hid i2
    have J3 := Lib.hid i3
    clear b1 i1 i2 i3
    go_wp2_with fail
    refine (CP.out po pc W2 B.out J1.out).mono ?_; rintro e W3 ⟨rfl, b1⟩
    have B := Lib.hid (below_up B.out b1)
    have J2 := Lib.hid (J2.out.kept b1)
    have J3 := Lib.hid (J3.out.kept b1)
    clear b1 J1
    go_wp2_with fail
    refine (C4.out _ B.out).mono ?_; rintro e W4 ⟨o4, c4, rfl, i4, -, -, b1⟩
    have B := Lib.hid (below_up B.out b1)
    have J2 := Lib.hid (J2.out.kept b1)
    have J3 := Lib.hid (J3.out.kept b1)
    have J4 := Lib.hid i4
    clear b1 i4
    go_wp2_with fail
    refine (CI.out ro o4 rc c4 O2 W4 hl2 J3.out J4.out).mono ?_; rintro e W5 ⟨rfl, b1⟩
    have B := Lib.hid (below_up B.out b1)
    have J2 := Lib.hid (J2.out.kept b1)
    clear b1 J3 J4
    go_wp2_with fail
    refine (C3.out _ B.out).mono ?_; rintro e W6 ⟨o6, c6, rfl, i4, -, -, b1⟩
    have B := Lib.hid (below_up B.out b1)
    have J2 := Lib.hid (J2.out.kept b1)
    have J4 := Lib.hid i4
    clear b1 i4
    go_wp2_with fail
    refine (CI.out qo o6 qc c6 O1 W6 hl1 J2.out J4.out).mono ?_; rintro e W7 ⟨rfl, b1⟩
    have B := Lib.hid (below_up B.out b1)
    clear b1 J2 J4
    go_wp2_with fail
    go_ret
    exact ⟨rfl, B.out⟩
  · have hoP : orderP xs na nb = [] := by unfold orderP; rw [if_neg hM]
    have C2 := Lib.hid (fun V (h : Below w.heap.size w V) => pcheck_any ao ca xs na nb V (by omega) HA.out.ok (HA.out.pairs.kept h))
    rw [hoP] at C1
    have hb1 : ((checkP xs na nb != 0) = true) := by simp [hM]
    generalize checkP xs na nb = c at C1 C2 hb1 hM
    clear hoP
    go_wp2_with fail
    refine (C1.out _ B.out).mono ?_; rintro e W1 ⟨o1, c1, rfl, -, -, -, b1⟩
    have B := Lib.hid (below_up B.out b1)
    clear b1
    go_wp2_with fail
    refine (C2.out _ B.out).mono ?_; rintro e W2 ⟨rfl, b1⟩
    have B := Lib.hid (below_up B.out b1)
    clear b1
    go_wp2_with fail
    go_ret
    exact ⟨by simp, B.out⟩
end Go.Proofs.Ytolcdhdmonaeaaa
