/-
  The walk of the statement PairsBack.
  Conditions: none beyond the form of claims.
-/
import Derived.WalkKit
import Derived.WalkMore
import Derived.IntWalk
import Derived.Lib.Hide
import Derived.Test.YtpejdnmfagjfhaaProg
import Derived.Test.YtpejdnmfagjfhaaPOpen
import Derived.Test.YtpejdnmfagjfhaaPWorks
import Derived.Test.YtpejdnmfagjfhaaPStable
import Derived.Test.YtpejdnmfagjfhaaPMathB
namespace Go.Proofs.Ytpejdnmfagjfhaa
open Go.RowKit Go.Shelf
set_option linter.unusedVariables false

theorem wf_low {n : Int} (h : (Lit.int .i64 n).wf = true) : -9223372036854775808 ≤ n ∧ n ≤ 9223372036854775807 := by
  simp only [Lit.wf, Bool.and_eq_true, decide_eq_true_eq] at h
  exact h
theorem ok_turn {l : PL} (h : okP l) : okP (turnL l) := fun p hp => by
  obtain ⟨q, hq, rfl⟩ := List.mem_map.1 ((turn_perm l).mem_iff.1 hp)
  exact ⟨(h q hq).2, (h q hq).1⟩

set_option maxRecDepth 100000 in
set_option maxHeartbeats 2000000 in
theorem walkPairsBack (ao : Option Addr) (ca : Nat) (xs : PL) (na nb : Int) (w : World) (hA : PairsArg w ao ca xs) (ha : (Lit.int .i64 na).wf = true) (hb : (Lit.int .i64 nb).wf = true) :
    Calls Try.prog 7 #[.slice ao xs.length ca, .int .i64 na, .int .i64 nb] w fun e w' => e = .returned (.bool true) ∧ Below w.heap.size w w' := by
  have HA := Lib.hid hA
  have C0 := Lib.hid (works_any w)
  have HWa := Lib.hid (wf_low ha)
  have HWb := Lib.hid (wf_low hb)
  clear hA ha hb
  go_enter Try.func7, Try.ntmps7
  go_wp2_with fail
  refine C0.out.mono ?_; rintro e W ⟨rfl, b0⟩
  have B := Lib.hid b0
  clear b0
  by_cases h1 : 60 < xs.length
  · go_wp2_with fail
    go_ret
    exact ⟨rfl, B.out⟩
  by_cases h2 : 1000 < na
  · go_wp2_with fail
    go_ret
    exact ⟨rfl, B.out⟩
  by_cases h3 : 1000 < nb
  · go_wp2_with fail
    go_ret
    exact ⟨rfl, B.out⟩
  have C1 := Lib.hid (fun V (h : Below w.heap.size w V) => pcheck_any ao ca xs na nb V (by omega) HA.out.ok (HA.out.pairs.kept h))
  by_cases hM : checkP xs na nb = 0
  · have M := (may_be xs na nb).1 hM
    rw [hM] at C1
    have hM2 := (may_be (turnL xs) nb na).2 M.turn
    have hT2 := turn_twice M
    have hTl := turnL_len xs
    have hna := M.a0
    have hnb := M.b0
    have r1 := out_count (xs.map Prod.fst) na.toNat M.fst (fun x hx => by obtain ⟨p, hp, rfl⟩ := List.mem_map.1 hx; have := M.within p hp; omega)
    have r2 := out_count (xs.map Prod.snd) nb.toNat M.snd (fun x hx => by obtain ⟨p, hp, rfl⟩ := List.mem_map.1 hx; have := M.within p hp; omega)
    simp only [List.length_map] at r1 r2
    have hl1 : (outOf (xs.map Prod.fst) na.toNat).length ≤ 1000 := by omega
    have q1 : ((outOf (xs.map Prod.fst) na.toNat).length : Int) = na - (xs.length : Int) := by omega
    have q2 : ((outOf (xs.map Prod.snd) nb.toNat).length : Int) = nb - (xs.length : Int) := by omega
    have C2 := Lib.hid (fun V (h : Below w.heap.size w V) => turn_of _ stable_any ao ca xs V (by omega) (by omega) (HA.out.pairs.kept h))
    have C3 := Lib.hid (fun o c V (h : PairsAt V o (turnL xs)) => turn_of _ stable_any o c (turnL xs) V (by omega) (by omega) h)
    have C4 := Lib.hid (fun V (h : Below w.heap.size w V) => restA_any ao ca xs na V (by omega) HA.out.ok (HA.out.pairs.kept h) HWa.out.1 (by omega))
    have C5 := Lib.hid (fun o c V (h : PairsAt V o (turnL xs)) => restB_any o c (turnL xs) na V (by omega) (ok_turn HA.out.ok) h HWa.out.1 (by omega))
    have C6 := Lib.hid (fun o c V (h : PairsAt V o (turnL xs)) => pcheck_any o c (turnL xs) nb na V (by omega) (ok_turn HA.out.ok) h)
    have C7 := Lib.hid (fun V (h : Below w.heap.size w V) => restB_any ao ca xs nb V (by omega) HA.out.ok (HA.out.pairs.kept h) HWb.out.1 (by omega))
    rw [hT2] at C3
    rw [hM2] at C6
    rw [← rest_turn xs na.toNat] at C5
    rw [hTl] at C3 C5 C6
    have CI := Lib.hid (fun a b c d (l : List Int) V (hl : l.length ≤ 1000) h k => (by have := ints_any a b c d l l V (by omega) h k; rwa [show sameL l l = true from by simp [sameL]] at this : Calls Try.prog 19 #[.slice a l.length c, .slice b l.length d] V fun e w' => e = .returned (.bool true) ∧ Below V.heap.size V w'))
    have CP := Lib.hid (fun a b c d V h k => (by have := psameR_any a b c d xs xs V (by omega) h k; rwa [show sameL xs xs = true from by simp [sameL]] at this : Calls Try.prog 11 #[.slice a xs.length c, .slice b xs.length d] V fun e w' => e = .returned (.bool true) ∧ Below V.heap.size V w'))
    have HTl := Lib.hid hTl
    have wa : IntKind.i64.wrap (na - (xs.length : Int)) = na - (xs.length : Int) := IntWalk.i64_in _ (by omega)
    have wb : IntKind.i64.wrap (nb - (xs.length : Int)) = nb - (xs.length : Int) := IntWalk.i64_in _ (by omega)
    clear M hM hM2 hT2 hTl r1 r2
    generalize turnL xs = T at C2 C3 C5 C6 HTl
    generalize outOf (xs.map Prod.fst) na.toNat = O1 at C4 C5 hl1 q1
    generalize outOf (xs.map Prod.snd) nb.toNat = O2 at C7 q2
    have e1 : ((O1.length : Int) == na - (xs.length : Int)) = true := by rw [q1]; simp
    have e2 : ((O2.length : Int) == nb - (xs.length : Int)) = true := by rw [q2]; simp
    have Q1 := Lib.hid q1
    have Q2 := Lib.hid q2
    clear q1 q2
    go_wp2_with fail
    refine (C1.out _ B.out).mono ?_; rintro e W1 ⟨rfl, b1⟩
    have B := Lib.hid (below_up B.out b1)
    clear b1
    go_wp2_with fail
    refine (C2.out _ B.out).mono ?_; rintro e W2 ⟨tz, tc, rfl, i1, -, -, b1⟩
    have B := Lib.hid (below_up B.out b1)
    have I1 := Lib.hid i1
    rw [HTl.out]
    clear b1 i1
    go_wp2_with fail
    refine (C3.out tz tc _ I1.out).mono ?_; rintro e W3 ⟨o2, c2, rfl, i2, -, -, b1⟩
    have B := Lib.hid (below_up B.out b1)
    have I1 := Lib.hid (I1.out.kept b1)
    have I2 := Lib.hid i2
    clear b1 i2
    go_wp2_with fail
    refine (CP.out _ _ _ _ _ I2.out (HA.out.pairs.kept B.out)).mono ?_; rintro e W4 ⟨rfl, b1⟩
    have B := Lib.hid (below_up B.out b1)
    have I1 := Lib.hid (I1.out.kept b1)
    clear b1 I2
    go_wp2_with fail
    refine (C4.out _ B.out).mono ?_; rintro e W5 ⟨o3, c3, rfl, i3, -, -, b1⟩
    have B := Lib.hid (below_up B.out b1)
    have I1 := Lib.hid (I1.out.kept b1)
    have I3 := Lib.hid i3
    clear b1 i3
    go_wp2_with fail
    refine (C5.out tz tc _ I1.out).mono ?_; rintro e W6 ⟨o4, c4, rfl, i4, -, -, b1⟩
    have B := Lib.hid (below_up B.out b1)
    have I1 := Lib.hid (I1.out.kept b1)
    have I3 := Lib.hid (I3.out.kept b1)
    have I4 := Lib.hid i4
    clear b1 i4
    go_wp2_with fail
    refine (CI.out _ _ _ _ O1 _ hl1 I3.out I4.out).mono ?_; rintro e W7 ⟨rfl, b1⟩
    have B := Lib.hid (below_up B.out b1)
    have I1 := Lib.hid (I1.out.kept b1)
    clear b1 I3 I4
    go_wp2_with fail
    refine (C6.out tz tc _ I1.out).mono ?_; rintro e W8 ⟨rfl, b1⟩
    have B := Lib.hid (below_up B.out b1)
    clear b1 I1
    go_wp2_with fail
    refine (C4.out _ B.out).mono ?_; rintro e W9 ⟨o3, c3, rfl, -, -, -, b1⟩
    have B := Lib.hid (below_up B.out b1)
    clear b1
    go_wp2_with fail
    refine (C7.out _ B.out).mono ?_; rintro e WA ⟨o4, c4, rfl, -, -, -, b1⟩
    have B := Lib.hid (below_up B.out b1)
    clear b1
    go_wp2_with fail
    go_ret
    exact ⟨by first | rfl | simp [e1, e2], B.out⟩
  · have hne : ((checkP xs na nb) != 0) = true := by simpa using hM
    generalize checkP xs na nb = c at C1 hM hne
    go_wp2_with fail
    refine (C1.out _ B.out).mono ?_; rintro e W1 ⟨rfl, b1⟩
    have B := Lib.hid (below_up B.out b1)
    clear b1
    go_wp2_with fail
    go_ret
    exact ⟨rfl, B.out⟩
end Go.Proofs.Ytpejdnmfagjfhaa
