/-
  The walk of the statement PairsThrough.
  Conditions: none beyond the form of claims.
-/
import Derived.WalkKit
import Derived.WalkMore
import Derived.IntWalk
import Derived.Lib.Hide
import Derived.Test.YtpejdnmfagjfhaaProg
import Derived.Test.YtpejdnmfagjfhaaPOpen
import Derived.Test.YtpejdnmfagjfhaaPWorks
import Derived.Test.YtpejdnmfagjfhaaPStable
import Derived.Test.YtpejdnmfagjfhaaPMathD
namespace Go.Proofs.Ytpejdnmfagjfhaa
open Go.RowKit Go.Shelf
set_option linter.unusedVariables false

theorem ok_turned {l : PL} (h : okP l) : okP (turnL l) := fun p hp => by
  obtain ⟨q, hq, rfl⟩ := List.mem_map.1 ((turn_perm l).mem_iff.1 hp)
  exact ⟨(h q hq).2, (h q hq).1⟩
theorem ok_through {x y : PL} (hx : okP x) (hy : okP y) : okP (throughL x y) := fun p hp => by
  unfold throughL at hp
  obtain ⟨⟨b, c⟩, hq, e⟩ := List.mem_filterMap.1 hp
  obtain ⟨a, ha, rfl⟩ := Option.map_eq_some_iff.1 e
  exact ⟨(hx _ (firstB_mem ha)).1, (hy _ hq).2⟩

set_option maxRecDepth 100000 in
set_option maxHeartbeats 2000000 in
theorem walkPairsThrough (ao : Option Addr) (ca : Nat) (xs : PL) (bo : Option Addr) (cb : Nat) (ys : PL) (na nb nc : Int) (w : World) (hA : PairsArg w ao ca xs) (hB : PairsArg w bo cb ys) (ha : (Lit.int .i64 na).wf = true) (hb : (Lit.int .i64 nb).wf = true) (hc : (Lit.int .i64 nc).wf = true) :
    Calls Try.prog 9 #[.slice ao xs.length ca, .slice bo ys.length cb, .int .i64 na, .int .i64 nb, .int .i64 nc] w fun e w' => e = .returned (.bool true) ∧ Below w.heap.size w w' := by
  have HA := Lib.hid hA
  have HB := Lib.hid hB
  have C0 := Lib.hid (works_any w)
  clear hA hB ha hb hc
  go_enter Try.func9, Try.ntmps9
  go_wp2_with fail
  refine C0.out.mono ?_; rintro e W ⟨rfl, b0⟩
  have B := Lib.hid b0
  clear b0
  by_cases h1 : 60 < xs.length
  · go_wp2_with fail
    go_ret
    exact ⟨rfl, B.out⟩
  by_cases h2 : 60 < ys.length
  · go_wp2_with fail
    go_ret
    exact ⟨rfl, B.out⟩
  have C1 := Lib.hid (fun V (h : Below w.heap.size w V) => pcheck_any ao ca xs na nb V (by omega) HA.out.ok (HA.out.pairs.kept h))
  have C2 := Lib.hid (fun V (h : Below w.heap.size w V) => pcheck_any bo cb ys nb nc V (by omega) HB.out.ok (HB.out.pairs.kept h))
  by_cases hM : checkP xs na nb = 0
  · by_cases hN : checkP ys nb nc = 0
    · have M := (may_be xs na nb).1 hM
      have N := (may_be ys nb nc).1 hN
      rw [hM] at C1
      rw [hN] at C2
      have hZ := (may_be (throughL xs ys) na nc).2 (M.through N)
      have hZt := through_turn M N
      obtain ⟨f1, f2⟩ := through_few M N
      have l1 := turnL_len xs
      have l2 := turnL_len ys
      have l3 := turnL_len (throughL xs ys)
      have C3 := Lib.hid (fun V (h : Below w.heap.size w V) => through_any ao bo ca cb xs ys V (by omega) (by omega) HA.out.ok HB.out.ok (HA.out.pairs.kept h) (HB.out.pairs.kept h))
      have C4 := Lib.hid (fun o c V (h : PairsAt V o (throughL xs ys)) => turn_of _ stable_any o c (throughL xs ys) V (by omega) (by omega) h)
      have C5 := Lib.hid (fun V (h : Below w.heap.size w V) => turn_of _ stable_any bo cb ys V (by omega) (by omega) (HB.out.pairs.kept h))
      have C6 := Lib.hid (fun V (h : Below w.heap.size w V) => turn_of _ stable_any ao ca xs V (by omega) (by omega) (HA.out.pairs.kept h))
      have C7 := Lib.hid (fun o c o' c' V (h : PairsAt V o (turnL ys)) (k : PairsAt V o' (turnL xs)) => through_any o o' c c' (turnL ys) (turnL xs) V (by omega) (by omega) (ok_turned HB.out.ok) (ok_turned HA.out.ok) h k)
      have C8 := Lib.hid (fun o c V (h : PairsAt V o (throughL xs ys)) => pcheck_any o c (throughL xs ys) na nc V (by omega) (ok_through HA.out.ok HB.out.ok) h)
      rw [hZ] at C8
      rw [← hZt, l1, l2] at C7
      have CP := Lib.hid (fun a b c d (l : PL) V (hl : l.length ≤ 1000) h k => (by have := psameR_any a b c d l l V (by omega) h k; rwa [show sameL l l = true from by simp [sameL]] at this : Calls Try.prog 11 #[.slice a l.length c, .slice b l.length d] V fun e w' => e = .returned (.bool true) ∧ Below V.heap.size V w'))
      have hlz : (turnL (throughL xs ys)).length ≤ 1000 := by omega
      have L1 := Lib.hid l1
      have L2 := Lib.hid l2
      clear M N hM hN hZ hZt l1 l2 l3
      generalize turnL (throughL xs ys) = TZ at C4 C7 hlz
      generalize throughL xs ys = Z at C3 C4 C8 f1 f2
      generalize turnL xs = TX at C6 C7 L1
      generalize turnL ys = TY at C5 C7 L2
      have m1 : (Z.length : Int) ≤ (xs.length : Int) := by omega
      have m2 : (Z.length : Int) ≤ (ys.length : Int) := by omega
      go_wp2_with fail
      refine (C1.out _ B.out).mono ?_; rintro e W1 ⟨rfl, b1⟩
      have B := Lib.hid (below_up B.out b1)
      clear b1
      go_wp2_with fail
      refine (C2.out _ B.out).mono ?_; rintro e W2 ⟨rfl, b1⟩
      have B := Lib.hid (below_up B.out b1)
      clear b1
      go_wp2_with fail
      refine (C3.out _ B.out).mono ?_; rintro e W3 ⟨zo, zc, rfl, i1, -, -, b1⟩
      have B := Lib.hid (below_up B.out b1)
      have I1 := Lib.hid i1
      clear b1 i1
      go_wp2_with fail
      refine (C4.out zo zc _ I1.out).mono ?_; rintro e W4 ⟨o2, c2, rfl, i2, -, -, b1⟩
      have B := Lib.hid (below_up B.out b1)
      have I1 := Lib.hid (I1.out.kept b1)
      have I2 := Lib.hid i2
      clear b1 i2
      go_wp2_with fail
      refine (C5.out _ B.out).mono ?_; rintro e W5 ⟨o3, c3, rfl, i3, -, -, b1⟩
      have B := Lib.hid (below_up B.out b1)
      have I1 := Lib.hid (I1.out.kept b1)
      have I2 := Lib.hid (I2.out.kept b1)
      have I3 := Lib.hid i3
      rw [L2.out]
      clear b1 i3
      go_wp2_with fail
      refine (C6.out _ B.out).mono ?_; rintro e W6 ⟨o4, c4, rfl, i4, -, -, b1⟩
      have B := Lib.hid (below_up B.out b1)
      have I1 := Lib.hid (I1.out.kept b1)
      have I2 := Lib.hid (I2.out.kept b1)
      have I3 := Lib.hid (I3.out.kept b1)
      have I4 := Lib.hid i4
      rw [L1.out]
      clear b1 i4
      go_wp2_with fail
      refine (C7.out o3 c3 o4 c4 _ I3.out I4.out).mono ?_; rintro e W7 ⟨o5, c5, rfl, i5, -, -, b1⟩
      have B := Lib.hid (below_up B.out b1)
      have I1 := Lib.hid (I1.out.kept b1)
      have I2 := Lib.hid (I2.out.kept b1)
      have I5 := Lib.hid i5
      clear b1 i5 I3 I4
      go_wp2_with fail
      refine (CP.out _ _ _ _ TZ _ hlz I2.out I5.out).mono ?_; rintro e W8 ⟨rfl, b1⟩
      have B := Lib.hid (below_up B.out b1)
      have I1 := Lib.hid (I1.out.kept b1)
      clear b1 I2 I5
      go_wp2_with fail
      refine (C8.out zo zc _ I1.out).mono ?_; rintro e W9 ⟨rfl, b1⟩
      have B := Lib.hid (below_up B.out b1)
      clear b1 I1
      by_cases hxy : ys.length < xs.length
      · have d1 : (ys.length : Int) < (xs.length : Int) := by omega
        go_wp2_with fail
        go_ret
        exact ⟨by first | rfl | (simp; omega), B.out⟩
      · have d1 : ¬ (ys.length : Int) < (xs.length : Int) := by omega
        go_wp2_with fail
        go_ret
        exact ⟨by first | rfl | (simp; omega), B.out⟩
    · have hne : ((checkP ys nb nc) != 0) = true := by simpa using hN
      rw [hM] at C1
      generalize checkP ys nb nc = c at C2 hN hne
      go_wp2_with fail
      refine (C1.out _ B.out).mono ?_; rintro e W1 ⟨rfl, b1⟩
      have B := Lib.hid (below_up B.out b1)
      clear b1
      go_wp2_with fail
      refine (C2.out _ B.out).mono ?_; rintro e W2 ⟨rfl, b1⟩
      have B := Lib.hid (below_up B.out b1)
      clear b1
      go_wp2_with fail
      go_ret
      exact ⟨rfl, B.out⟩
  · have hne : ((checkP xs na nb) != 0) = true := by simpa using hM
    generalize checkP xs na nb = c at C1 hM hne
    go_wp2_with fail
    refine (C1.out _ B.out).mono ?_; rintro e W1 ⟨rfl, b1⟩
    have B := Lib.hid (below_up B.out b1)
    clear b1
    go_wp2_with fail
    go_ret
    exact ⟨rfl, B.out⟩
end Go.Proofs.Ytpejdnmfagjfhaa
