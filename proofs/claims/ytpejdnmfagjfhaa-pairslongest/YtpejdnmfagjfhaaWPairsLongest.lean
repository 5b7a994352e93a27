/-
  The walk of the statement PairsLongest.
  Conditions: none beyond the form of claims.
-/
import Derived.WalkKit
import Derived.WalkMore
import Derived.IntWalk
import Derived.Lib.Hide
import Derived.BigQuiet
import Derived.Deep.QuietTactic
import Derived.Test.YtpejdnmfagjfhaaProg
import Derived.Test.YtpejdnmfagjfhaaPOpen
import Derived.Test.YtpejdnmfagjfhaaPWorks
import Derived.Test.YtpejdnmfagjfhaaPMathL
namespace Go.Proofs.Ytpejdnmfagjfhaa
open Go.RowKit Go.Shelf
set_option linter.unusedVariables false

theorem ints_cell {w : World} {ao : Option Addr} {l : List Int} (h : IntsAt w ao l) (hl : 0 < l.length) : ∃ A, ao = some A ∧ A.block < w.heap.size ∧ ∀ (i : Nat) p, l[i]? = some p → w.cell? (A.add i) = some (.int .i64 p) := by
  rcases h with rfl | h
  · simp at hl
  · exact h
theorem pairs_cell {w : World} {ao : Option Addr} {l : PL} (h : PairsAt w ao l) (hl : 0 < l.length) : ∃ b o, ao = some ⟨b, o, none⟩ ∧ b < w.heap.size ∧ ∀ (i : Nat) p, l[i]? = some p → w.cell? ⟨b, o + i * 2, none⟩ = some (.int .i64 p.1) ∧ w.cell? ⟨b, o + i * 2 + 1, none⟩ = some (.int .i64 p.2) := by
  rcases h with rfl | h
  · simp at hl
  · exact h
theorem map_at (xs : PL) (j : Nat) (x : Int) (h : (xs.map Prod.fst)[j]? = some x) : ∃ y, xs[j]? = some (x, y) := by
  rw [List.getElem?_map] at h
  obtain ⟨⟨a, b⟩, h1, h2⟩ := Option.map_eq_some_iff.1 h
  dsimp at h2; subst h2
  exact ⟨b, h1⟩

set_option maxRecDepth 100000 in
set_option maxHeartbeats 8000000 in
theorem walkPairsLongest (ao : Option Addr) (ca : Nat) (xs : PL) (bo : Option Addr) (cb : Nat) (cs : List Int) (w : World) (hA : PairsArg w ao ca xs) (hB : IntsArg w bo cb cs) :
    Calls Try.prog 8 #[.slice ao xs.length ca, .slice bo cs.length cb] w fun e w' => e = .returned (.bool true) ∧ Below w.heap.size w w' := by
  have HA := Lib.hid hA
  have HB := Lib.hid hB
  have C0 := Lib.hid (works_any w)
  clear hA hB
  go_enter Try.func8, Try.ntmps8
  go_wp2_with fail
  refine C0.out.mono ?_; rintro e W ⟨rfl, b0⟩
  have B := Lib.hid b0
  clear b0
  by_cases h1 : 60 < xs.length
  · go_wp2_with fail
    go_ret
    exact ⟨rfl, B.out⟩
  by_cases h2 : 60 < cs.length
  · go_wp2_with fail
    go_ret
    exact ⟨rfl, B.out⟩
  have C1 := Lib.hid (fun V (h : Below w.heap.size w V) => still_any ao ca xs V (by omega) (HA.out.pairs.kept h))
  obtain ⟨hS1, hS2, hS3⟩ := still_best xs
  have hSl : (stillL xs).length ≤ 60 := by have := most_longs_le (xs.map Prod.fst); simp at this; omega
  have HS2 := Lib.hid hS2
  have HS3 := Lib.hid hS3
  clear hS1 hS2 hS3
  obtain ⟨al, HAl⟩ : ∃ al, Hid (al = xs.map Prod.fst) := ⟨_, Lib.hid rfl⟩
  have hall : Hid (al.length = xs.length) := Lib.hid (by rw [HAl.out]; simp)
  have HMa : Hid (∀ (j : Nat) (x : Int), al[j]? = some x → ∃ y, xs[j]? = some (x, y)) := Lib.hid (fun j x h => map_at xs j x (by rw [← HAl.out]; exact h))
  have HMb : Hid (∀ (j : Nat), j < xs.length → ∃ x y, al[j]? = some x ∧ xs[j]? = some (x, y)) := Lib.hid (fun j h => by
    obtain ⟨⟨x, y⟩, hx⟩ : ∃ x, xs[j]? = some x := ⟨_, List.getElem?_eq_getElem h⟩
    exact ⟨x, y, by rw [HAl.out, List.getElem?_map, hx]; rfl, hx⟩)
  rw [← HAl.out] at HS2 HS3
  generalize stillL xs = S at C1 HS2 HS3 hSl
  go_wp2_with fail
  refine (C1.out _ B.out).mono ?_; rintro e W1 ⟨so, sc, rfl, i1, -, -, b1⟩
  have B := Lib.hid (below_up B.out b1)
  have I1 := Lib.hid i1
  clear b1 i1 C1
  go_wp2_with fail
  go_loopw [7] (fun i wr => ∃ k : Nat, k ≤ S.length ∧ i = .int .i64 k ∧ Hid (Below W1.heap.size W1 wr)) (fun i _ => S.length - (intOf i).toNat)
  case atStart => exact ⟨0, Nat.zero_le _, rfl, Lib.hid (Below.refl _ _)⟩
  case round =>
    obtain ⟨k, hk, rfl, HW⟩ := hrel
    have BW := Lib.hid (below_up B.out HW.out)
    by_cases hlt : k < S.length
    · obtain ⟨p, hp⟩ : ∃ p, S[k]? = some p := ⟨_, List.getElem?_eq_getElem hlt⟩
      obtain ⟨j, x, rfl, hx, _⟩ := rise_at al S 0 none HS2.out k p hp
      obtain ⟨y, hxy⟩ := HMa.out j x hx
      obtain ⟨A, hso, _, hcS⟩ := ints_cell (I1.out.kept HW.out) (by omega)
      have hjl : j < xs.length := (List.getElem?_eq_some_iff.1 hxy).1
      obtain ⟨b, o, hao, _, hcX⟩ := pairs_cell (HA.out.pairs.kept BW.out) (by omega)
      subst hso hao
      have s0 := hcS k _ hp
      obtain ⟨x0, _⟩ := hcX j _ hxy
      dsimp only at x0
      have n1 : decide ((j : Int) < 0) = false := decide_eq_false (by omega)
      have n2 : decide ((xs.length : Int) ≤ (j : Int)) = false := decide_eq_false (by omega)
      have n2b : decide (xs.length ≤ j) = false := decide_eq_false (by omega)
      by_cases hk0 : k = 0
      · have hkz : decide (0 < k) = false := decide_eq_false (by omega)
        clear hcS hcX hp hx hxy hk0
        go_wp2_with fail
        go_quiet (fail)
        have HW2 : Hid (Below W1.heap.size W1 (wr.drewN nq)) := Lib.hid (bdn HW.out)
        go_wp2_with fail
        go_roundw
        case rel => exact ⟨k + 1, by omega, by go_num, HW2⟩
        case measure => simp [intOf]; omega
      · obtain ⟨m, hm⟩ : ∃ m, k = m + 1 := ⟨k - 1, by omega⟩
        obtain ⟨p', hp'⟩ : ∃ p, S[m]? = some p := ⟨_, List.getElem?_eq_getElem (by omega)⟩
        obtain ⟨j', x', rfl, hx', hnx⟩ := rise_at al S 0 none HS2.out m p' hp'
        obtain ⟨j2, x2, e1, e2, e3, e4⟩ := hnx _ (by rw [← hm]; exact hp)
        have hjj : j2 = j := by omega
        subst hjj
        rw [hx] at e3; cases e3
        obtain ⟨y', hxy'⟩ := HMa.out j' x' hx'
        have s1 := hcS m _ hp'
        obtain ⟨x1, _⟩ := hcX j' _ hxy'
        dsimp only at x1
        have hsub : (k : Int) - 1 = (m : Int) := by omega
        have hwr : IntKind.i64.wrap ((k : Int) - 1) = (m : Int) := by rw [IntWalk.i64_in _ (by omega)]; exact hsub
        have hwm : IntKind.i64.wrap (m : Int) = (m : Int) := IntWalk.i64_in _ (by omega)
        have hkp : decide (0 < k) = true := decide_eq_true (by omega)
        have n3 : decide ((j2 : Int) ≤ (j' : Int)) = false := decide_eq_false (by omega)
        have n3b : decide (j2 ≤ j') = false := decide_eq_false (by omega)
        have n4 : decide (x ≤ x') = false := decide_eq_false (by omega)
        have hmS : m < S.length := by omega
        have hjl' : j' < xs.length := (List.getElem?_eq_some_iff.1 hxy').1
        clear hcS hcX hp hx hxy hp' hx' hxy' hm e1 e2 e4 hnx
        go_wp2_with fail
        go_quiet (fail)
        have HW2 : Hid (Below W1.heap.size W1 (wr.drewN nq)) := Lib.hid (bdn HW.out)
        go_wp2_with fail
        go_roundw
        case rel => exact ⟨k + 1, by omega, by go_num, HW2⟩
        case measure => simp [intOf]; omega
    · obtain rfl : k = S.length := by omega
      clear hlt
      have HWo := BW
      have HJ0 : Hid (∀ (i : Nat) (p : Int), i < 0 → cs[i]? = some p → ∃ (j : Nat) (x : Int), p = (j : Int) ∧ al[j]? = some x ∧ ∀ q, i + 1 < 0 → cs[i + 1]? = some q → ∃ (k : Nat) (y : Int), q = (k : Int) ∧ j < k ∧ al[k]? = some y ∧ x < y) := Lib.hid (fun i p h => by omega)
      go_wp2_with fail
      obtain ⟨wo, HWW⟩ : ∃ wo : World, Hid (wo = wr) := ⟨_, Lib.hid rfl⟩
      rw [← HWW.out]
      rw [← HWW.out] at HW BW
      clear HWW HWo
      go_loopw [8] (fun i wr => ∃ k : Nat, k ≤ cs.length ∧ i = .int .i64 k ∧ Hid (Below wo.heap.size wo wr) ∧ Hid (∀ (i : Nat) (p : Int), i < k → cs[i]? = some p → ∃ (j : Nat) (x : Int), p = (j : Int) ∧ al[j]? = some x ∧ ∀ q, i + 1 < k → cs[i + 1]? = some q → ∃ (k : Nat) (y : Int), q = (k : Int) ∧ j < k ∧ al[k]? = some y ∧ x < y)) (fun i _ => cs.length - (intOf i).toNat)
      case atStart => exact ⟨0, Nat.zero_le _, rfl, Lib.hid (Below.refl _ _), HJ0⟩
      case round =>
        obtain ⟨k, hk, rfl, HV, HJ⟩ := hrel
        have BV := Lib.hid (below_up BW.out HV.out)
        have HEnd : Hid (∀ n, Below w.heap.size w (wr.drewN n)) := Lib.hid (fun n => bdn BV.out)
        by_cases hlt : k < cs.length
        · obtain ⟨p, hp⟩ : ∃ p, cs[k]? = some p := ⟨_, List.getElem?_eq_getElem hlt⟩
          obtain ⟨A, hbo, _, hcC⟩ := ints_cell (HB.out.ints.kept BV.out) (by omega)
          subst hbo
          have c0 := hcC k _ hp
          have HP := Lib.hid hp
          by_cases m1 : p < 0
          · have n1 : decide (p < 0) = true := decide_eq_true m1
            clear hcC hp m1
            go_wp2_with fail
            go_quiet (fail)
            go_wp2_with fail
            go_ret
            exact ⟨rfl, HEnd.out _⟩
          by_cases m2 : (xs.length : Int) ≤ p
          · have n1 : decide (p < 0) = false := decide_eq_false m1
            have n2 : decide ((xs.length : Int) ≤ p) = true := decide_eq_true m2
            clear hcC hp m1 m2
            go_wp2_with fail
            go_quiet (fail)
            go_wp2_with fail
            go_ret
            exact ⟨rfl, HEnd.out _⟩
          obtain ⟨j, rfl⟩ := Int.eq_ofNat_of_zero_le (show 0 ≤ p by omega)
          have hjl : j < xs.length := by omega
          obtain ⟨x, y, hx, hxy⟩ := HMb.out j hjl
          obtain ⟨b, o, hao, _, hcX⟩ := pairs_cell (HA.out.pairs.kept BV.out) (by omega)
          subst hao
          obtain ⟨x0, _⟩ := hcX j _ hxy
          dsimp only at x0
          have HXj := Lib.hid hx
          have n1 : decide ((j : Int) < 0) = false := decide_eq_false (by omega)
          have n2 : decide ((xs.length : Int) ≤ (j : Int)) = false := decide_eq_false (by omega)
          have n2b : decide (xs.length ≤ j) = false := decide_eq_false (by omega)
          clear m1 m2
          by_cases hk0 : k = 0
          · have hkz : decide (0 < k) = false := decide_eq_false (by omega)
            have HJ2 : Hid (∀ (i : Nat) (p : Int), i < k + 1 → cs[i]? = some p → ∃ (j : Nat) (x : Int), p = (j : Int) ∧ al[j]? = some x ∧ ∀ q, i + 1 < k + 1 → cs[i + 1]? = some q → ∃ (k : Nat) (y : Int), q = (k : Int) ∧ j < k ∧ al[k]? = some y ∧ x < y) := Lib.hid (fun i p hi hpi => by
              have : i = k := by omega
              subst this
              rw [HP.out] at hpi; cases hpi
              exact ⟨j, x, rfl, HXj.out, fun q h => by omega⟩)
            clear hcC hcX hp hx hxy hk0
            go_wp2_with fail
            go_quiet (fail)
            have HV2 : Hid (Below wo.heap.size wo (wr.drewN nq)) := Lib.hid (bdn HV.out)
            go_wp2_with fail
            go_roundw
            case rel => exact ⟨k + 1, by omega, by go_num, HV2, HJ2⟩
            case measure => simp [intOf]; omega
          · obtain ⟨m, hm⟩ : ∃ m, k = m + 1 := ⟨k - 1, by omega⟩
            obtain ⟨p', hp'⟩ : ∃ p, cs[m]? = some p := ⟨_, List.getElem?_eq_getElem (by omega)⟩
            obtain ⟨j', x', rfl, hx', _⟩ := HJ.out m p' (by omega) hp'
            obtain ⟨y', hxy'⟩ := HMa.out j' x' hx'
            have s1 := hcC m _ hp'
            obtain ⟨x1, _⟩ := hcX j' _ hxy'
            dsimp only at x1
            have hsub : (k : Int) - 1 = (m : Int) := by omega
            have hwr : IntKind.i64.wrap ((k : Int) - 1) = (m : Int) := by rw [IntWalk.i64_in _ (by omega)]; exact hsub
            have hwm : IntKind.i64.wrap (m : Int) = (m : Int) := IntWalk.i64_in _ (by omega)
            have hkp : decide (0 < k) = true := decide_eq_true (by omega)
            have hmS : m < cs.length := by omega
            have hjl' : j' < xs.length := (List.getElem?_eq_some_iff.1 hxy').1
            have HM := Lib.hid hm
            have HP' := Lib.hid hp'
            have HX' := Lib.hid hx'
            clear hcC hcX hp hx hxy hp' hx' hxy' hm
            by_cases m3 : (j : Int) ≤ (j' : Int)
            · have n3 : decide ((j : Int) ≤ (j' : Int)) = true := decide_eq_true m3
              have n3b : decide (j ≤ j') = true := decide_eq_true (by omega)
              clear m3
              go_wp2_with fail
              go_quiet (fail)
              go_wp2_with fail
              go_ret
              exact ⟨rfl, HEnd.out _⟩
            by_cases m4 : x ≤ x'
            · have n3 : decide ((j : Int) ≤ (j' : Int)) = false := decide_eq_false m3
              have n3b : decide (j ≤ j') = false := decide_eq_false (by omega)
              have n4 : decide (x ≤ x') = true := decide_eq_true m4
              clear m3 m4
              go_wp2_with fail
              go_quiet (fail)
              go_wp2_with fail
              go_ret
              exact ⟨rfl, HEnd.out _⟩
            have HJ2 : Hid (∀ (i : Nat) (p : Int), i < k + 1 → cs[i]? = some p → ∃ (j : Nat) (x : Int), p = (j : Int) ∧ al[j]? = some x ∧ ∀ q, i + 1 < k + 1 → cs[i + 1]? = some q → ∃ (k : Nat) (y : Int), q = (k : Int) ∧ j < k ∧ al[k]? = some y ∧ x < y) := Lib.hid (fun i p hi hpi => by
              have hM := HM.out
              by_cases e : i = k
              · subst e
                rw [HP.out] at hpi; cases hpi
                exact ⟨j, x, rfl, HXj.out, fun q h => by omega⟩
              · by_cases e2 : i = m
                · subst e2
                  rw [HP'.out] at hpi; cases hpi
                  refine ⟨j', x', rfl, HX'.out, fun q _ hq => ?_⟩
                  rw [← hM, HP.out] at hq; cases hq
                  exact ⟨j, x, rfl, by omega, HXj.out, by omega⟩
                · obtain ⟨j3, x3, f1, f2, f3⟩ := HJ.out i p (by omega) hpi
                  exact ⟨j3, x3, f1, f2, fun q h hq => f3 q (by omega) hq⟩)
            have n3 : decide ((j : Int) ≤ (j' : Int)) = false := decide_eq_false m3
            have n3b : decide (j ≤ j') = false := decide_eq_false (by omega)
            have n4 : decide (x ≤ x') = false := decide_eq_false m4
            clear m3 m4
            go_wp2_with fail
            go_quiet (fail)
            have HV2 : Hid (Below wo.heap.size wo (wr.drewN nq)) := Lib.hid (bdn HV.out)
            go_wp2_with fail
            go_roundw
            case rel => exact ⟨k + 1, by omega, by go_num, HV2, HJ2⟩
            case measure => simp [intOf]; omega
        · obtain rfl : k = cs.length := by omega
          clear hlt
          have hRi : Rise al 0 none cs := rise_of al cs 0 none (fun i p hp => by
            obtain ⟨j, x, f1, f2, f3⟩ := HJ.out i p (List.getElem?_eq_some_iff.1 hp).1 hp
            exact ⟨j, x, f1, f2, fun q hq => f3 q (List.getElem?_eq_some_iff.1 hq).1 hq⟩) (fun p hp => by
            obtain ⟨j, x, f1, f2, f3⟩ := HJ.out 0 p (List.getElem?_eq_some_iff.1 hp).1 hp
            exact ⟨j, x, f1, Nat.zero_le _, f2, fun a ha => by cases ha⟩)
          obtain ⟨hle, hlex⟩ := HS3.out cs hRi
          have HLex := Lib.hid hlex
          clear hRi hlex HJ
          have n1 : ¬ (S.length : Int) < (cs.length : Int) := by omega
          by_cases n2 : (cs.length : Int) < (S.length : Int)
          · go_wp2_with fail
            go_ret
            exact ⟨rfl, BV.out⟩
          have hls : cs.length = S.length := by omega
          have HLx := Lib.hid (lex_at S cs (HLex.out hls))
          have HLs := Lib.hid hls
          clear hls hle
          go_wp2_with fail
          go_loopw [9] (fun i wr => ∃ k : Nat, k ≤ S.length ∧ i = .int .i64 k ∧ Hid (Below wo.heap.size wo wr) ∧ Hid (∀ (j : Nat) (u v : Int), j < k → S[j]? = some u → cs[j]? = some v → u = v)) (fun i _ => S.length - (intOf i).toNat)
          case atStart => exact ⟨0, Nat.zero_le _, rfl, HV, Lib.hid (fun j u v h => by omega)⟩
          case round =>
            obtain ⟨k, hk, rfl, HV, HJ⟩ := hrel
            have BV := Lib.hid (below_up BW.out HV.out)
            by_cases hlt : k < S.length
            · obtain ⟨p, hp⟩ : ∃ p, S[k]? = some p := ⟨_, List.getElem?_eq_getElem hlt⟩
              have hlt2 : k < cs.length := by rw [HLs.out]; exact hlt
              obtain ⟨q, hq⟩ : ∃ q, cs[k]? = some q := ⟨_, List.getElem?_eq_getElem hlt2⟩
              obtain ⟨A, hso, _, hcS⟩ := ints_cell (I1.out.kept (below_up HW.out HV.out)) (by omega)
              obtain ⟨A2, hbo, _, hcC⟩ := ints_cell (HB.out.ints.kept BV.out) (by omega)
              subst hso hbo
              have s0 := hcS k _ hp
              have c0 := hcC k _ hq
              have HP := Lib.hid hp
              have HQ := Lib.hid hq
              clear hcS hcC hp hq
              by_cases hpq : p = q
              · have HJ2 : Hid (∀ (j : Nat) (u v : Int), j < k + 1 → S[j]? = some u → cs[j]? = some v → u = v) := Lib.hid (fun j u v hj hu hv => by
                  by_cases e : j = k
                  · subst e; rw [HP.out] at hu; rw [HQ.out] at hv; cases hu; cases hv; exact hpq
                  · exact HJ.out j u v (by omega) hu hv)
                subst hpq
                go_wp2_with fail
                go_quiet (fail)
                have HV2 : Hid (Below wo.heap.size wo (wr.drewN nq)) := Lib.hid (bdn HV.out)
                go_wp2_with fail
                go_roundw
                case rel => exact ⟨k + 1, by omega, by go_num, HV2, HJ2⟩
                case measure => simp [intOf]; omega
              · have hlt3 := HLx.out k p q HJ.out HP.out HQ.out hpq
                have hb : (p != q) = true := by simpa using hpq
                go_wp2_with fail
                go_quiet (fail)
                go_wp2_with fail
                go_quiet (fail)
                go_wp2_with fail
                go_ret
                exact ⟨rfl, bdn (bdn BV.out)⟩
            · go_wp2_with fail
              go_ret
              exact ⟨rfl, BV.out⟩
end Go.Proofs.Ytpejdnmfagjfhaa
