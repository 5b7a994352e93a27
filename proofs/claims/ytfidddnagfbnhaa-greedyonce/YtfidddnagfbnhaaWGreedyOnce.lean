/-
  The walk of the statement GreedyOnce.
  Conditions: none beyond the form of claims.
-/
import Derived.WalkKit
import Derived.WalkMore
import Derived.IntWalk
import Derived.BigQuiet
import Derived.Deep.QuietTactic
import Derived.Lib.Hide
import Derived.Test.YtfidddnagfbnhaaProg
import Derived.Test.YtfidddnagfbnhaaGOpen
import Derived.Test.YtfidddnagfbnhaaGWorks
namespace Go.Proofs.Ytfidddnagfbnhaa
open Go.RowKit Go.Shelf
set_option linter.unusedVariables false

/-- is a pair one of a choice -/
def isCh (q1 q2 : Int) (l : TL) : Bool := l.any (fun c => decide (c.1 = q1) && decide (c.2.1 = q2))
theorem isCh_next (q1 q2 : Int) (xs : TL) (k : Nat) (c : T3) (h : xs[k]? = some c) : isCh q1 q2 (xs.take (k + 1)) = (isCh q1 q2 (xs.take k) || (decide (c.1 = q1) && decide (c.2.1 = q2))) := by
  obtain ⟨hk, e⟩ := List.getElem?_eq_some_iff.1 h
  rw [List.take_succ_eq_append_getElem hk, e]
  simp [isCh, List.any_append]
theorem isCh_all (xs : TL) (p : Int × Int) (h : p ∈ pickL xs) : isCh p.1 p.2 (xs.take xs.length) = true := by
  obtain ⟨c, hc, e1, e2⟩ := (pick_taken xs).choice p h
  rw [List.take_length]
  exact List.any_eq_true.2 ⟨c, hc, by simp [e1, e2]⟩
theorem pick_apart (xs : TL) (j i : Nat) (p q : Int × Int) (hji : j < i) (hp : (pickL xs)[j]? = some p) (hq : (pickL xs)[i]? = some q) : p.2 < q.2 ∧ ¬ p.1 = q.1 := by
  obtain ⟨h1, e1⟩ := List.getElem?_eq_some_iff.1 hp
  obtain ⟨h2, e2⟩ := List.getElem?_eq_some_iff.1 hq
  have hs := List.pairwise_iff_getElem.1 (pick_sorted xs) j i h1 h2 hji
  have hn := List.pairwise_iff_getElem.1 (pick_taken xs).snd j i (by simpa using h1) (by simpa using h2) hji
  have hm := List.pairwise_iff_getElem.1 (pick_taken xs).fst j i (by simpa using h1) (by simpa using h2) hji
  rw [List.getElem_map, List.getElem_map, e1, e2] at hn hm
  rw [e1, e2] at hs
  exact ⟨by omega, hm⟩

set_option maxRecDepth 100000 in
set_option maxHeartbeats 4000000 in
theorem walkGreedyOnce (ao : Option Addr) (ca : Nat) (xs : TL) (w : World) (hA : TripsArg w ao ca xs) :
    Calls Try.prog 4 #[.slice ao xs.length ca] w fun e w' => e = .returned (.bool true) ∧ Below w.heap.size w w' := by
  have HA := Lib.hid hA
  have C0 := Lib.hid (fun W => gworks_any W)
  clear hA
  by_cases h1 : xs.length ≤ 60
  · have C1 := Lib.hid (fun U (h : Below w.heap.size w U) => pick_any ao ca xs U (by omega) HA.out.ok (HA.out.trips.kept h))
    have hl := pick_len xs
    have HR0 : Hid (∀ (i : Nat) p, (pickL xs)[i]? = some p → (0 ≤ p.1 ∧ 0 ≤ p.2) ∧ isCh p.1 p.2 (xs.take xs.length) = true) := Lib.hid (fun i p h => ⟨(pick_taken xs).from0 p (List.mem_of_getElem? h), isCh_all xs p (List.mem_of_getElem? h)⟩)
    have HRa := Lib.hid (fun j i p q h1 h2 h3 => pick_apart xs j i p q h1 h2 h3)
    have hRl : (pickL xs).length ≤ 60 := by omega
    generalize pickL xs = R at C1 HR0 HRa hRl
    clear hl
    go_enter Try.func4, Try.ntmps4
    go_wp2_with fail
    refine (C0.out _).mono ?_; rintro e W ⟨rfl, b⟩
    have B := Lib.hid b
    clear b C0
    go_wp2_with fail
    refine (C1.out _ B.out).mono ?_; rintro e W1 ⟨po, pc, rfl, p1, -, -, b⟩
    have B := Lib.hid (below_up B.out b)
    have HP := Lib.hid p1
    clear b p1 C1
    go_wp2_with fail
    go_loopw [5] (fun iv wr => ∃ i : Nat, i ≤ R.length ∧ iv = .int .i64 i ∧ Hid (Below W1.heap.size W1 wr)) (fun iv _ => R.length - (intOf iv).toNat)
    case atStart => exact ⟨0, Nat.zero_le _, rfl, Lib.hid (Below.refl _ _)⟩
    case round =>
      obtain ⟨i, hi, rfl, HB⟩ := hrel
      by_cases hlt : i < R.length
      · obtain ⟨⟨q1, q2⟩, hq⟩ : ∃ q, R[i]? = some q := ⟨_, List.getElem?_eq_getElem hlt⟩
        obtain ⟨⟨hq1, hq2⟩, hch⟩ := HR0.out i _ hq
        rcases (HP.out.kept HB.out) with h0 | ⟨pb, pf, rfl, hA, hcell⟩
        · rw [h0] at hlt; simp at hlt
        have HCell := Lib.hid hcell
        have HAl := Lib.hid hA
        have HQ := Lib.hid hq
        have HCh := Lib.hid hch
        have BW := Lib.hid (below_up B.out HB.out)
        have HI0 : Hid (false = isCh q1 q2 (xs.take 0)) := Lib.hid rfl
        clear hcell hA hq hch
        dsimp only at hq1 hq2 HCh
        go_wp2_with fail
        obtain ⟨wo, rfl⟩ : ∃ wo : World, wo = wr := ⟨_, rfl⟩
        go_loopw [6, 7] (fun fv kv wr => ∃ (t : Bool) (k : Nat), k ≤ xs.length ∧ fv = .bool t ∧ kv = .int .i64 k ∧ Hid (t = isCh q1 q2 (xs.take k)) ∧ Hid (Below wo.heap.size wo wr)) (fun _ kv _ => xs.length - (intOf kv).toNat)
        case atStart => exact ⟨false, 0, Nat.zero_le _, rfl, rfl, HI0, Lib.hid (Below.refl _ _)⟩
        case round =>
          obtain ⟨t, k, hk, rfl, rfl, HT, HBo⟩ := hrel
          obtain ⟨d1, d2⟩ : wr.cell? ⟨pb, pf + i * 2, none⟩ = some (.int .i64 q1) ∧ wr.cell? ⟨pb, pf + i * 2 + 1, none⟩ = some (.int .i64 q2) := by
            obtain ⟨e1, e2⟩ := HCell.out i _ HQ.out
            exact ⟨(HBo.out.cell (p := ⟨pb, pf + i * 2, none⟩) HAl.out).trans e1, (HBo.out.cell (p := ⟨pb, pf + i * 2 + 1, none⟩) HAl.out).trans e2⟩
          have n1 : decide ((i : Int) < 0) = false := decide_eq_false (by omega)
          have n2 : decide (R.length ≤ i) = false := decide_eq_false (by omega)
          by_cases hkl : k < xs.length
          · obtain ⟨⟨x1, x2, x3⟩, hx⟩ : ∃ x, xs[k]? = some x := ⟨_, List.getElem?_eq_getElem hkl⟩
            rcases (HA.out.trips.kept (below_up BW.out HBo.out)) with h0 | ⟨b, o, rfl, hA, hcell⟩
            · rw [h0] at hkl; simp at hkl
            obtain ⟨c1, c2, c3⟩ := hcell k _ hx
            dsimp only at c1 c2 c3
            have hst := isCh_next q1 q2 xs k _ hx
            rw [← HT.out] at hst
            dsimp only at hst
            have n3 : decide ((k : Int) < 0) = false := decide_eq_false (by omega)
            have n4 : decide (xs.length ≤ k) = false := decide_eq_false (by omega)
            clear hcell hx
            cases t with
            | true =>
              have HT2 : Hid (true = isCh q1 q2 (xs.take (k + 1))) := Lib.hid (by rw [hst]; rfl)
              clear hst HT
              go_upto_region 14 with fail
              go_quiet (fail)
              have HB2 := Lib.hid (show Below wo.heap.size wo (wr.drewN nq) from bdn HBo.out)
              go_wp2_with fail
              go_roundw
              case rel => exact ⟨true, k + 1, by omega, rfl, by go_num, HT2, HB2⟩
              case measure => simp [intOf]; omega
            | false =>
              by_cases g1 : x1 = q1
              · have e1 : (x1 == q1) = true := by simp [g1]
                by_cases g2 : x2 = q2
                · have e2 : (x2 == q2) = true := by simp [g2]
                  have HT2 : Hid (true = isCh q1 q2 (xs.take (k + 1))) := Lib.hid (by rw [hst, g1, g2]; simp)
                  clear hst HT g1 g2
                  go_upto_region 14 with fail
                  go_quiet (fail)
                  have HB2 := Lib.hid (show Below wo.heap.size wo (wr.drewN nq) from bdn HBo.out)
                  go_wp2_with fail
                  go_roundw
                  case rel => exact ⟨true, k + 1, by omega, by first | rfl | simp, by go_num, HT2, HB2⟩
                  case measure => simp [intOf]; omega
                · have e2 : (x2 == q2) = false := by simp [g2]
                  have HT2 : Hid (false = isCh q1 q2 (xs.take (k + 1))) := Lib.hid (by rw [hst]; simp [g2])
                  clear hst HT g1 g2
                  go_upto_region 14 with fail
                  go_quiet (fail)
                  have HB2 := Lib.hid (show Below wo.heap.size wo (wr.drewN nq) from bdn HBo.out)
                  go_wp2_with fail
                  go_roundw
                  case rel => exact ⟨false, k + 1, by omega, by first | rfl | simp, by go_num, HT2, HB2⟩
                  case measure => simp [intOf]; omega
              · have e1 : (x1 == q1) = false := by simp [g1]
                have HT2 : Hid (false = isCh q1 q2 (xs.take (k + 1))) := Lib.hid (by rw [hst]; simp [g1])
                clear hst HT g1
                go_upto_region 14 with fail
                go_quiet (fail)
                have HB2 := Lib.hid (show Below wo.heap.size wo (wr.drewN nq) from bdn HBo.out)
                go_wp2_with fail
                go_roundw
                case rel => exact ⟨false, k + 1, by omega, by first | rfl | simp, by go_num, HT2, HB2⟩
                case measure => simp [intOf]; omega
          · obtain rfl : k = xs.length := by omega
            obtain rfl : t = true := by rw [HT.out]; exact HCh.out
            have l1 : decide (q1 < 0) = false := decide_eq_false (by omega)
            have l2 : decide (q2 < 0) = false := decide_eq_false (by omega)
            obtain ⟨wa, rfl⟩ : ∃ wa : World, wa = wr := ⟨_, rfl⟩
            have BF : Hid (∀ W, Below wa.heap.size wa W → Below W1.heap.size W1 W) := Lib.hid (fun W h => below_up HB.out (below_up HBo.out h))
            have HDc : Hid (∀ (j : Nat) p, R[j]? = some p → ∀ W, Below wa.heap.size wa W → W.cell? ⟨pb, pf + j * 2, none⟩ = some (.int .i64 p.1) ∧ W.cell? ⟨pb, pf + j * 2 + 1, none⟩ = some (.int .i64 p.2)) := Lib.hid (fun j p hj W hW => by
              obtain ⟨e1, e2⟩ := HCell.out j p hj
              have hB := below_up HBo.out hW
              exact ⟨(hB.cell (p := ⟨pb, pf + j * 2, none⟩) HAl.out).trans e1, (hB.cell (p := ⟨pb, pf + j * 2 + 1, none⟩) HAl.out).trans e2⟩)
            clear HT HCh HI0 HR0 HCell
            by_cases hi0 : i = 0
            · have n5 : decide (0 < i) = false := decide_eq_false (by omega)
              have n6 : decide ((0 : Int) < (i : Int)) = false := decide_eq_false (by omega)
              clear hi0
              go_upto_region 15 with fail
              go_quiet (fail)
              obtain ⟨V, HV⟩ : ∃ V, Hid (V = wa.drewN nq) := ⟨_, Lib.hid rfl⟩
              have BV : Hid (Below wa.heap.size wa V) := Lib.hid (by rw [HV.out]; exact bdn (Below.refl _ _))
              rw [← HV.out]
              clear HV d1 d2
              go_wp2_with fail
              go_loopw [8] (fun mv W => ∃ m : Nat, m ≤ i ∧ mv = .int .i64 m ∧ Hid (Below wa.heap.size wa W)) (fun mv _ => i - (intOf mv).toNat)
              case atStart => exact ⟨0, Nat.zero_le _, rfl, BV⟩
              case round =>
                obtain ⟨m, hm, rfl, HBm⟩ := hrel
                by_cases hmi : m < i
                · obtain ⟨⟨r1, r2⟩, hr⟩ : ∃ r, R[m]? = some r := ⟨_, List.getElem?_eq_getElem (by omega)⟩
                  obtain ⟨d1, d2⟩ := HDc.out i _ HQ.out _ HBm.out
                  obtain ⟨f1, f2⟩ := HDc.out m _ hr _ HBm.out
                  have hap := HRa.out m i _ _ hmi hr HQ.out
                  dsimp only at d1 d2 f1 f2 hap
                  have e1 : (r1 == q1) = false := by simp [hap.2]
                  clear hap hr
                  go_wp2_with fail
                  go_quiet (fail)
                  have HB2 := Lib.hid (show Below wa.heap.size wa (wr.drewN nq) from bdn HBm.out)
                  go_wp2_with fail
                  go_roundw
                  case rel => exact ⟨m + 1, by omega, by go_num, HB2⟩
                  case measure => simp [intOf]; omega
                · obtain rfl : m = i := by omega
                  have HBe := Lib.hid (BF.out _ HBm.out)
                  go_wp2_with fail
                  go_roundw
                  case rel => exact ⟨m + 1, by omega, by go_num, HBe⟩
                  case measure => simp [intOf]; omega
            · obtain ⟨j, hj⟩ : ∃ j, i = j + 1 := ⟨i - 1, by omega⟩
              obtain ⟨⟨z1, z2⟩, hz⟩ : ∃ z, R[j]? = some z := ⟨_, List.getElem?_eq_getElem (by omega)⟩
              have hap := HRa.out j i _ _ (by omega) hz HQ.out
              obtain ⟨k1, k2⟩ := HDc.out j _ hz _ (Below.refl _ _)
              dsimp only at hap k1 k2
              have n5 : decide (0 < i) = true := decide_eq_true (by omega)
              have n6 : decide ((0 : Int) < (i : Int)) = true := decide_eq_true (by omega)
              have hsub : (i : Int) - 1 = (j : Int) := by omega
              have hwr : IntKind.i64.wrap ((i : Int) - 1) = (j : Int) := by rw [IntWalk.i64_in _ (by omega)]; exact hsub
              have hwj : IntKind.i64.wrap (j : Int) = (j : Int) := IntWalk.i64_in _ (by omega)
              have n7 : decide ((j : Int) < 0) = false := decide_eq_false (by omega)
              have n8 : decide (R.length ≤ j) = false := decide_eq_false (by omega)
              have n9 : decide (q2 ≤ z2) = false := decide_eq_false (by omega)
              have HJ := Lib.hid hj
              clear hap hz hj hi0
              go_upto_region 15 with fail
              go_quiet (fail)
              obtain ⟨V, HV⟩ : ∃ V, Hid (V = wa.drewN nq) := ⟨_, Lib.hid rfl⟩
              have BV : Hid (Below wa.heap.size wa V) := Lib.hid (by rw [HV.out]; exact bdn (Below.refl _ _))
              rw [← HV.out]
              clear HV d1 d2
              go_wp2_with fail
              go_loopw [8] (fun mv W => ∃ m : Nat, m ≤ i ∧ mv = .int .i64 m ∧ Hid (Below wa.heap.size wa W)) (fun mv _ => i - (intOf mv).toNat)
              case atStart => exact ⟨0, Nat.zero_le _, rfl, BV⟩
              case round =>
                obtain ⟨m, hm, rfl, HBm⟩ := hrel
                by_cases hmi : m < i
                · obtain ⟨⟨r1, r2⟩, hr⟩ : ∃ r, R[m]? = some r := ⟨_, List.getElem?_eq_getElem (by omega)⟩
                  obtain ⟨d1, d2⟩ := HDc.out i _ HQ.out _ HBm.out
                  obtain ⟨f1, f2⟩ := HDc.out m _ hr _ HBm.out
                  have hap := HRa.out m i _ _ hmi hr HQ.out
                  dsimp only at d1 d2 f1 f2 hap
                  have e1 : (r1 == q1) = false := by simp [hap.2]
                  clear hap hr
                  go_wp2_with fail
                  go_quiet (fail)
                  have HB2 := Lib.hid (show Below wa.heap.size wa (wr.drewN nq) from bdn HBm.out)
                  go_wp2_with fail
                  go_roundw
                  case rel => exact ⟨m + 1, by omega, by go_num, HB2⟩
                  case measure => simp [intOf]; omega
                · obtain rfl : m = i := by omega
                  have HBe := Lib.hid (BF.out _ HBm.out)
                  go_wp2_with fail
                  go_roundw
                  case rel => exact ⟨m + 1, by omega, by go_num, HBe⟩
                  case measure => simp [intOf]; omega
      · obtain rfl : i = R.length := by omega
        have BE := Lib.hid (below_up B.out HB.out)
        go_wp2_with fail
        go_ret
        exact ⟨rfl, BE.out⟩
  · go_enter Try.func4, Try.ntmps4
    go_wp2_with fail
    refine (C0.out _).mono ?_; rintro e W ⟨rfl, b⟩
    have B := Lib.hid b
    clear b C0
    go_wp2_with fail
    go_ret
    exact ⟨rfl, B.out⟩
end Go.Proofs.Ytfidddnagfbnhaa
