/-
  How long a choice of rising As can be from each place on: what the document's reference reckons.
  Conditions: lists of at most 2^38 pairs.
-/
import Derived.WalkKit
import Derived.WalkMore
import Derived.IntWalk
import Derived.WalkArith
import Derived.OwnWalk
import Derived.OneCell
import Derived.Lib.Hide
import Derived.Deep.Cut
import Derived.Deep.Onto
import Derived.BigQuiet
import Derived.Deep.QuietTactic
import Derived.StillTailTactics
import Derived.Test.YtolcdhdmonaeaaaProg
import Derived.Test.YtolcdhdmonaeaaaPLengths
namespace Go.Proofs.Ytolcdhdmonaeaaa
open Go.RowKit Go.Shelf
set_option linter.unusedVariables false

theorem best_snoc (a : Int) : ∀ (r : List Int) (ns : List Nat) (x : Int) (n : Nat), r.length = ns.length → best a (r ++ [x]) (ns ++ [n]) = if a < x then max (best a r ns) n else best a r ns
  | [], [], x, n, _ => by simp [best]
  | y :: r, m :: ns, x, n, h => by
    have ih := best_snoc a r ns x n (by simpa using h)
    simp only [List.cons_append, best, ih]
    split <;> split <;> first | rfl | omega | (simp only [Nat.max_assoc])
  | [], _ :: _, x, n, h => by simp at h
  | _ :: _, [], x, n, h => by simp at h
def bestT (a : Int) (r : List Int) (t : Nat) : Nat := best a (r.take t) ((longs r).take t)
theorem bestT_zero (a : Int) (r : List Int) : bestT a r 0 = 0 := by simp [bestT, best]
theorem bestT_all (a : Int) (r : List Int) : bestT a r r.length = best a r (longs r) := by
  unfold bestT; rw [List.take_length, show r.length = (longs r).length from (longs_len r).symm, List.take_length]
theorem bestT_next (a : Int) (r : List Int) (t : Nat) (x : Int) (n : Nat) (hx : r[t]? = some x) (hn : (longs r)[t]? = some n) : bestT a r (t + 1) = if a < x then max (bestT a r t) n else bestT a r t := by
  obtain ⟨h1, e1⟩ := List.getElem?_eq_some_iff.1 hx
  obtain ⟨h2, e2⟩ := List.getElem?_eq_some_iff.1 hn
  unfold bestT
  rw [List.take_succ_eq_append_getElem h1, List.take_succ_eq_append_getElem h2, e1, e2]
  exact best_snoc a _ _ x n (by simp [longs_len])
theorem bestT_le (a : Int) (r : List Int) (t : Nat) : bestT a r t ≤ r.length := by
  rcases Nat.eq_zero_or_pos (bestT a r t) with h | h
  · omega
  · obtain ⟨j, x, h1, h2, _⟩ := best_at a (r.take t) ((longs r).take t) (by unfold bestT at h; omega)
    have h3 : (longs r)[j]? = some (bestT a r t) := by
      rw [List.getElem?_take] at h2; split at h2
      · exact h2
      · cases h2
    have := longs_le r j _ h3
    omega
/-- what is reckoned so far, with v at place i -/
def rowV (l : List Int) (i : Nat) (v : Int) : List Int := List.replicate i 0 ++ v :: (longs (l.drop (i + 1))).map (fun n : Nat => (n : Int))
theorem rowV_set (l : List Int) (i : Nat) (v u : Int) : (rowV l i v).set i u = rowV l i u := by
  unfold rowV; rw [List.set_append_right _ _ (by simp)]; simp
theorem rowV_start (l : List Int) (i : Nat) (h : i < l.length) (v : Int) : (rowK l (i + 1)).set i v = rowV l i v := by
  unfold rowK rowV
  rw [List.set_append_left _ _ (by simp), List.replicate_succ', List.set_append_right _ _ (by simp)]
  simp
theorem rowV_end (l : List Int) (i : Nat) (a : Int) (ha : l[i]? = some a) : rowV l i ((best a (l.drop (i + 1)) (longs (l.drop (i + 1))) : Int) + 1) = rowK l i := by
  obtain ⟨hm, e⟩ := List.getElem?_eq_some_iff.1 ha
  unfold rowK rowV
  rw [show l.drop i = a :: l.drop (i + 1) from by rw [List.drop_eq_getElem_cons hm, e]]
  simp [longs]
theorem rowV_here (l : List Int) (i : Nat) (v : Int) : (rowV l i v)[i]? = some v := by unfold rowV; rw [List.getElem?_append_right (by simp)]; simp
theorem rowV_behind (l : List Int) (i t : Nat) (v : Int) (n : Nat) (h : (longs (l.drop (i + 1)))[t]? = some n) : (rowV l i v)[i + 1 + t]? = some (n : Int) := by
  unfold rowV
  rw [List.getElem?_append_right (by simp; omega)]
  simp only [List.length_replicate, show i + 1 + t - i = t + 1 from by omega, List.getElem?_cons_succ, List.getElem?_map, h]
  rfl
theorem rowV_len (l : List Int) (i : Nat) (v : Int) (h : i < l.length) : (rowV l i v).length = l.length := by simp [rowV, longs_len]; omega

set_option maxRecDepth 100000 in
set_option maxHeartbeats 2000000 in
theorem rlong_any (ao : Option Addr) (cap : Nat) (xs : PL) (w : World) (hn : xs.length ≤ 274877906944) (hR : PairsAt w ao xs) :
    Calls Try.prog 41 #[.slice ao xs.length cap] w fun e w' => ∃ g, e = .returned (.slice (some ⟨g, 0, none⟩) xs.length xs.length) ∧ IntsAt w' (some ⟨g, 0, none⟩) ((longs (xs.map Prod.fst)).map (fun n : Nat => (n : Int))) ∧ Below w.heap.size w w' := by
  have hinfo : (Try.prog.info? 3).map (fun i => (i.zero, i.size, i.bytes)) = some (some (.int .i64 0), 1, 8) := by kernel_rfl
  obtain ⟨i0, hi, hz0, hz1, hz2⟩ := info_parts2 hinfo
  have HI := Lib.hid hi
  have HRo := Lib.hid hR
  have hmx : xs.length ≤ maxLen := by unfold maxLen; omega
  have hwl : IntKind.i64.wrap ((xs.length : Int) - 1) = (xs.length : Int) - 1 := IntWalk.i64_in _ (by omega)
  obtain ⟨al, HAs⟩ : ∃ al, Hid (al = xs.map Prod.fst) := ⟨_, Lib.hid rfl⟩
  have hal : al.length = xs.length := by rw [HAs.out]; simp
  have HAL := Lib.hid hal
  rw [← HAs.out]
  clear hi hinfo hR hal
  go_enter Try.func41, Try.ntmps41
  go_wp2_with (at_make; refine wpList_make_full _ rfl _ _ 30 rfl w.heap.size 3 i0 (.int .i64 0) 1 Try.underlying30 HI.out hz0 hz1 .i64 .i64 (xs.length : Int) (xs.length : Int) xs.length rfl rfl rfl rfl (by rw [hz2]; omega) hmx (Nat.le_refl _) ?_; intro w1 ho hg)
  have HB1 : Hid (Below w.heap.size w w1) := Lib.hid ((Below.refl _ w).grown hg (Nat.le_refl _) (fun k h => by cases h))
  have HL1 : Hid (w1.ownsRow w.heap.size 3 1 (.slice (some ⟨w.heap.size, 0, none⟩) xs.length xs.length) xs.length ((rowK al xs.length).map (Value.int .i64))) := Lib.hid (by rw [← HAL.out, rowK_all, ← ints_zero, HAL.out]; rw [Nat.mul_one] at ho; exact ho)
  clear ho hg
  go_wp2_with fail
  clear hwl
  go_loopw [4] (fun i wr => ∃ (s : Nat), s ≤ xs.length ∧ i = .int .i64 ((s : Int) - 1) ∧ Hid (Below w.heap.size w wr) ∧ Hid (wr.ownsRow w.heap.size 3 1 (.slice (some ⟨w.heap.size, 0, none⟩) xs.length xs.length) xs.length ((rowK al s).map (Value.int .i64)))) (fun i _ => ((intOf i) + 1).toNat)
  case atStart => exact ⟨xs.length, Nat.le_refl _, rfl, HB1, HL1⟩
  case round =>
    obtain ⟨s, hs, rfl, HB, HL⟩ := hrel
    clear HB1 HL1
    by_cases h0 : s = 0
    · subst h0
      have E : Hid (IntsAt wr (some ⟨w.heap.size, 0, none⟩) ((longs al).map (fun n : Nat => (n : Int)))) := Lib.hid (by
        have h := HL.out
        rw [rowK_zero] at h
        refine .inr ⟨_, rfl, (h.lt w.heap.size rfl).2, fun i p hp => h.cells rfl i _ (by rw [List.getElem?_map, hp]; rfl)⟩)
      go_wp2_with fail
      go_ret
      exact ⟨w.heap.size, rfl, E.out, HB.out⟩
    · obtain ⟨m, hm⟩ : ∃ m, s = m + 1 := ⟨s - 1, by omega⟩
      have hsub : (s : Int) - 1 = (m : Int) := by omega
      rw [hsub]
      have hml : m < xs.length := by omega
      obtain ⟨⟨x1, x2⟩, hx⟩ : ∃ x, xs[m]? = some x := ⟨_, List.getElem?_eq_getElem hml⟩
      have HX := Lib.hid hx
      have HA1 : Hid (al[m]? = some x1) := Lib.hid (by rw [HAs.out, List.getElem?_map, hx]; rfl)
      have z0 := HL.out.cellAt m (by omega)
      rw [List.getElem?_map, List.getElem?_eq_getElem (show m < (rowK al s).length from by rw [rowK_len al s (by rw [HAL.out]; exact hs), HAL.out]; exact hml)] at z0
      have z1 := HL.out.frozenAt m
      have L2 := (HL.out.stored m (.int .i64 1)).1
      rw [map_set_int, hm, rowV_start al m (by rw [HAL.out]; exact hml)] at L2
      have HL2 := Lib.hid L2
      have HB2 := Lib.hid (HB.out.setCell (p := ⟨w.heap.size, m, none⟩) (Nat.le_refl _) (.int .i64 1))
      have hwm : IntKind.i64.wrap ((m : Int) - 1) = (m : Int) - 1 := IntWalk.i64_in _ (by omega)
      have HDl : Hid ((al.drop (m + 1)).length = xs.length - (m + 1)) := Lib.hid (by rw [List.length_drop, HAL.out])
      have HRE := Lib.hid (rowV_end al m x1 HA1.out)
      clear hx L2 HL HB h0 hm
      obtain ⟨W2, HW2⟩ : ∃ W2, Hid (W2 = wr.setCell ⟨w.heap.size, m, none⟩ (.int .i64 1)) := ⟨_, Lib.hid rfl⟩
      rw [← HW2.out] at HL2 HB2
      go_upto_region 6 with fail
      rw [← HW2.out]
      go_wp2_with fail
      go_loopw [5] (fun i wr => ∃ (t q : Nat), t ≤ xs.length - (m + 1) ∧ q = m + 1 + t ∧ i = .int .i64 q ∧ Hid (Below w.heap.size w wr) ∧ Hid (wr.ownsRow w.heap.size 3 1 (.slice (some ⟨w.heap.size, 0, none⟩) xs.length xs.length) xs.length ((rowV al m ((bestT x1 (al.drop (m + 1)) t : Int) + 1)).map (Value.int .i64)))) (fun i _ => xs.length - (intOf i).toNat)
      case atStart => exact ⟨0, m + 1, Nat.zero_le _, rfl, by go_num, HB2, Lib.hid (by rw [bestT_zero]; exact HL2.out)⟩
      case round =>
        obtain ⟨t, q, ht, hq, rfl, HB, HL⟩ := hrel
        clear HB2 HL2
        by_cases hlt : q < xs.length
        · obtain ⟨⟨y1, y2⟩, hy⟩ : ∃ y, xs[q]? = some y := ⟨_, List.getElem?_eq_getElem hlt⟩
          have hdt : (al.drop (m + 1))[t]? = some y1 := by rw [List.getElem?_drop, ← hq, HAs.out, List.getElem?_map, hy]; rfl
          obtain ⟨n, hnt⟩ : ∃ n, (longs (al.drop (m + 1)))[t]? = some n := ⟨_, List.getElem?_eq_getElem (by rw [longs_len]; exact (List.getElem?_eq_some_iff.1 hdt).1)⟩
          have hstep := bestT_next x1 _ t y1 n hdt hnt
          have hnl := longs_le _ t n hnt
          rw [HDl.out] at hnl
          have hbl := bestT_le x1 (al.drop (m + 1)) t
          rw [HDl.out] at hbl
          rcases (HRo.out.kept HB.out) with h0 | ⟨b, o, rfl, hA, hcell⟩
          · rw [h0] at hlt; simp at hlt
          obtain ⟨hc1, _⟩ := hcell m _ HX.out
          obtain ⟨hd1, _⟩ := hcell q _ hy
          dsimp only at hc1 hd1
          have c0 := HL.out.cellAt m (by omega)
          rw [List.getElem?_map, rowV_here] at c0
          have c1 := HL.out.cellAt q (by omega)
          rw [hq, List.getElem?_map, rowV_behind al m t _ n hnt, ← hq] at c1
          have f0 := HL.out.frozenAt m
          have HST := Lib.hid hstep
          have HQ := Lib.hid hq
          have ht1 : t + 1 ≤ xs.length - (m + 1) := by omega
          clear hcell hy hdt hnt hstep hq
          dsimp only [Option.map_some] at c0 c1
          by_cases hxy : x1 < y1
          · have hs2 : Hid (bestT x1 (al.drop (m + 1)) (t + 1) = max (bestT x1 (al.drop (m + 1)) t) n) := Lib.hid (by rw [HST.out, if_pos hxy])
            have HLo := HL
            generalize hbb : bestT x1 (al.drop (m + 1)) t = bb at hs2 hbl c0 HLo
            have hmax : max ((bb : Int) + 1) ((n : Int) + 1) = ((max bb n : Nat) : Int) + 1 := by omega
            have HIf : Hid ((if bb < n then (n : Int) + 1 else (bb : Int) + 1) = ((max bb n : Nat) : Int) + 1) := Lib.hid (by split <;> omega)
            have hwn : IntKind.i64.wrap ((n : Int) + 1) = (n : Int) + 1 := IntWalk.i64_in _ (by omega)
            have L3 := (HL.out.stored m (.int .i64 (((max bb n : Nat) : Int) + 1))).1
            rw [map_set_int, rowV_set, ← hs2.out] at L3
            have HL3 := Lib.hid L3
            clear L3 hbb
            go_wp2_with fail
            go_quiet (fail)
            obtain ⟨V, HV⟩ : ∃ V, Hid (V = wr.drewN nq) := ⟨_, Lib.hid rfl⟩
            have d0 : V.cell? ⟨w.heap.size, m, none⟩ = some (.int .i64 ((bb : Int) + 1)) := by rw [HV.out]; exact c0
            have d1 : V.cell? ⟨w.heap.size, q, none⟩ = some (.int .i64 (n : Int)) := by rw [HV.out]; exact c1
            have g0 : V.frozen? ⟨w.heap.size, m, none⟩ = false := by rw [HV.out]; exact f0
            have HB3 : Hid (Below w.heap.size w (V.drew.setCell ⟨w.heap.size, m, none⟩ (.int .i64 (((max bb n : Nat) : Int) + 1)))) := Lib.hid (by rw [HV.out]; exact ((show Below w.heap.size w (wr.drewN nq).drew from bdn (n := 1) (bdn HB.out))).setCell (p := ⟨w.heap.size, m, none⟩) (Nat.le_refl _) _)
            have HL4 : Hid ((V.drew.setCell ⟨w.heap.size, m, none⟩ (.int .i64 (((max bb n : Nat) : Int) + 1))).ownsRow w.heap.size 3 1 (.slice (some ⟨w.heap.size, 0, none⟩) xs.length xs.length) xs.length ((rowV al m ((bestT x1 (al.drop (m + 1)) (t + 1) : Int) + 1)).map (Value.int .i64))) := Lib.hid (by
              rw [HV.out, hs2.out, ← rowV_set al m ((bb : Int) + 1), ← map_set_int]
              have := ownsRow_below HLo.out (show Below wr.heap.size wr (wr.drewN nq).drew from bdn (n := 1) (bdn (Below.refl _ _)))
              exact (this.stored m (.int .i64 (((max bb n : Nat) : Int) + 1))).1)
            rw [← HV.out]
            clear c0 c1 f0 HL3
            go_upto_region 10 with fail
            go_still_tail 13, (by kernel_rfl)
            rw [show ({ heap := V.heap, tape := V.tape, drawn := V.drawn + 1, os := V.os, output := V.output } : World) = V.drew from rfl]
            go_wp2_with fail
            go_roundw
            case rel => exact ⟨t + 1, q + 1, ht1, by have := HQ.out; omega, by go_num, Lib.hid (by rw [HIf.out]; exact HB3.out), Lib.hid (by rw [HIf.out]; exact HL4.out)⟩
            case measure => simp [intOf]; omega
          · have hs2 : Hid (bestT x1 (al.drop (m + 1)) (t + 1) = bestT x1 (al.drop (m + 1)) t) := Lib.hid (by rw [HST.out, if_neg hxy])
            go_wp2_with fail
            go_quiet (fail)
            have HB3 : Hid (Below w.heap.size w (wr.drewN nq)) := Lib.hid (bdn HB.out)
            have HL3 : Hid ((wr.drewN nq).ownsRow w.heap.size 3 1 (.slice (some ⟨w.heap.size, 0, none⟩) xs.length xs.length) xs.length ((rowV al m ((bestT x1 (al.drop (m + 1)) (t + 1) : Int) + 1)).map (Value.int .i64))) := Lib.hid (by rw [hs2.out]; exact ownsRow_below HL.out (bdn (Below.refl _ _)))
            go_wp2_with fail
            go_roundw
            case rel => exact ⟨t + 1, q + 1, ht1, by have := HQ.out; omega, by go_num, HB3, HL3⟩
            case measure => simp [intOf]; omega
        · have ht2 : t = (al.drop (m + 1)).length := by rw [HDl.out]; omega
          have HL3 : Hid (wr.ownsRow w.heap.size 3 1 (.slice (some ⟨w.heap.size, 0, none⟩) xs.length xs.length) xs.length ((rowK al m).map (Value.int .i64))) := Lib.hid (by have := HL.out; rw [ht2, bestT_all, HRE.out] at this; exact this)
          clear ht2 hq
          go_wp2_with fail
          go_roundw
          case rel => exact ⟨m, by omega, rfl, HB, HL3⟩
          case measure => first | (simp [intOf]; done) | (simp [intOf]; omega)
end Go.Proofs.Ytolcdhdmonaeaaa
