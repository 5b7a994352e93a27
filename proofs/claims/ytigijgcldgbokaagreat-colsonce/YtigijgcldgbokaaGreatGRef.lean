/-
  Which of two choices is better, which are free, which are left beside one that is taken: the document's reference's answers.
  Conditions: lists of at most 2^30 choices.
-/
import Derived.WalkKit
import Derived.WalkMore
import Derived.IntWalk
import Derived.OwnWalk
import Derived.StillTailTactics
import Derived.BigQuiet
import Derived.Deep.QuietTactic
import Derived.Lib.Hide
import Derived.Deep.Cut
import Derived.Deep.Onto
import Derived.Test.YtigijgcldgbokaaGreatProg
import Derived.Test.YtigijgcldgbokaaGreatPkB
namespace Go.Proofs.YtigijgcldgbokaaGreat
open Go.RowKit Go.Shelf
set_option linter.unusedVariables false

/-- choices that come back -/
def TripsOut (l : TL) (w : World) (e : Ending) (w' : World) : Prop := ∃ ao cap, e = .returned (.slice ao l.length cap) ∧ TripAt w' ao l ∧ (ao = none → cap = 0) ∧ l.length ≤ cap ∧ Below w.heap.size w w'
/-- a slice of choices that grows -/
def OwnTL (w : World) (base : Nat) (v : Value) (l : TL) : Prop := w.ownsRow base 86 3 v l.length (cellsT l)
theorem OwnTL.tripAt {w : World} {base : Nat} {v : Value} {l : TL} (h : OwnTL w base v l) : ∃ ao cap, v = .slice ao l.length cap ∧ TripAt w ao l ∧ (ao = none → cap = 0) ∧ l.length ≤ cap := by
  rcases h.2 with ⟨rfl, h0⟩ | ⟨g, cap, cur, rfl, h1, h2, h3, h4, h5, h6⟩
  · have hl : l = [] := List.eq_nil_of_length_eq_zero h0
    subst hl
    exact ⟨none, 0, rfl, .inl rfl, fun _ => rfl, Nat.le_refl _⟩
  · refine ⟨_, cap, rfl, .inr ⟨g, 0, rfl, (World.ownsRow.lt h g rfl).2, fun i p hp => ?_⟩, (fun e => by cases e), h3⟩
    obtain ⟨c1, c2, c3⟩ := cellsT_at l i p hp
    have k1 := World.ownsRow.cells h rfl (i * 3) _ c1
    have k2 := World.ownsRow.cells h rfl (i * 3 + 1) _ c2
    have k3 := World.ownsRow.cells h rfl (i * 3 + 2) _ c3
    have e : ∀ j, (⟨g, 0, none⟩ : Addr).add j = ⟨g, 0 + j, none⟩ := fun j => by unfold Addr.add; split <;> simp_all
    rw [e] at k1 k2 k3
    exact ⟨k1, by rw [Nat.add_assoc]; exact k2, by rw [Nat.add_assoc]; exact k3⟩
theorem OwnTL.end_ {w w' : World} {v : Value} {l : TL} (h : OwnTL w' w.heap.size v l) (hB : Below w.heap.size w w') : TripsOut l w (.returned v) w' := by
  obtain ⟨ao, cap, rfl, h1, h2, h3⟩ := h.tripAt
  exact ⟨ao, cap, rfl, h1, h2, h3, hB⟩
theorem lit_cell3 (w : World) (a b c : Value) (T : TypeId) : ∀ (j : Nat) u, [a, b, c][j]? = some u → (w.alloc (.cells #[a, b, c] T)).cell? ((⟨w.heap.size, 0, none⟩ : Addr).add j) = some u := fun j u hj => by
  rw [cell_row (World.alloc_heap_new w _)]
  match j, hj with
  | 0, hj => simp at hj; subst hj; rfl
  | 1, hj => simp at hj; subst hj; rfl
  | 2, hj => simp at hj; subst hj; rfl
theorem filt_next {p : T3 → Bool} {xs : TL} {k : Nat} {x : T3} (hx : xs[k]? = some x) : (xs.take (k + 1)).filter p = (xs.take k).filter p ++ if p x then [x] else [] := by
  obtain ⟨hk, e⟩ := List.getElem?_eq_some_iff.1 hx
  rw [List.take_succ_eq_append_getElem hk, e, List.filter_append, List.filter_cons]
  simp
theorem filt_le (p : T3 → Bool) (xs : TL) (k : Nat) : ((xs.take k).filter p).length ≤ k := Nat.le_trans (List.length_filter_le _ _) (List.length_take_le _ _)

set_option maxRecDepth 100000 in
set_option maxHeartbeats 1000000 in
theorem rbetter_any (c d : T3) (w : World) :
    Calls Tryz.prog 55 #[.agg #[.int .i64 c.1, .int .i64 c.2.1, .int .i64 c.2.2], .agg #[.int .i64 d.1, .int .i64 d.2.1, .int .i64 d.2.2]] w fun e w' => e = .returned (.bool (betterT c d)) ∧ Below w.heap.size w w' := by
  obtain ⟨c1, c2, c3⟩ := c
  obtain ⟨d1, d2, d3⟩ := d
  have E1 : Hid (¬ c3 = d3 → betterT (c1, c2, c3) (d1, d2, d3) = decide (d3 < c3)) := Lib.hid (fun h => by simp [betterT, h])
  have E2 : Hid (c3 = d3 → ¬ c1 = d1 → betterT (c1, c2, c3) (d1, d2, d3) = decide (c1 < d1)) := Lib.hid (fun h k => by simp [betterT, h, k])
  have E3 : Hid (c3 = d3 → c1 = d1 → betterT (c1, c2, c3) (d1, d2, d3) = decide (c2 < d2)) := Lib.hid (fun h k => by simp [betterT, h, k])
  generalize betterT (c1, c2, c3) (d1, d2, d3) = t at E1 E2 E3 ⊢
  dsimp only
  obtain ⟨V, HV⟩ : ∃ V, Hid (V = (w.alloc (.cells #[.int .i64 c1, .int .i64 c2, .int .i64 c3] 86)).alloc (.cells #[.int .i64 d1, .int .i64 d2, .int .i64 d3] 86)) := ⟨_, Lib.hid rfl⟩
  have hB : Below w.heap.size w V := by rw [HV.out]; exact two_below _ _ _
  have hA : V.heap[w.heap.size]? = some (.cells #[.int .i64 c1, .int .i64 c2, .int .i64 c3] 86 (0, 0)) := by rw [HV.out]; exact (two_new _ _ _).2.1
  have hD : V.heap[w.heap.size + 1]? = some (.cells #[.int .i64 d1, .int .i64 d2, .int .i64 d3] 86 (0, 0)) := by rw [HV.out]; exact (two_new _ _ _).2.2
  have a0 : V.cell? ⟨w.heap.size, 0, none⟩ = some (.int .i64 c1) := (Lib.cell_of_heap hA 0).trans rfl
  have a1 : V.cell? ⟨w.heap.size, 1, none⟩ = some (.int .i64 c2) := (Lib.cell_of_heap hA 1).trans rfl
  have a2 : V.cell? ⟨w.heap.size, 2, none⟩ = some (.int .i64 c3) := (Lib.cell_of_heap hA 2).trans rfl
  have b0 : V.cell? ⟨w.heap.size + 1, 0, none⟩ = some (.int .i64 d1) := (Lib.cell_of_heap hD 0).trans rfl
  have b1 : V.cell? ⟨w.heap.size + 1, 1, none⟩ = some (.int .i64 d2) := (Lib.cell_of_heap hD 1).trans rfl
  have b2 : V.cell? ⟨w.heap.size + 1, 2, none⟩ = some (.int .i64 d3) := (Lib.cell_of_heap hD 2).trans rfl
  have HB := Lib.hid hB
  clear hA hD hB
  by_cases h1 : c3 = d3
  · subst h1
    by_cases h2 : c1 = d1
    · subst h2
      have E := Lib.hid (E3.out rfl rfl)
      clear E1 E2 E3
      go_enter Tryz.func55, Tryz.ntmps55
      go_upto_region 1 with fail
      rw [← HV.out]
      go_wp2_with fail
      go_ret
      exact ⟨by rw [E.out]; rfl, HB.out⟩
    · have E := Lib.hid (E2.out rfl h2)
      clear E1 E2 E3
      go_enter Tryz.func55, Tryz.ntmps55
      go_upto_region 1 with fail
      rw [← HV.out]
      go_wp2_with fail
      go_ret
      exact ⟨by rw [E.out]; rfl, HB.out⟩
  · have E := Lib.hid (E1.out h1)
    clear E1 E2 E3
    go_enter Tryz.func55, Tryz.ntmps55
    go_upto_region 1 with fail
    rw [← HV.out]
    go_wp2_with fail
    go_ret
    exact ⟨by rw [E.out]; rfl, HB.out⟩

set_option maxRecDepth 100000 in
set_option maxHeartbeats 1500000 in
theorem rfree_any (ao : Option Addr) (cap : Nat) (xs : TL) (w : World) (hn : xs.length ≤ 1073741824) (hR : TripAt w ao xs) :
    Calls Tryz.prog 54 #[.slice ao xs.length cap] w (TripsOut (freeT xs) w) := by
  have hinfo : (Tryz.prog.info? 86).map (fun i => (i.zero, i.size, i.bytes)) = some (some (.agg #[.int .i64 0, .int .i64 0, .int .i64 0]), 3, 24) := by kernel_rfl
  obtain ⟨i0, hi, hz0, hz1, hz2⟩ := info_parts3 hinfo
  have HI := Lib.hid hi
  have HRo := Lib.hid hR
  obtain ⟨O, HQ⟩ : ∃ O : Nat → TL, Hid (O = fun k => freeT (xs.take k)) := ⟨_, Lib.hid rfl⟩
  have HNy : Hid (∀ (k : Nat) x, xs[k]? = some x → 0 ≤ x.1 → 0 ≤ x.2.1 → O (k + 1) = O k ++ [x]) := Lib.hid (fun k x hx h1 h2 => by rw [HQ.out]; show freeT _ = freeT _ ++ _; unfold freeT; rw [filt_next hx]; simp [h1, h2])
  have HNn : Hid (∀ (k : Nat) x, xs[k]? = some x → ¬ (0 ≤ x.1 ∧ 0 ≤ x.2.1) → O (k + 1) = O k) := Lib.hid (fun k x hx h => by
    have e : (decide (0 ≤ x.1) && decide (0 ≤ x.2.1)) = false := by rw [← Bool.decide_and]; exact decide_eq_false h
    rw [HQ.out]; show freeT _ = freeT _; unfold freeT; rw [filt_next hx, e]; simp)
  have HLe : Hid (∀ k, (O k).length ≤ k) := Lib.hid (fun k => by rw [HQ.out]; exact filt_le _ _ _)
  have HZ : Hid (O 0 = []) := Lib.hid (by rw [HQ.out]; rfl)
  rw [show freeT xs = O xs.length from by rw [HQ.out]; simp]
  have hL0 : (O 0).length = 0 := by rw [HZ.out]; rfl
  have HT : Hid (OwnTL w w.heap.size (.slice none 0 0) (O 0)) := Lib.hid (by rw [HZ.out]; exact World.ownsRow_nil _ _ _ _)
  clear hi hinfo hR
  go_enter Tryz.func54, Tryz.ntmps54
  go_wp2_with fail
  go_loopw [3, 4] (fun v i wr => ∃ (k q cp : Nat) (go : Option Addr), k ≤ xs.length ∧ i = .int .i64 k ∧ v = .slice go q cp ∧ Hid (q = (O k).length) ∧ Hid (Below w.heap.size w wr) ∧ Hid (OwnTL wr w.heap.size (.slice go q cp) (O k))) (fun _ i _ => xs.length - (intOf i).toNat)
  case atStart => exact ⟨0, 0, 0, none, Nat.zero_le _, rfl, rfl, Lib.hid hL0.symm, Lib.hid (Below.refl _ _), HT⟩
  case round =>
    obtain ⟨k, q, cp, go, hk, rfl, rfl, HQ2, HB, HT⟩ := hrel
    by_cases hlt : k < xs.length
    · obtain ⟨⟨x1, x2, x3⟩, hx⟩ : ∃ x, xs[k]? = some x := ⟨_, List.getElem?_eq_getElem hlt⟩
      rcases (HRo.out.kept HB.out) with h0 | ⟨b, o, rfl, hA, hcell⟩
      · rw [h0] at hlt; simp at hlt
      obtain ⟨hc1, hc2, hc3⟩ := hcell k _ hx
      have HS1 := Lib.hid (HNy.out k _ hx)
      have HS2 := Lib.hid (HNn.out k _ hx)
      dsimp only at hc1 hc2 hc3 HS1 HS2
      clear hcell hx
      by_cases h1 : 0 ≤ x1
      · by_cases h2 : 0 ≤ x2
        · have hq : q ≤ k := by rw [HQ2.out]; exact HLe.out k
          have HST := Lib.hid (HS1.out h1 h2)
          have HTO : Hid (wr.ownsRow w.heap.size 86 3 (.slice go q cp) q (cellsT (O k))) := Lib.hid (by have := HT.out; unfold OwnTL at this; rw [← HQ2.out] at this; exact this)
          have HT1 := Lib.hid (HTO.out.alloc (.cells #[Value.int .i64 x1, Value.int .i64 x2, Value.int .i64 x3] 86))
          have hws := HB.out.size
          have hbs : w.heap.size ≤ (wr.alloc (.cells #[Value.int .i64 x1, Value.int .i64 x2, Value.int .i64 x3] 86)).heap.size := by simp; omega
          clear HS1 HS2
          go_wp2_with (at_builtin; refine wpList_append_own _ rfl _ _ 52 rfl w.heap.size 86 i0 (.agg #[.int .i64 0, .int .i64 0, .int .i64 0]) 3 24 Tryz.underlying52 HI.out hz0 hz1 hz2 rfl (by decide) _ _ _ rfl HT1.out ⟨wr.heap.size, 0, none⟩ 1 1 [Value.int .i64 x1, Value.int .i64 x2, Value.int .i64 x3] rfl rfl (lit_cell3 wr _ _ _ _) (fun u hu => by simp at hu; rcases hu with rfl | rfl | rfl <;> rfl) (by unfold maxLen; omega) (by omega) hbs ?_)
          intro v' w3 hown' hgrow _
          obtain ⟨g, gc, rfl⟩ := ownsRow_succ hown'
          have HB3 := Lib.hid ((HB.out.alloc HB.out.size (.cells #[Value.int .i64 x1, Value.int .i64 x2, Value.int .i64 x3] 86)).grown hgrow hbs (fun j h => (HTO.out.lt j h).1))
          have HQ3 : Hid (q + 1 = (O (k + 1)).length) := Lib.hid (by rw [HST.out, List.length_append, ← HQ2.out]; rfl)
          have HT3 : Hid (OwnTL w3 w.heap.size (.slice (some ⟨g, 0, none⟩) (q + 1) gc) (O (k + 1))) := Lib.hid (by unfold OwnTL; rw [← HQ3.out, HST.out, cellsT_app]; exact hown')
          clear hown' hgrow hbs
          go_wp2_with fail
          go_roundw
          case rel => exact ⟨k + 1, q + 1, gc, _, by omega, by go_num, rfl, HQ3, HB3, HT3⟩
          case measure => simp [intOf]; omega
        · have hstep := HS2.out (fun h => h2 h.2)
          have HT2 : Hid (OwnTL wr w.heap.size (.slice go q cp) (O (k + 1))) := Lib.hid (by rw [hstep]; exact HT.out)
          have HQ3 : Hid (q = (O (k + 1)).length) := Lib.hid (by rw [hstep]; exact HQ2.out)
          clear hstep HS1 HS2
          go_wp2_with fail
          go_roundw
          case rel => exact ⟨k + 1, q, cp, go, by omega, by go_num, rfl, HQ3, HB, HT2⟩
          case measure => simp [intOf]; omega
      · have hstep := HS2.out (fun h => h1 h.1)
        have HT2 : Hid (OwnTL wr w.heap.size (.slice go q cp) (O (k + 1))) := Lib.hid (by rw [hstep]; exact HT.out)
        have HQ3 : Hid (q = (O (k + 1)).length) := Lib.hid (by rw [hstep]; exact HQ2.out)
        clear hstep HS1 HS2
        go_wp2_with fail
        go_roundw
        case rel => exact ⟨k + 1, q, cp, go, by omega, by go_num, rfl, HQ3, HB, HT2⟩
        case measure => simp [intOf]; omega
    · obtain rfl : k = xs.length := by omega
      have HE := Lib.hid (OwnTL.end_ HT.out HB.out)
      clear HT
      go_wp2_with fail
      go_ret
      exact HE.out

set_option maxRecDepth 100000 in
set_option maxHeartbeats 1500000 in
theorem rwithout_any (ao : Option Addr) (cap : Nat) (xs : TL) (z : T3) (w : World) (hn : xs.length ≤ 1073741824) (hR : TripAt w ao xs) :
    Calls Tryz.prog 56 #[.slice ao xs.length cap, .agg #[.int .i64 z.1, .int .i64 z.2.1, .int .i64 z.2.2]] w (TripsOut (withoutT xs z) w) := by
  have hinfo : (Tryz.prog.info? 86).map (fun i => (i.zero, i.size, i.bytes)) = some (some (.agg #[.int .i64 0, .int .i64 0, .int .i64 0]), 3, 24) := by kernel_rfl
  obtain ⟨i0, hi, hz0, hz1, hz2⟩ := info_parts3 hinfo
  obtain ⟨z1, z2, z3⟩ := z
  have HI := Lib.hid hi
  obtain ⟨O, HQ⟩ : ∃ O : Nat → TL, Hid (O = fun k => withoutT (xs.take k) (z1, z2, z3)) := ⟨_, Lib.hid rfl⟩
  have HNy : Hid (∀ (k : Nat) x, xs[k]? = some x → ¬ x.1 = z1 → ¬ x.2.1 = z2 → O (k + 1) = O k ++ [x]) := Lib.hid (fun k x hx h1 h2 => by rw [HQ.out]; show withoutT _ _ = withoutT _ _ ++ _; unfold withoutT; rw [filt_next hx]; simp [h1, h2])
  have HNn : Hid (∀ (k : Nat) x, xs[k]? = some x → (x.1 = z1 ∨ x.2.1 = z2) → O (k + 1) = O k) := Lib.hid (fun k x hx h => by
    have e : (decide (x.1 ≠ z1) && decide (x.2.1 ≠ z2)) = false := by rw [← Bool.decide_and]; exact decide_eq_false (fun g => h.elim g.1 g.2)
    rw [HQ.out]; show withoutT _ _ = withoutT _ _; unfold withoutT; rw [filt_next hx]; dsimp only; rw [e]; simp)
  have HLe : Hid (∀ k, (O k).length ≤ k) := Lib.hid (fun k => by rw [HQ.out]; exact filt_le _ _ _)
  have HZ : Hid (O 0 = []) := Lib.hid (by rw [HQ.out]; rfl)
  rw [show withoutT xs (z1, z2, z3) = O xs.length from by rw [HQ.out]; simp]
  have hL0 : (O 0).length = 0 := by rw [HZ.out]; rfl
  dsimp only
  obtain ⟨V, HV⟩ : ∃ V, Hid (V = w.alloc (.cells #[.int .i64 z1, .int .i64 z2, .int .i64 z3] 86)) := ⟨_, Lib.hid rfl⟩
  have hVh : V.heap[w.heap.size]? = some (.cells #[.int .i64 z1, .int .i64 z2, .int .i64 z3] 86 (0, 0)) := by rw [HV.out]; exact World.alloc_heap_new _ _
  have HVh := Lib.hid hVh
  have hVB : Below w.heap.size w V := by rw [HV.out]; exact (Below.refl _ w).alloc (Nat.le_refl _) _
  have HVB := Lib.hid hVB
  have HRo := Lib.hid (hR.kept hVB)
  have HBox : Hid (∀ W, Below V.heap.size V W → W.cell? ⟨w.heap.size, 0, none⟩ = some (.int .i64 z1) ∧ W.cell? ⟨w.heap.size, 1, none⟩ = some (.int .i64 z2)) := Lib.hid (fun W h => by
    have := (h.block _ (lt_of_heap HVh.out)).trans HVh.out
    exact ⟨(Lib.cell_of_heap this 0).trans rfl, (Lib.cell_of_heap this 1).trans rfl⟩)
  have HT : Hid (OwnTL V V.heap.size (.slice none 0 0) (O 0)) := Lib.hid (by rw [HZ.out]; exact World.ownsRow_nil _ _ _ _)
  clear hi hinfo hR hVh hVB
  go_enter Tryz.func56, Tryz.ntmps56
  go_upto_region 1 with fail
  rw [← HV.out]
  go_wp2_with fail
  go_loopw [5, 6] (fun v i wr => ∃ (k q cp : Nat) (go : Option Addr), k ≤ xs.length ∧ i = .int .i64 k ∧ v = .slice go q cp ∧ Hid (q = (O k).length) ∧ Hid (Below V.heap.size V wr) ∧ Hid (OwnTL wr V.heap.size (.slice go q cp) (O k))) (fun _ i _ => xs.length - (intOf i).toNat)
  case atStart => exact ⟨0, 0, 0, none, Nat.zero_le _, rfl, rfl, Lib.hid hL0.symm, Lib.hid (Below.refl _ _), HT⟩
  case round =>
    obtain ⟨k, q, cp, go, hk, rfl, rfl, HQ2, HB, HT⟩ := hrel
    by_cases hlt : k < xs.length
    · obtain ⟨⟨x1, x2, x3⟩, hx⟩ : ∃ x, xs[k]? = some x := ⟨_, List.getElem?_eq_getElem hlt⟩
      obtain ⟨y0, y1⟩ := HBox.out wr HB.out
      rcases (HRo.out.kept HB.out) with h0 | ⟨b, o, rfl, hA, hcell⟩
      · rw [h0] at hlt; simp at hlt
      obtain ⟨hc1, hc2, hc3⟩ := hcell k _ hx
      have HS1 := Lib.hid (HNy.out k _ hx)
      have HS2 := Lib.hid (HNn.out k _ hx)
      dsimp only at hc1 hc2 hc3 HS1 HS2
      clear hcell hx
      by_cases h1 : x1 = z1
      · have hstep := HS2.out (.inl h1)
        have HT2 : Hid (OwnTL wr V.heap.size (.slice go q cp) (O (k + 1))) := Lib.hid (by rw [hstep]; exact HT.out)
        have HQ3 : Hid (q = (O (k + 1)).length) := Lib.hid (by rw [hstep]; exact HQ2.out)
        subst h1
        clear hstep HS1 HS2
        go_upto_region 5 with fail
        go_quiet (fail)
        have HB2 : Hid (Below V.heap.size V (wr.drewN nq)) := Lib.hid (bdn HB.out)
        have HT4 : Hid (OwnTL (wr.drewN nq) V.heap.size (.slice go q cp) (O (k + 1))) := Lib.hid (ownsRowP_below HT2.out (bdn (Below.refl _ _)))
        go_wp2_with fail
        go_roundw
        case rel => exact ⟨k + 1, q, cp, go, by omega, by go_num, rfl, HQ3, HB2, HT4⟩
        case measure => simp [intOf]; omega
      · by_cases h2 : x2 = z2
        · have hstep := HS2.out (.inr h2)
          have HT2 : Hid (OwnTL wr V.heap.size (.slice go q cp) (O (k + 1))) := Lib.hid (by rw [hstep]; exact HT.out)
          have HQ3 : Hid (q = (O (k + 1)).length) := Lib.hid (by rw [hstep]; exact HQ2.out)
          subst h2
          clear hstep HS1 HS2
          go_upto_region 5 with fail
          go_quiet (fail)
          have HB2 : Hid (Below V.heap.size V (wr.drewN nq)) := Lib.hid (bdn HB.out)
          have HT4 : Hid (OwnTL (wr.drewN nq) V.heap.size (.slice go q cp) (O (k + 1))) := Lib.hid (ownsRowP_below HT2.out (bdn (Below.refl _ _)))
          go_wp2_with fail
          go_roundw
          case rel => exact ⟨k + 1, q, cp, go, by omega, by go_num, rfl, HQ3, HB2, HT4⟩
          case measure => simp [intOf]; omega
        · have hq : q ≤ k := by rw [HQ2.out]; exact HLe.out k
          have HST := Lib.hid (HS1.out h1 h2)
          have e1 : (x1 != z1) = true := by simp [h1]
          have e2 : (x2 != z2) = true := by simp [h2]
          clear HS1 HS2
          go_upto_region 5 with fail
          go_quiet (fail)
          obtain ⟨wq, hwq⟩ : ∃ wq, wq = wr.drewN nq := ⟨_, rfl⟩
          have bq : Below wr.heap.size wr wq := by rw [hwq]; exact bdn (Below.refl _ _)
          have HB2 : Hid (Below V.heap.size V wq) := Lib.hid (below_up HB.out bq)
          have HTO : Hid (wq.ownsRow V.heap.size 86 3 (.slice go q cp) q (cellsT (O k))) := Lib.hid (by have := ownsRowP_below HT.out bq; rw [← HQ2.out] at this; exact this)
          have d1 : wq.cell? ⟨b, o + k * 3, none⟩ = some (.int .i64 x1) := (bq.cell (p := ⟨b, o + k * 3, none⟩) hA).trans hc1
          have d2 : wq.cell? ⟨b, o + k * 3 + 1, none⟩ = some (.int .i64 x2) := (bq.cell (p := ⟨b, o + k * 3 + 1, none⟩) hA).trans hc2
          have d3 : wq.cell? ⟨b, o + k * 3 + 2, none⟩ = some (.int .i64 x3) := (bq.cell (p := ⟨b, o + k * 3 + 2, none⟩) hA).trans hc3
          rw [← hwq]
          have HT1 := Lib.hid (HTO.out.alloc (.cells #[Value.int .i64 x1, Value.int .i64 x2, Value.int .i64 x3] 86))
          have hws := HB2.out.size
          have hbs : V.heap.size ≤ (wq.alloc (.cells #[Value.int .i64 x1, Value.int .i64 x2, Value.int .i64 x3] 86)).heap.size := by simp; omega
          clear hc1 hc2 hc3 y0 y1 bq hwq hA
          go_wp2_with (at_builtin; refine wpList_append_own _ rfl _ _ 52 rfl V.heap.size 86 i0 (.agg #[.int .i64 0, .int .i64 0, .int .i64 0]) 3 24 Tryz.underlying52 HI.out hz0 hz1 hz2 rfl (by decide) _ _ _ rfl HT1.out ⟨wq.heap.size, 0, none⟩ 1 1 [Value.int .i64 x1, Value.int .i64 x2, Value.int .i64 x3] rfl rfl (lit_cell3 wq _ _ _ _) (fun u hu => by simp at hu; rcases hu with rfl | rfl | rfl <;> rfl) (by unfold maxLen; omega) (by omega) hbs ?_)
          intro v' w3 hown' hgrow _
          obtain ⟨g, gc, rfl⟩ := ownsRow_succ hown'
          have HB3 := Lib.hid ((HB2.out.alloc HB2.out.size (.cells #[Value.int .i64 x1, Value.int .i64 x2, Value.int .i64 x3] 86)).grown hgrow hbs (fun j h => (HTO.out.lt j h).1))
          have HQ3 : Hid (q + 1 = (O (k + 1)).length) := Lib.hid (by rw [HST.out, List.length_append, ← HQ2.out]; rfl)
          have HT3 : Hid (OwnTL w3 V.heap.size (.slice (some ⟨g, 0, none⟩) (q + 1) gc) (O (k + 1))) := Lib.hid (by unfold OwnTL; rw [← HQ3.out, HST.out, cellsT_app]; exact hown')
          clear hown' hgrow hbs d1 d2 d3
          go_wp2_with fail
          go_roundw
          case rel => exact ⟨k + 1, q + 1, gc, _, by omega, by go_num, rfl, HQ3, HB3, HT3⟩
          case measure => simp [intOf]; omega
    · obtain rfl : k = xs.length := by omega
      have HE := Lib.hid (OwnTL.end_ (show OwnTL wr w.heap.size _ _ from World.ownsRow.mono HT.out HVB.out.size) (below_up HVB.out HB.out))
      clear HT
      go_wp2_with fail
      go_ret
      exact HE.out
end Go.Proofs.YtigijgcldgbokaaGreat
