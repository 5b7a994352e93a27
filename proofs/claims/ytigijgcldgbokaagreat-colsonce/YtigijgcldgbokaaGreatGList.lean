/-
  A copy of choices, as the program makes it.
  Conditions: lists of at most 2^30 choices.
-/
import Derived.WalkKit
import Derived.WalkMore
import Derived.OwnWalk
import Derived.Lib.Hide
import Derived.Lib.SmallJoins
import Derived.Deep.Cut
import Derived.Test.YtigijgcldgbokaaGreatProg
import Derived.Test.YtigijgcldgbokaaGreatPkB
namespace Go.Proofs.YtigijgcldgbokaaGreat
open Go.RowKit Go.Shelf
set_option linter.unusedVariables false

set_option maxRecDepth 100000 in
set_option maxHeartbeats 1000000 in
theorem glist_any (ao : Option Addr) (cap : Nat) (xs : TL) (w : World) (hn : xs.length ≤ 1073741824) (hR : TripAt w ao xs) :
    Calls Tryz.prog 124 #[.slice ao xs.length cap] w fun e w' => ∃ g, e = .returned (.slice (some ⟨g, 0, none⟩) xs.length xs.length) ∧ OwnT w' w.heap.size 152 g xs.length xs ∧ Below w.heap.size w w' := by
  have hinfo : (Tryz.prog.info? 152).map (fun i => (i.zero, i.size, i.bytes)) = some (some (.agg #[.int .i64 0, .int .i64 0, .int .i64 0]), 3, 24) := by kernel_rfl
  obtain ⟨i0, hi, hz0, hz1, hz2⟩ := info_parts3 hinfo
  have HI := Lib.hid hi
  have HRo := Lib.hid hR
  have hm : xs.length ≤ maxLen := by unfold maxLen; omega
  clear hi hinfo hR
  go_enter Tryz.func124, Tryz.ntmps124
  go_wp2_with (at_make; refine wpList_make_full _ rfl _ _ 149 rfl w.heap.size 152 i0 (.agg #[.int .i64 0, .int .i64 0, .int .i64 0]) 3 Tryz.underlying149 HI.out hz0 hz1 .i64 .i64 (xs.length : Int) (xs.length : Int) xs.length rfl rfl rfl rfl (by rw [hz2]; omega) hm (Nat.le_refl _) ?_; intro w1 ho hg)
  have HB : Hid (Below w.heap.size w w1) := Lib.hid ((Below.refl _ w).grown hg (Nat.le_refl _) (fun k h => by cases h))
  have HT : Hid (OwnT w1 w.heap.size 152 w.heap.size xs.length (copyT xs 0)) := Lib.hid ⟨copyT_len xs 0 (Nat.zero_le _), by rw [copyT_zero, ← cellsT_zero]; exact ho⟩
  clear ho hg
  go_wp2_with fail
  go_loopw [11] (fun i wr => ∃ (k : Nat), k ≤ xs.length ∧ i = .int .i64 k ∧ Hid (Below w.heap.size w wr) ∧ Hid (OwnT wr w.heap.size 152 w.heap.size xs.length (copyT xs k))) (fun i _ => xs.length - (intOf i).toNat)
  case atStart => exact ⟨0, Nat.zero_le _, rfl, HB, HT⟩
  case round =>
    obtain ⟨k, hk, rfl, HB, HT⟩ := hrel
    by_cases hlt : k < xs.length
    · obtain ⟨⟨x1, x2, x3⟩, hx⟩ : ∃ x, xs[k]? = some x := ⟨_, List.getElem?_eq_getElem hlt⟩
      rcases (HRo.out.kept HB.out) with h0 | ⟨b, o, rfl, hA, hcell⟩
      · rw [h0] at hlt; simp at hlt
      obtain ⟨hc1, hc2, hc3⟩ := hcell k _ hx
      dsimp only at hc1 hc2 hc3
      obtain ⟨V, HV⟩ : ∃ V, Hid (V = wr.alloc (.cells #[.int .i64 x1, .int .i64 x2, .int .i64 x3] 86)) := ⟨_, Lib.hid rfl⟩
      have hVh : V.heap[wr.heap.size]? = some (.cells #[.int .i64 x1, .int .i64 x2, .int .i64 x3] 86 (0, 0)) := by rw [HV.out]; exact World.alloc_heap_new _ _
      have v0 : V.cell? ⟨wr.heap.size, 0, none⟩ = some (.int .i64 x1) := (Lib.cell_of_heap hVh 0).trans rfl
      have v1 : V.cell? ⟨wr.heap.size, 1, none⟩ = some (.int .i64 x2) := (Lib.cell_of_heap hVh 1).trans rfl
      have v2 : V.cell? ⟨wr.heap.size, 2, none⟩ = some (.int .i64 x3) := (Lib.cell_of_heap hVh 2).trans rfl
      have hb0 : Below wr.heap.size wr V := by rw [HV.out]; exact (Below.refl _ wr).alloc (Nat.le_refl _) _
      have HT1 := HT.out.kept hb0
      obtain ⟨⟨y1, y2, y3⟩, hy⟩ : ∃ y, (copyT xs k)[k]? = some y := ⟨_, List.getElem?_eq_getElem (by rw [copyT_len xs k hk]; exact hlt)⟩
      obtain ⟨z0, z1, z2⟩ := HT1.cell k _ hy
      have f0 := HT1.frozen (k * 3)
      have f1 := HT1.frozen (k * 3 + 1)
      have f2 := HT1.frozen (k * 3 + 2)
      have T2 := HT1.store k x1 x2 x3 hlt
      rw [copyT_next xs k _ hx] at T2
      have HT2 := Lib.hid T2
      have HB2 := Lib.hid ((((below_up HB.out hb0).setCell (p := ⟨w.heap.size, k * 3, none⟩) (Nat.le_refl _) (.int .i64 x1)).setCell (p := ⟨w.heap.size, k * 3 + 1, none⟩) (Nat.le_refl _) (.int .i64 x2)).setCell (p := ⟨w.heap.size, k * 3 + 2, none⟩) (Nat.le_refl _) (.int .i64 x3))
      clear hcell hx hb0 hVh HT1 hy T2 HT HB
      go_upto_region 5 with fail
      rw [← HV.out]
      go_wp2_with fail
      go_roundw
      case rel => exact ⟨k + 1, by omega, by go_num, HB2, HT2⟩
      case measure => simp [intOf]; omega
    · obtain rfl : k = xs.length := by omega
      have T2 := HT.out
      rw [copyT_all] at T2
      have HT2 := Lib.hid T2
      clear T2 HT
      go_wp2_with fail
      go_ret
      exact ⟨w.heap.size, rfl, HT2.out, HB.out⟩
end Go.Proofs.YtigijgcldgbokaaGreat
