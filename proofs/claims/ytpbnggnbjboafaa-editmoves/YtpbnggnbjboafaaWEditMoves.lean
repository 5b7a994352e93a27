/-
  The walk of the statement EditMoves.
  Conditions: none beyond the form of claims.
-/
import Derived.WalkKit
import Derived.WalkMore
import Derived.Lib.Hide
import Derived.Deep.QuietTactic
import Derived.BigQuiet
import Derived.Lib.QuietBelow
import Derived.Deep.RegionWith
import Derived.Deep.CutRange
import Derived.Test.YtpbnggnbjboafaaProg
import Derived.Test.YtpbnggnbjboafaaEOpen
namespace Go.Proofs.Ytpbnggnbjboafaa
open Go.RowKit Go.Shelf
set_option linter.unusedVariables false

set_option maxRecDepth 100000 in
set_option maxHeartbeats 8000000 in
theorem walkEditMoves (ho : Option Addr) (hc : Nat) (hd : List ByteArray) (ro : Option Addr) (rc : Nat) (rs : List (List ByteArray)) (f t : Int) (w : World)
    (hA : StrArg w ho hc hd) (hB : RowsArg w ro rc rs) (hf : (Lit.int .i64 f).wf = true) (ht : (Lit.int .i64 t).wf = true) :
    Calls Try.prog 4 #[.agg #[.slice ho hd.length hc, .slice ro rs.length rc], .int .i64 f, .int .i64 t] w fun e w' => e = .returned (.bool true) ∧ Below w.heap.size w w' := by
  obtain ⟨W, HW⟩ : ∃ W, Hid (W = w.alloc (TabO ho hd.length hc ro rs.length rc)) := ⟨_, Lib.hid rfl⟩
  have HW2 : Hid (W = w.alloc (Obj.cells #[Value.slice ho hd.length hc, Value.slice ro rs.length rc] 25)) := Lib.hid HW.out
  have hb0 : Below w.heap.size w W := by rw [HW.out]; exact one_below _ _
  have hN : W.heap[w.heap.size]? = some (TabO ho hd.length hc ro rs.length rc) := by rw [HW.out]; exact World.alloc_heap_new w _
  have HA := Lib.hid hA
  have HB := Lib.hid hB
  have B0 := Lib.hid hb0
  have box : Hid (∀ V, Below W.heap.size W V → V.cell? ⟨w.heap.size, 0, none⟩ = some (.slice ho hd.length hc) ∧ V.cell? ⟨w.heap.size, 1, none⟩ = some (.slice ro rs.length rc)) := Lib.hid (fun V hV => tabs ((hV.block _ (lt_of_heap hN)).trans hN))
  clear hA hB hb0 hN hf ht
  go_enter Try.func4, Try.ntmps4
  go_wp2_with fail
  rw [← HW2.out]
  refine (eworks_any _).mono ?_; rintro e w1 ⟨rfl, b1⟩
  obtain ⟨p0, p1⟩ := box.out w1 b1
  have X1 := below_up B0.out b1
  have B1 := Lib.hid b1
  have C1 := Lib.hid (rfew_any ho hc hd ro rc rs w1 HA.out.len HB.out.len HB.out.each HA.out.size (HA.out.row.kept X1) (HB.out.rows.kept X1))
  clear b1 X1 HW HW2
  go_wp2_with fail
  refine C1.out.mono ?_; rintro e w2 ⟨b, rfl, hb, b2⟩
  have B2 := Lib.hid (below_up B1.out b2)
  clear b2 p0 p1 C1 B1
  cases b with
  | false =>
    go_wp2_with fail
    go_ret
    exact ⟨rfl, below_up B0.out B2.out⟩
  | true =>
    have HT := Lib.hid (few_ti (hb rfl))
    clear hb
    have HH : Hid (∀ V, Below W.heap.size W V → StrRow V ho hd) := Lib.hid (fun V hV => HA.out.row.kept (below_up B0.out hV))
    have HR : Hid (∀ V, Below W.heap.size W V → RowsAt V ro rs) := Lib.hid (fun V hV => HB.out.rows.kept (below_up B0.out hV))
    obtain ⟨p0, p1⟩ := box.out w2 B2.out
    have C := Lib.hid (eMoveCol ho ro hd rs HA.out.cp HB.out.cp f t w2 HT.out (HH.out _ B2.out) (HR.out _ B2.out))
    have M := Lib.hid (fun h r => @moves_cols hd h rs r f t)
    have E := Lib.hid (fun x => @cols_ne (fun xs => movL xs f t) hd rs x (fun xs => mov_ne))
    generalize turnR (colsH (fun xs => movL xs f t)) (colsR (fun xs => movL xs f t)) hd rs = X at C M E
    go_wp2_with fail
    refine C.out.mono ?_; intro e w3 q
    clear C p0 p1
    have B3 := Lib.hid (below_up B2.out q.below)
    obtain ⟨qo, qn, qc, so, sn, sc, x, rfl⟩ := q.shape
    have Q := Lib.hid q
    clear q
    have hB3 := one_below w3 (TabO qo qn qc so sn sc)
    have B4 := Lib.hid (below_up B3.out hB3)
    have HN4 := Lib.hid (World.alloc_heap_new w3 (TabO qo qn qc so sn sc))
    clear hB3
    go_upto_if 33 with fail
    go_cut [9] from 11 to 70 (fun v wc => v = .pointer (some ⟨w3.heap.size, 0, none⟩) ∧ Hid (Below W.heap.size W wc))
    case first =>
      rcases Q.out.parts with ⟨rfl, rfl, rfl⟩ | ⟨h, r, rfl, rfl, rfl, rfl, k1, k2, k3, k4⟩
      · have hx := E.out x rfl
        have hb : (x == 0) = false := by simp [hx]
        clear hx Q
        go_wp2_with fail
        go_meet
        exact ⟨rfl, B4⟩
      · obtain ⟨m1, m2, m3, i, j, z, rfl, rfl, hi, hj, hzi, hzj⟩ := M.out h r rfl
        have C := Lib.hid (eMoveCol qo so h r ⟨qc, k1⟩ ⟨sc, k2⟩ j i (w3.alloc (TabO qo h.length qc so r.length sc)) m2 (k3.kept (one_below _ _)) (k4.kept (one_below _ _)))
        rw [m1] at C
        dsimp only at C
        have HN := Lib.hid HN4.out
        obtain ⟨a0, a1⟩ := tabs HN4.out
        have HM3 := Lib.hid m3
        have HZ := Lib.hid (And.intro hzi hzj)
        have HK3 := Lib.hid (k3.kept (one_below w3 (TabO qo h.length qc so r.length sc)))
        clear m1 m2 k1 k2 k3 k4 hzi hzj Q M E m3
        go_wp2_with fail
        refine C.out.mono ?_; rintro e w5 ⟨bo, bc, go, gc, rfl, g1, g2, b5, _⟩
        have b6 := below_up b5 (one_below w5 (TabO bo hd.length bc.1 go rs.length gc.1))
        have B6 := Lib.hid (below_up B4.out b6)
        obtain ⟨p0, p1⟩ := box.out _ B6.out
        obtain ⟨q0, q1⟩ := tabs (World.alloc_heap_new w5 (TabO bo hd.length bc.1 go rs.length gc.1))
        obtain ⟨a2, _⟩ := tabs (bk_kept HN.out b6)
        have hjh : j < h.length := by rw [HM3.out]; exact hj
        obtain ⟨A, rfl, hz1⟩ : ∃ A, qo = some A ∧ (w5.alloc (TabO bo hd.length bc.1 go rs.length gc.1)).cell? (A.add j) = some (.string z) := by
          rcases HK3.out.kept b6 with h0 | ⟨A, hA, _, hcell⟩
          · rw [h0] at hjh; simp at hjh
          · exact ⟨A, hA, hcell j z HZ.out.2⟩
        obtain ⟨D, rfl, hz2⟩ : ∃ D, ho = some D ∧ (w5.alloc (TabO bo hd.length bc.1 go rs.length gc.1)).cell? (D.add i) = some (.string z) := by
          rcases HH.out _ B6.out with h0 | ⟨D, hD, _, hcell⟩
          · rw [h0] at hi; simp at hi
          · exact ⟨D, hD, hcell i z HZ.out.1⟩
        have SS := Lib.hid (fun V (hV : Below (w5.alloc (TabO bo hd.length bc.1 go rs.length gc.1)).heap.size (w5.alloc (TabO bo hd.length bc.1 go rs.length gc.1)) V) => tsame_ok bo (some D) bc.1 hc hd go ro gc.1 rc rs V HT.out ((g1.kept (one_below _ _)).kept hV) (HH.out _ (below_up B6.out hV)) ((g2.kept (one_below _ _)).kept hV) (HR.out _ (below_up B6.out hV)))
        have r0 := cell_regrown p0
        have r1 := cell_regrown p1
        have r2 := cell_regrown q0
        have r3 := cell_regrown q1
        have r4 := cell_regrown a2
        have r5 := cell_regrown hz1
        have r6 := cell_regrown hz2
        have HQ := Lib.hid (fun d os => below_regrown (w5.alloc (TabO bo hd.length bc.1 go rs.length gc.1)) d os)
        obtain ⟨y1, y2⟩ := str_same z
        have hl : ((h.length : Int) != (hd.length : Int)) = false := by rw [int_bne]; simpa using HM3.out
        have hib : (i : Int) < (hd.length : Int) := by omega
        have hjb : (j : Int) < (h.length : Int) := by omega
        clear g1 g2 b5 b6 p0 p1 q0 q1 a0 a1 a2 hz1 hz2 C
        go_wp2_with fail
        refine wp_region_quiet_below (by kernel_rfl) (by kernel_rfl) ?_
        repeat (first
          | go_big_quiet_step (exact Calls.regrown_of (SS.out _ (HQ.out _ _)))
          | quiet_step (exact Calls.regrown_of (SS.out _ (HQ.out _ _))))
        refine wpQuiet_nil ?_
        intro _ hw'
        obtain ⟨⟨dq, osq⟩, hw''⟩ := hw'
        subst hw''
        go_wp2_with fail
        go_meet
        exact ⟨rfl, Lib.hid (below_up B6.out (below_regrown _ dq osq))⟩
    case rest =>
      obtain ⟨rfl, HBd⟩ := hcut
      rename World => wd
      clear Q M E B4 HN4 B3
      obtain ⟨p0, p1⟩ := box.out wd HBd.out
      have C := Lib.hid (eMoveRow ho ro hd rs HA.out.cp HB.out.cp f t wd HT.out (HH.out _ HBd.out) (HR.out _ HBd.out))
      have M := Lib.hid (fun h r => @moves_rows hd h rs r f t)
      have E := Lib.hid (fun x => @turn_ne (fun xs => .ok xs) (fun rs => movL rs f t) hd rs x ok_ne mov_ne)
      generalize turnR (fun xs => .ok xs) (fun rs => movL rs f t) hd rs = Y at C M E
      go_wp2_with fail
      refine C.out.mono ?_; intro e w3 q
      clear C p0 p1
      have B3 := Lib.hid (below_up HBd.out q.below)
      obtain ⟨qo, qn, qc, so, sn, sc, x, rfl⟩ := q.shape
      have hB3 := one_below w3 (TabO qo qn qc so sn sc)
      have B4 := Lib.hid (below_up B3.out hB3)
      have HN4 := Lib.hid (World.alloc_heap_new w3 (TabO qo qn qc so sn sc))
      clear hB3
      rcases q.parts with ⟨rfl, rfl, rfl⟩ | ⟨h, r, rfl, rfl, rfl, rfl, k1, k2, k3, k4⟩
      · have hx := E.out x rfl
        have hb : (x != 0) = true := by simp [hx]
        clear hx q
        go_wp2_with fail
        go_ret
        exact ⟨rfl, below_up B0.out B4.out⟩
      · obtain ⟨rfl, m1, m2, m3⟩ := M.out h r rfl
        have C := Lib.hid (eMoveRow qo so h r ⟨qc, k1⟩ ⟨sc, k2⟩ t f (w3.alloc (TabO qo h.length qc so r.length sc)) m2 (k3.kept (one_below _ _)) (k4.kept (one_below _ _)))
        rw [m1] at C
        dsimp only at C
        have HN := Lib.hid HN4.out
        obtain ⟨a0, a1⟩ := tabs HN4.out
        have HM3 := Lib.hid m3
        clear m1 m2 k1 k2 k3 k4 q M E m3
        go_wp2_with fail
        refine C.out.mono ?_; rintro e w5 ⟨bo, bc, go, gc, rfl, g1, g2, b5, _⟩
        have b6 := below_up b5 (one_below w5 (TabO bo h.length bc.1 go rs.length gc.1))
        have B6 := Lib.hid (below_up B4.out b6)
        obtain ⟨p0, p1⟩ := box.out _ B6.out
        obtain ⟨q0, q1⟩ := tabs (World.alloc_heap_new w5 (TabO bo h.length bc.1 go rs.length gc.1))
        obtain ⟨_, a3⟩ := tabs (bk_kept HN.out b6)
        have SS := Lib.hid (tsame_ok bo ho bc.1 hc h go ro gc.1 rc rs (w5.alloc (TabO bo h.length bc.1 go rs.length gc.1)) HT.out (g1.kept (one_below _ _)) (HH.out _ B6.out) (g2.kept (one_below _ _)) (HR.out _ B6.out))
        have HKK := Lib.hid (And.intro p1 a3)
        clear g1 g2 b5 b6 a0 a1 C
        go_wp2_with fail
        refine SS.out.mono ?_; rintro e w6 ⟨rfl, b6⟩
        have e1 := (b6.cell (p := ⟨w.heap.size, 1, none⟩) (block_lt_of_cell HKK.out.1)).trans HKK.out.1
        have e2 := (b6.cell (p := ⟨w3.heap.size, 1, none⟩) (block_lt_of_cell HKK.out.2)).trans HKK.out.2
        have B7 := Lib.hid (below_up B6.out b6)
        have hl : ((r.length : Int) == (rs.length : Int)) = true := by rw [HM3.out]; simp
        clear b6 SS
        go_wp2_with fail
        go_ret
        exact ⟨rfl, below_up B0.out B7.out⟩
end Go.Proofs.Ytpbnggnbjboafaa
