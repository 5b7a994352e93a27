/-
  The walk of the statement TableTells.
  Conditions: none beyond the form of claims.
-/
import Derived.WalkKit
import Derived.WalkMore
import Derived.Lib.Hide
import Derived.Deep.QuietTactic
import Derived.BigQuiet
import Derived.Lib.QuietBelow
import Derived.Deep.RegionWith
import Derived.Deep.CutRange
import Derived.Deep.Onto
import Derived.Test.YtgbmpcfnbdbpgaaProg
import Derived.Test.YtgbmpcfnbdbpgaaWTableBack
namespace Go.Proofs.Ytgbmpcfnbdbpgaa
open Go.RowKit Go.Shelf
set_option linter.unusedVariables false

set_option maxRecDepth 100000 in
set_option maxHeartbeats 8000000 in
theorem walkTableTells (ho : Option Addr) (hc : Nat) (hd : List ByteArray) (ro : Option Addr) (rc : Nat) (rs : List (List ByteArray)) (nm : ByteArray) (row col : Int) (w : World)
    (hA : StrArg w ho hc hd) (hB : RowsArg w ro rc rs) (hnm : nm.size ≤ 140737488351232) (hrow : (Lit.int .i64 row).wf = true) (hcol : (Lit.int .i64 col).wf = true) :
    Calls Try.prog 4 #[.agg #[.slice ho hd.length hc, .slice ro rs.length rc], .string nm, .int .i64 row, .int .i64 col] w fun e w' => e = .returned (.bool true) ∧ Below w.heap.size w w' := by
  obtain ⟨W, HW⟩ : ∃ W, Hid (W = w.alloc (TabO ho hd.length hc ro rs.length rc)) := ⟨_, Lib.hid rfl⟩
  have hb0 : Below w.heap.size w W := by rw [HW.out]; exact one_below _ _
  have hN : W.heap[w.heap.size]? = some (TabO ho hd.length hc ro rs.length rc) := by rw [HW.out]; exact World.alloc_heap_new w _
  have HA := Lib.hid hA
  have HB := Lib.hid hB
  have B0 := Lib.hid hb0
  have box : Hid (∀ V, Below W.heap.size W V → V.cell? ⟨w.heap.size, 0, none⟩ = some (.slice ho hd.length hc) ∧ V.cell? ⟨w.heap.size, 1, none⟩ = some (.slice ro rs.length rc)) := Lib.hid (fun V hV => tabs ((hV.block _ (lt_of_heap hN)).trans hN))
  have HW2 : Hid (W = w.alloc (Obj.cells #[Value.slice ho hd.length hc, Value.slice ro rs.length rc] 25)) := Lib.hid HW.out
  clear hA hB hb0 hN hrow hcol hnm
  go_enter Try.func4, Try.ntmps4
  go_wp2_with fail
  rw [← HW2.out]
  refine (tworks_any _).mono ?_; rintro e w1 ⟨rfl, b1⟩
  obtain ⟨p0, p1⟩ := box.out w1 b1
  have X1 := below_up B0.out b1
  have B1 := Lib.hid b1
  have C1 := Lib.hid (rfew_any ho hc hd ro rc rs w1 HA.out.len HB.out.len HB.out.each HA.out.size (HA.out.row.kept X1) (HB.out.rows.kept X1))
  clear b1 X1
  go_wp2_with fail
  refine C1.out.mono ?_; rintro e w2 ⟨b, rfl, hb, b2⟩
  have B2 := Lib.hid (below_up B1.out b2)
  clear b2 p0 p1 C1 B1
  cases b with
  | false =>
    go_wp2_with fail
    go_ret
    exact ⟨rfl, below_up B0.out B2.out⟩
  | true =>
    have HF := Lib.hid (hb rfl)
    clear hb
    obtain ⟨f1, f2, f3, f4, f5⟩ := fewT_bounds hd rs HF.out
    have HF4 := Lib.hid f4
    have HF3 := Lib.hid f3
    have hx : ∀ r ∈ rs, r.length ≤ 1099511627776 ∧ ∀ c ∈ r, c.size ≤ 281474976710656 := fun r hr => ⟨by have := (HF4.out r hr).1; omega, fun c hc => by have := (HF4.out r hr).2 c hc; omega⟩
    have CA := Lib.hid (fun V (h : Below W.heap.size W V) => tcolumn_any ho hc hd ro rc rs col V (by omega) (by omega) hx (HB.out.rows.kept (below_up B0.out h)))
    have CB := Lib.hid (fun V (h : Below W.heap.size W V) => rcolumn_any ho hc hd ro rc rs col V (by omega) (HB.out.rows.kept (below_up B0.out h)))
    have CR := Lib.hid (fun (ao bo : Option Addr) (ca cb : Nat) V (h1 : StrRow V ao (columnT hd rs col)) (h2 : StrRow V bo (columnT hd rs col)) => rrow_any ao bo ca cb (columnT hd rs col) (columnT hd rs col) V (by unfold columnT; split; rw [colL_len]; omega; simp) h1 h2)
    rw [sameRow_refl] at CR
    have RA := Lib.hid (fun V (h : Below W.heap.size W V) => records_any ho hc hd ro rc rs V (by omega) (fun c hc => by have := HF3.out c hc; omega) (HA.out.row.kept (below_up B0.out h)) (by omega) hx (HB.out.rows.kept (below_up B0.out h)))
    have RB := Lib.hid (fun V (h : Below W.heap.size W V) => rrecords_any ho hc hd ro rc rs V (by omega) HB.out.nil (HA.out.row.kept (below_up B0.out h)) (HB.out.rows.kept (below_up B0.out h)))
    have RR := Lib.hid (fun (ao bo : Option Addr) (ca cb : Nat) V (h1 : RowsAt V ao (hd :: rs)) (h2 : RowsAt V bo (hd :: rs)) => rsame_any ao bo ca cb (hd :: rs) (hd :: rs) V (by simp; omega) (fun r hr => by
      rcases List.mem_cons.1 hr with rfl | h
      · omega
      · exact (hx r h).1) h1 h2)
    rw [sameRecs_refl] at RR
    simp only [List.length_cons] at RR
    have K1 := Lib.hid (fun V (h : Below W.heap.size W V) => tfind_any ho hc hd ro rs.length rc nm V (by omega) (HA.out.row.kept (below_up B0.out h)))
    have K2 := Lib.hid (fun V (h : Below W.heap.size W V) => rfind_any ho hc hd ro rs.length rc nm V (by omega) (HA.out.row.kept (below_up B0.out h)))
    have K3 := Lib.hid (fun V (h : Below W.heap.size W V) => tcell_any ho hd.length hc ro rc rs row col V (by omega) hx (HB.out.rows.kept (below_up B0.out h)))
    have K4 := Lib.hid (fun V (h : Below W.heap.size W V) => rcell_any ho hd.length hc ro rc rs row col V (HB.out.rows.kept (below_up B0.out h)))
    unfold StrOut at CB
    unfold RowsOut at RB
    simp only [List.length_cons] at RB
    generalize columnT hd rs col = xs at CA CB CR
    generalize findL hd nm = fx at K1 K2
    generalize cellL rs row col = cx at K3 K4
    clear f3 f4 hx HA HB
    have HBel := Lib.hid (B2.out.drew)
    obtain ⟨p0, p1⟩ := box.out w2 B2.out
    go_upto_region 7 with fail
    go_cut [11] from 21 to 27 (fun v wc => v = .bool true ∧ Hid (Below W.heap.size W wc))
    case first =>
      go_region_with (first
        | (go_at_call 17; refine (CA.out _ HBel.out).mono ?_; rintro e wA ⟨aoA, rfl, hsA, bA⟩; have HBel := Lib.hid (below_up HBel.out bA); (try (have HSB := Lib.hid (HSB.out.kept bA))); have HSA := Lib.hid hsA; obtain ⟨p0, p1⟩ := box.out _ HBel.out; clear hsA bA)
        | (go_at_call 18; refine (CB.out _ HBel.out).mono ?_; rintro e wB ⟨aoB, cB, rfl, hsB, bB⟩; have HBel := Lib.hid (below_up HBel.out bB); (try (have HSA := Lib.hid (HSA.out.kept bB))); have HSB := Lib.hid hsB; obtain ⟨p0, p1⟩ := box.out _ HBel.out; clear hsB bB)
        | (go_at_call 16; refine (CR.out _ _ _ _ _ HSA.out HSB.out).mono ?_; rintro e wC ⟨rfl, bC⟩; have HBel := Lib.hid (below_up HBel.out bC); clear bC))
      all_goals (go_wp2_with fail; go_meet)
      all_goals exact ⟨rfl, HBel⟩
    case rest =>
      obtain ⟨rfl, HBc⟩ := hcut
      rename World => wc
      clear HBel p0 p1 CA CB CR B2
      have HBel := Lib.hid (HBc.out.drew)
      obtain ⟨p0, p1⟩ := box.out wc HBc.out
      go_upto_region 8 with fail
      go_cut [12] from 28 to 32 (fun v wd => v = .bool true ∧ Hid (Below W.heap.size W wd))
      case first =>
        go_region_with (first
          | (go_at_call 20; refine (RA.out _ HBel.out).mono ?_; rintro e wA ⟨gA, cA, rfl, _, hsA, bA⟩; have HBel := Lib.hid (below_up HBel.out bA); (try (have HSB := Lib.hid (HSB.out.kept bA))); have HSA := Lib.hid hsA; obtain ⟨p0, p1⟩ := box.out _ HBel.out; clear hsA bA)
          | (go_at_call 21; refine (RB.out _ HBel.out).mono ?_; rintro e wB ⟨aoB, cB, rfl, _, hsB, bB⟩; have HBel := Lib.hid (below_up HBel.out bB); (try (have HSA := Lib.hid (HSA.out.kept bB))); have HSB := Lib.hid hsB; obtain ⟨p0, p1⟩ := box.out _ HBel.out; clear hsB bB)
          | (go_at_call 19; refine (RR.out _ _ _ _ _ HSA.out HSB.out).mono ?_; rintro e wC ⟨rfl, bC⟩; have HBel := Lib.hid (below_up HBel.out bC); clear bC))
        all_goals (go_wp2_with fail; go_meet)
        all_goals exact ⟨rfl, HBel⟩
      case rest =>
        obtain ⟨rfl, HBd⟩ := hcut
        rename World => wd
        clear HBel p0 p1 RA RB RR HBc
        obtain ⟨p0, p1⟩ := box.out wd HBd.out
        have g0 := cell_regrown p0
        have g1 := cell_regrown p1
        have HQ := Lib.hid (fun d os => below_up HBd.out (below_regrown wd d os))
        have e1 : (fx == fx) = true := by simp
        have e2 : (cx.toList == cx.toList) = true := by simp
        clear p0 p1
        go_wp2_with fail
        refine wp_region_quiet_below (by kernel_rfl) (by kernel_rfl) ?_
        repeat (first
          | go_big_quiet_step (first | exact Calls.regrown_of (K1.out _ (HQ.out _ _)) | exact Calls.regrown_of (K2.out _ (HQ.out _ _)) | exact Calls.regrown_of (K3.out _ (HQ.out _ _)) | exact Calls.regrown_of (K4.out _ (HQ.out _ _)))
          | quiet_step (first | exact Calls.regrown_of (K1.out _ (HQ.out _ _)) | exact Calls.regrown_of (K2.out _ (HQ.out _ _)) | exact Calls.regrown_of (K3.out _ (HQ.out _ _)) | exact Calls.regrown_of (K4.out _ (HQ.out _ _))))
        refine wpQuiet_nil ?_
        intro _ hw'
        obtain ⟨⟨dq, osq⟩, hw''⟩ := hw'
        subst hw''
        go_wp2_with fail
        go_ret
        exact ⟨rfl, below_up B0.out (HQ.out dq osq)⟩
end Go.Proofs.Ytgbmpcfnbdbpgaa
