/-
  The walk of the statement TableChecks.
  Conditions: none beyond the form of claims.
-/
import Derived.WalkKit
import Derived.WalkMore
import Derived.Lib.Hide
import Derived.Deep.QuietTactic
import Derived.BigQuiet
import Derived.Lib.QuietBelow
import Derived.Test.YtgbmpcfnbdbpgaaProg
import Derived.Test.YtgbmpcfnbdbpgaaWTableBack
namespace Go.Proofs.Ytgbmpcfnbdbpgaa
open Go.RowKit Go.Shelf
set_option linter.unusedVariables false

set_option maxRecDepth 100000 in
set_option maxHeartbeats 4000000 in
theorem walkTableChecks (ho : Option Addr) (hc : Nat) (hd : List ByteArray) (ro : Option Addr) (rc : Nat) (rs : List (List ByteArray)) (bo : Option Addr) (bc : Nat) (bd : List ByteArray) (so : Option Addr) (sc : Nat) (ss : List (List ByteArray)) (w : World)
    (hA : StrArg w ho hc hd) (hB : RowsArg w ro rc rs) (hA2 : StrArg w bo bc bd) (hB2 : RowsArg w so sc ss) :
    Calls Try.prog 3 #[.agg #[.slice ho hd.length hc, .slice ro rs.length rc], .agg #[.slice bo bd.length bc, .slice so ss.length sc]] w fun e w' => e = .returned (.bool true) ∧ Below w.heap.size w w' := by
  obtain ⟨W, HW⟩ : ∃ W, Hid (W = (w.alloc (TabO ho hd.length hc ro rs.length rc)).alloc (TabO bo bd.length bc so ss.length sc)) := ⟨_, Lib.hid rfl⟩
  have hb0 : Below w.heap.size w W := by rw [HW.out]; exact two_below _ _ _
  have hN := two_new w (TabO ho hd.length hc ro rs.length rc) (TabO bo bd.length bc so ss.length sc)
  rw [← HW.out] at hN
  have HN := Lib.hid hN
  have HA := Lib.hid hA
  have HB := Lib.hid hB
  have HA2 := Lib.hid hA2
  have HB2 := Lib.hid hB2
  have B0 := Lib.hid hb0
  have box : Hid (∀ V, Below W.heap.size W V → (V.cell? ⟨w.heap.size, 0, none⟩ = some (.slice ho hd.length hc) ∧ V.cell? ⟨w.heap.size, 1, none⟩ = some (.slice ro rs.length rc)) ∧ (V.cell? ⟨w.heap.size + 1, 0, none⟩ = some (.slice bo bd.length bc) ∧ V.cell? ⟨w.heap.size + 1, 1, none⟩ = some (.slice so ss.length sc))) := Lib.hid (fun V hV =>
    ⟨tabs ((hV.block _ (lt_of_heap hN.2.1)).trans hN.2.1), tabs ((hV.block _ (lt_of_heap hN.2.2)).trans hN.2.2)⟩)
  have HW2 : Hid (W = (w.alloc (Obj.cells #[Value.slice ho hd.length hc, Value.slice ro rs.length rc] 25)).alloc (Obj.cells #[Value.slice bo bd.length bc, Value.slice so ss.length sc] 25)) := Lib.hid HW.out
  clear hA hB hA2 hB2 hb0 hN
  go_enter Try.func3, Try.ntmps3
  go_wp2_with fail
  rw [← HW2.out]
  refine (tworks_any _).mono ?_; rintro e w1 ⟨rfl, b1⟩
  obtain ⟨⟨p0, p1⟩, p2, p3⟩ := box.out w1 b1
  have X1 := below_up B0.out b1
  have B1 := Lib.hid b1
  have C1 := Lib.hid (rfew_any ho hc hd ro rc rs w1 HA.out.len HB.out.len HB.out.each HA.out.size (HA.out.row.kept X1) (HB.out.rows.kept X1))
  clear b1 X1
  go_wp2_with fail
  refine C1.out.mono ?_; rintro e w2 ⟨b, rfl, hb, b2⟩
  have B2 := Lib.hid (below_up B1.out b2)
  clear b2 p0 p1 p2 p3 C1 B1
  cases b with
  | false =>
    go_wp2_with fail
    go_ret
    exact ⟨rfl, below_up B0.out B2.out⟩
  | true =>
    have HF := Lib.hid (hb rfl)
    clear hb
    obtain ⟨⟨p0, p1⟩, p2, p3⟩ := box.out w2 B2.out
    have C1 := Lib.hid (rfew_any bo bc bd so sc ss w2 HA2.out.len HB2.out.len HB2.out.each HA2.out.size (HA2.out.row.kept (below_up B0.out B2.out)) (HB2.out.rows.kept (below_up B0.out B2.out)))
    go_wp2_with fail
    refine C1.out.mono ?_; rintro e w3 ⟨b, rfl, hb, b3⟩
    have B3 := Lib.hid (below_up B2.out b3)
    clear b3 p0 p1 p2 p3 C1 B2
    cases b with
    | false =>
      go_wp2_with fail
      go_ret
      exact ⟨rfl, below_up B0.out B3.out⟩
    | true =>
      have HG := Lib.hid (hb rfl)
      clear hb
      obtain ⟨f1, f2, f3, f4, f5⟩ := fewT_bounds hd rs HF.out
      have HF4 := Lib.hid f4
      have HF3 := Lib.hid f3
      clear f3 f4
      obtain ⟨⟨p0, p1⟩, p2, p3⟩ := box.out w3 B3.out
      have S := Lib.hid (rsameT_any ho bo hc bc hd bd ro so rc sc rs ss w3 (by omega) (by omega) (fun r hr => by have := (HF4.out r hr).1; omega) (HA.out.row.kept (below_up B0.out B3.out)) (HA2.out.row.kept (below_up B0.out B3.out)) (HB.out.rows.kept (below_up B0.out B3.out)) (HB2.out.rows.kept (below_up B0.out B3.out)))
      have S2 := Lib.hid (fun V (h : Below w.heap.size w V) => tsame_any ho bo hc bc hd bd ro so rc sc rs ss V (by omega) (by omega) (fun r hr => by have := (HF4.out r hr).1; omega) (HA.out.row.kept h) (HA2.out.row.kept h) (HB.out.rows.kept h) (HB2.out.rows.kept h))
      have K1 := Lib.hid (fun V (h : Below w.heap.size w V) => check_any ho hc hd ro rc rs V (by omega) (by omega) (fun r hr => by have := (HF4.out r hr).1; omega) (HA.out.row.kept h) (HB.out.rows.kept h) (fun c hc => by have := HF3.out c hc; unfold maxLen; omega) (by omega))
      have K2 := Lib.hid (fun V (h : Below w.heap.size w V) => rcheck_any ho hc hd ro rc rs V (by omega) (by omega) (fun r hr => by have := (HF4.out r hr).1; omega) (HA.out.row.kept h) (HB.out.rows.kept h) (by omega))
      have K3 := Lib.hid (fun V (h : Below w.heap.size w V) => total_any ho hc hd ro rc rs V (by omega) (by omega) (fun r hr => by have := (HF4.out r hr).1; omega) (HA.out.row.kept h) (HB.out.rows.kept h) (by omega))
      have K4 := Lib.hid (fun V (h : Below w.heap.size w V) => rtotal_any ho hc hd ro rc rs V (by omega) (by omega) (fun r hr => by have := (HF4.out r hr).1; omega) (HA.out.row.kept h) (HB.out.rows.kept h) (by omega))
      generalize (sameRow hd bd && sameRecs rs ss) = sm at S S2
      generalize checkI hd rs = ck at K1 K2
      generalize sumT (allT hd rs) = tt at K3 K4
      go_wp2_with fail
      refine S.out.mono ?_; rintro e w4 ⟨rfl, b4⟩
      have B4 := Lib.hid (below_up B3.out b4)
      clear b4 p0 p1 p2 p3 S B3
      obtain ⟨⟨p0, p1⟩, p2, p3⟩ := box.out w4 B4.out
      have g0 := cell_regrown p0
      have g1 := cell_regrown p1
      have g2 := cell_regrown p2
      have g3 := cell_regrown p3
      clear p0 p1 p2 p3
      have HQ := Lib.hid (fun d os => below_up (below_up B0.out B4.out) (below_regrown w4 d os))
      have e1 : (ck == ck) = true := by simp
      have e2 : ((tt : Int) == (tt : Int)) = true := by simp
      have e3 : (sm == sm) = true := by simp
      go_wp2_with fail
      refine wp_region_quiet_below (by kernel_rfl) (by kernel_rfl) ?_
      repeat (first
        | go_big_quiet_step (first | exact Calls.regrown_of (K1.out _ (HQ.out _ _)) | exact Calls.regrown_of (K2.out _ (HQ.out _ _)) | exact Calls.regrown_of (K3.out _ (HQ.out _ _)) | exact Calls.regrown_of (K4.out _ (HQ.out _ _)) | exact Calls.regrown_of (S2.out _ (HQ.out _ _)))
        | quiet_step (first | exact Calls.regrown_of (K1.out _ (HQ.out _ _)) | exact Calls.regrown_of (K2.out _ (HQ.out _ _)) | exact Calls.regrown_of (K3.out _ (HQ.out _ _)) | exact Calls.regrown_of (K4.out _ (HQ.out _ _)) | exact Calls.regrown_of (S2.out _ (HQ.out _ _))))
      refine wpQuiet_nil ?_
      intro _ hw'
      obtain ⟨⟨dq, osq⟩, hw''⟩ := hw'
      subst hw''
      go_wp2_with fail
      go_ret
      exact ⟨rfl, HQ.out dq osq⟩
end Go.Proofs.Ytgbmpcfnbdbpgaa
