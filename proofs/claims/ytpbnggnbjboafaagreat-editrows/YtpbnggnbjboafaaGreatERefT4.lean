/-
  The document's reference: what comes of an edit of rows that nothing is wrong with.
  Conditions: tables and edits as small as the statements ask about (far more is borne: lists of at most 2^38 elements).
-/
import Derived.WalkKit
import Derived.WalkMore
import Derived.Lib.Hide
import Derived.Deep.RegionWith
import Derived.Deep.RegionHeld3
import Derived.Test.YtpbnggnbjboafaaGreatProg
import Derived.Test.YtpbnggnbjboafaaGreatERefT
namespace Go.Proofs.YtpbnggnbjboafaaGreat
open Go.RowKit Go.Shelf
set_option linter.unusedVariables false

set_option maxRecDepth 100000 in
set_option maxHeartbeats 8000000 in
theorem rturned4 (ho ro : Option Addr) (hd : List ByteArray) (rs : List (List ByteArray)) (hc : Cap ho hd.length) (rc : Cap ro rs.length) (j : Nat) (b : Int) (tx : ByteArray) (co : Option Addr) (cells : List ByteArray) (cc : Cap co cells.length) (po : Option Addr) (pn pc : Nat) (w : World)
    (hn : rs.length ≤ 1000) (hH : StrRow w ho hd) (hR : RowsAt w ro rs) (hC : StrRow w co cells) (hj : j ≤ rs.length) :
    Calls Tryz.prog 26 #[.agg #[.slice ho hd.length hc.1, .slice ro rs.length rc.1], .agg #[.int .i64 4, .int .i64 j, .int .i64 b, .string tx, .slice co cells.length cc.1, .slice po pn pc]] w (TabV (hd, rs.take j ++ cells :: rs.drop j) w) := by
  obtain ⟨W, HW⟩ : ∃ W, Hid (W = ((w.alloc (TabO ho hd.length hc.1 ro rs.length rc.1)).alloc (EdO 4 j b tx co cells.length cc.1 po pn pc)).alloc (.cells #[.slice none 0 0, .slice none 0 0] 25)) := ⟨_, Lib.hid rfl⟩
  have hB : Below w.heap.size w W := by rw [HW.out]; exact ((one_below _ _).alloc (by simp) _).alloc (by simp; omega) _
  have hN := two_new w (TabO ho hd.length hc.1 ro rs.length rc.1) (EdO 4 j b tx co cells.length cc.1 po pn pc)
  have g0 : W.heap[w.heap.size]? = some (TabO ho hd.length hc.1 ro rs.length rc.1) := by rw [HW.out]; exact al_old _ hN.2.1
  have g1 : W.heap[w.heap.size + 1]? = some (EdO 4 j b tx co cells.length cc.1 po pn pc) := by rw [HW.out]; exact al_old _ hN.2.2
  have g2 : W.heap[w.heap.size + 1 + 1]? = some (.cells #[.slice none 0 0, .slice none 0 0] 25 (0, 0)) := by
    rw [HW.out]
    have h := World.alloc_heap_new ((w.alloc (TabO ho hd.length hc.1 ro rs.length rc.1)).alloc (EdO 4 j b tx co cells.length cc.1 po pn pc)) (.cells #[.slice none 0 0, .slice none 0 0] 25)
    simpa only [World.size_alloc] using h
  have hlt : w.heap.size + 1 + 1 < W.heap.size := lt_of_heap g2
  have HX : Hid (∀ V, Below W.heap.size W V → BoxT w W V) := Lib.hid (fun V hV => ⟨hV, hB, hlt, (hV.block _ hlt).trans g2⟩)
  have HS : Hid (∀ V, Below W.heap.size W V → (V.cell? ⟨w.heap.size, 0, none⟩ = some (.slice ho hd.length hc.1) ∧ V.cell? ⟨w.heap.size, 1, none⟩ = some (.slice ro rs.length rc.1)) ∧ (V.cell? ⟨w.heap.size + 1, 0, none⟩ = some (.int .i64 4) ∧ V.cell? ⟨w.heap.size + 1, 1, none⟩ = some (.int .i64 j) ∧ V.cell? ⟨w.heap.size + 1, 2, none⟩ = some (.int .i64 b) ∧ V.cell? ⟨w.heap.size + 1, 3, none⟩ = some (.string tx) ∧ V.cell? ⟨w.heap.size + 1, 4, none⟩ = some (.slice co cells.length cc.1) ∧ V.cell? ⟨w.heap.size + 1, 5, none⟩ = some (.slice po pn pc))) := Lib.hid (fun V hV => ⟨tabs ((hV.block _ (lt_of_heap g0)).trans g0), edcells ((hV.block _ (lt_of_heap g1)).trans g1)⟩)
  have HZ : Hid (∀ V, Below W.heap.size W V → V.heap[w.heap.size + 1 + 1]? = some (.cells #[.slice none 0 0, .slice none 0 0] 25 (0, 0))) := Lib.hid (fun V hV => (hV.block _ hlt).trans g2)
  have HH : Hid (∀ V, Below W.heap.size W V → StrRow V ho hd) := Lib.hid (fun V hV => hH.kept (below_up hB hV))
  have HR : Hid (∀ V, Below W.heap.size W V → RowsAt V ro rs) := Lib.hid (fun V hV => hR.kept (below_up hB hV))
  have HC : Hid (∀ V, Below W.heap.size W V → StrRow V co cells) := Lib.hid (fun V hV => hC.kept (below_up hB hV))
  have HW2 : Hid (W = ((w.alloc (Obj.cells #[Value.slice ho hd.length hc.1, Value.slice ro rs.length rc.1] 25)).alloc (Obj.cells #[Value.int .i64 4, Value.int .i64 j, Value.int .i64 b, Value.string tx, Value.slice co cells.length cc.1, Value.slice po pn pc] 28)).alloc (Obj.cells #[Value.slice none 0 0, Value.slice none 0 0] 25)) := Lib.hid HW.out
  obtain ⟨⟨p0, p1⟩, e0, e1, e2, e3, e4, e5⟩ := HS.out W (Below.refl _ _)
  obtain ⟨z0, z1, f0, f1⟩ := zcells (HZ.out W (Below.refl _ _))
  clear hB hN g0 g1 g2 hH hR hC HW
  have K := Lib.hid (fun V (h : Below W.heap.size W V) => rput_r ro rs rc.1 j co cells cc V hj (by omega) (HR.out V h) (HC.out V h))
  generalize rs.take j ++ cells :: rs.drop j = F at K ⊢
  have B1 : Hid (Below W.heap.size W W.drew) := Lib.hid (Below.refl _ _).drew
  go_enter Tryz.func26, Tryz.ntmps26
  go_wp2_with fail
  rw [← HW2.out]
  go_region_held3 (fun V => V.cell? ⟨w.heap.size, 0, none⟩ = some (.slice ho hd.length hc.1) ∧ V.cell? ⟨w.heap.size, 1, none⟩ = some (.slice ro rs.length rc.1) ∧ V.cell? ⟨w.heap.size + 1, 1, none⟩ = some (.int .i64 j) ∧ V.cell? ⟨w.heap.size + 1, 2, none⟩ = some (.int .i64 b) ∧ V.cell? ⟨w.heap.size + 1, 3, none⟩ = some (.string tx) ∧ V.cell? ⟨w.heap.size + 1, 4, none⟩ = some (.slice co cells.length cc.1)) ((refine ⟨?_, ?_, ?_, ?_, ?_, ?_⟩ <;> first | assumption | exact keep_at (by assumption) (by first | assumption | (dsimp only; omega)) | go_keep))
    (first | (go_at_call 66; refine (K.out _ B1.out).mono ?_; rintro e wR ⟨sR, cR, rfl, h1, h2⟩; have B1 : Hid (Below W.heap.size W wR) := Lib.hid (below_up B1.out h2); (try (have FO := Lib.hid (FO.out.kept h2))); (try (have FP := Lib.hid (FP.out.kept h2))); (try (have FQ := Lib.hid (FQ.out.kept h2))); have FR := Lib.hid h1.1; have FRf := Lib.hid h1.2; obtain ⟨⟨p0, p1⟩, e0, e1, e2, e3, e4, e5⟩ := HS.out wR B1.out; obtain ⟨z0, z1, f0, f1⟩ := zcells (HZ.out wR B1.out); clear h1 h2))
  all_goals
    rename_i hHeld
    clear hHeld
    have Q := Lib.hid (turned_end hc cR (HX.out wR B1.out) (HH.out wR B1.out) FR.out (fun A hA => Nat.le_trans (Nat.le_refl _) (FRf.out A hA)))
    go_wp2_with fail
    exact bodyPost_ret (v := .agg #[.slice ho hd.length hc.1, .slice sR F.length cR.1]) (by simp [results, Tryz.results26, go_sem, z0, z1]) rfl Q.out
end Go.Proofs.YtpbnggnbjboafaaGreat
