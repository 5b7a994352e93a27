/-
  The calls of package edit: what each makes of a table, or the error that it tells.
  Conditions: tables of at most 1000 rows of at most 1000 cells of at most 10000 bytes (the statements ask about far smaller ones).
-/
import Derived.WalkKit
import Derived.WalkMore
import Derived.WalkLawsBesides
import Derived.Lib.Hide
import Derived.Deep.RegionWith
import Derived.StillTailTactics
import Derived.Laws.EntriesVeiled
import Derived.Test.YtigijgcldgbokaaGreatProg
import Derived.Test.YtigijgcldgbokaaGreatESize
namespace Go.Proofs.YtigijgcldgbokaaGreat
open Go.RowKit Go.Shelf
set_option linter.unusedVariables false

set_option maxRecDepth 100000 in
set_option maxHeartbeats 8000000 in
theorem eMoveCol (ho ro : Option Addr) (hd : List ByteArray) (rs : List (List ByteArray)) (hc : Cap ho hd.length) (rc : Cap ro rs.length) (k : Int) (t : Int) (w : World) (ht : tiT hd rs) (hH : StrRow w ho hd) (hR : RowsAt w ro rs) :
    Calls Tryz.prog 19 #[.agg #[.slice ho hd.length hc.1, .slice ro rs.length rc.1], .int .i64 k, .int .i64 t] w (TabOut (turnR (colsH (fun xs => movL xs k t)) (colsR (fun xs => movL xs k t)) hd rs) w) := by
  have hmf : ∀ (fn : Fn) (first cap : Array Value) (w : World), (Instr.makeFunc fn first cap).run Tryz.prog w = .ok (.func fn first cap) w := fun _ _ _ _ => rfl
  obtain ⟨W, HW⟩ : ∃ W, Hid (W = ((((w.alloc (.cells #[.slice ho hd.length hc.1, .slice ro rs.length rc.1] 25)).alloc (.cells #[.int .i64 k] 3)).alloc (.cells #[.int .i64 t] 3)).alloc (.cells #[.slice none 0 0, .slice none 0 0] 25))) := ⟨_, Lib.hid rfl⟩
  have hB : Below w.heap.size w W := by rw [HW.out]; exact (((one_below _ _).alloc (by simp) _).alloc (by simp; omega) _).alloc (by simp; omega) _
  have hsz : W.heap.size = w.heap.size + 4 := by rw [HW.out]; simp
  have g0 : W.heap[w.heap.size]? = some (.cells #[.slice ho hd.length hc.1, .slice ro rs.length rc.1] 25 (0, 0)) := by rw [HW.out]; exact al_old _ (al_old _ (al_old _ ((World.alloc_heap_new w (.cells #[.slice ho hd.length hc.1, .slice ro rs.length rc.1] 25)))))
  have g1 : W.heap[w.heap.size + 1]? = some (.cells #[.int .i64 k] 3 (0, 0)) := by rw [HW.out]; exact al_old _ (al_old _ ((by have h := World.alloc_heap_new (w.alloc (.cells #[.slice ho hd.length hc.1, .slice ro rs.length rc.1] 25)) (.cells #[.int .i64 k] 3); simpa only [World.size_alloc] using h)))
  have g2 : W.heap[w.heap.size + 1 + 1]? = some (.cells #[.int .i64 t] 3 (0, 0)) := by rw [HW.out]; exact al_old _ ((by have h := World.alloc_heap_new ((w.alloc (.cells #[.slice ho hd.length hc.1, .slice ro rs.length rc.1] 25)).alloc (.cells #[.int .i64 k] 3)) (.cells #[.int .i64 t] 3); simpa only [World.size_alloc] using h))
  have g3 : W.heap[w.heap.size + 1 + 1 + 1]? = some (.cells #[.slice none 0 0, .slice none 0 0] 25 (0, 0)) := by rw [HW.out]; exact (by have h := World.alloc_heap_new (((w.alloc (.cells #[.slice ho hd.length hc.1, .slice ro rs.length rc.1] 25)).alloc (.cells #[.int .i64 k] 3)).alloc (.cells #[.int .i64 t] 3)) (.cells #[.slice none 0 0, .slice none 0 0] 25); simpa only [World.size_alloc] using h)
  have HB := Lib.hid hB
  have hlt : ∀ j, j < 4 → w.heap.size + j < W.heap.size := fun j hj => by omega
  have HBox : Hid (∀ V, Below W.heap.size W V → V.cell? ⟨w.heap.size, 0, none⟩ = some (.slice ho hd.length hc.1) ∧ V.cell? ⟨w.heap.size, 1, none⟩ = some (.slice ro rs.length rc.1)) := Lib.hid (fun V hV => tabs ((hV.block _ (lt_of_heap g0)).trans g0))
  have HZ : Hid (∀ V, Below W.heap.size W V → V.heap[w.heap.size + 1 + 1 + 1]? = some (.cells #[.slice none 0 0, .slice none 0 0] 25 (0, 0))) := Lib.hid (fun V hV => (hV.block _ (lt_of_heap g3)).trans g3)
  obtain ⟨X, HX⟩ : ∃ X, Hid (X = turnR (colsH (fun xs => movL xs k t)) (colsR (fun xs => movL xs k t)) hd rs) := ⟨_, Lib.hid rfl⟩
  have T : Hid (∀ V, Below W.heap.size W V → ∀ bx, V.cell? ⟨bx, 0, none⟩ = some (.func (.func 44) #[] #[.pointer (some ⟨w.heap.size + 1, 0, none⟩), .pointer (some ⟨w.heap.size + 1 + 1, 0, none⟩)]) → Calls Tryz.prog 38 #[.agg #[.slice ho hd.length hc.1, .slice ro rs.length rc.1], .agg #[.func (.func 78) #[] #[.pointer (some ⟨bx, 0, none⟩)], .func (.func 79) #[] #[.pointer (some ⟨bx, 0, none⟩)]]] V (TabOut X V)) := Lib.hid (fun V hV bx hbx => by
    rw [HX.out]
    have k1 : V.cell? ⟨w.heap.size + 1, 0, none⟩ = some (.int .i64 k) := (Lib.cell_of_heap ((hV.block _ (lt_of_heap g1)).trans g1) 0).trans rfl
    have k2 : V.cell? ⟨w.heap.size + 1 + 1, 0, none⟩ = some (.int .i64 t) := (Lib.cell_of_heap ((hV.block _ (lt_of_heap g2)).trans g2) 0).trans rfl
    have hw := below_up hB hV
    have R : RowFn V 44 #[.pointer (some ⟨w.heap.size + 1, 0, none⟩), .pointer (some ⟨w.heap.size + 1 + 1, 0, none⟩)] (fun xs => movL xs k t) tiR := (cMoveCol1 _ _ k t V k1 k2).weaken (fun xs h => by have := h.1; omega)
    exact turned_any ho ro hd rs hc rc _ _ _ _ _ _ tiR (fun rs => rs.length ≤ 5000 ∧ ∀ r ∈ rs, tiR r) V ht.sm (hH.kept hw) (hR.kept hw) (cColumns1 bx _ _ _ tiR V hbx R (enters_of Tryz.func44 (by kernel_rfl) rfl) (fun xs ys h e => mov_sm h e)) (cColumns2 bx _ _ _ tiR V hbx R (enters_of Tryz.func44 (by kernel_rfl) rfl)) (fun _ => ht.1) (fun _ => ⟨by have := ht.2.1; omega, ht.2.2⟩) (fun h r _ h1 h2 => cols_sm ht (fun xs ys h e => mov_sm h e) h1 h2) (enters_of Tryz.func78 (by kernel_rfl) rfl) (enters_of Tryz.func79 (by kernel_rfl) rfl))
  rw [← HX.out]
  clear hH hR ht HX hsz g0 g1 g2 g3
  obtain ⟨p0, p1⟩ := HBox.out W (Below.refl _ _)
  have hl0 := hlt 0 (by omega)
  have hl1 := hlt 3 (by omega)
  have HW2 : Hid (W = ((((w.alloc (.cells #[.slice ho hd.length hc.1, .slice ro rs.length rc.1] 25)).alloc (.cells #[.int .i64 k] 3)).alloc (.cells #[.int .i64 t] 3)).alloc (.cells #[.slice none 0 0, .slice none 0 0] 25))) := Lib.hid HW.out
  go_enter Tryz.func19, Tryz.ntmps19
  go_wp2_with fail
  rw [← HW2.out]
  go_region_with (first | (go_at_call 43; refine (ofColumns_any 44 #[.pointer (some ⟨w.heap.size + 1, 0, none⟩), .pointer (some ⟨w.heap.size + 1 + 1, 0, none⟩)] W.drew).mono ?_; rintro e w1 ⟨rfl, hcell, b1⟩; have B1 : Hid (Below W.heap.size W w1) := Lib.hid ((Below.drew (Below.refl _ W)).trans b1); have TT := Lib.hid (T.out w1 B1.out _ hcell); obtain ⟨p2, p3⟩ := HBox.out w1 B1.out; clear b1 hcell) | (go_at_call 38; refine TT.out.mono ?_; intro e w2 q2; have TB := q2.below; obtain ⟨qo, qn, qc, so, sn, sc, x, rfl⟩ := q2.shape; have hz := HZ.out w2 (below_up B1.out TB); have z0 : w2.cell? ⟨w.heap.size + 1 + 1 + 1, 0, none⟩ = some (.slice none 0 0) := (Lib.cell_of_heap hz 0).trans rfl; have z1 : w2.cell? ⟨w.heap.size + 1 + 1 + 1, 1, none⟩ = some (.slice none 0 0) := (Lib.cell_of_heap hz 1).trans rfl; have f0 : w2.frozen? ⟨w.heap.size + 1 + 1 + 1, 0, none⟩ = false := Lib.frozen_of_heap hz 0; have f1 : w2.frozen? ⟨w.heap.size + 1 + 1 + 1, 1, none⟩ = false := Lib.frozen_of_heap hz 1; have Q := Lib.hid (TabOut.stored q2 (below_up HB.out B1.out) hz (by omega) (by have := B1.out.size; have := hlt 3 (by omega); omega)); clear q2 TB hz))
  all_goals (go_wp2_with fail)
  all_goals exact bodyPost_ret (v := .tuple #[.agg #[.slice qo qn qc, .slice so sn sc], .int .i64 x]) (by simp [results, Tryz.results19, go_sem, z0, z1]) rfl Q.out

end Go.Proofs.YtigijgcldgbokaaGreat
