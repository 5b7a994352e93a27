/-
  The document's reference: what comes of an edit of columns that nothing is wrong with (one column more, one less, some of them).
  Conditions: tables and edits as small as the statements ask about.
  The document's reference: what comes of a column that is moved.
  Conditions: tables and edits as small as the statements ask about.
-/
import Derived.WalkKit
import Derived.WalkMore
import Derived.Lib.Hide
import Derived.Deep.RegionWith
import Derived.Deep.RegionHeld3
import Derived.Test.YtcifjclokfnocaaGreatProg
import Derived.Test.YtcifjclokfnocaaGreatERefL
import Derived.Test.YtcifjclokfnocaaGreatERefC2
import Derived.Test.YtcifjclokfnocaaGreatERefC3
import Derived.Test.YtcifjclokfnocaaGreatERefP
import Derived.Test.YtcifjclokfnocaaGreatTRefB
namespace Go.Proofs.YtcifjclokfnocaaGreat
open Go.RowKit Go.Shelf
set_option linter.unusedVariables false

set_option maxRecDepth 100000 in
set_option maxHeartbeats 8000000 in
theorem rturned0 (ho ro : Option Addr) (hd : List ByteArray) (rs : List (List ByteArray)) (hc : Cap ho hd.length) (rc : Cap ro rs.length) (j : Nat) (b : Int) (tx : ByteArray) (co : Option Addr) (cells : List ByteArray) (cc : Nat) (po : Option Addr) (pn : Nat) (pc : Nat) (w : World) (n : Nat) (hnw : n ≤ w.heap.size) (t : Tab)
    (K : ∀ V, Below w.heap.size w V → Calls Tryz.prog 60 #[.agg #[.slice ho hd.length hc.1, .slice ro rs.length rc.1], .int .i64 j, .string tx, .slice co cells.length cc] V (TabL n t V)) :
    Calls Tryz.prog 25 #[.agg #[.slice ho hd.length hc.1, .slice ro rs.length rc.1], .agg #[.int .i64 0, .int .i64 j, .int .i64 b, .string tx, .slice co cells.length cc, .slice po pn pc]] w (TabL n t w) := by
  obtain ⟨W, HW⟩ : ∃ W, Hid (W = ((w.alloc (TabO ho hd.length hc.1 ro rs.length rc.1)).alloc (EdO 0 j b tx co cells.length cc po pn pc)).alloc (.cells #[.slice none 0 0, .slice none 0 0] 25)) := ⟨_, Lib.hid rfl⟩
  have hB : Below w.heap.size w W := by rw [HW.out]; exact ((one_below _ _).alloc (by simp) _).alloc (by simp; omega) _
  have hN := two_new w (TabO ho hd.length hc.1 ro rs.length rc.1) (EdO 0 j b tx co cells.length cc po pn pc)
  have g0 : W.heap[w.heap.size]? = some (TabO ho hd.length hc.1 ro rs.length rc.1) := by rw [HW.out]; exact al_old _ hN.2.1
  have g1 : W.heap[w.heap.size + 1]? = some (EdO 0 j b tx co cells.length cc po pn pc) := by rw [HW.out]; exact al_old _ hN.2.2
  have g2 : W.heap[w.heap.size + 1 + 1]? = some (.cells #[.slice none 0 0, .slice none 0 0] 25 (0, 0)) := by
    rw [HW.out]
    have h := World.alloc_heap_new ((w.alloc (TabO ho hd.length hc.1 ro rs.length rc.1)).alloc (EdO 0 j b tx co cells.length cc po pn pc)) (.cells #[.slice none 0 0, .slice none 0 0] 25)
    simpa only [World.size_alloc] using h
  have hlt : w.heap.size + 1 + 1 < W.heap.size := lt_of_heap g2
  have HX : Hid (∀ V, Below W.heap.size W V → BoxT w W V) := Lib.hid (fun V hV => ⟨hV, hB, hlt, (hV.block _ hlt).trans g2⟩)
  have HZ : Hid (∀ V, Below W.heap.size W V → V.heap[w.heap.size + 1 + 1]? = some (.cells #[.slice none 0 0, .slice none 0 0] 25 (0, 0))) := Lib.hid (fun V hV => (hV.block _ hlt).trans g2)
  have HW2 : Hid (W = ((w.alloc (Obj.cells #[Value.slice ho hd.length hc.1, Value.slice ro rs.length rc.1] 25)).alloc (Obj.cells #[Value.int .i64 0, Value.int .i64 j, Value.int .i64 b, Value.string tx, Value.slice co cells.length cc, Value.slice po pn pc] 28)).alloc (Obj.cells #[Value.slice none 0 0, Value.slice none 0 0] 25)) := Lib.hid HW.out
  obtain ⟨p0, p1⟩ := tabs g0
  obtain ⟨e0, e1, e2, e3, e4, e5⟩ := edcells g1
  obtain ⟨z0, z1, f0, f1⟩ := zcells g2
  have C := Lib.hid (K W hB)
  clear hB hN g0 g1 g2 HW K
  go_enter Tryz.func25, Tryz.ntmps25
  go_wp2_with fail
  rw [← HW2.out]
  refine C.out.mono ?_; intro e w3 q
  obtain ⟨qo, qc, so, sc, rfl, k1, k2, k3, k4⟩ := q
  have Q := Lib.hid (turnedL_end (n := n) qc sc (HX.out w3 k3) k1 k2 (fun h0 A hA => by have := k4 h0 A hA; omega))
  clear p0 p1 e0 e1 e2 e3 e4 e5 z0 z1 f0 f1
  obtain ⟨z0, z1, f0, f1⟩ := zcells (HZ.out w3 k3)
  clear k1 k2 k3 k4 C
  go_wp2_with fail
  exact bodyPost_ret (v := .agg #[.slice qo t.1.length qc.1, .slice so t.2.length sc.1]) (by simp [results, Tryz.results25, go_sem, z0, z1]) rfl Q.out

set_option maxRecDepth 100000 in
set_option maxHeartbeats 8000000 in
theorem rturned1 (ho ro : Option Addr) (hd : List ByteArray) (rs : List (List ByteArray)) (hc : Cap ho hd.length) (rc : Cap ro rs.length) (j : Nat) (b : Int) (tx : ByteArray) (co : Option Addr) (cells : List ByteArray) (cc : Nat) (po : Option Addr) (pn : Nat) (pc : Nat) (w : World) (n : Nat) (hnw : n ≤ w.heap.size) (t : Tab)
    (K : ∀ V, Below w.heap.size w V → Calls Tryz.prog 61 #[.agg #[.slice ho hd.length hc.1, .slice ro rs.length rc.1], .int .i64 j] V (TabL n t V)) :
    Calls Tryz.prog 25 #[.agg #[.slice ho hd.length hc.1, .slice ro rs.length rc.1], .agg #[.int .i64 1, .int .i64 j, .int .i64 b, .string tx, .slice co cells.length cc, .slice po pn pc]] w (TabL n t w) := by
  obtain ⟨W, HW⟩ : ∃ W, Hid (W = ((w.alloc (TabO ho hd.length hc.1 ro rs.length rc.1)).alloc (EdO 1 j b tx co cells.length cc po pn pc)).alloc (.cells #[.slice none 0 0, .slice none 0 0] 25)) := ⟨_, Lib.hid rfl⟩
  have hB : Below w.heap.size w W := by rw [HW.out]; exact ((one_below _ _).alloc (by simp) _).alloc (by simp; omega) _
  have hN := two_new w (TabO ho hd.length hc.1 ro rs.length rc.1) (EdO 1 j b tx co cells.length cc po pn pc)
  have g0 : W.heap[w.heap.size]? = some (TabO ho hd.length hc.1 ro rs.length rc.1) := by rw [HW.out]; exact al_old _ hN.2.1
  have g1 : W.heap[w.heap.size + 1]? = some (EdO 1 j b tx co cells.length cc po pn pc) := by rw [HW.out]; exact al_old _ hN.2.2
  have g2 : W.heap[w.heap.size + 1 + 1]? = some (.cells #[.slice none 0 0, .slice none 0 0] 25 (0, 0)) := by
    rw [HW.out]
    have h := World.alloc_heap_new ((w.alloc (TabO ho hd.length hc.1 ro rs.length rc.1)).alloc (EdO 1 j b tx co cells.length cc po pn pc)) (.cells #[.slice none 0 0, .slice none 0 0] 25)
    simpa only [World.size_alloc] using h
  have hlt : w.heap.size + 1 + 1 < W.heap.size := lt_of_heap g2
  have HX : Hid (∀ V, Below W.heap.size W V → BoxT w W V) := Lib.hid (fun V hV => ⟨hV, hB, hlt, (hV.block _ hlt).trans g2⟩)
  have HZ : Hid (∀ V, Below W.heap.size W V → V.heap[w.heap.size + 1 + 1]? = some (.cells #[.slice none 0 0, .slice none 0 0] 25 (0, 0))) := Lib.hid (fun V hV => (hV.block _ hlt).trans g2)
  have HW2 : Hid (W = ((w.alloc (Obj.cells #[Value.slice ho hd.length hc.1, Value.slice ro rs.length rc.1] 25)).alloc (Obj.cells #[Value.int .i64 1, Value.int .i64 j, Value.int .i64 b, Value.string tx, Value.slice co cells.length cc, Value.slice po pn pc] 28)).alloc (Obj.cells #[Value.slice none 0 0, Value.slice none 0 0] 25)) := Lib.hid HW.out
  obtain ⟨p0, p1⟩ := tabs g0
  obtain ⟨e0, e1, e2, e3, e4, e5⟩ := edcells g1
  obtain ⟨z0, z1, f0, f1⟩ := zcells g2
  have C := Lib.hid (K W hB)
  clear hB hN g0 g1 g2 HW K
  go_enter Tryz.func25, Tryz.ntmps25
  go_wp2_with fail
  rw [← HW2.out]
  refine C.out.mono ?_; intro e w3 q
  obtain ⟨qo, qc, so, sc, rfl, k1, k2, k3, k4⟩ := q
  have Q := Lib.hid (turnedL_end (n := n) qc sc (HX.out w3 k3) k1 k2 (fun h0 A hA => by have := k4 h0 A hA; omega))
  clear p0 p1 e0 e1 e2 e3 e4 e5 z0 z1 f0 f1
  obtain ⟨z0, z1, f0, f1⟩ := zcells (HZ.out w3 k3)
  clear k1 k2 k3 k4 C
  go_wp2_with fail
  exact bodyPost_ret (v := .agg #[.slice qo t.1.length qc.1, .slice so t.2.length sc.1]) (by simp [results, Tryz.results25, go_sem, z0, z1]) rfl Q.out

set_option maxRecDepth 100000 in
set_option maxHeartbeats 8000000 in
theorem rturned8 (ho ro : Option Addr) (hd : List ByteArray) (rs : List (List ByteArray)) (hc : Cap ho hd.length) (rc : Cap ro rs.length) (kd : Int) (hkd : kd < 0 ∨ 7 < kd) (a : Int) (b : Int) (tx : ByteArray) (co : Option Addr) (cells : List ByteArray) (cc : Nat) (po : Option Addr) (pn : Nat) (pc : Nat) (w : World) (n : Nat) (hnw : n ≤ w.heap.size) (t : Tab)
    (K : ∀ V, Below w.heap.size w V → Calls Tryz.prog 67 #[.agg #[.slice ho hd.length hc.1, .slice ro rs.length rc.1], .slice po pn pc] V (TabL n t V)) :
    Calls Tryz.prog 25 #[.agg #[.slice ho hd.length hc.1, .slice ro rs.length rc.1], .agg #[.int .i64 kd, .int .i64 a, .int .i64 b, .string tx, .slice co cells.length cc, .slice po pn pc]] w (TabL n t w) := by
  obtain ⟨W, HW⟩ : ∃ W, Hid (W = ((w.alloc (TabO ho hd.length hc.1 ro rs.length rc.1)).alloc (EdO kd a b tx co cells.length cc po pn pc)).alloc (.cells #[.slice none 0 0, .slice none 0 0] 25)) := ⟨_, Lib.hid rfl⟩
  have hB : Below w.heap.size w W := by rw [HW.out]; exact ((one_below _ _).alloc (by simp) _).alloc (by simp; omega) _
  have hN := two_new w (TabO ho hd.length hc.1 ro rs.length rc.1) (EdO kd a b tx co cells.length cc po pn pc)
  have g0 : W.heap[w.heap.size]? = some (TabO ho hd.length hc.1 ro rs.length rc.1) := by rw [HW.out]; exact al_old _ hN.2.1
  have g1 : W.heap[w.heap.size + 1]? = some (EdO kd a b tx co cells.length cc po pn pc) := by rw [HW.out]; exact al_old _ hN.2.2
  have g2 : W.heap[w.heap.size + 1 + 1]? = some (.cells #[.slice none 0 0, .slice none 0 0] 25 (0, 0)) := by
    rw [HW.out]
    have h := World.alloc_heap_new ((w.alloc (TabO ho hd.length hc.1 ro rs.length rc.1)).alloc (EdO kd a b tx co cells.length cc po pn pc)) (.cells #[.slice none 0 0, .slice none 0 0] 25)
    simpa only [World.size_alloc] using h
  have hlt : w.heap.size + 1 + 1 < W.heap.size := lt_of_heap g2
  have HX : Hid (∀ V, Below W.heap.size W V → BoxT w W V) := Lib.hid (fun V hV => ⟨hV, hB, hlt, (hV.block _ hlt).trans g2⟩)
  have HZ : Hid (∀ V, Below W.heap.size W V → V.heap[w.heap.size + 1 + 1]? = some (.cells #[.slice none 0 0, .slice none 0 0] 25 (0, 0))) := Lib.hid (fun V hV => (hV.block _ hlt).trans g2)
  have HW2 : Hid (W = ((w.alloc (Obj.cells #[Value.slice ho hd.length hc.1, Value.slice ro rs.length rc.1] 25)).alloc (Obj.cells #[Value.int .i64 kd, Value.int .i64 a, Value.int .i64 b, Value.string tx, Value.slice co cells.length cc, Value.slice po pn pc] 28)).alloc (Obj.cells #[Value.slice none 0 0, Value.slice none 0 0] 25)) := Lib.hid HW.out
  obtain ⟨p0, p1⟩ := tabs g0
  obtain ⟨e0, e1, e2, e3, e4, e5⟩ := edcells g1
  obtain ⟨z0, z1, f0, f1⟩ := zcells g2
  have C := Lib.hid (K W hB)
  clear hB hN g0 g1 g2 HW K
  have c0 : (kd == 0) = false := by rw [beq_eq_false_iff_ne]; omega
  have c1 : (kd == 1) = false := by rw [beq_eq_false_iff_ne]; omega
  have c2 : (kd == 2) = false := by rw [beq_eq_false_iff_ne]; omega
  have c3 : (kd == 3) = false := by rw [beq_eq_false_iff_ne]; omega
  have c4 : (kd == 4) = false := by rw [beq_eq_false_iff_ne]; omega
  have c5 : (kd == 5) = false := by rw [beq_eq_false_iff_ne]; omega
  have c6 : (kd == 6) = false := by rw [beq_eq_false_iff_ne]; omega
  have c7 : (kd == 7) = false := by rw [beq_eq_false_iff_ne]; omega
  go_enter Tryz.func25, Tryz.ntmps25
  go_wp2_with fail
  rw [← HW2.out]
  refine C.out.mono ?_; intro e w3 q
  obtain ⟨qo, qc, so, sc, rfl, k1, k2, k3, k4⟩ := q
  have Q := Lib.hid (turnedL_end (n := n) qc sc (HX.out w3 k3) k1 k2 (fun h0 A hA => by have := k4 h0 A hA; omega))
  clear p0 p1 e0 e1 e2 e3 e4 e5 z0 z1 f0 f1
  obtain ⟨z0, z1, f0, f1⟩ := zcells (HZ.out w3 k3)
  clear k1 k2 k3 k4 C
  go_wp2_with fail
  exact bodyPost_ret (v := .agg #[.slice qo t.1.length qc.1, .slice so t.2.length sc.1]) (by simp [results, Tryz.results25, go_sem, z0, z1]) rfl Q.out
end Go.Proofs.YtcifjclokfnocaaGreat
namespace Go.Proofs.YtcifjclokfnocaaGreat
open Go.RowKit Go.Shelf
set_option linter.unusedVariables false

set_option maxRecDepth 100000 in
set_option maxHeartbeats 8000000 in
theorem rturned3 (ho ro : Option Addr) (hd : List ByteArray) (rs : List (List ByteArray)) (hc : Cap ho hd.length) (rc : Cap ro rs.length) (j i : Nat) (x tx : ByteArray) (co : Option Addr) (cells : List ByteArray) (cc : Nat) (po : Option Addr) (pn pc : Nat) (w : World) (n : Nat) (hnw : n ≤ w.heap.size) (d t : Tab) (col : List ByteArray)
    (hx : hd[j]? = some x) (hH : StrRow w ho hd)
    (KD : ∀ V, Below w.heap.size w V → Calls Tryz.prog 61 #[.agg #[.slice ho hd.length hc.1, .slice ro rs.length rc.1], .int .i64 j] V (TabL n d V))
    (KC : ∀ V, Below w.heap.size w V → Calls Tryz.prog 64 #[.agg #[.slice ho hd.length hc.1, .slice ro rs.length rc.1], .int .i64 j] V (StrOut col V))
    (KI : ∀ V so (sc : Cap so d.1.length) qo (qc : Cap qo d.2.length) uo uc, StrRow V so d.1 → RowsAt V qo d.2 → StrRow V uo col → Calls Tryz.prog 60 #[.agg #[.slice so d.1.length sc.1, .slice qo d.2.length qc.1], .int .i64 i, .string x, .slice uo col.length uc] V (TabL n t V)) :
    Calls Tryz.prog 25 #[.agg #[.slice ho hd.length hc.1, .slice ro rs.length rc.1], .agg #[.int .i64 3, .int .i64 j, .int .i64 i, .string tx, .slice co cells.length cc, .slice po pn pc]] w (TabL n t w) := by
  have hjl : j < hd.length := (List.getElem?_eq_some_iff.1 hx).1
  rcases hH with h0 | ⟨D, rfl, hD, hcell⟩
  · rw [h0] at hx; simp at hx
  have hx1 := hcell j x hx
  clear hcell
  obtain ⟨W, HW⟩ : ∃ W, Hid (W = ((w.alloc (TabO (some D) hd.length hc.1 ro rs.length rc.1)).alloc (EdO 3 j i tx co cells.length cc po pn pc)).alloc (.cells #[.slice none 0 0, .slice none 0 0] 25)) := ⟨_, Lib.hid rfl⟩
  have hB : Below w.heap.size w W := by rw [HW.out]; exact ((one_below _ _).alloc (by simp) _).alloc (by simp; omega) _
  have hN := two_new w (TabO (some D) hd.length hc.1 ro rs.length rc.1) (EdO 3 j i tx co cells.length cc po pn pc)
  have g0 : W.heap[w.heap.size]? = some (TabO (some D) hd.length hc.1 ro rs.length rc.1) := by rw [HW.out]; exact al_old _ hN.2.1
  have g1 : W.heap[w.heap.size + 1]? = some (EdO 3 j i tx co cells.length cc po pn pc) := by rw [HW.out]; exact al_old _ hN.2.2
  have g2 : W.heap[w.heap.size + 1 + 1]? = some (.cells #[.slice none 0 0, .slice none 0 0] 25 (0, 0)) := by
    rw [HW.out]
    have h := World.alloc_heap_new ((w.alloc (TabO (some D) hd.length hc.1 ro rs.length rc.1)).alloc (EdO 3 j i tx co cells.length cc po pn pc)) (.cells #[.slice none 0 0, .slice none 0 0] 25)
    simpa only [World.size_alloc] using h
  have hlt : w.heap.size + 1 + 1 < W.heap.size := lt_of_heap g2
  have HX : Hid (∀ V, Below W.heap.size W V → BoxT w W V) := Lib.hid (fun V hV => ⟨hV, hB, hlt, (hV.block _ hlt).trans g2⟩)
  have HS : Hid (∀ V, Below W.heap.size W V → (V.cell? ⟨w.heap.size, 0, none⟩ = some (.slice (some D) hd.length hc.1) ∧ V.cell? ⟨w.heap.size, 1, none⟩ = some (.slice ro rs.length rc.1)) ∧ (V.cell? ⟨w.heap.size + 1, 0, none⟩ = some (.int .i64 3) ∧ V.cell? ⟨w.heap.size + 1, 1, none⟩ = some (.int .i64 j) ∧ V.cell? ⟨w.heap.size + 1, 2, none⟩ = some (.int .i64 i) ∧ V.cell? ⟨w.heap.size + 1, 3, none⟩ = some (.string tx) ∧ V.cell? ⟨w.heap.size + 1, 4, none⟩ = some (.slice co cells.length cc) ∧ V.cell? ⟨w.heap.size + 1, 5, none⟩ = some (.slice po pn pc))) := Lib.hid (fun V hV => ⟨tabs ((hV.block _ (lt_of_heap g0)).trans g0), edcells ((hV.block _ (lt_of_heap g1)).trans g1)⟩)
  have HZ : Hid (∀ V, Below W.heap.size W V → V.heap[w.heap.size + 1 + 1]? = some (.cells #[.slice none 0 0, .slice none 0 0] 25 (0, 0))) := Lib.hid (fun V hV => (hV.block _ hlt).trans g2)
  have HW2 : Hid (W = ((w.alloc (Obj.cells #[Value.slice (some D) hd.length hc.1, Value.slice ro rs.length rc.1] 25)).alloc (Obj.cells #[Value.int .i64 3, Value.int .i64 j, Value.int .i64 i, Value.string tx, Value.slice co cells.length cc, Value.slice po pn pc] 28)).alloc (Obj.cells #[Value.slice none 0 0, Value.slice none 0 0] 25)) := Lib.hid HW.out
  have HY : Hid (∀ V, Below W.heap.size W V → V.cell? (D.add j) = some (.string x)) := Lib.hid (fun V hV => ((below_up hB hV).cell (p := D.add j) (by rw [add_block]; exact hD)).trans hx1)
  have hAne : w.heap.size + 1 + 1 ≠ (D.add j).block := by rw [add_block]; omega
  have hx0 := HY.out W (Below.refl _ _)
  have hj0 : (0 : Int) ≤ (j : Int) := Int.natCast_nonneg _
  have hj1 : (j : Int) < (hd.length : Int) := by omega
  obtain ⟨⟨p0, p1⟩, e0, e1, e2, e3, e4, e5⟩ := HS.out W (Below.refl _ _)
  obtain ⟨z0, z1, f0, f1⟩ := zcells (HZ.out W (Below.refl _ _))
  have K1 := Lib.hid (fun V (h : Below W.heap.size W V) => KD V (below_up hB h))
  have K2 := Lib.hid (fun V (h : Below W.heap.size W V) => KC V (below_up hB h))
  have K3 := Lib.hid KI
  clear hB hN g0 g1 g2 HW hx1 hx KD KC KI
  have B1 : Hid (Below W.heap.size W W.drew) := Lib.hid (Below.refl _ _).drew
  go_enter Tryz.func25, Tryz.ntmps25
  go_wp2_with fail
  rw [← HW2.out]
  go_region_held3 (fun V => V.cell? ⟨w.heap.size, 0, none⟩ = some (.slice (some D) hd.length hc.1) ∧ V.cell? ⟨w.heap.size, 1, none⟩ = some (.slice ro rs.length rc.1) ∧ V.cell? ⟨w.heap.size + 1, 1, none⟩ = some (.int .i64 j) ∧ V.cell? ⟨w.heap.size + 1, 2, none⟩ = some (.int .i64 i) ∧ V.cell? (D.add j) = some (.string x)) ((refine ⟨?_, ?_, ?_, ?_, ?_⟩ <;> first | assumption | exact keep_at (by assumption) (by first | assumption | (dsimp only; omega)) | go_keep))
    (first | (go_at_call 61; refine (K1.out _ B1.out).mono ?_; rintro e wO ⟨sO, cO, rO, kO, rfl, h1, h3, h2, h4⟩; have SZ := Lib.hid B1.out.size; have B1 : Hid (Below W.heap.size W wO) := Lib.hid (below_up B1.out h2); (try (have FP := Lib.hid (FP.out.kept h2))); have FO := Lib.hid h1; have FR := Lib.hid h3; obtain ⟨⟨p0, p1⟩, e0, e1, e2, e3, e4, e5⟩ := HS.out wO B1.out; obtain ⟨z0, z1, f0, f1⟩ := zcells (HZ.out wO B1.out); have hx0 := HY.out wO B1.out; clear h1 h2 h3 h4)
           | (go_at_call 64; refine (K2.out _ B1.out).mono ?_; rintro e wP ⟨sP, cP, rfl, h1, h2⟩; have SZ := Lib.hid B1.out.size; have B1 : Hid (Below W.heap.size W wP) := Lib.hid (below_up B1.out h2); (try (have FO := Lib.hid (FO.out.kept h2))); (try (have FR := Lib.hid (FR.out.kept h2))); have FP := Lib.hid h1; obtain ⟨⟨p0, p1⟩, e0, e1, e2, e3, e4, e5⟩ := HS.out wP B1.out; obtain ⟨z0, z1, f0, f1⟩ := zcells (HZ.out wP B1.out); have hx0 := HY.out wP B1.out; clear h1 h2)
           | (go_at_call 60; refine (K3.out _ _ cO _ kO _ _ FO.out FR.out FP.out).mono ?_; rintro e wQ ⟨sQ, cQ, rQ, kQ, rfl, h1, h3, h2, h4⟩; have SZ := Lib.hid B1.out.size; have B1 : Hid (Below W.heap.size W wQ) := Lib.hid (below_up B1.out h2); have FQ := Lib.hid h1; have FQr := Lib.hid h3; have FQf := Lib.hid h4; obtain ⟨⟨p0, p1⟩, e0, e1, e2, e3, e4, e5⟩ := HS.out wQ B1.out; obtain ⟨z0, z1, f0, f1⟩ := zcells (HZ.out wQ B1.out); have hx0 := HY.out wQ B1.out; clear h1 h2 h3 h4))
  all_goals
    rename_i hHeld
    clear hHeld
    have Q := Lib.hid (turnedL_end (n := n) cQ kQ (HX.out wQ B1.out) FQ.out FQr.out (fun h0 A hA => by have := FQf.out h0 A hA; have := SZ.out; omega))
    go_wp2_with fail
    exact bodyPost_ret (v := .agg #[.slice sQ t.1.length cQ.1, .slice rQ t.2.length kQ.1]) (by simp [results, Tryz.results25, go_sem, z0, z1]) rfl Q.out
end Go.Proofs.YtcifjclokfnocaaGreat
