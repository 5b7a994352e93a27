/-
  The calls of package edit: what each makes of a table, or the error that it tells.
  Conditions: tables of at most 1000 rows of at most 1000 cells of at most 10000 bytes (the statements ask about far smaller ones).
-/
import Derived.WalkKit
import Derived.WalkMore
import Derived.WalkLawsBesides
import Derived.Lib.Hide
import Derived.Deep.RegionWith
import Derived.StillTailTactics
import Derived.Laws.EntriesVeiled
import Derived.Test.YtcifjclokfnocaaGreatProg
import Derived.Test.YtcifjclokfnocaaGreatESize
namespace Go.Proofs.YtcifjclokfnocaaGreat
open Go.RowKit Go.Shelf
set_option linter.unusedVariables false

theorem tur_mem {rs r : List (List ByteArray)} {i : Int} {f : List ByteArray → Except Int (List ByteArray)} (h : turL rs i f = .ok r) : 0 ≤ i ∧ i < (rs.length : Int) ∧ ∃ x y, rs[i.toNat]? = some x ∧ f x = .ok y ∧ r = rs.set i.toNat y := by
  unfold turL at h
  split at h
  · rename_i hk
    cases hx : rs[i.toNat]? with
    | none => rw [hx] at h; cases h
    | some x =>
      rw [hx] at h
      simp only at h
      cases hf : f x with
      | error e => rw [hf] at h; cases h
      | ok y =>
        rw [hf] at h
        simp only [emap] at h
        injection h with h
        exact ⟨hk.1, hk.2, x, y, rfl, hf, h.symm⟩
  · cases h
theorem tur_sm {hd : List ByteArray} {rs r : List (List ByteArray)} {i k : Int} {x : ByteArray} (ht : tiT hd rs) (hx : x.size ≤ 10000) (h : turL rs i (fun r => setL r k x) = .ok r) : smT hd r := by
  obtain ⟨_, _, y, z, h1, h2, rfl⟩ := tur_mem h
  refine ⟨ht.1.sm, by have := ht.2.1; simp; omega, fun q hq => ?_⟩
  rcases List.mem_or_eq_of_mem_set hq with hq | rfl
  · exact (ht.2.2 q hq).sm
  · exact set_sm (ht.2.2 y (List.mem_of_getElem? h1)) hx h2
theorem add_is {k : Int} {cells : List ByteArray} {rs r : List (List ByteArray)} (h : addR k cells rs = .ok r) : cells.length = rs.length ∧ r.length = rs.length ∧ ∀ (i : Nat) x c, rs[i]? = some x → cells[i]? = some c → ∃ y, r[i]? = some y ∧ insL x k c = .ok y := by
  unfold addR at h
  split at h
  · rename_i hl
    obtain ⟨h1, h2⟩ := each_ok h
    refine ⟨hl, h1, fun i x c hx hc => ?_⟩
    obtain ⟨y, hy, hf⟩ := h2 i x hx
    rw [Nat.zero_add, addF, hc] at hf
    exact ⟨y, hy, hf⟩
  · cases h
theorem add_sm {hd h cells : List ByteArray} {rs r : List (List ByteArray)} {k : Int} {nm : ByteArray} (ht : tiT hd rs) (hnm : nm.size ≤ 10000) (tc : tiR cells) (h1 : insL hd k nm = .ok h) (h2 : addR k cells rs = .ok r) : smT h r := by
  obtain ⟨hl, hr, hi⟩ := add_is h2
  refine ⟨ins_sm ht.1 hnm h1, by have := ht.2.1; omega, fun q hq => ?_⟩
  obtain ⟨i, hi', rfl⟩ := List.getElem_of_mem hq
  obtain ⟨y, hy, hf⟩ := hi i (rs[i]'(by omega)) (cells[i]'(by omega)) (List.getElem?_eq_getElem (by omega)) (List.getElem?_eq_getElem (by omega))
  rw [List.getElem?_eq_getElem hi'] at hy
  injection hy with hy
  rw [hy]
  exact ins_sm (ht.2.2 _ (List.getElem_mem _)) (tc.2 _ (List.getElem_mem _)) hf

set_option maxRecDepth 100000 in
set_option maxHeartbeats 8000000 in
theorem eDeleteRow (ho ro : Option Addr) (hd : List ByteArray) (rs : List (List ByteArray)) (hc : Cap ho hd.length) (rc : Cap ro rs.length) (k : Int) (w : World) (ht : tiT hd rs) (hH : StrRow w ho hd) (hR : RowsAt w ro rs) :
    Calls Tryz.prog 21 #[.agg #[.slice ho hd.length hc.1, .slice ro rs.length rc.1], .int .i64 k] w (TabOut (turnR (fun xs => .ok xs) (fun rs => delL rs k) hd rs) w) := by
  have hmf : ∀ (fn : Fn) (first cap : Array Value) (w : World), (Instr.makeFunc fn first cap).run Tryz.prog w = .ok (.func fn first cap) w := fun _ _ _ _ => rfl
  obtain ⟨W, HW⟩ : ∃ W, Hid (W = (((w.alloc (.cells #[.slice ho hd.length hc.1, .slice ro rs.length rc.1] 25)).alloc (.cells #[.int .i64 k] 3)).alloc (.cells #[.slice none 0 0, .slice none 0 0] 25))) := ⟨_, Lib.hid rfl⟩
  have hB : Below w.heap.size w W := by rw [HW.out]; exact ((one_below _ _).alloc (by simp) _).alloc (by simp; omega) _
  have hsz : W.heap.size = w.heap.size + 3 := by rw [HW.out]; simp
  have g0 : W.heap[w.heap.size]? = some (.cells #[.slice ho hd.length hc.1, .slice ro rs.length rc.1] 25 (0, 0)) := by rw [HW.out]; exact al_old _ (al_old _ ((World.alloc_heap_new w (.cells #[.slice ho hd.length hc.1, .slice ro rs.length rc.1] 25))))
  have g1 : W.heap[w.heap.size + 1]? = some (.cells #[.int .i64 k] 3 (0, 0)) := by rw [HW.out]; exact al_old _ ((by have h := World.alloc_heap_new (w.alloc (.cells #[.slice ho hd.length hc.1, .slice ro rs.length rc.1] 25)) (.cells #[.int .i64 k] 3); simpa only [World.size_alloc] using h))
  have g2 : W.heap[w.heap.size + 1 + 1]? = some (.cells #[.slice none 0 0, .slice none 0 0] 25 (0, 0)) := by rw [HW.out]; exact (by have h := World.alloc_heap_new ((w.alloc (.cells #[.slice ho hd.length hc.1, .slice ro rs.length rc.1] 25)).alloc (.cells #[.int .i64 k] 3)) (.cells #[.slice none 0 0, .slice none 0 0] 25); simpa only [World.size_alloc] using h)
  have HB := Lib.hid hB
  have hlt : ∀ j, j < 3 → w.heap.size + j < W.heap.size := fun j hj => by omega
  have HBox : Hid (∀ V, Below W.heap.size W V → V.cell? ⟨w.heap.size, 0, none⟩ = some (.slice ho hd.length hc.1) ∧ V.cell? ⟨w.heap.size, 1, none⟩ = some (.slice ro rs.length rc.1)) := Lib.hid (fun V hV => tabs ((hV.block _ (lt_of_heap g0)).trans g0))
  have HZ : Hid (∀ V, Below W.heap.size W V → V.heap[w.heap.size + 1 + 1]? = some (.cells #[.slice none 0 0, .slice none 0 0] 25 (0, 0))) := Lib.hid (fun V hV => (hV.block _ (lt_of_heap g2)).trans g2)
  obtain ⟨X, HX⟩ : ∃ X, Hid (X = turnR (fun xs => .ok xs) (fun rs => delL rs k) hd rs) := ⟨_, Lib.hid rfl⟩
  have T : Hid (∀ V, Below W.heap.size W V → Calls Tryz.prog 27 #[.agg #[.slice ho hd.length hc.1, .slice ro rs.length rc.1], .agg #[.func (.func 80) #[] #[], .func (.func 53) #[] #[.pointer (some ⟨w.heap.size + 1, 0, none⟩)]]] V (TabOut X V)) := Lib.hid (fun V hV => by
    rw [HX.out]
    have k1 : V.cell? ⟨w.heap.size + 1, 0, none⟩ = some (.int .i64 k) := (Lib.cell_of_heap ((hV.block _ (lt_of_heap g1)).trans g1) 0).trans rfl
    have hw := below_up hB hV
    exact turned_any ho ro hd rs hc rc _ _ _ _ _ _ (fun _ => True) _ V ht.sm (hH.kept hw) (hR.kept hw) (cSameS V) (cDeleteRow1 _ k V k1) (fun _ => trivial) (fun _ => (by have := ht.2.1; show rs.length ≤ 5000; omega)) (fun h r _ h1 h2 => by injection h1 with h1; subst h1; exact ⟨ht.1.sm, by have := (del_mem h2).2.2.1; have := ht.2.1; omega, fun z hz => (ht.2.2 z ((del_mem h2).2.2.2 z hz)).sm⟩) (enters_of Tryz.func80 (by kernel_rfl) rfl) (enters_of Tryz.func53 (by kernel_rfl) rfl))
  rw [← HX.out]
  clear hH hR ht HX hsz g0 g1 g2
  obtain ⟨p0, p1⟩ := HBox.out W (Below.refl _ _)
  have hl0 := hlt 0 (by omega)
  have hl1 := hlt 2 (by omega)
  have HW2 : Hid (W = (((w.alloc (.cells #[.slice ho hd.length hc.1, .slice ro rs.length rc.1] 25)).alloc (.cells #[.int .i64 k] 3)).alloc (.cells #[.slice none 0 0, .slice none 0 0] 25))) := Lib.hid HW.out
  go_enter Tryz.func21, Tryz.ntmps21
  go_wp2_with fail
  rw [← HW2.out]
  go_region_with (first | (go_at_call 37; refine (ofRows_any 53 #[.pointer (some ⟨w.heap.size + 1, 0, none⟩)] W.drew).mono ?_; rintro e w1 ⟨rfl, b1⟩; have B1 : Hid (Below W.heap.size W w1) := Lib.hid ((Below.drew (Below.refl _ W)).trans b1); have TT := Lib.hid (T.out w1 B1.out); obtain ⟨p2, p3⟩ := HBox.out w1 B1.out; clear b1) | (go_at_call 27; refine TT.out.mono ?_; intro e w2 q2; have TB := q2.below; obtain ⟨qo, qn, qc, so, sn, sc, x, rfl⟩ := q2.shape; have hz := HZ.out w2 (below_up B1.out TB); have z0 : w2.cell? ⟨w.heap.size + 1 + 1, 0, none⟩ = some (.slice none 0 0) := (Lib.cell_of_heap hz 0).trans rfl; have z1 : w2.cell? ⟨w.heap.size + 1 + 1, 1, none⟩ = some (.slice none 0 0) := (Lib.cell_of_heap hz 1).trans rfl; have f0 : w2.frozen? ⟨w.heap.size + 1 + 1, 0, none⟩ = false := Lib.frozen_of_heap hz 0; have f1 : w2.frozen? ⟨w.heap.size + 1 + 1, 1, none⟩ = false := Lib.frozen_of_heap hz 1; have Q := Lib.hid (TabOut.stored q2 (below_up HB.out B1.out) hz (by omega) (by have := B1.out.size; have := hlt 2 (by omega); omega)); clear q2 TB hz))
  all_goals (go_wp2_with fail)
  all_goals exact bodyPost_ret (v := .tuple #[.agg #[.slice qo qn qc, .slice so sn sc], .int .i64 x]) (by simp [results, Tryz.results21, go_sem, z0, z1]) rfl Q.out

set_option maxRecDepth 100000 in
set_option maxHeartbeats 8000000 in
theorem eMoveRow (ho ro : Option Addr) (hd : List ByteArray) (rs : List (List ByteArray)) (hc : Cap ho hd.length) (rc : Cap ro rs.length) (k : Int) (t : Int) (w : World) (ht : tiT hd rs) (hH : StrRow w ho hd) (hR : RowsAt w ro rs) :
    Calls Tryz.prog 22 #[.agg #[.slice ho hd.length hc.1, .slice ro rs.length rc.1], .int .i64 k, .int .i64 t] w (TabOut (turnR (fun xs => .ok xs) (fun rs => movL rs k t) hd rs) w) := by
  have hmf : ∀ (fn : Fn) (first cap : Array Value) (w : World), (Instr.makeFunc fn first cap).run Tryz.prog w = .ok (.func fn first cap) w := fun _ _ _ _ => rfl
  obtain ⟨W, HW⟩ : ∃ W, Hid (W = ((((w.alloc (.cells #[.slice ho hd.length hc.1, .slice ro rs.length rc.1] 25)).alloc (.cells #[.int .i64 k] 3)).alloc (.cells #[.int .i64 t] 3)).alloc (.cells #[.slice none 0 0, .slice none 0 0] 25))) := ⟨_, Lib.hid rfl⟩
  have hB : Below w.heap.size w W := by rw [HW.out]; exact (((one_below _ _).alloc (by simp) _).alloc (by simp; omega) _).alloc (by simp; omega) _
  have hsz : W.heap.size = w.heap.size + 4 := by rw [HW.out]; simp
  have g0 : W.heap[w.heap.size]? = some (.cells #[.slice ho hd.length hc.1, .slice ro rs.length rc.1] 25 (0, 0)) := by rw [HW.out]; exact al_old _ (al_old _ (al_old _ ((World.alloc_heap_new w (.cells #[.slice ho hd.length hc.1, .slice ro rs.length rc.1] 25)))))
  have g1 : W.heap[w.heap.size + 1]? = some (.cells #[.int .i64 k] 3 (0, 0)) := by rw [HW.out]; exact al_old _ (al_old _ ((by have h := World.alloc_heap_new (w.alloc (.cells #[.slice ho hd.length hc.1, .slice ro rs.length rc.1] 25)) (.cells #[.int .i64 k] 3); simpa only [World.size_alloc] using h)))
  have g2 : W.heap[w.heap.size + 1 + 1]? = some (.cells #[.int .i64 t] 3 (0, 0)) := by rw [HW.out]; exact al_old _ ((by have h := World.alloc_heap_new ((w.alloc (.cells #[.slice ho hd.length hc.1, .slice ro rs.length rc.1] 25)).alloc (.cells #[.int .i64 k] 3)) (.cells #[.int .i64 t] 3); simpa only [World.size_alloc] using h))
  have g3 : W.heap[w.heap.size + 1 + 1 + 1]? = some (.cells #[.slice none 0 0, .slice none 0 0] 25 (0, 0)) := by rw [HW.out]; exact (by have h := World.alloc_heap_new (((w.alloc (.cells #[.slice ho hd.length hc.1, .slice ro rs.length rc.1] 25)).alloc (.cells #[.int .i64 k] 3)).alloc (.cells #[.int .i64 t] 3)) (.cells #[.slice none 0 0, .slice none 0 0] 25); simpa only [World.size_alloc] using h)
  have HB := Lib.hid hB
  have hlt : ∀ j, j < 4 → w.heap.size + j < W.heap.size := fun j hj => by omega
  have HBox : Hid (∀ V, Below W.heap.size W V → V.cell? ⟨w.heap.size, 0, none⟩ = some (.slice ho hd.length hc.1) ∧ V.cell? ⟨w.heap.size, 1, none⟩ = some (.slice ro rs.length rc.1)) := Lib.hid (fun V hV => tabs ((hV.block _ (lt_of_heap g0)).trans g0))
  have HZ : Hid (∀ V, Below W.heap.size W V → V.heap[w.heap.size + 1 + 1 + 1]? = some (.cells #[.slice none 0 0, .slice none 0 0] 25 (0, 0))) := Lib.hid (fun V hV => (hV.block _ (lt_of_heap g3)).trans g3)
  obtain ⟨X, HX⟩ : ∃ X, Hid (X = turnR (fun xs => .ok xs) (fun rs => movL rs k t) hd rs) := ⟨_, Lib.hid rfl⟩
  have T : Hid (∀ V, Below W.heap.size W V → Calls Tryz.prog 27 #[.agg #[.slice ho hd.length hc.1, .slice ro rs.length rc.1], .agg #[.func (.func 80) #[] #[], .func (.func 55) #[] #[.pointer (some ⟨w.heap.size + 1, 0, none⟩), .pointer (some ⟨w.heap.size + 1 + 1, 0, none⟩)]]] V (TabOut X V)) := Lib.hid (fun V hV => by
    rw [HX.out]
    have k1 : V.cell? ⟨w.heap.size + 1, 0, none⟩ = some (.int .i64 k) := (Lib.cell_of_heap ((hV.block _ (lt_of_heap g1)).trans g1) 0).trans rfl
    have k2 : V.cell? ⟨w.heap.size + 1 + 1, 0, none⟩ = some (.int .i64 t) := (Lib.cell_of_heap ((hV.block _ (lt_of_heap g2)).trans g2) 0).trans rfl
    have hw := below_up hB hV
    exact turned_any ho ro hd rs hc rc _ _ _ _ _ _ (fun _ => True) _ V ht.sm (hH.kept hw) (hR.kept hw) (cSameS V) (cMoveRow1 _ _ k t V k1 k2) (fun _ => trivial) (fun _ => (by have := ht.2.1; show rs.length ≤ 5000; omega)) (fun h r _ h1 h2 => by injection h1 with h1; subst h1; exact ⟨ht.1.sm, by have := (mov_mem h2).2.2.2.2.1; have := ht.2.1; omega, fun z hz => (ht.2.2 z ((mov_mem h2).2.2.2.2.2 z hz)).sm⟩) (enters_of Tryz.func80 (by kernel_rfl) rfl) (enters_of Tryz.func55 (by kernel_rfl) rfl))
  rw [← HX.out]
  clear hH hR ht HX hsz g0 g1 g2 g3
  obtain ⟨p0, p1⟩ := HBox.out W (Below.refl _ _)
  have hl0 := hlt 0 (by omega)
  have hl1 := hlt 3 (by omega)
  have HW2 : Hid (W = ((((w.alloc (.cells #[.slice ho hd.length hc.1, .slice ro rs.length rc.1] 25)).alloc (.cells #[.int .i64 k] 3)).alloc (.cells #[.int .i64 t] 3)).alloc (.cells #[.slice none 0 0, .slice none 0 0] 25))) := Lib.hid HW.out
  go_enter Tryz.func22, Tryz.ntmps22
  go_wp2_with fail
  rw [← HW2.out]
  go_region_with (first | (go_at_call 37; refine (ofRows_any 55 #[.pointer (some ⟨w.heap.size + 1, 0, none⟩), .pointer (some ⟨w.heap.size + 1 + 1, 0, none⟩)] W.drew).mono ?_; rintro e w1 ⟨rfl, b1⟩; have B1 : Hid (Below W.heap.size W w1) := Lib.hid ((Below.drew (Below.refl _ W)).trans b1); have TT := Lib.hid (T.out w1 B1.out); obtain ⟨p2, p3⟩ := HBox.out w1 B1.out; clear b1) | (go_at_call 27; refine TT.out.mono ?_; intro e w2 q2; have TB := q2.below; obtain ⟨qo, qn, qc, so, sn, sc, x, rfl⟩ := q2.shape; have hz := HZ.out w2 (below_up B1.out TB); have z0 : w2.cell? ⟨w.heap.size + 1 + 1 + 1, 0, none⟩ = some (.slice none 0 0) := (Lib.cell_of_heap hz 0).trans rfl; have z1 : w2.cell? ⟨w.heap.size + 1 + 1 + 1, 1, none⟩ = some (.slice none 0 0) := (Lib.cell_of_heap hz 1).trans rfl; have f0 : w2.frozen? ⟨w.heap.size + 1 + 1 + 1, 0, none⟩ = false := Lib.frozen_of_heap hz 0; have f1 : w2.frozen? ⟨w.heap.size + 1 + 1 + 1, 1, none⟩ = false := Lib.frozen_of_heap hz 1; have Q := Lib.hid (TabOut.stored q2 (below_up HB.out B1.out) hz (by omega) (by have := B1.out.size; have := hlt 3 (by omega); omega)); clear q2 TB hz))
  all_goals (go_wp2_with fail)
  all_goals exact bodyPost_ret (v := .tuple #[.agg #[.slice qo qn qc, .slice so sn sc], .int .i64 x]) (by simp [results, Tryz.results22, go_sem, z0, z1]) rfl Q.out

set_option maxRecDepth 100000 in
set_option maxHeartbeats 8000000 in
theorem eInsertRow (ho ro : Option Addr) (hd : List ByteArray) (rs : List (List ByteArray)) (hc : Cap ho hd.length) (rc : Cap ro rs.length) (k : Int) (xo : Option Addr) (x : List ByteArray) (xc : Cap xo x.length) (w : World) (ht : tiT hd rs) (hH : StrRow w ho hd) (hR : RowsAt w ro rs) (hx : StrRow w xo x) (tx : tiR x) :
    Calls Tryz.prog 13 #[.agg #[.slice ho hd.length hc.1, .slice ro rs.length rc.1], .int .i64 k, .slice xo x.length xc.1] w (TabOut (turnR (fun xs => .ok xs) (fun rs => insL rs k x) hd rs) w) := by
  have hmf : ∀ (fn : Fn) (first cap : Array Value) (w : World), (Instr.makeFunc fn first cap).run Tryz.prog w = .ok (.func fn first cap) w := fun _ _ _ _ => rfl
  obtain ⟨W, HW⟩ : ∃ W, Hid (W = ((((w.alloc (.cells #[.slice ho hd.length hc.1, .slice ro rs.length rc.1] 25)).alloc (.cells #[.int .i64 k] 3)).alloc (.cells #[.slice xo x.length xc.1] 22)).alloc (.cells #[.slice none 0 0, .slice none 0 0] 25))) := ⟨_, Lib.hid rfl⟩
  have hB : Below w.heap.size w W := by rw [HW.out]; exact (((one_below _ _).alloc (by simp) _).alloc (by simp; omega) _).alloc (by simp; omega) _
  have hsz : W.heap.size = w.heap.size + 4 := by rw [HW.out]; simp
  have g0 : W.heap[w.heap.size]? = some (.cells #[.slice ho hd.length hc.1, .slice ro rs.length rc.1] 25 (0, 0)) := by rw [HW.out]; exact al_old _ (al_old _ (al_old _ ((World.alloc_heap_new w (.cells #[.slice ho hd.length hc.1, .slice ro rs.length rc.1] 25)))))
  have g1 : W.heap[w.heap.size + 1]? = some (.cells #[.int .i64 k] 3 (0, 0)) := by rw [HW.out]; exact al_old _ (al_old _ ((by have h := World.alloc_heap_new (w.alloc (.cells #[.slice ho hd.length hc.1, .slice ro rs.length rc.1] 25)) (.cells #[.int .i64 k] 3); simpa only [World.size_alloc] using h)))
  have g2 : W.heap[w.heap.size + 1 + 1]? = some (.cells #[.slice xo x.length xc.1] 22 (0, 0)) := by rw [HW.out]; exact al_old _ ((by have h := World.alloc_heap_new ((w.alloc (.cells #[.slice ho hd.length hc.1, .slice ro rs.length rc.1] 25)).alloc (.cells #[.int .i64 k] 3)) (.cells #[.slice xo x.length xc.1] 22); simpa only [World.size_alloc] using h))
  have g3 : W.heap[w.heap.size + 1 + 1 + 1]? = some (.cells #[.slice none 0 0, .slice none 0 0] 25 (0, 0)) := by rw [HW.out]; exact (by have h := World.alloc_heap_new (((w.alloc (.cells #[.slice ho hd.length hc.1, .slice ro rs.length rc.1] 25)).alloc (.cells #[.int .i64 k] 3)).alloc (.cells #[.slice xo x.length xc.1] 22)) (.cells #[.slice none 0 0, .slice none 0 0] 25); simpa only [World.size_alloc] using h)
  have HB := Lib.hid hB
  have hlt : ∀ j, j < 4 → w.heap.size + j < W.heap.size := fun j hj => by omega
  have HBox : Hid (∀ V, Below W.heap.size W V → V.cell? ⟨w.heap.size, 0, none⟩ = some (.slice ho hd.length hc.1) ∧ V.cell? ⟨w.heap.size, 1, none⟩ = some (.slice ro rs.length rc.1)) := Lib.hid (fun V hV => tabs ((hV.block _ (lt_of_heap g0)).trans g0))
  have HZ : Hid (∀ V, Below W.heap.size W V → V.heap[w.heap.size + 1 + 1 + 1]? = some (.cells #[.slice none 0 0, .slice none 0 0] 25 (0, 0))) := Lib.hid (fun V hV => (hV.block _ (lt_of_heap g3)).trans g3)
  obtain ⟨X, HX⟩ : ∃ X, Hid (X = turnR (fun xs => .ok xs) (fun rs => insL rs k x) hd rs) := ⟨_, Lib.hid rfl⟩
  have T : Hid (∀ V, Below W.heap.size W V → Calls Tryz.prog 27 #[.agg #[.slice ho hd.length hc.1, .slice ro rs.length rc.1], .agg #[.func (.func 80) #[] #[], .func (.func 38) #[] #[.pointer (some ⟨w.heap.size + 1, 0, none⟩), .pointer (some ⟨w.heap.size + 1 + 1, 0, none⟩)]]] V (TabOut X V)) := Lib.hid (fun V hV => by
    rw [HX.out]
    have k1 : V.cell? ⟨w.heap.size + 1, 0, none⟩ = some (.int .i64 k) := (Lib.cell_of_heap ((hV.block _ (lt_of_heap g1)).trans g1) 0).trans rfl
    have k2 : V.cell? ⟨w.heap.size + 1 + 1, 0, none⟩ = some (.slice xo x.length xc.1) := (Lib.cell_of_heap ((hV.block _ (lt_of_heap g2)).trans g2) 0).trans rfl
    have hw := below_up hB hV
    exact turned_any ho ro hd rs hc rc _ _ _ _ _ _ (fun _ => True) _ V ht.sm (hH.kept hw) (hR.kept hw) (cSameS V) (cInsertRow1 _ _ k xo x xc V k1 k2 (hx.kept hw)) (fun _ => trivial) (fun _ => (by have := ht.2.1; show rs.length ≤ 5000; omega)) (fun h r _ h1 h2 => by injection h1 with h1; subst h1; exact ⟨ht.1.sm, by have := (ins_mem h2).2.2.1; have := ht.2.1; omega, fun z hz => by
      rcases (ins_mem h2).2.2.2 z hz with rfl | hz
      · exact tx.sm
      · exact (ht.2.2 z hz).sm⟩) (enters_of Tryz.func80 (by kernel_rfl) rfl) (enters_of Tryz.func38 (by kernel_rfl) rfl))
  rw [← HX.out]
  clear hH hR ht HX hsz g0 g1 g2 g3
  obtain ⟨p0, p1⟩ := HBox.out W (Below.refl _ _)
  have hl0 := hlt 0 (by omega)
  have hl1 := hlt 3 (by omega)
  have HW2 : Hid (W = ((((w.alloc (.cells #[.slice ho hd.length hc.1, .slice ro rs.length rc.1] 25)).alloc (.cells #[.int .i64 k] 3)).alloc (.cells #[.slice xo x.length xc.1] 22)).alloc (.cells #[.slice none 0 0, .slice none 0 0] 25))) := Lib.hid HW.out
  go_enter Tryz.func13, Tryz.ntmps13
  go_wp2_with fail
  rw [← HW2.out]
  go_region_with (first | (go_at_call 37; refine (ofRows_any 38 #[.pointer (some ⟨w.heap.size + 1, 0, none⟩), .pointer (some ⟨w.heap.size + 1 + 1, 0, none⟩)] W.drew).mono ?_; rintro e w1 ⟨rfl, b1⟩; have B1 : Hid (Below W.heap.size W w1) := Lib.hid ((Below.drew (Below.refl _ W)).trans b1); have TT := Lib.hid (T.out w1 B1.out); obtain ⟨p2, p3⟩ := HBox.out w1 B1.out; clear b1) | (go_at_call 27; refine TT.out.mono ?_; intro e w2 q2; have TB := q2.below; obtain ⟨qo, qn, qc, so, sn, sc, x, rfl⟩ := q2.shape; have hz := HZ.out w2 (below_up B1.out TB); have z0 : w2.cell? ⟨w.heap.size + 1 + 1 + 1, 0, none⟩ = some (.slice none 0 0) := (Lib.cell_of_heap hz 0).trans rfl; have z1 : w2.cell? ⟨w.heap.size + 1 + 1 + 1, 1, none⟩ = some (.slice none 0 0) := (Lib.cell_of_heap hz 1).trans rfl; have f0 : w2.frozen? ⟨w.heap.size + 1 + 1 + 1, 0, none⟩ = false := Lib.frozen_of_heap hz 0; have f1 : w2.frozen? ⟨w.heap.size + 1 + 1 + 1, 1, none⟩ = false := Lib.frozen_of_heap hz 1; have Q := Lib.hid (TabOut.stored q2 (below_up HB.out B1.out) hz (by omega) (by have := B1.out.size; have := hlt 3 (by omega); omega)); clear q2 TB hz))
  all_goals (go_wp2_with fail)
  all_goals exact bodyPost_ret (v := .tuple #[.agg #[.slice qo qn qc, .slice so sn sc], .int .i64 x]) (by simp [results, Tryz.results13, go_sem, z0, z1]) rfl Q.out

set_option maxRecDepth 100000 in
set_option maxHeartbeats 8000000 in
theorem eSet (ho ro : Option Addr) (hd : List ByteArray) (rs : List (List ByteArray)) (hc : Cap ho hd.length) (rc : Cap ro rs.length) (i : Int) (k : Int) (x : ByteArray) (w : World) (ht : tiT hd rs) (hH : StrRow w ho hd) (hR : RowsAt w ro rs) (hx : x.size ≤ 10000) :
    Calls Tryz.prog 14 #[.agg #[.slice ho hd.length hc.1, .slice ro rs.length rc.1], .int .i64 i, .int .i64 k, .string x] w (TabOut (turnR (fun xs => .ok xs) (fun rs => turL rs i (fun r => setL r k x)) hd rs) w) := by
  have hmf : ∀ (fn : Fn) (first cap : Array Value) (w : World), (Instr.makeFunc fn first cap).run Tryz.prog w = .ok (.func fn first cap) w := fun _ _ _ _ => rfl
  obtain ⟨W, HW⟩ : ∃ W, Hid (W = (((((w.alloc (.cells #[.slice ho hd.length hc.1, .slice ro rs.length rc.1] 25)).alloc (.cells #[.int .i64 i] 3)).alloc (.cells #[.int .i64 k] 3)).alloc (.cells #[.string x] 9)).alloc (.cells #[.slice none 0 0, .slice none 0 0] 25))) := ⟨_, Lib.hid rfl⟩
  have hB : Below w.heap.size w W := by rw [HW.out]; exact ((((one_below _ _).alloc (by simp) _).alloc (by simp; omega) _).alloc (by simp; omega) _).alloc (by simp; omega) _
  have hsz : W.heap.size = w.heap.size + 5 := by rw [HW.out]; simp
  have g0 : W.heap[w.heap.size]? = some (.cells #[.slice ho hd.length hc.1, .slice ro rs.length rc.1] 25 (0, 0)) := by rw [HW.out]; exact al_old _ (al_old _ (al_old _ (al_old _ ((World.alloc_heap_new w (.cells #[.slice ho hd.length hc.1, .slice ro rs.length rc.1] 25))))))
  have g1 : W.heap[w.heap.size + 1]? = some (.cells #[.int .i64 i] 3 (0, 0)) := by rw [HW.out]; exact al_old _ (al_old _ (al_old _ ((by have h := World.alloc_heap_new (w.alloc (.cells #[.slice ho hd.length hc.1, .slice ro rs.length rc.1] 25)) (.cells #[.int .i64 i] 3); simpa only [World.size_alloc] using h))))
  have g2 : W.heap[w.heap.size + 1 + 1]? = some (.cells #[.int .i64 k] 3 (0, 0)) := by rw [HW.out]; exact al_old _ (al_old _ ((by have h := World.alloc_heap_new ((w.alloc (.cells #[.slice ho hd.length hc.1, .slice ro rs.length rc.1] 25)).alloc (.cells #[.int .i64 i] 3)) (.cells #[.int .i64 k] 3); simpa only [World.size_alloc] using h)))
  have g3 : W.heap[w.heap.size + 1 + 1 + 1]? = some (.cells #[.string x] 9 (0, 0)) := by rw [HW.out]; exact al_old _ ((by have h := World.alloc_heap_new (((w.alloc (.cells #[.slice ho hd.length hc.1, .slice ro rs.length rc.1] 25)).alloc (.cells #[.int .i64 i] 3)).alloc (.cells #[.int .i64 k] 3)) (.cells #[.string x] 9); simpa only [World.size_alloc] using h))
  have g4 : W.heap[w.heap.size + 1 + 1 + 1 + 1]? = some (.cells #[.slice none 0 0, .slice none 0 0] 25 (0, 0)) := by rw [HW.out]; exact (by have h := World.alloc_heap_new ((((w.alloc (.cells #[.slice ho hd.length hc.1, .slice ro rs.length rc.1] 25)).alloc (.cells #[.int .i64 i] 3)).alloc (.cells #[.int .i64 k] 3)).alloc (.cells #[.string x] 9)) (.cells #[.slice none 0 0, .slice none 0 0] 25); simpa only [World.size_alloc] using h)
  have HB := Lib.hid hB
  have hlt : ∀ j, j < 5 → w.heap.size + j < W.heap.size := fun j hj => by omega
  have HBox : Hid (∀ V, Below W.heap.size W V → V.cell? ⟨w.heap.size, 0, none⟩ = some (.slice ho hd.length hc.1) ∧ V.cell? ⟨w.heap.size, 1, none⟩ = some (.slice ro rs.length rc.1)) := Lib.hid (fun V hV => tabs ((hV.block _ (lt_of_heap g0)).trans g0))
  have HZ : Hid (∀ V, Below W.heap.size W V → V.heap[w.heap.size + 1 + 1 + 1 + 1]? = some (.cells #[.slice none 0 0, .slice none 0 0] 25 (0, 0))) := Lib.hid (fun V hV => (hV.block _ (lt_of_heap g4)).trans g4)
  obtain ⟨X, HX⟩ : ∃ X, Hid (X = turnR (fun xs => .ok xs) (fun rs => turL rs i (fun r => setL r k x)) hd rs) := ⟨_, Lib.hid rfl⟩
  have T : Hid (∀ V, Below W.heap.size W V → Calls Tryz.prog 27 #[.agg #[.slice ho hd.length hc.1, .slice ro rs.length rc.1], .agg #[.func (.func 80) #[] #[], .func (.func 40) #[] #[.pointer (some ⟨w.heap.size + 1, 0, none⟩), .pointer (some ⟨w.heap.size + 1 + 1, 0, none⟩), .pointer (some ⟨w.heap.size + 1 + 1 + 1, 0, none⟩)]]] V (TabOut X V)) := Lib.hid (fun V hV => by
    rw [HX.out]
    have k1 : V.cell? ⟨w.heap.size + 1, 0, none⟩ = some (.int .i64 i) := (Lib.cell_of_heap ((hV.block _ (lt_of_heap g1)).trans g1) 0).trans rfl
    have k2 : V.cell? ⟨w.heap.size + 1 + 1, 0, none⟩ = some (.int .i64 k) := (Lib.cell_of_heap ((hV.block _ (lt_of_heap g2)).trans g2) 0).trans rfl
    have k3 : V.cell? ⟨w.heap.size + 1 + 1 + 1, 0, none⟩ = some (.string x) := (Lib.cell_of_heap ((hV.block _ (lt_of_heap g3)).trans g3) 0).trans rfl
    have hw := below_up hB hV
    exact turned_any ho ro hd rs hc rc _ _ _ _ _ _ (fun _ => True) _ V ht.sm (hH.kept hw) (hR.kept hw) (cSameS V) (cSet1 _ _ _ i k x V k1 k2 k3) (fun _ => trivial) (fun _ => ⟨by have := ht.2.1; omega, fun r hr => by have := (ht.2.2 r hr).1; omega⟩) (fun h r _ h1 h2 => by injection h1 with h1; subst h1; exact tur_sm ht hx h2) (enters_of Tryz.func80 (by kernel_rfl) rfl) (enters_of Tryz.func40 (by kernel_rfl) rfl))
  rw [← HX.out]
  clear hH hR ht HX hsz g0 g1 g2 g3 g4
  obtain ⟨p0, p1⟩ := HBox.out W (Below.refl _ _)
  have hl0 := hlt 0 (by omega)
  have hl1 := hlt 4 (by omega)
  have HW2 : Hid (W = (((((w.alloc (.cells #[.slice ho hd.length hc.1, .slice ro rs.length rc.1] 25)).alloc (.cells #[.int .i64 i] 3)).alloc (.cells #[.int .i64 k] 3)).alloc (.cells #[.string x] 9)).alloc (.cells #[.slice none 0 0, .slice none 0 0] 25))) := Lib.hid HW.out
  go_enter Tryz.func14, Tryz.ntmps14
  go_wp2_with fail
  rw [← HW2.out]
  go_region_with (first | (go_at_call 37; refine (ofRows_any 40 #[.pointer (some ⟨w.heap.size + 1, 0, none⟩), .pointer (some ⟨w.heap.size + 1 + 1, 0, none⟩), .pointer (some ⟨w.heap.size + 1 + 1 + 1, 0, none⟩)] W.drew).mono ?_; rintro e w1 ⟨rfl, b1⟩; have B1 : Hid (Below W.heap.size W w1) := Lib.hid ((Below.drew (Below.refl _ W)).trans b1); have TT := Lib.hid (T.out w1 B1.out); obtain ⟨p2, p3⟩ := HBox.out w1 B1.out; clear b1) | (go_at_call 27; refine TT.out.mono ?_; intro e w2 q2; have TB := q2.below; obtain ⟨qo, qn, qc, so, sn, sc, x, rfl⟩ := q2.shape; have hz := HZ.out w2 (below_up B1.out TB); have z0 : w2.cell? ⟨w.heap.size + 1 + 1 + 1 + 1, 0, none⟩ = some (.slice none 0 0) := (Lib.cell_of_heap hz 0).trans rfl; have z1 : w2.cell? ⟨w.heap.size + 1 + 1 + 1 + 1, 1, none⟩ = some (.slice none 0 0) := (Lib.cell_of_heap hz 1).trans rfl; have f0 : w2.frozen? ⟨w.heap.size + 1 + 1 + 1 + 1, 0, none⟩ = false := Lib.frozen_of_heap hz 0; have f1 : w2.frozen? ⟨w.heap.size + 1 + 1 + 1 + 1, 1, none⟩ = false := Lib.frozen_of_heap hz 1; have Q := Lib.hid (TabOut.stored q2 (below_up HB.out B1.out) hz (by omega) (by have := B1.out.size; have := hlt 4 (by omega); omega)); clear q2 TB hz))
  all_goals (go_wp2_with fail)
  all_goals exact bodyPost_ret (v := .tuple #[.agg #[.slice qo qn qc, .slice so sn sc], .int .i64 x]) (by simp [results, Tryz.results14, go_sem, z0, z1]) rfl Q.out
end Go.Proofs.YtcifjclokfnocaaGreat
