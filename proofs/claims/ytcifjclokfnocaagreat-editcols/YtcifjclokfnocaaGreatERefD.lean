/-
  The document's reference: an edit.
  Conditions: tables of at most 1000 rows of at most 1000 cells of at most 10000 bytes, edits as small.
-/
import Derived.WalkKit
import Derived.WalkMore
import Derived.Lib.Hide
import Derived.Test.YtcifjclokfnocaaGreatProg
import Derived.Test.YtcifjclokfnocaaGreatERefT
import Derived.Test.YtcifjclokfnocaaGreatTRefB
namespace Go.Proofs.YtcifjclokfnocaaGreat
open Go.RowKit Go.Shelf
set_option linter.unusedVariables false

/-- what the reference's edit tells, by what is wrong and what comes of it -/
def refR (hd : List ByteArray) (rs : List (List ByteArray)) (f : Int) (t : Tab) : Except Int Tab :=
  if checkI hd rs = 0 then (if f = 0 then (if checkI t.1 t.2 = 0 then .ok t else .error (checkI t.1 t.2)) else .error f) else .error (checkI hd rs)
theorem rcheck_sm (ho : Option Addr) (hc : Nat) (hd : List ByteArray) (ro : Option Addr) (rc : Nat) (rs : List (List ByteArray)) (w : World) (hs : smT hd rs) (hH : StrRow w ho hd) (hR : RowsAt w ro rs) :
    Calls Tryz.prog 23 #[.agg #[.slice ho hd.length hc, .slice ro rs.length rc]] w fun e w' => e = .returned (.int .i64 (checkI hd rs)) ∧ Below w.heap.size w w' :=
  rcheck_any ho hc hd ro rc rs w (by have := hs.1.1; omega) (by have := hs.2.1; omega) (fun r hr => by have := (hs.2.2 r hr).1; omega) hH hR (by have := hs.sum; omega)

set_option maxRecDepth 100000 in
set_option maxHeartbeats 8000000 in
theorem rdo_any (ho ro : Option Addr) (hd : List ByteArray) (rs : List (List ByteArray)) (hc : Cap ho hd.length) (rc : Cap ro rs.length) (kd a b : Int) (tx : ByteArray) (co : Option Addr) (cells : List ByteArray) (cc : Cap co cells.length) (po : Option Addr) (pn pc : Nat) (w : World) (f : Int) (t : Tab)
    (hs : smT hd rs) (hH : StrRow w ho hd) (hR : RowsAt w ro rs)
    (KW : ∀ V, Below w.heap.size w V → Calls Tryz.prog 24 #[.agg #[.slice ho hd.length hc.1, .slice ro rs.length rc.1], .agg #[.int .i64 kd, .int .i64 a, .int .i64 b, .string tx, .slice co cells.length cc.1, .slice po pn pc]] V fun e w' => e = .returned (.int .i64 f) ∧ Below V.heap.size V w')
    (KT : checkI hd rs = 0 → f = 0 → smT t.1 t.2 ∧ ∀ V, Below w.heap.size w V → Calls Tryz.prog 25 #[.agg #[.slice ho hd.length hc.1, .slice ro rs.length rc.1], .agg #[.int .i64 kd, .int .i64 a, .int .i64 b, .string tx, .slice co cells.length cc.1, .slice po pn pc]] V (TabV t V)) :
    Calls Tryz.prog 8 #[.agg #[.slice ho hd.length hc.1, .slice ro rs.length rc.1], .agg #[.int .i64 kd, .int .i64 a, .int .i64 b, .string tx, .slice co cells.length cc.1, .slice po pn pc]] w (TabOut (refR hd rs f t) w) := by
  obtain ⟨W, HW⟩ : ∃ W, Hid (W = ((w.alloc (TabO ho hd.length hc.1 ro rs.length rc.1)).alloc (EdO kd a b tx co cells.length cc.1 po pn pc)).alloc (.cells #[.slice none 0 0, .slice none 0 0] 25)) := ⟨_, Lib.hid rfl⟩
  have hB : Below w.heap.size w W := by rw [HW.out]; exact ((one_below _ _).alloc (by simp) _).alloc (by simp; omega) _
  have hN := two_new w (TabO ho hd.length hc.1 ro rs.length rc.1) (EdO kd a b tx co cells.length cc.1 po pn pc)
  have g0 : W.heap[w.heap.size]? = some (TabO ho hd.length hc.1 ro rs.length rc.1) := by rw [HW.out]; exact al_old _ hN.2.1
  have g1 : W.heap[w.heap.size + 1]? = some (EdO kd a b tx co cells.length cc.1 po pn pc) := by rw [HW.out]; exact al_old _ hN.2.2
  have g2 : W.heap[w.heap.size + 1 + 1]? = some (.cells #[.slice none 0 0, .slice none 0 0] 25 (0, 0)) := by
    rw [HW.out]
    have h := World.alloc_heap_new ((w.alloc (TabO ho hd.length hc.1 ro rs.length rc.1)).alloc (EdO kd a b tx co cells.length cc.1 po pn pc)) (.cells #[.slice none 0 0, .slice none 0 0] 25)
    simpa only [World.size_alloc] using h
  have hlt : w.heap.size + 1 + 1 < W.heap.size := lt_of_heap g2
  have HX : Hid (∀ V, Below W.heap.size W V → BoxT w W V) := Lib.hid (fun V hV => ⟨hV, hB, hlt, (hV.block _ hlt).trans g2⟩)
  have HS : Hid (∀ V, Below W.heap.size W V → (V.cell? ⟨w.heap.size, 0, none⟩ = some (.slice ho hd.length hc.1) ∧ V.cell? ⟨w.heap.size, 1, none⟩ = some (.slice ro rs.length rc.1)) ∧ (V.cell? ⟨w.heap.size + 1, 0, none⟩ = some (.int .i64 kd) ∧ V.cell? ⟨w.heap.size + 1, 1, none⟩ = some (.int .i64 a) ∧ V.cell? ⟨w.heap.size + 1, 2, none⟩ = some (.int .i64 b) ∧ V.cell? ⟨w.heap.size + 1, 3, none⟩ = some (.string tx) ∧ V.cell? ⟨w.heap.size + 1, 4, none⟩ = some (.slice co cells.length cc.1) ∧ V.cell? ⟨w.heap.size + 1, 5, none⟩ = some (.slice po pn pc))) := Lib.hid (fun V hV => ⟨tabs ((hV.block _ (lt_of_heap g0)).trans g0), edcells ((hV.block _ (lt_of_heap g1)).trans g1)⟩)
  have HZ : Hid (∀ V, Below W.heap.size W V → V.heap[w.heap.size + 1 + 1]? = some (.cells #[.slice none 0 0, .slice none 0 0] 25 (0, 0))) := Lib.hid (fun V hV => (hV.block _ hlt).trans g2)
  have HH : Hid (∀ V, Below W.heap.size W V → StrRow V ho hd) := Lib.hid (fun V hV => hH.kept (below_up hB hV))
  have HR : Hid (∀ V, Below W.heap.size W V → RowsAt V ro rs) := Lib.hid (fun V hV => hR.kept (below_up hB hV))
  have HW2 : Hid (W = ((w.alloc (Obj.cells #[Value.slice ho hd.length hc.1, Value.slice ro rs.length rc.1] 25)).alloc (Obj.cells #[Value.int .i64 kd, Value.int .i64 a, Value.int .i64 b, Value.string tx, Value.slice co cells.length cc.1, Value.slice po pn pc] 28)).alloc (Obj.cells #[Value.slice none 0 0, Value.slice none 0 0] 25)) := Lib.hid HW.out
  obtain ⟨⟨p0, p1⟩, e0, e1, e2, e3, e4, e5⟩ := HS.out W (Below.refl _ _)
  obtain ⟨z0, z1, f0, f1⟩ := zcells (HZ.out W (Below.refl _ _))
  have B0 := Lib.hid hB
  clear hB hN g0 g1 g2 hH hR HW
  have KC := Lib.hid (fun V (h : Below W.heap.size W V) => rcheck_sm ho hc.1 hd ro rc.1 rs V hs (HH.out V h) (HR.out V h))
  have KW' := Lib.hid (fun V (h : Below W.heap.size W V) => KW V (below_up B0.out h))
  have KT' := Lib.hid (fun h0 h1 => (⟨(KT h0 h1).1, fun V (h : Below W.heap.size W V) => (KT h0 h1).2 V (below_up B0.out h)⟩ : smT t.1 t.2 ∧ ∀ V, Below W.heap.size W V → _))
  clear KW KT hs
  generalize hX : refR hd rs f t = X
  have HRX := Lib.hid hX
  generalize hce : checkI hd rs = c at KC KT'
  have HCE := Lib.hid hce
  clear hX hce
  go_enter Tryz.func8, Tryz.ntmps8
  go_wp2_with fail
  rw [← HW2.out]
  refine (KC.out W (Below.refl _ _)).mono ?_; rintro e w1 ⟨rfl, b1⟩
  have B1 := Lib.hid b1
  clear b1 p0 p1 e0 e1 e2 e3 e4 e5 z0 z1 f0 f1
  obtain ⟨⟨p0, p1⟩, e0, e1, e2, e3, e4, e5⟩ := HS.out w1 B1.out
  obtain ⟨z0, z1, f0, f1⟩ := zcells (HZ.out w1 B1.out)
  by_cases h0 : c = 0
  case neg =>
    have hX : X = .error c := by rw [← HRX.out]; unfold refR; rw [HCE.out, if_neg h0]
    have HX0 := Lib.hid hX
    clear hX
    have hb : (c != 0) = true := by simp [h0]
    clear h0
    have Q := Lib.hid (TabOut.stored (v0 := .slice none 0 0) (v1 := .slice none 0 0) (v2 := .int .i64 c) (W := W) (X := X) (w1 := w1) (by rw [HX0.out]; exact ⟨none, ⟨0, Nat.le_refl _, fun _ => rfl⟩, none, ⟨0, Nat.le_refl _, fun _ => rfl⟩, rfl, B1.out⟩) B0.out (HZ.out _ B1.out) (by omega) hlt)
    go_wp2_with fail
    exact bodyPost_ret (v := .tuple #[.agg #[.slice none 0 0, .slice none 0 0], .int .i64 c]) (by simp [results, Tryz.results8, go_sem, z0, z1]) rfl Q.out
  have H0 := Lib.hid h0
  have hb : (c != 0) = false := by simp [h0]
  go_wp2_with fail
  refine (KW'.out w1 B1.out).mono ?_; rintro e w2 ⟨rfl, b2⟩
  have B2 := Lib.hid (below_up B1.out b2)
  clear b2 p0 p1 e0 e1 e2 e3 e4 e5 z0 z1 f0 f1 hb
  obtain ⟨⟨p0, p1⟩, e0, e1, e2, e3, e4, e5⟩ := HS.out w2 B2.out
  obtain ⟨z0, z1, f0, f1⟩ := zcells (HZ.out w2 B2.out)
  by_cases h1 : f = 0
  case neg =>
    have hX : X = .error f := by rw [← HRX.out]; unfold refR; rw [HCE.out, if_pos H0.out, if_neg h1]
    have HX0 := Lib.hid hX
    clear hX
    have hb : (f != 0) = true := by simp [h1]
    clear h0 h1
    have Q := Lib.hid (TabOut.stored (v0 := .slice none 0 0) (v1 := .slice none 0 0) (v2 := .int .i64 f) (W := W) (X := X) (w1 := w2) (by rw [HX0.out]; exact ⟨none, ⟨0, Nat.le_refl _, fun _ => rfl⟩, none, ⟨0, Nat.le_refl _, fun _ => rfl⟩, rfl, B2.out⟩) B0.out (HZ.out _ B2.out) (by omega) hlt)
    go_wp2_with fail
    exact bodyPost_ret (v := .tuple #[.agg #[.slice none 0 0, .slice none 0 0], .int .i64 f]) (by simp [results, Tryz.results8, go_sem, z0, z1]) rfl Q.out
  have H1 := Lib.hid h1
  have hb : (f != 0) = false := by simp [h1]
  obtain ⟨hsm, KT2⟩ := KT'.out h0 h1
  have HSM := Lib.hid hsm
  have C := Lib.hid (KT2 w2 B2.out)
  clear hsm KT2 KT' h0 h1
  go_wp2_with fail
  refine C.out.mono ?_; intro e w3 q
  obtain ⟨qo, qc, so, sc, rfl, k1, k2, k3, k4⟩ := q.parts
  have D4 := Lib.hid (one_below w3 (TabO qo t.1.length qc.1 so t.2.length sc.1))
  have B4 := Lib.hid (below_up (below_up B2.out k3) D4.out)
  have HN := Lib.hid (World.alloc_heap_new w3 (TabO qo t.1.length qc.1 so t.2.length sc.1))
  have K1 := Lib.hid (k1.kept D4.out)
  have K2 := Lib.hid (k2.kept D4.out)
  have K4 := Lib.hid (fun A hA => Nat.le_trans B2.out.size (k4 A hA))
  clear q k1 k2 k3 k4 C p0 p1 e0 e1 e2 e3 e4 e5 z0 z1 f0 f1 hb
  obtain ⟨u0, u1⟩ := tabs HN.out
  have C := Lib.hid (rcheck_sm qo qc.1 t.1 so sc.1 t.2 _ HSM.out K1.out K2.out)
  generalize hge : checkI t.1 t.2 = g at C
  have HGE := Lib.hid hge
  clear hge
  go_wp2_with fail
  refine C.out.mono ?_; rintro e w5 ⟨rfl, b5⟩
  have D5 := Lib.hid b5
  have B5 := Lib.hid (below_up B4.out b5)
  clear b5 C u0 u1
  obtain ⟨u0, u1⟩ := tabs (bk_kept HN.out D5.out)
  obtain ⟨z0, z1, f0, f1⟩ := zcells (HZ.out w5 B5.out)
  by_cases h2 : g = 0
  case neg =>
    have hX : X = .error g := by rw [← HRX.out]; unfold refR; rw [HCE.out, if_pos H0.out, if_pos H1.out, HGE.out, if_neg h2]
    have HX0 := Lib.hid hX
    clear hX
    have hb : (g != 0) = true := by simp [h2]
    clear h2
    have Q := Lib.hid (TabOut.stored (v0 := .slice none 0 0) (v1 := .slice none 0 0) (v2 := .int .i64 g) (W := W) (X := X) (w1 := w5) (by rw [HX0.out]; exact ⟨none, ⟨0, Nat.le_refl _, fun _ => rfl⟩, none, ⟨0, Nat.le_refl _, fun _ => rfl⟩, rfl, B5.out⟩) B0.out (HZ.out _ B5.out) (by omega) hlt)
    go_wp2_with fail
    exact bodyPost_ret (v := .tuple #[.agg #[.slice none 0 0, .slice none 0 0], .int .i64 g]) (by simp [results, Tryz.results8, go_sem, z0, z1]) rfl Q.out
  have H2 := Lib.hid h2
  have hb : (g != 0) = false := by simp [h2]
  have hX : X = .ok t := by rw [← HRX.out]; unfold refR; rw [HCE.out, if_pos H0.out, if_pos H1.out, HGE.out, if_pos h2]
  have HX0 := Lib.hid hX
  have Q := Lib.hid (TabOut.stored (v0 := .slice qo t.1.length qc.1) (v1 := .slice so t.2.length sc.1) (v2 := .int .i64 0) (W := W) (X := X) (w1 := w5) (by rw [HX0.out]; exact ⟨qo, qc, so, sc, rfl, K1.out.kept D5.out, K2.out.kept D5.out, B5.out, K4.out⟩) B0.out (HZ.out _ B5.out) (by omega) hlt)
  clear h2 hX
  go_wp2_with fail
  exact bodyPost_ret (v := .tuple #[.agg #[.slice qo t.1.length qc.1, .slice so t.2.length sc.1], .int .i64 0]) (by simp [results, Tryz.results8, go_sem, z0, z1]) rfl Q.out
end Go.Proofs.YtcifjclokfnocaaGreat
