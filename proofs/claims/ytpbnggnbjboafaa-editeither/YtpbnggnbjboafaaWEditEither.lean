/-
  The walk of the statement EditEither.
  Conditions: none beyond the form of claims.
-/
import Derived.WalkKit
import Derived.WalkMore
import Derived.Lib.Hide
import Derived.Deep.QuietTactic
import Derived.BigQuiet
import Derived.Lib.QuietBelow
import Derived.Deep.RegionWith
import Derived.Deep.CutRange
import Derived.Test.YtpbnggnbjboafaaProg
import Derived.Test.YtpbnggnbjboafaaEDo
import Derived.Test.YtpbnggnbjboafaaEMath3
namespace Go.Proofs.Ytpbnggnbjboafaa
open Go.RowKit Go.Shelf
set_option linter.unusedVariables false

theorem do_col {kd a b : Int} {tx : ByteArray} {cells : List ByteArray} {ps : List Int} (h : 1 ≤ kd ∧ kd ≤ 3) : ∃ gh gr, Wise gr ∧ (∀ hd rs, doR kd a b tx cells ps hd rs = turnR gh gr hd rs) ∧ ∀ hd rs x, turnR gh gr hd rs = .error x → x ≠ 0 := by
  rcases (show kd = 1 ∨ kd = 2 ∨ kd = 3 by omega) with rfl | rfl | rfl
  · exact ⟨_, _, wise_cols (fun xs => delL xs a), fun hd rs => rfl, fun hd rs x => cols_ne (fun xs => del_ne)⟩
  · exact ⟨_, _, wise_ok, fun hd rs => rfl, fun hd rs x => turn_ne set_ne ok_ne⟩
  · exact ⟨_, _, wise_cols (fun xs => movL xs a b), fun hd rs => rfl, fun hd rs x => cols_ne (fun xs => mov_ne)⟩
theorem do_row {kd a b : Int} {tx : ByteArray} {cells : List ByteArray} {ps : List Int} (h : 5 ≤ kd ∧ kd ≤ 6) : ∃ g, Blind g ∧ (∀ hd rs, doR kd a b tx cells ps hd rs = turnR (fun xs => .ok xs) g hd rs) ∧ ∀ hd rs x, turnR (fun xs => .ok xs) g hd rs = .error x → x ≠ 0 := by
  rcases (show kd = 5 ∨ kd = 6 by omega) with rfl | rfl
  · exact ⟨_, blind_del a, fun hd rs => rfl, fun hd rs x => turn_ne ok_ne del_ne⟩
  · exact ⟨_, blind_mov a b, fun hd rs => rfl, fun hd rs x => turn_ne ok_ne mov_ne⟩

set_option maxRecDepth 100000 in
set_option maxHeartbeats 8000000 in
theorem walkEditEither (ho : Option Addr) (hc : Nat) (hd : List ByteArray) (ro : Option Addr) (rc : Nat) (rs : List (List ByteArray)) (kd a b : Int) (tx : ByteArray) (co : Option Addr) (cc : Nat) (cells : List ByteArray) (po : Option Addr) (pc : Nat) (ps : List Int)
    (kd2 a2 b2 : Int) (tx2 : ByteArray) (co2 : Option Addr) (cc2 : Nat) (cells2 : List ByteArray) (po2 : Option Addr) (pc2 : Nat) (ps2 : List Int) (w : World)
    (hA : StrArg w ho hc hd) (hB : RowsArg w ro rc rs) (hG : EditArg w kd a b tx co cc cells po pc ps) (hG2 : EditArg w kd2 a2 b2 tx2 co2 cc2 cells2 po2 pc2 ps2) :
    Calls Try.prog 5 #[.agg #[.slice ho hd.length hc, .slice ro rs.length rc], .agg #[.int .i64 kd, .int .i64 a, .int .i64 b, .string tx, .slice co cells.length cc, .slice po ps.length pc], .agg #[.int .i64 kd2, .int .i64 a2, .int .i64 b2, .string tx2, .slice co2 cells2.length cc2, .slice po2 ps2.length pc2]] w fun e w' => e = .returned (.bool true) ∧ Below w.heap.size w w' := by
  obtain ⟨W, HW⟩ : ∃ W, Hid (W = ((w.alloc (TabO ho hd.length hc ro rs.length rc)).alloc (EdO kd a b tx co cells.length cc po ps.length pc)).alloc (EdO kd2 a2 b2 tx2 co2 cells2.length cc2 po2 ps2.length pc2)) := ⟨_, Lib.hid rfl⟩
  have HW2 : Hid (W = ((w.alloc (Obj.cells #[Value.slice ho hd.length hc, Value.slice ro rs.length rc] 25)).alloc (Obj.cells #[Value.int .i64 kd, Value.int .i64 a, Value.int .i64 b, Value.string tx, Value.slice co cells.length cc, Value.slice po ps.length pc] 31)).alloc (Obj.cells #[Value.int .i64 kd2, Value.int .i64 a2, Value.int .i64 b2, Value.string tx2, Value.slice co2 cells2.length cc2, Value.slice po2 ps2.length pc2] 31)) := Lib.hid HW.out
  have hb0 : Below w.heap.size w W := by rw [HW.out]; exact ((one_below _ _).alloc (by simp) _).alloc (by simp; omega) _
  have hN2 := two_new w (TabO ho hd.length hc ro rs.length rc) (EdO kd a b tx co cells.length cc po ps.length pc)
  have g0 : W.heap[w.heap.size]? = some (TabO ho hd.length hc ro rs.length rc) := by rw [HW.out]; exact al_old _ hN2.2.1
  have g1 : W.heap[w.heap.size + 1]? = some (EdO kd a b tx co cells.length cc po ps.length pc) := by rw [HW.out]; exact al_old _ hN2.2.2
  have g2 : W.heap[w.heap.size + 1 + 1]? = some (EdO kd2 a2 b2 tx2 co2 cells2.length cc2 po2 ps2.length pc2) := by
    rw [HW.out]
    have h := World.alloc_heap_new ((w.alloc (TabO ho hd.length hc ro rs.length rc)).alloc (EdO kd a b tx co cells.length cc po ps.length pc)) (EdO kd2 a2 b2 tx2 co2 cells2.length cc2 po2 ps2.length pc2)
    simpa only [World.size_alloc] using h
  have HA := Lib.hid hA
  have HB := Lib.hid hB
  have HG := Lib.hid hG
  have HG2 := Lib.hid hG2
  have B0 := Lib.hid hb0
  have box : Hid (∀ V, Below W.heap.size W V → V.cell? ⟨w.heap.size, 0, none⟩ = some (.slice ho hd.length hc) ∧ V.cell? ⟨w.heap.size, 1, none⟩ = some (.slice ro rs.length rc)) := Lib.hid (fun V hV => tabs ((hV.block _ (lt_of_heap g0)).trans g0))
  have boxx := Lib.hid (fun V (hV : Below W.heap.size W V) => edcells ((hV.block _ (lt_of_heap g1)).trans g1))
  have boxy := Lib.hid (fun V (hV : Below W.heap.size W V) => edcells ((hV.block _ (lt_of_heap g2)).trans g2))
  clear hA hB hb0 hN2 g0 g1 g2 hG hG2
  go_enter Try.func5, Try.ntmps5
  go_wp2_with fail
  rw [← HW2.out]
  refine (eworks_any _).mono ?_; rintro e w1 ⟨rfl, b1⟩
  obtain ⟨p0, p1⟩ := box.out w1 b1
  have X1 := below_up B0.out b1
  have B1 := Lib.hid b1
  have C1 := Lib.hid (rfew_any ho hc hd ro rc rs w1 HA.out.len HB.out.len HB.out.each HA.out.size (HA.out.row.kept X1) (HB.out.rows.kept X1))
  clear b1 X1 HW HW2
  go_wp2_with fail
  refine C1.out.mono ?_; rintro e w2 ⟨fl, rfl, hb, b2⟩
  have B2 := Lib.hid (below_up B1.out b2)
  clear b2 p0 p1 C1 B1
  cases fl with
  | false =>
    go_wp2_with fail
    go_ret
    exact ⟨rfl, below_up B0.out B2.out⟩
  | true =>
  have HT := Lib.hid (few_ti (hb rfl))
  clear hb
  have HH : Hid (∀ V, Below W.heap.size W V → StrRow V ho hd) := Lib.hid (fun V hV => HA.out.row.kept (below_up B0.out hV))
  have HR : Hid (∀ V, Below W.heap.size W V → RowsAt V ro rs) := Lib.hid (fun V hV => HB.out.rows.kept (below_up B0.out hV))
  have HX : Hid (∀ V, Below W.heap.size W V → StrRow V co cells ∧ IntsAt V po ps) := Lib.hid (fun V hV => ⟨HG.out.cells.row.kept (below_up B0.out hV), HG.out.cols.ints.kept (below_up B0.out hV)⟩)
  have HY : Hid (∀ V, Below W.heap.size W V → StrRow V co2 cells2 ∧ IntsAt V po2 ps2) := Lib.hid (fun V hV => ⟨HG2.out.cells.row.kept (below_up B0.out hV), HG2.out.cols.ints.kept (below_up B0.out hV)⟩)
  have F1 := Lib.hid (few5_any kd a b tx co cells cc po ps pc w2 HG.out.text HG.out.cells.len HG.out.cols.len HG.out.cells.size (HX.out _ B2.out).1)
  obtain ⟨x0, x1, x2, x3, x4, x5⟩ := boxx.out w2 B2.out
  go_wp2_with fail
  refine F1.out.mono ?_; rintro e w3 ⟨fl, rfl, hb, b3⟩
  have B3 := Lib.hid (below_up B2.out b3)
  clear b3 F1 x0 x1 x2 x3 x4 x5
  cases fl with
  | false =>
    go_wp2_with fail
    go_ret
    exact ⟨rfl, below_up B0.out B3.out⟩
  | true =>
  have HF1 := Lib.hid (hb rfl)
  clear hb
  have F2 := Lib.hid (few5_any kd2 a2 b2 tx2 co2 cells2 cc2 po2 ps2 pc2 w3 HG2.out.text HG2.out.cells.len HG2.out.cols.len HG2.out.cells.size (HY.out _ B3.out).1)
  obtain ⟨y0, y1, y2, y3, y4, y5⟩ := boxy.out w3 B3.out
  go_wp2_with fail
  refine F2.out.mono ?_; rintro e w4 ⟨fl, rfl, hb, b4⟩
  have B4 := Lib.hid (below_up B3.out b4)
  clear b4 F2 y0 y1 y2 y3 y4 y5 B2 B3
  cases fl with
  | false =>
    go_wp2_with fail
    go_ret
    exact ⟨rfl, below_up B0.out B4.out⟩
  | true =>
  have HF2 := Lib.hid (hb rfl)
  clear hb
  obtain ⟨x0, x1, x2, x3, x4, x5⟩ := boxx.out w4 B4.out
  obtain ⟨y0, y1, y2, y3, y4, y5⟩ := boxy.out w4 B4.out
  obtain ⟨p0, p1⟩ := box.out w4 B4.out
  by_cases hk1 : kd < 1
  case pos =>
    have hd1 : decide (kd < 1) = true := decide_eq_true hk1
    go_wp2_with fail
    go_ret
    exact ⟨rfl, below_up B0.out B4.out⟩
  have hd1 : decide (kd < 1) = false := decide_eq_false hk1
  by_cases hk2 : 3 < kd
  case pos =>
    have hd2 : decide (3 < kd) = true := decide_eq_true hk2
    go_wp2_with fail
    go_ret
    exact ⟨rfl, below_up B0.out B4.out⟩
  have hd2 : decide (3 < kd) = false := decide_eq_false hk2
  by_cases hk3 : kd2 < 5
  case pos =>
    have hd3 : decide (kd2 < 5) = true := decide_eq_true hk3
    go_wp2_with fail
    go_ret
    exact ⟨rfl, below_up B0.out B4.out⟩
  have hd3 : decide (kd2 < 5) = false := decide_eq_false hk3
  by_cases hk4 : 6 < kd2
  case pos =>
    have hd4 : decide (6 < kd2) = true := decide_eq_true hk4
    go_wp2_with fail
    go_ret
    exact ⟨rfl, below_up B0.out B4.out⟩
  have hd4 : decide (6 < kd2) = false := decide_eq_false hk4
  obtain ⟨gh, gr, hw1, hw2, hw3⟩ := @do_col kd a b tx cells ps ⟨by omega, by omega⟩
  obtain ⟨g, hg1, hg2, hg3⟩ := @do_row kd2 a2 b2 tx2 cells2 ps2 ⟨by omega, by omega⟩
  have HE := Lib.hid (fun h1 r1 h2 r2 => @either_is gh gr g hw1 hg1 hd h1 h2 rs r1 r2)
  have HTX := Lib.hid (fun (h1 : List ByteArray) r1 (e : turnR gh gr hd rs = .ok (h1, r1)) => check_ti (turn_is e).2.2.2)
  have HTY := Lib.hid (fun (h2 : List ByteArray) r2 (e : turnR (fun xs => .ok xs) g hd rs = .ok (h2, r2)) => check_ti (turn_is e).2.2.2)
  have HTS := Lib.hid (fun (h1 h2 s : _) r1 (e : turnR (fun xs => .ok xs) g h1 r1 = .ok (h2, s)) => check_ti (turn_is e).2.2.2)
  have HNX := Lib.hid (hw3 hd rs)
  have HNY := Lib.hid (hg3 hd rs)
  have DX : Hid (∀ V, Below W.heap.size W V → ∀ ho' ro' hd' rs' (hc' : Cap ho' (List.length hd')) (rc' : Cap ro' (List.length rs')), tiT hd' rs' → StrRow V ho' hd' → RowsAt V ro' rs' → Calls Try.prog 19 #[.agg #[.slice ho' hd'.length hc'.1, .slice ro' rs'.length rc'.1], .agg #[.int .i64 kd, .int .i64 a, .int .i64 b, .string tx, .slice co cells.length cc, .slice po ps.length pc]] V (TabOut (turnR gh gr hd' rs') V)) := Lib.hid (fun V hV ho' ro' hd' rs' hc' rc' ht' hh' hr' => by
    rw [← hw2 hd' rs']
    exact do_any ho' ro' hd' rs' hc' rc' kd a b tx co cells HG.out.cp po ps pc V ht' hh' hr' HF1.out (HX.out V hV).1 (HX.out V hV).2)
  have DY : Hid (∀ V, Below W.heap.size W V → ∀ ho' ro' hd' rs' (hc' : Cap ho' (List.length hd')) (rc' : Cap ro' (List.length rs')), tiT hd' rs' → StrRow V ho' hd' → RowsAt V ro' rs' → Calls Try.prog 19 #[.agg #[.slice ho' hd'.length hc'.1, .slice ro' rs'.length rc'.1], .agg #[.int .i64 kd2, .int .i64 a2, .int .i64 b2, .string tx2, .slice co2 cells2.length cc2, .slice po2 ps2.length pc2]] V (TabOut (turnR (fun xs => .ok xs) g hd' rs') V)) := Lib.hid (fun V hV ho' ro' hd' rs' hc' rc' ht' hh' hr' => by
    rw [← hg2 hd' rs']
    exact do_any ho' ro' hd' rs' hc' rc' kd2 a2 b2 tx2 co2 cells2 HG2.out.cp po2 ps2 pc2 V ht' hh' hr' HF2.out (HY.out V hV).1 (HY.out V hV).2)
  clear hk1 hk2 hk3 hk4 hw1 hw2 hw3 hg1 hg2 hg3
  have C := Lib.hid (DX.out w4 B4.out ho ro hd rs HA.out.cp HB.out.cp HT.out (HH.out _ B4.out) (HR.out _ B4.out))
  generalize hX : turnR gh gr hd rs = X at C HE HTX HNX
  generalize hY : turnR (fun xs => .ok xs) g hd rs = Y at HE HTY HNY
  go_wp2_with fail
  refine C.out.mono ?_; intro e w5 q
  have b5 := q.below
  obtain ⟨qo, qn, qc, so, sn, sc, x, rfl⟩ := q.shape
  have B6 := Lib.hid (below_up (below_up B4.out b5) (one_below w5 (TabO qo qn qc so sn sc)))
  have HN6 := Lib.hid (World.alloc_heap_new w5 (TabO qo qn qc so sn sc))
  have Q := Lib.hid q
  clear q b5 C x0 x1 x2 x3 x4 x5 y0 y1 y2 y3 y4 y5 p0 p1 hd1 hd2 hd3 hd4
  obtain ⟨y0, y1, y2, y3, y4, y5⟩ := boxy.out _ B6.out
  obtain ⟨p0, p1⟩ := box.out _ B6.out
  have C := Lib.hid (DY.out _ B6.out ho ro hd rs HA.out.cp HB.out.cp HT.out (HH.out _ B6.out) (HR.out _ B6.out))
  rw [hY] at C
  go_wp2_with fail
  refine C.out.mono ?_; intro e w7 q
  have b7 := q.below
  obtain ⟨uo, un, uc, vo, vn, vc, x', rfl⟩ := q.shape
  have b8 := below_up b7 (one_below w7 (TabO uo un uc vo vn vc))
  have D8 := Lib.hid b8
  have B8 := Lib.hid (below_up B6.out b8)
  have HN8 := Lib.hid (World.alloc_heap_new w7 (TabO uo un uc vo vn vc))
  have Q2 := Lib.hid q
  clear q b7 b8 C y0 y1 y2 y3 y4 y5 p0 p1
  rcases Q.out.parts with ⟨rfl, rfl, rfl⟩ | ⟨h1, r1, rfl, rfl, rfl, rfl, k1, k2, k3, k4⟩
  · have hx := HNX.out x rfl
    have hb : (x != 0) = true := by simp [hx]
    clear hx
    go_wp2_with fail
    go_ret
    exact ⟨rfl, below_up B0.out B8.out⟩
  rcases Q2.out.parts with ⟨rfl, rfl, rfl⟩ | ⟨h2, r2, rfl, rfl, rfl, rfl, l1, l2, l3, l4⟩
  · have hx := HNY.out x' rfl
    have hb : (x' != 0) = true := by simp [hx]
    clear hx
    go_wp2_with fail
    go_ret
    exact ⟨rfl, below_up B0.out B8.out⟩
  obtain ⟨s, es1, es2⟩ := HE.out h1 r1 h2 r2 rfl rfl
  have C := Lib.hid (DY.out _ B8.out qo so h1 r1 ⟨qc, k1⟩ ⟨sc, k2⟩ (HTX.out h1 r1 rfl) ((k3.kept (one_below _ _)).kept D8.out) ((k4.kept (one_below _ _)).kept D8.out))
  rw [es1] at C
  dsimp only at C
  have HTs := Lib.hid (HTS.out h1 h1 s r1 es1)
  have DD : Hid (∀ V, Below (w7.alloc (TabO uo h2.length uc vo r2.length vc)).heap.size (w7.alloc (TabO uo h2.length uc vo r2.length vc)) V → Calls Try.prog 19 #[.agg #[.slice uo h2.length uc, .slice vo r2.length vc], .agg #[.int .i64 kd, .int .i64 a, .int .i64 b, .string tx, .slice co cells.length cc, .slice po ps.length pc]] V (TabOut (.ok (h1, s)) V)) := Lib.hid (fun V hV => by
    have := DX.out V (below_up B8.out hV) uo vo h2 r2 ⟨uc, l1⟩ ⟨vc, l2⟩ (HTY.out h2 r2 rfl) ((l3.kept (one_below _ _)).kept hV) ((l4.kept (one_below _ _)).kept hV)
    rw [es2] at this
    exact this)
  obtain ⟨q0, q1⟩ := tabs (bk_kept HN6.out D8.out)
  obtain ⟨y0, y1, y2, y3, y4, y5⟩ := boxy.out _ B8.out
  clear es1 es2 k1 k2 k3 k4 l1 l2 l3 l4 DX DY HE HTX HTY HTS HNX HNY
  go_wp2_with fail
  refine C.out.mono ?_; rintro e w9 ⟨bo, bc, go, gc, rfl, g1, g2, b9, _⟩
  have b10 := below_up b9 (one_below w9 (TabO bo h1.length bc.1 go s.length gc.1))
  have D10 := Lib.hid b10
  have B10 := Lib.hid (below_up B8.out b10)
  have HN10 := Lib.hid (World.alloc_heap_new w9 (TabO bo h1.length bc.1 go s.length gc.1))
  have G10 := Lib.hid (And.intro (g1.kept (one_below w9 (TabO bo h1.length bc.1 go s.length gc.1))) (g2.kept (one_below w9 (TabO bo h1.length bc.1 go s.length gc.1))))
  have C2 := Lib.hid (DD.out _ D10.out)
  clear C g1 g2 b9 b10 q0 q1 y0 y1 y2 y3 y4 y5
  obtain ⟨u0, u1⟩ := tabs (bk_kept HN8.out D10.out)
  obtain ⟨x0, x1, x2, x3, x4, x5⟩ := boxx.out _ B10.out
  go_wp2_with fail
  refine C2.out.mono ?_; rintro e w11 ⟨bo2, bc2, go2, gc2, rfl, g1, g2, b11, _⟩
  have b12 := below_up b11 (one_below w11 (TabO bo2 h1.length bc2.1 go2 s.length gc2.1))
  have B12 := Lib.hid (below_up B10.out b12)
  obtain ⟨c0, c1⟩ := tabs (bk_kept HN10.out b12)
  obtain ⟨d0, d1⟩ := tabs (World.alloc_heap_new w11 (TabO bo2 h1.length bc2.1 go2 s.length gc2.1))
  have SS := Lib.hid (tsame_ok bo bo2 bc.1 bc2.1 h1 go go2 gc.1 gc2.1 s (w11.alloc (TabO bo2 h1.length bc2.1 go2 s.length gc2.1)) HTs.out (G10.out.1.kept b12) (g1.kept (one_below _ _)) (G10.out.2.kept b12) (g2.kept (one_below _ _)))
  clear C2 g1 g2 b11 b12 u0 u1 x0 x1 x2 x3 x4 x5
  go_wp2_with fail
  refine SS.out.mono ?_; rintro e w13 ⟨rfl, b13⟩
  have B13 := Lib.hid (below_up B12.out b13)
  clear b13 SS
  go_wp2_with fail
  go_ret
  exact ⟨rfl, below_up B0.out B13.out⟩
end Go.Proofs.Ytpbnggnbjboafaa
