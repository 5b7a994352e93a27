/-
  The walk of the statement EditBack.
  Conditions: none beyond the form of claims.
-/
import Derived.WalkKit
import Derived.WalkMore
import Derived.Lib.Hide
import Derived.Deep.QuietTactic
import Derived.BigQuiet
import Derived.Lib.QuietBelow
import Derived.Deep.RegionWith
import Derived.Deep.CutRange
import Derived.Test.YtpbnggnbjboafaaProg
import Derived.Test.YtpbnggnbjboafaaEFew
import Derived.Test.YtpbnggnbjboafaaEMath2
namespace Go.Proofs.Ytpbnggnbjboafaa
open Go.RowKit Go.Shelf
set_option linter.unusedVariables false

set_option maxRecDepth 100000 in
set_option maxHeartbeats 8000000 in
theorem walkEditBack (ho : Option Addr) (hc : Nat) (hd : List ByteArray) (ro : Option Addr) (rc : Nat) (rs : List (List ByteArray)) (k : Int) (nm : ByteArray) (co : Option Addr) (cc : Nat) (cells : List ByteArray) (xo : Option Addr) (xc : Nat) (row : List ByteArray) (w : World)
    (hA : StrArg w ho hc hd) (hB : RowsArg w ro rc rs) (hk : (Lit.int .i64 k).wf = true) (hnm : nm.size ≤ 140737488351232) (hC : StrArg w co cc cells) (hX : StrArg w xo xc row) :
    Calls Try.prog 3 #[.agg #[.slice ho hd.length hc, .slice ro rs.length rc], .int .i64 k, .string nm, .slice co cells.length cc, .slice xo row.length xc] w fun e w' => e = .returned (.bool true) ∧ Below w.heap.size w w' := by
  obtain ⟨W, HW⟩ : ∃ W, Hid (W = w.alloc (TabO ho hd.length hc ro rs.length rc)) := ⟨_, Lib.hid rfl⟩
  have HW2 : Hid (W = w.alloc (Obj.cells #[Value.slice ho hd.length hc, Value.slice ro rs.length rc] 25)) := Lib.hid HW.out
  have hb0 : Below w.heap.size w W := by rw [HW.out]; exact one_below _ _
  have hN : W.heap[w.heap.size]? = some (TabO ho hd.length hc ro rs.length rc) := by rw [HW.out]; exact World.alloc_heap_new w _
  have HA := Lib.hid hA
  have HB := Lib.hid hB
  have B0 := Lib.hid hb0
  have box : Hid (∀ V, Below W.heap.size W V → V.cell? ⟨w.heap.size, 0, none⟩ = some (.slice ho hd.length hc) ∧ V.cell? ⟨w.heap.size, 1, none⟩ = some (.slice ro rs.length rc)) := Lib.hid (fun V hV => tabs ((hV.block _ (lt_of_heap hN)).trans hN))
  have HC := Lib.hid hC
  have HX := Lib.hid hX
  clear hA hB hb0 hN hk hC hX
  go_enter Try.func3, Try.ntmps3
  go_wp2_with fail
  rw [← HW2.out]
  refine (eworks_any _).mono ?_; rintro e w1 ⟨rfl, b1⟩
  obtain ⟨p0, p1⟩ := box.out w1 b1
  have X1 := below_up B0.out b1
  have B1 := Lib.hid b1
  have C1 := Lib.hid (rfew_any ho hc hd ro rc rs w1 HA.out.len HB.out.len HB.out.each HA.out.size (HA.out.row.kept X1) (HB.out.rows.kept X1))
  clear b1 X1 HW HW2
  go_wp2_with fail
  refine C1.out.mono ?_; rintro e w2 ⟨b, rfl, hb, b2⟩
  have B2 := Lib.hid (below_up B1.out b2)
  clear b2 p0 p1 C1 B1
  cases b with
  | false =>
    go_wp2_with fail
    go_ret
    exact ⟨rfl, below_up B0.out B2.out⟩
  | true =>
    have HT := Lib.hid (few_ti (hb rfl))
    clear hb
    have HH : Hid (∀ V, Below W.heap.size W V → StrRow V ho hd) := Lib.hid (fun V hV => HA.out.row.kept (below_up B0.out hV))
    have HR : Hid (∀ V, Below W.heap.size W V → RowsAt V ro rs) := Lib.hid (fun V hV => HB.out.rows.kept (below_up B0.out hV))
    have F1 := Lib.hid (few5_any 0 0 0 nm co cells cc none [] 0 w2 hnm HC.out.len (by simp) HC.out.size (HC.out.row.kept (below_up B0.out B2.out)))
    simp only [List.length_nil] at F1
    go_wp2_with fail
    refine F1.out.mono ?_; rintro e w3 ⟨b, rfl, hb, b3⟩
    have B3 := Lib.hid (below_up B2.out b3)
    clear b3 F1
    cases b with
    | false =>
      go_wp2_with fail
      go_ret
      exact ⟨rfl, below_up B0.out B3.out⟩
    | true =>
    have HF1 := Lib.hid (hb rfl)
    clear hb
    have F2 := Lib.hid (few5_any 0 0 0 ⟨#[]⟩ xo row xc none [] 0 w3 (by decide) HX.out.len (by simp) HX.out.size (HX.out.row.kept (below_up B0.out B3.out)))
    simp only [List.length_nil] at F2
    go_wp2_with fail
    refine F2.out.mono ?_; rintro e w4 ⟨b, rfl, hb, b4⟩
    have BB := Lib.hid (below_up B3.out b4)
    clear b4 F2 B2 B3
    cases b with
    | false =>
      go_wp2_with fail
      go_ret
      exact ⟨rfl, below_up B0.out BB.out⟩
    | true =>
    have HF2 := Lib.hid (hb rfl)
    clear hb
    obtain ⟨p0, p1⟩ := box.out w4 BB.out
    have C := Lib.hid (eInsertCol ho ro hd rs HA.out.cp HB.out.cp k nm co cells HC.out.cp w4 HT.out (HH.out _ BB.out) (HR.out _ BB.out) (by have := HF1.out.text; omega) (HC.out.row.kept (below_up B0.out BB.out)) HF1.out.ti)
    have M := Lib.hid (fun h r => @back_cols hd h cells rs r k nm)
    have E := Lib.hid (fun x => @turn_ne (fun xs => insL xs k nm) (addR k cells) hd rs x ins_ne add_ne)
    generalize turnR (fun xs => insL xs k nm) (addR k cells) hd rs = X at C M E
    go_wp2_with fail
    refine C.out.mono ?_; intro e w3 q
    clear C p0 p1
    have B3 := Lib.hid (below_up BB.out q.below)
    obtain ⟨qo, qn, qc, so, sn, sc, x, rfl⟩ := q.shape
    have Q := Lib.hid q
    clear q
    have hB3 := one_below w3 (TabO qo qn qc so sn sc)
    have B4 := Lib.hid (below_up B3.out hB3)
    have HN4 := Lib.hid (World.alloc_heap_new w3 (TabO qo qn qc so sn sc))
    clear hB3
    go_upto_if 49 with fail
    go_cut [13] from 15 to 70 (fun v wc => v = .pointer (some ⟨w3.heap.size, 0, none⟩) ∧ Hid (Below W.heap.size W wc))
    case first =>
      rcases Q.out.parts with ⟨rfl, rfl, rfl⟩ | ⟨h, r, rfl, rfl, rfl, rfl, k1, k2, k3, k4⟩
      · have hx := E.out x rfl
        have hb : (x == 0) = false := by simp [hx]
        clear hx Q
        go_wp2_with fail
        go_meet
        exact ⟨rfl, B4⟩
      · obtain ⟨m2, m1, m3⟩ := M.out h r rfl
        have C := Lib.hid (eDeleteCol qo so h r ⟨qc, k1⟩ ⟨sc, k2⟩ k (w3.alloc (TabO qo h.length qc so r.length sc)) m2 (k3.kept (one_below _ _)) (k4.kept (one_below _ _)))
        rw [m1] at C
        dsimp only at C
        have HN := Lib.hid HN4.out
        obtain ⟨a0, a1⟩ := tabs HN4.out
        have HM3 := Lib.hid m3
        have HK3 := Lib.hid (k3.kept (one_below w3 (TabO qo h.length qc so r.length sc)))
        have HL := Lib.hid (show h.length ≤ 1099511627776 by have := m2.1.1; omega)
        clear m1 m2 k1 k2 k3 k4 Q M E m3
        go_wp2_with fail
        refine C.out.mono ?_; rintro e w5 ⟨bo, bc, go, gc, rfl, g1, g2, b5, _⟩
        have b6 := below_up b5 (one_below w5 (TabO bo hd.length bc.1 go rs.length gc.1))
        have B6 := Lib.hid (below_up B4.out b6)
        have D6 := Lib.hid b6
        obtain ⟨p0, p1⟩ := box.out _ B6.out
        obtain ⟨q0, q1⟩ := tabs (World.alloc_heap_new w5 (TabO bo hd.length bc.1 go rs.length gc.1))
        have SS := Lib.hid (tsame_ok bo ho bc.1 hc hd go ro gc.1 rc rs (w5.alloc (TabO bo hd.length bc.1 go rs.length gc.1)) HT.out (g1.kept (one_below _ _)) (HH.out _ B6.out) (g2.kept (one_below _ _)) (HR.out _ B6.out))
        clear g1 g2 b5 b6 a0 a1 C
        go_wp2_with fail
        refine SS.out.mono ?_; rintro e w6 ⟨rfl, b6⟩
        have D7 := Lib.hid (below_up D6.out b6)
        have B7 := Lib.hid (below_up B4.out D7.out)
        obtain ⟨a2, a3⟩ := tabs (bk_kept HN.out D7.out)
        have FF := Lib.hid (tfind_any qo qc h so r.length sc nm w6 HL.out (HK3.out.kept D7.out))
        rw [HM3.out] at FF
        clear b6 SS p0 p1 q0 q1
        go_wp2_with fail
        refine FF.out.mono ?_; rintro e w7 ⟨rfl, b7⟩
        have B8 := Lib.hid (below_up B7.out b7)
        clear b7 FF a2 a3
        go_wp2_with fail
        go_meet
        exact ⟨rfl, B8⟩
    case rest =>
      obtain ⟨rfl, HBd⟩ := hcut
      rename World => wd
      clear Q M E B4 HN4 B3
      obtain ⟨p0, p1⟩ := box.out wd HBd.out
      have C := Lib.hid (eInsertRow ho ro hd rs HA.out.cp HB.out.cp k xo row HX.out.cp wd HT.out (HH.out _ HBd.out) (HR.out _ HBd.out) (HX.out.row.kept (below_up B0.out HBd.out)) HF2.out.ti)
      have M := Lib.hid (fun h r => @back_rows hd h row rs r k)
      have E := Lib.hid (fun x => @turn_ne (fun xs => .ok xs) (fun rs => insL rs k row) hd rs x ok_ne ins_ne)
      generalize turnR (fun xs => .ok xs) (fun rs => insL rs k row) hd rs = Y at C M E
      go_wp2_with fail
      refine C.out.mono ?_; intro e w3 q
      clear C p0 p1
      have B3 := Lib.hid (below_up HBd.out q.below)
      obtain ⟨qo, qn, qc, so, sn, sc, x, rfl⟩ := q.shape
      have hB3 := one_below w3 (TabO qo qn qc so sn sc)
      have B4 := Lib.hid (below_up B3.out hB3)
      have HN4 := Lib.hid (World.alloc_heap_new w3 (TabO qo qn qc so sn sc))
      clear hB3
      rcases q.parts with ⟨rfl, rfl, rfl⟩ | ⟨h, r, rfl, rfl, rfl, rfl, k1, k2, k3, k4⟩
      · have hx := E.out x rfl
        have hb : (x != 0) = true := by simp [hx]
        clear hx q
        go_wp2_with fail
        go_ret
        exact ⟨rfl, below_up B0.out B4.out⟩
      · obtain ⟨rfl, m2, m1⟩ := M.out h r rfl
        have C := Lib.hid (eDeleteRow qo so h r ⟨qc, k1⟩ ⟨sc, k2⟩ k (w3.alloc (TabO qo h.length qc so r.length sc)) m2 (k3.kept (one_below _ _)) (k4.kept (one_below _ _)))
        rw [m1] at C
        dsimp only at C
        obtain ⟨a0, a1⟩ := tabs HN4.out
        clear m1 m2 k1 k2 k3 k4 q M E
        go_wp2_with fail
        refine C.out.mono ?_; rintro e w5 ⟨bo, bc, go, gc, rfl, g1, g2, b5, _⟩
        have b6 := below_up b5 (one_below w5 (TabO bo h.length bc.1 go rs.length gc.1))
        have B6 := Lib.hid (below_up B4.out b6)
        obtain ⟨p0, p1⟩ := box.out _ B6.out
        obtain ⟨q0, q1⟩ := tabs (World.alloc_heap_new w5 (TabO bo h.length bc.1 go rs.length gc.1))
        have SS := Lib.hid (tsame_ok bo ho bc.1 hc h go ro gc.1 rc rs (w5.alloc (TabO bo h.length bc.1 go rs.length gc.1)) HT.out (g1.kept (one_below _ _)) (HH.out _ B6.out) (g2.kept (one_below _ _)) (HR.out _ B6.out))
        clear g1 g2 b5 b6 a0 a1 C
        go_wp2_with fail
        refine SS.out.mono ?_; rintro e w6 ⟨rfl, b6⟩
        have B7 := Lib.hid (below_up B6.out b6)
        clear b6 SS
        go_wp2_with fail
        go_ret
        exact ⟨rfl, below_up B0.out B7.out⟩
end Go.Proofs.Ytpbnggnbjboafaa
