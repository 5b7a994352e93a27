/-
  The walk of the statement EditSets.
  Conditions: none beyond the form of claims.
-/
import Derived.WalkKit
import Derived.WalkMore
import Derived.Lib.Hide
import Derived.Deep.QuietTactic
import Derived.BigQuiet
import Derived.Lib.QuietBelow
import Derived.Deep.RegionWith
import Derived.Deep.CutRange
import Derived.Test.YtpbnggnbjboafaaProg
import Derived.Test.YtpbnggnbjboafaaEOpen
import Derived.Test.YtpbnggnbjboafaaEMath2
namespace Go.Proofs.Ytpbnggnbjboafaa
open Go.RowKit Go.Shelf
set_option linter.unusedVariables false

set_option maxRecDepth 100000 in
set_option maxHeartbeats 8000000 in
theorem walkEditSets (ho : Option Addr) (hc : Nat) (hd : List ByteArray) (ro : Option Addr) (rc : Nat) (rs : List (List ByteArray)) (i k : Int) (c : ByteArray) (p q : Int) (w : World)
    (hA : StrArg w ho hc hd) (hB : RowsArg w ro rc rs) (hi : (Lit.int .i64 i).wf = true) (hk : (Lit.int .i64 k).wf = true) (hcs : c.size ≤ 140737488351232) (hp : (Lit.int .i64 p).wf = true) (hq : (Lit.int .i64 q).wf = true) :
    Calls Try.prog 6 #[.agg #[.slice ho hd.length hc, .slice ro rs.length rc], .int .i64 i, .int .i64 k, .string c, .int .i64 p, .int .i64 q] w fun e w' => e = .returned (.bool true) ∧ Below w.heap.size w w' := by
  obtain ⟨W, HW⟩ : ∃ W, Hid (W = w.alloc (TabO ho hd.length hc ro rs.length rc)) := ⟨_, Lib.hid rfl⟩
  have HW2 : Hid (W = w.alloc (Obj.cells #[Value.slice ho hd.length hc, Value.slice ro rs.length rc] 25)) := Lib.hid HW.out
  have hb0 : Below w.heap.size w W := by rw [HW.out]; exact one_below _ _
  have hN : W.heap[w.heap.size]? = some (TabO ho hd.length hc ro rs.length rc) := by rw [HW.out]; exact World.alloc_heap_new w _
  have HA := Lib.hid hA
  have HB := Lib.hid hB
  have B0 := Lib.hid hb0
  have box : Hid (∀ V, Below W.heap.size W V → V.cell? ⟨w.heap.size, 0, none⟩ = some (.slice ho hd.length hc) ∧ V.cell? ⟨w.heap.size, 1, none⟩ = some (.slice ro rs.length rc)) := Lib.hid (fun V hV => tabs ((hV.block _ (lt_of_heap hN)).trans hN))
  clear hA hB hb0 hN hi hk hp hq
  go_enter Try.func6, Try.ntmps6
  go_wp2_with fail
  rw [← HW2.out]
  refine (eworks_any _).mono ?_; rintro e w1 ⟨rfl, b1⟩
  obtain ⟨p0, p1⟩ := box.out w1 b1
  have X1 := below_up B0.out b1
  have B1 := Lib.hid b1
  have C1 := Lib.hid (rfew_any ho hc hd ro rc rs w1 HA.out.len HB.out.len HB.out.each HA.out.size (HA.out.row.kept X1) (HB.out.rows.kept X1))
  clear b1 X1 HW HW2
  go_wp2_with fail
  refine C1.out.mono ?_; rintro e w2 ⟨b, rfl, hb, b2⟩
  have B2 := Lib.hid (below_up B1.out b2)
  clear b2 p0 p1 C1 B1
  cases b with
  | false =>
    go_wp2_with fail
    go_ret
    exact ⟨rfl, below_up B0.out B2.out⟩
  | true =>
    have HT := Lib.hid (few_ti (hb rfl))
    clear hb
    have HH : Hid (∀ V, Below W.heap.size W V → StrRow V ho hd) := Lib.hid (fun V hV => HA.out.row.kept (below_up B0.out hV))
    have HR : Hid (∀ V, Below W.heap.size W V → RowsAt V ro rs) := Lib.hid (fun V hV => HB.out.rows.kept (below_up B0.out hV))
    by_cases hcs2 : c.size ≤ 2000
    case neg =>
      go_wp2_with fail
      go_ret
      exact ⟨rfl, below_up B0.out B2.out⟩
    have CC : Hid (∀ V, Below W.heap.size W V → ∀ a b, Calls Try.prog 21 #[.agg #[.slice ho hd.length hc, .slice ro rs.length rc], .int .i64 a, .int .i64 b] V fun e w' => e = .returned (.string (cellL rs a b)) ∧ Below V.heap.size V w') := Lib.hid (fun V hV a b => tcell_any ho hd.length hc ro rc rs a b V (by have := HT.out.2.1; omega) (fun r hr => ⟨by have := (HT.out.2.2 r hr).1; omega, fun c hc => by have := (HT.out.2.2 r hr).2 c hc; omega⟩) (HR.out V hV))
    obtain ⟨p0, p1⟩ := box.out w2 B2.out
    have C := Lib.hid (eSet ho ro hd rs HA.out.cp HB.out.cp i k c w2 HT.out (HH.out _ B2.out) (HR.out _ B2.out) (by omega))
    have M := Lib.hid (fun h r => @sets_is hd h rs r i k c)
    have E := Lib.hid (fun x => @sets_ne hd rs i k c x)
    generalize turnR (fun xs => .ok xs) (fun rs => turL rs i (fun r => setL r k c)) hd rs = X at C M E
    go_wp2_with fail
    refine C.out.mono ?_; intro e w3 qq
    clear C p0 p1
    have B3 := Lib.hid (below_up B2.out qq.below)
    obtain ⟨qo, qn, qc, so, sn, sc, x, rfl⟩ := qq.shape
    have hB3 := one_below w3 (TabO qo qn qc so sn sc)
    have B4 := Lib.hid (below_up B3.out hB3)
    have HN4 := Lib.hid (World.alloc_heap_new w3 (TabO qo qn qc so sn sc))
    clear hB3
    rcases qq.parts with ⟨rfl, rfl, rfl⟩ | ⟨h, r, rfl, rfl, rfl, rfl, k1, k2, k3, k4⟩
    · have hx := E.out x rfl
      have hb : (x != 0) = true := by simp [hx]
      clear hx qq
      go_wp2_with fail
      go_ret
      exact ⟨rfl, below_up B0.out B4.out⟩
    · obtain ⟨rfl, m2, m3, m4, m5, m1⟩ := M.out h r rfl
      have HK3 := Lib.hid (k3.kept (one_below w3 (TabO qo h.length qc so r.length sc)))
      have HK4 := Lib.hid (k4.kept (one_below w3 (TabO qo h.length qc so r.length sc)))
      have C2 : Hid (∀ V, Below (w3.alloc (TabO qo h.length qc so r.length sc)).heap.size (w3.alloc (TabO qo h.length qc so r.length sc)) V → Calls Try.prog 20 #[.agg #[.slice qo h.length qc, .slice so r.length sc], .int .i64 i, .int .i64 k, .string (cellL rs i k)] V (TabOut (.ok (h, rs)) V)) := Lib.hid (fun V hV => by
        have := eSet qo so h r ⟨qc, k1⟩ ⟨sc, k2⟩ i k (cellL rs i k) V m2 (HK3.out.kept hV) (HK4.out.kept hV) m5
        rw [m1] at this
        exact this)
      have C3 : Hid (∀ V, Below (w3.alloc (TabO qo h.length qc so r.length sc)).heap.size (w3.alloc (TabO qo h.length qc so r.length sc)) V → ∀ a b, Calls Try.prog 21 #[.agg #[.slice qo h.length qc, .slice so r.length sc], .int .i64 a, .int .i64 b] V fun e w' => e = .returned (.string (cellL r a b)) ∧ Below V.heap.size V w') := Lib.hid (fun V hV a b => tcell_any qo h.length qc so sc r a b V (by have := m2.2.1; omega) (fun r' hr => ⟨by have := (m2.2.2 r' hr).1; omega, fun c hc => by have := (m2.2.2 r' hr).2 c hc; omega⟩) (HK4.out.kept hV))
      have HM3 := Lib.hid m3
      have HM4 := Lib.hid m4
      clear m1 m2 m3 m4 m5 k1 k2 k3 k4 qq M E
      obtain ⟨p0, p1⟩ := box.out _ B4.out
      go_wp2_with fail
      refine (CC.out _ B4.out p q).mono ?_; rintro e w5 ⟨rfl, b5⟩
      have B5 := Lib.hid (below_up B4.out b5)
      have D5 := Lib.hid b5
      clear b5 p0 p1
      -- what it was, or is
      obtain ⟨was, Hwas⟩ : ∃ was, Hid (was = cellL r p q) := ⟨_, Lib.hid rfl⟩
      obtain ⟨b, Hb⟩ : ∃ b, Hid (b = decide (p = i ∧ q = k)) := ⟨_, Lib.hid rfl⟩
      go_upto_region 11 with fail
      go_cut [61] from 54 to 61 (fun v wc => v = .bool b ∧ wc = w5)
      case first =>
        by_cases h1 : p = i
        · have e1 : (p == i) = true := by simp [h1]
          have e2 : b = (q == k) := by rw [Hb.out]; by_cases h2 : q = k <;> simp [h1, h2]
          clear h1
          go_wp2_with fail
          all_goals (go_meet)
          all_goals exact ⟨by rw [e2], rfl⟩
        · have e1 : (p == i) = false := by simp [h1]
          have e2 : b = false := by rw [Hb.out]; simp [h1]
          clear h1
          go_wp2_with fail
          all_goals (go_meet)
          all_goals exact ⟨by rw [e2], rfl⟩
      case rest =>
      obtain ⟨rfl, rfl⟩ := hcut
      rename World => w5
      go_upto_if 61 with fail
      go_cut [17] from 62 to 62 (fun v wc => v = .string was ∧ wc = w5)
      case first =>
        cases b with
        | true =>
          have hh : p = i ∧ q = k := of_decide_eq_true Hb.out.symm
          have hw : was = c := by rw [Hwas.out, hh.1, hh.2]; exact HM3.out
          subst hw
          clear hh
          go_wp2_with fail
          all_goals (go_meet)
          all_goals exact ⟨rfl, rfl⟩
        | false =>
          have hh : ¬ (p = i ∧ q = k) := of_decide_eq_false Hb.out.symm
          have hw := HM4.out p q hh
          have HW3 := Lib.hid (show cellL rs p q = was from by rw [Hwas.out, hw])
          clear hh hw
          go_wp2_with fail
          all_goals (go_meet)
          all_goals exact ⟨by rw [HW3.out], rfl⟩
      case rest =>
        obtain ⟨rfl, rfl⟩ := hcut
        rename World => w5
        obtain ⟨p0, p1⟩ := box.out w5 B5.out
        obtain ⟨a0, a1⟩ := tabs (bk_kept HN4.out D5.out)
        have BD : Hid (Below W.heap.size W w5.drew) := Lib.hid (Below.drew B5.out)
        have BA : Hid (Below W.heap.size W (w5.drew.alloc (.cells #[.slice none 0 0, .slice none 0 0] 25))) := Lib.hid (below_up (Below.drew B5.out) (one_below w5.drew _))
        have DD : Hid (Below (w3.alloc (TabO qo h.length qc so r.length sc)).heap.size (w3.alloc (TabO qo h.length qc so r.length sc)) w5.drew) := Lib.hid (Below.drew D5.out)
        have DA : Hid (Below (w3.alloc (TabO qo h.length qc so r.length sc)).heap.size (w3.alloc (TabO qo h.length qc so r.length sc)) (w5.drew.alloc (.cells #[.slice none 0 0, .slice none 0 0] 25))) := Lib.hid (below_up (Below.drew D5.out) (one_below w5.drew _))
        have lw : w.heap.size < w5.heap.size := block_lt_of_cell p0
        have l3 : w3.heap.size < w5.heap.size := block_lt_of_cell a0
        go_upto_region 13 with fail
        go_cut [18, 19] from 63 to 73 (fun v u wc => ∃ n bo bc go gc, v = .pointer (some ⟨n, 0, none⟩) ∧ u = .int .i64 0 ∧ Hid (Below (w3.alloc (TabO qo h.length qc so r.length sc)).heap.size (w3.alloc (TabO qo h.length qc so r.length sc)) wc ∧ wc.heap[n]? = some (TabO bo h.length bc go rs.length gc) ∧ StrRow wc bo h ∧ RowsAt wc go rs))
        case first =>
          go_region_with (first
            | (go_at_call 21; refine (CC.out _ ?_ i k).mono ?_; (first | exact BD.out | exact BA.out); rintro e w6 ⟨rfl, b6⟩; have D6 : Hid (Below (w3.alloc (TabO qo h.length qc so r.length sc)).heap.size (w3.alloc (TabO qo h.length qc so r.length sc)) w6) := Lib.hid (below_up (by first | exact DD.out | exact DA.out) b6); obtain ⟨a2, a3⟩ := tabs (bk_kept HN4.out D6.out); have l6 : w3.heap.size < w6.heap.size := block_lt_of_cell a2; have HB6 := Lib.hid b6; clear b6)
            | (go_at_call 20; refine (C2.out _ ?_).mono ?_; (first | exact D6.out | exact below_up D6.out (one_below _ _)); rintro e w7 ⟨bo, bc, go, gc, rfl, g1, g2, b7, hfr⟩; (try (have hz : w7.heap[w5.heap.size]? = some ZC := bk_kept (bk_kept (World.alloc_heap_new w5.drew ZC) HB6.out) b7; have hlz : w5.heap.size < w6.heap.size := lt_of_heap (bk_kept (World.alloc_heap_new w5.drew ZC) HB6.out); obtain ⟨z0, z1, f0, f1⟩ := zcells hz; have HZ := Lib.hid hz; clear hz)); (try (have hz : w7.heap[w6.heap.size]? = some ZC := bk_kept (World.alloc_heap_new w6 ZC) b7; obtain ⟨z0, z1, f0, f1⟩ := zcells hz; have HZ := Lib.hid hz; clear hz)); have HG := Lib.hid (And.intro g1 (And.intro g2 (And.intro b7 hfr))); clear g1 g2 b7 hfr))
          all_goals (go_wp2_with fail; go_meet)
          all_goals obtain ⟨g1, g2, b7, hfr⟩ := HG.out
          all_goals first
            | exact ⟨_, bo, bc.1, go, gc.1, rfl, rfl, Lib.hid ⟨below_up (below_up D6.out b7) (one_below _ _), World.alloc_heap_new w7 _, g1.kept (one_below _ _), g2.kept (one_below _ _)⟩⟩
            | exact ⟨w6.heap.size, bo, bc.1, go, gc.1, rfl, rfl, Lib.hid ⟨((below_up (below_up D6.out (one_below w6 ZC)) b7).setCell (p := ⟨w6.heap.size, 0, none⟩) D6.out.size _).setCell (p := ⟨w6.heap.size, 1, none⟩) D6.out.size _, stored_box HZ.out g1 g2 (by simp) hfr⟩⟩
            | exact ⟨w5.heap.size, bo, bc.1, go, gc.1, rfl, rfl, Lib.hid ⟨((below_up D6.out b7).setCell (p := ⟨w5.heap.size, 0, none⟩) D5.out.size _).setCell (p := ⟨w5.heap.size, 1, none⟩) D5.out.size _, stored_box HZ.out g1 g2 hlz hfr⟩⟩
        case rest =>
          obtain ⟨n, bo, bc, go, gc, rfl, rfl, HH7⟩ := hcut
          rename World => w7
          clear p0 p1 a0 a1 BD BA DD DA
          have B7 := Lib.hid (below_up B4.out HH7.out.1)
          obtain ⟨p0, p1⟩ := box.out w7 B7.out
          obtain ⟨a0, a1⟩ := tabs (bk_kept HN4.out HH7.out.1)
          obtain ⟨n0, n1⟩ := tabs HH7.out.2.1
          have CA := Lib.hid (C3.out w7 HH7.out.1 i k)
          rw [HM3.out] at CA
          obtain ⟨y1, _⟩ := str_same c
          obtain ⟨y2, _⟩ := str_same was
          go_wp2_with fail
          refine CA.out.mono ?_; rintro e w8 ⟨rfl, b8⟩
          have B8 := Lib.hid b8
          have F8 := Lib.hid (below_up HH7.out.1 b8)
          obtain ⟨a2, a3⟩ := tabs (bk_kept HN4.out F8.out)
          have CB := Lib.hid (C3.out w8 F8.out p q)
          rw [← Hwas.out] at CB
          clear b8 p0 p1 a0 a1 n0 n1 CA
          go_wp2_with fail
          refine CB.out.mono ?_; rintro e w9 ⟨rfl, b9⟩
          have F9 := Lib.hid (below_up F8.out b9)
          have B9 := Lib.hid (below_up B8.out b9)
          have G9 := Lib.hid (below_up B4.out F9.out)
          obtain ⟨p0, p1⟩ := box.out w9 G9.out
          obtain ⟨n0, n1⟩ := tabs (bk_kept HH7.out.2.1 B9.out)
          have SS := Lib.hid (tsame_ok bo ho bc hc h go ro gc rc rs w9 HT.out (HH7.out.2.2.1.kept B9.out) (HH.out _ G9.out) (HH7.out.2.2.2.kept B9.out) (HR.out _ G9.out))
          clear b9 a2 a3 CB
          go_wp2_with fail
          refine SS.out.mono ?_; rintro e w10 ⟨rfl, b10⟩
          have G10 := Lib.hid (below_up G9.out b10)
          clear b10 SS
          go_wp2_with fail
          go_ret
          exact ⟨rfl, below_up B0.out G10.out⟩
end Go.Proofs.Ytpbnggnbjboafaa
