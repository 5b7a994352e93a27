/-
  The walk of the statement ColsMoved.
  Conditions: what the code answers.
-/
import Derived.WalkKit
import Derived.WalkMore
import Derived.IntWalk
import Derived.Lib.Hide
import Derived.Deep.RegionHeld3
import Derived.Test.YtigijgcldgbokaaGreatProg
import Derived.Test.YtigijgcldgbokaaGreatCMath3
namespace Go.Proofs.YtigijgcldgbokaaGreat
open Go.RowKit Go.Shelf
set_option linter.unusedVariables false

set_option maxRecDepth 100000 in
set_option maxHeartbeats 8000000 in
theorem walkColsMoved_of (HNa : NamedOK) (HAl : AlignOK) (ho : Option Addr) (hc : Nat) (hd : List ByteArray) (ro : Option Addr) (rc : Nat) (rs : List (List ByteArray)) (f : Int) (t : Int) (rename : Bool) (w : World)
    (hA : StrArg w ho hc hd) (hB : RowsArg w ro rc rs) (hf : (Lit.int .i64 f).wf = true) (ht : (Lit.int .i64 t).wf = true) :
    Calls Tryz.prog 7 #[.agg #[.slice ho hd.length hc, .slice ro rs.length rc], .int .i64 f, .int .i64 t, .bool rename] w fun e w' => e = .returned (.bool true) ∧ Below w.heap.size w w' := by
  obtain ⟨W, HW⟩ : ∃ W, Hid (W = w.alloc (TabO ho hd.length hc ro rs.length rc)) := ⟨_, Lib.hid rfl⟩
  have box : Hid (BoxC w W ho hd.length hc ro rs.length rc) := Lib.hid (by rw [HW.out]; exact boxC _ _ _ _ _ _ _)
  have B0 := Lib.hid box.out.start
  have HN := Lib.hid HNa
  have HA := Lib.hid HAl
  have F1 := Lib.hid (fun V (h : Below w.heap.size w V) => few_in hA hB h)
  have T1 := Lib.hid (fun V h (k : Below w.heap.size w V) => tabIn_of hA hB h k)
  have E1 : Hid (∀ V, fewT hd rs → Below w.heap.size w V → Calls Tryz.prog 19 #[.agg #[.slice ho hd.length hc, .slice ro rs.length rc], .int .i64 f, .int .i64 t] V (TabOut (turnR (colsH (fun xs => movL xs f t)) (colsR (fun xs => movL xs f t)) hd rs) V)) := Lib.hid (fun V h k => eMoveCol ho ro hd rs hA.cpC hB.cpC f t V (few_tiC h) (hA.row.kept k) (hB.rows.kept k))
  clear hA hB HNa HAl
  go_enter Tryz.func7, Tryz.ntmps7
  go_upto_region 1 with fail
  rw [show w.alloc (TabO ho hd.length hc ro rs.length rc) = W from HW.out.symm]
  go_wp2_with fail
  refine (cworks_any HN.out HA.out _).mono ?_; rintro e w1 ⟨rfl, b1⟩
  have B1 := Lib.hid b1
  have C1 := Lib.hid (F1.out w1 (below_up B0.out b1))
  obtain ⟨k0, k1⟩ := box.out.cell w1 b1
  clear b1 F1
  go_wp2_with fail
  refine C1.out.mono ?_; rintro e w2 ⟨b, rfl, hf, b2⟩
  have B2 := Lib.hid (below_up B1.out b2)
  have HF := Lib.hid hf
  clear b2 k0 k1 C1 B1 hf
  obtain ⟨k0, k1⟩ := box.out.cell w2 B2.out
  cases b with
  | false =>
    clear HF
    go_wp2_with fail
    go_ret
    exact ⟨rfl, below_up B0.out B2.out⟩
  | true =>
    have HFe := Lib.hid (HF.out rfl)
    clear HF
    have D1 := Lib.hid (E1.out w2 HFe.out (below_up B0.out B2.out))
    have HT : Hid (∀ V, Below W.heap.size W V → TabIn V ho hc hd ro rc rs) := Lib.hid (fun V h => T1.out V HFe.out (below_up B0.out h))
    have HLe : Hid (hd.length ≤ 60) := Lib.hid (HT.out w2 B2.out).hl
    clear E1 T1
    generalize hX : turnR (colsH (fun xs => movL xs f t)) (colsR (fun xs => movL xs f t)) hd rs = X at D1
    have HX := Lib.hid hX
    clear hX
    go_wp2_with fail
    cases X with
    | error x =>
      refine D1.out.mono ?_; rintro e w3 ⟨qo, qc, so, sc, rfl, b3⟩
      have hx := move_err HX.out
      have hb : (x != 0) = true := by simp [hx]
      have B3 := Lib.hid (below_up B2.out b3)
      clear HX hx b3 D1 k0 k1
      go_wp2_with fail
      go_ret
      exact ⟨rfl, below_up B0.out (B3.out.alloc B3.out.size _)⟩
    | ok tt =>
      obtain ⟨h, r⟩ := tt
      refine D1.out.mono ?_; rintro e w3 ⟨qo, qc, so, sc, rfl, s1, s2, b3, -⟩
      obtain ⟨h0, h1, hlen, a1, a2, a3, i, j, rfl, rfl, hj, a4⟩ := move_facts HX.out rename
      have hT2 := tabIn_check qc sc h1 s1 s2
      have B3 := Lib.hid (below_up B2.out b3)
      obtain ⟨U, HU⟩ : ∃ U, Hid (U = w3.alloc (TabO qo h.length qc.1 so r.length sc.1)) := ⟨_, Lib.hid rfl⟩
      have hbU : Below w3.heap.size w3 U := by rw [HU.out]; exact one_below _ _
      have hU0 : U.heap[w3.heap.size]? = some (TabO qo h.length qc.1 so r.length sc.1) := by rw [HU.out]; exact World.alloc_heap_new _ _
      have B4 := Lib.hid (below_up B3.out hbU)
      have D2 := Lib.hid (HA.out ho hc hd ro rc rs qo qc.1 h so sc.1 r rename U (HT.out U B4.out) (hT2.kept hbU))
      rw [a1] at D2
      have R2 := Lib.hid a2
      have R3 := Lib.hid a3
      have R4 := Lib.hid a4
      have Rowh : Hid (StrRow U ho hd) := Lib.hid (HT.out U B4.out).row
      have Rowq : Hid (StrRow U qo h) := Lib.hid (s1.kept hbU)
      obtain ⟨qcv, hqc⟩ : ∃ v, v = qc.1 := ⟨_, rfl⟩
      obtain ⟨scv, hsc⟩ : ∃ v, v = sc.1 := ⟨_, rfl⟩
      rw [← hqc, ← hsc] at HU hU0 D2 ⊢
      have nbox : Hid (∀ V, Below U.heap.size U V → V.cell? ⟨w3.heap.size, 0, none⟩ = some (.slice qo h.length qcv) ∧ V.cell? ⟨w3.heap.size, 1, none⟩ = some (.slice so r.length scv)) := Lib.hid (fun V hV => tabs ((hV.block _ (lt_of_heap hU0)).trans hU0))
      obtain ⟨n0, n1⟩ := tabs hU0
      have HLh := Lib.hid hlen
      have HJ := Lib.hid hj
      clear hqc hsc qc sc s1 s2 b3 D1 h0 h1 hlen a1 a2 a3 a4 hT2 HX k0 k1 HT HN HA hbU hU0 hj
      obtain ⟨k0, k1⟩ := box.out.cell U B4.out
      generalize alignR hd rs h r rename = L at D2 R2 R3 R4
      go_upto_region 8 with fail
      rw [show w3.alloc (Obj.cells #[Value.slice qo h.length qcv, Value.slice so r.length scv] 25) = U from HU.out.symm]
      go_wp2_with fail
      refine D2.out.mono ?_; rintro e w5 ⟨lo, lc, rfl, p5, -, -, b5⟩
      have B5 := Lib.hid (below_up B4.out b5)
      have BU := Lib.hid b5
      have P5 := Lib.hid p5
      have Rowh := Lib.hid (Rowh.out.kept b5)
      have Rowq := Lib.hid (Rowq.out.kept b5)
      clear b5 p5 D2 k0 k1 n0 n1 B4
      obtain ⟨k0, k1⟩ := box.out.cell w5 B5.out
      obtain ⟨n0, n1⟩ := nbox.out w5 BU.out
      obtain ⟨n, hn⟩ : ∃ n, n = hd.length := ⟨_, rfl⟩
      have hLn := R2.out
      have hLh := HLh.out
      rw [← hn] at hLn hLh k0
      have HJn : Hid (j < n) := Lib.hid (by rw [hn]; exact HJ.out)
      have HLe : Hid (n ≤ 60) := Lib.hid (by rw [hn]; exact HLe.out)
      rw [hLn]
      rw [hLh] at n0
      have HLn := Lib.hid hLn
      have HLh := Lib.hid hLh
      have Hn := Lib.hid hn
      have hnb : ((n : Int) != (hd.length : Int)) = false := by rw [hn]; simp
      clear hLn hLh hn R2 HJ
      go_wp2_with fail
      go_loopw [15] (fun u wr => ∃ k : Nat, k ≤ n ∧ u = .int .i64 k ∧ Hid (Below w5.heap.size w5 wr)) (fun u _ => n - (intOf u).toNat)
      case atStart => exact ⟨0, Nat.zero_le _, rfl, Lib.hid (Below.refl _ _)⟩
      case round =>
        obtain ⟨k, hk, rfl, HB⟩ := hrel
        have hk2 : k ≤ 60 := by have := HLe.out; omega
        by_cases hlt : k < n
        · obtain ⟨s, hs⟩ : ∃ s, h[k]? = some s := ⟨_, List.getElem?_eq_getElem (by rw [HLh.out]; exact hlt)⟩
          obtain ⟨p, hx, hp⟩ := R3.out k s hs
          have hpl := (List.getElem?_eq_some_iff.1 hp).1
          rw [← Hn.out] at hpl
          have x0 : wr.cell? ⟨w.heap.size, 0, none⟩ = some (.slice ho n hc) := by rw [Hn.out]; exact (box.out.cell wr (below_up B5.out HB.out)).1
          have x1 := (nbox.out wr (below_up BU.out HB.out)).1
          rw [HLh.out] at x1
          rcases (P5.out.kept HB.out) with e0 | ⟨b, o, rfl, hA, hcell⟩
          · have := HLn.out; rw [e0] at this; simp at this; omega
          obtain ⟨c1, c2⟩ := hcell k _ hx
          rcases (Rowh.out.kept HB.out) with e0 | ⟨A, rfl, hA2, hcell2⟩
          · rw [e0] at hp; cases hp
          have c3 := hcell2 p s hp
          rcases (Rowq.out.kept HB.out) with e0 | ⟨B, rfl, hA3, hcell3⟩
          · rw [e0] at hs; cases hs
          have c4 := hcell3 k s hs
          dsimp only at c1 c2
          have e1 : decide ((p : Int) < 0) = false := decide_eq_false (by omega)
          have e2 : decide ((n : Int) ≤ (p : Int)) = false := decide_eq_false (by omega)
          have e3 : decide (n ≤ p) = false := decide_eq_false (by omega)
          clear hcell hx hcell2 hcell3 hs hp hA hA2 hA3
          go_upto_region 16 with fail
          go_quiet (fail)
          have HB2 : Hid (Below w5.heap.size w5 (wr.drewN nq)) := Lib.hid (bdn HB.out)
          go_wp2_with fail
          go_roundw
          case rel => exact ⟨k + 1, by omega, by go_num, HB2⟩
          case measure => simp [intOf]; omega
        · obtain rfl : k = n := by omega
          have hx := R4.out
          have hjn := HJn.out
          rcases (P5.out.kept HB.out) with e0 | ⟨b, o, rfl, hA, hcell⟩
          · rw [e0] at hx; cases hx
          obtain ⟨c1, c2⟩ := hcell j _ hx
          dsimp only at c1 c2
          clear hcell hx
          go_wp2_with fail
          go_ret
          exact ⟨by simp, below_up B0.out (below_up B5.out HB.out)⟩
end Go.Proofs.YtigijgcldgbokaaGreat
