/-
  The walk of the statement ColsOnce.
  Conditions: what the code answers.
-/
import Derived.WalkKit
import Derived.WalkMore
import Derived.IntWalk
import Derived.Lib.Hide
import Derived.BigQuiet
import Derived.Deep.QuietTactic
import Derived.Deep.RegionHeld3
import Derived.Test.YtigijgcldgbokaaGreatProg
import Derived.Test.YtigijgcldgbokaaGreatBCount
import Derived.Test.YtigijgcldgbokaaGreatCMath4
namespace Go.Proofs.YtigijgcldgbokaaGreat
open Go.RowKit Go.Shelf
set_option linter.unusedVariables false

set_option maxRecDepth 100000 in
set_option maxHeartbeats 8000000 in
theorem walkColsOnce_of (HNa : NamedOK) (HAl : AlignOK) (ho : Option Addr) (hc : Nat) (ha : List ByteArray) (ro : Option Addr) (rc : Nat) (ra : List (List ByteArray)) (bo : Option Addr) (bc : Nat) (hb : List ByteArray) (so : Option Addr) (sc : Nat) (rb : List (List ByteArray)) (rename : Bool) (w : World)
    (hA : StrArg w ho hc ha) (hB : RowsArg w ro rc ra) (hC : StrArg w bo bc hb) (hD : RowsArg w so sc rb) :
    Calls Tryz.prog 4 #[.agg #[.slice ho ha.length hc, .slice ro ra.length rc], .agg #[.slice bo hb.length bc, .slice so rb.length sc], .bool rename] w fun e w' => e = .returned (.bool true) ∧ Below w.heap.size w w' := by
  obtain ⟨W, HW⟩ : ∃ W, Hid (W = (w.alloc (TabO ho ha.length hc ro ra.length rc)).alloc (TabO bo hb.length bc so rb.length sc)) := ⟨_, Lib.hid rfl⟩
  have box : Hid (BoxedC w W ho ha.length hc ro ra.length rc bo hb.length bc so rb.length sc) := Lib.hid (by rw [HW.out]; exact boxedC _ _ _ _ _ _ _ _ _ _ _ _ _)
  have B0 := Lib.hid box.out.start
  have HN := Lib.hid HNa
  have HA := Lib.hid HAl
  have F1 := Lib.hid (fun V (h : Below w.heap.size w V) => few_in hA hB h)
  have F2 := Lib.hid (fun V (h : Below w.heap.size w V) => few_in hC hD h)
  have T1 := Lib.hid (fun V h (k : Below w.heap.size w V) => tabIn_of hA hB h k)
  have T2 := Lib.hid (fun V h (k : Below w.heap.size w V) => tabIn_of hC hD h k)
  clear hA hB hC hD HNa HAl
  go_enter Tryz.func4, Tryz.ntmps4
  go_upto_region 1 with fail
  rw [show (w.alloc (TabO ho ha.length hc ro ra.length rc)).alloc (TabO bo hb.length bc so rb.length sc) = W from HW.out.symm]
  go_wp2_with fail
  refine (cworks_any HN.out HA.out _).mono ?_; rintro e w1 ⟨rfl, b1⟩
  have B1 := Lib.hid b1
  have C1 := Lib.hid (F1.out w1 (below_up B0.out b1))
  obtain ⟨⟨k0, k1⟩, k2, k3⟩ := box.out.cell w1 b1
  clear b1 F1
  go_wp2_with fail
  refine C1.out.mono ?_; rintro e w2 ⟨b, rfl, hf, b2⟩
  have B2 := Lib.hid (below_up B1.out b2)
  have T1' := Lib.hid (fun h V (k : Below w.heap.size w V) => T1.out V (hf h) k)
  clear b2 k0 k1 k2 k3 C1 B1 T1 hf
  obtain ⟨⟨k0, k1⟩, k2, k3⟩ := box.out.cell w2 B2.out
  cases b with
  | false =>
    clear F2 T2 T1'
    go_wp2_with fail
    go_ret
    exact ⟨rfl, below_up B0.out B2.out⟩
  | true =>
    have T1 := Lib.hid (T1'.out rfl)
    have C2 := Lib.hid (F2.out w2 (below_up B0.out B2.out))
    clear T1' F2
    go_wp2_with fail
    refine C2.out.mono ?_; rintro e w3 ⟨b, rfl, hf, b3⟩
    have B3 := Lib.hid (below_up B2.out b3)
    have T2' := Lib.hid (fun h V (k : Below w.heap.size w V) => T2.out V (hf h) k)
    clear b3 k0 k1 k2 k3 C2 B2 T2 hf
    obtain ⟨⟨k0, k1⟩, k2, k3⟩ := box.out.cell w3 B3.out
    cases b with
    | false =>
      clear T2'
      go_wp2_with fail
      go_ret
      exact ⟨rfl, below_up B0.out B3.out⟩
    | true =>
      have T2 := Lib.hid (T2'.out rfl)
      have HT : Hid (∀ V, Below W.heap.size W V → TabIn V ho hc ha ro rc ra ∧ TabIn V bo bc hb so sc rb) := Lib.hid (fun V h => ⟨T1.out V (below_up B0.out h), T2.out V (below_up B0.out h)⟩)
      have D1 := Lib.hid (HA.out ho hc ha ro rc ra bo bc hb so sc rb rename w3 (HT.out w3 B3.out).1 (HT.out w3 B3.out).2)
      have FA := Lib.hid (fun (x : ByteArray) V (h : Below W.heap.size W V) => tfind_any ho hc ha ro ra.length rc x V (by have := (HT.out V h).1.hl; omega) (HT.out V h).1.row)
      have FB := Lib.hid (fun (x : ByteArray) V (h : Below W.heap.size W V) => tfind_any bo bc hb so rb.length sc x V (by have := (HT.out V h).2.hl; omega) (HT.out V h).2.row)
      have HRa : Hid (∀ V, Below W.heap.size W V → StrRow V ho ha) := Lib.hid (fun V h => (HT.out V h).1.row)
      have HRb : Hid (∀ V, Below W.heap.size W V → StrRow V bo hb) := Lib.hid (fun V h => (HT.out V h).2.row)
      have HLa : Hid (ha.length ≤ 60) := Lib.hid (HT.out w3 B3.out).1.hl
      have HLb : Hid (hb.length ≤ 60) := Lib.hid (HT.out w3 B3.out).2.hl
      have hl := alignR_le ha ra hb rb rename HLa.out HLb.out
      have HLL := Lib.hid hl
      have HOn := Lib.hid (fun h => @once_facts ha ra hb rb rename h HLa.out HLb.out)
      have HOz := Lib.hid (fun h => @alignR_bad ha ra hb rb rename h)
      have HNx := Lib.hid (fun k s h => named_next ha hb k s h)
      have HNa2 : Hid (namedK ha hb hb.length = namedL ha hb) := Lib.hid rfl
      have HNl := Lib.hid (fun k => named_le ha hb k)
      have CP := Lib.hid (fun (ao : Option Addr) cap V h1 h2 => pcheck_any ao cap (alignR ha ra hb rb rename) (ha.length : Int) (hb.length : Int) V (by omega) h1 h2)
      clear T2' T1 T2 HT hl HN HA
      generalize alignR ha ra hb rb rename = L at D1 HOn HOz HLL CP
      generalize alignE ha ra hb rb = E at D1 HOn HOz
      go_wp2_with fail
      refine D1.out.mono ?_; rintro e w4 ⟨lo, lc, rfl, p4, -, -, b4⟩
      have B4 := Lib.hid (below_up B3.out b4)
      have P4 := Lib.hid p4
      clear k0 k1 k2 k3 b4 p4 D1 B3
      obtain ⟨⟨k0, k1⟩, k2, k3⟩ := box.out.cell w4 B4.out
      by_cases h0 : E = 0
      · obtain ⟨o1, o2, o3, o4, o5⟩ := HOn.out h0
        have O1 := Lib.hid o1
        have O4 := Lib.hid o4
        have O5 := Lib.hid o5
        have CP := Lib.hid (fun ao cap V h => CP.out ao cap V o2 h)
        rw [o3] at CP
        clear o1 o2 o3 o4 o5 HOn HOz
        subst h0
        obtain ⟨n, hn⟩ : ∃ n, n = L.length := ⟨_, rfl⟩
        rw [← hn] at CP HLL O4 O5 ⊢
        have HLn := Lib.hid hn
        clear hn
        go_wp2_with fail
        go_loopw [11] (fun u wr => ∃ k : Nat, k ≤ n ∧ u = .int .i64 k ∧ Hid (Below w4.heap.size w4 wr)) (fun u _ => n - (intOf u).toNat)
        case atStart => exact ⟨0, Nat.zero_le _, rfl, Lib.hid (Below.refl _ _)⟩
        case round =>
          obtain ⟨k, hk, rfl, HB⟩ := hrel
          have hk2 : k ≤ 1048700 := by have := HLL.out; omega
          have BB := Lib.hid (below_up B4.out HB.out)
          by_cases hlt : k < n
          · obtain ⟨p, hx⟩ : ∃ p, L[k]? = some p := ⟨_, List.getElem?_eq_getElem (by rw [← HLn.out]; exact hlt)⟩
            obtain ⟨i, j, s, t, rfl, hi, hj, hor⟩ := O1.out k p hx
            have hil := (List.getElem?_eq_some_iff.1 hi).1
            have hjl := (List.getElem?_eq_some_iff.1 hj).1
            have HX := Lib.hid hx
            have HI := Lib.hid hi
            have HJ := Lib.hid hj
            have PB : Hid (∃ b o, lo = some ⟨b, o, none⟩ ∧ ∀ V, Below W.heap.size W V → Below w4.heap.size w4 V → V.cell? ⟨b, o + k * 2, none⟩ = some (.int .i64 i) ∧ V.cell? ⟨b, o + k * 2 + 1, none⟩ = some (.int .i64 j)) := Lib.hid (by
              rcases P4.out with e0 | ⟨b, o, h1, h2, h3⟩
              · rw [e0] at hx; cases hx
              · exact ⟨b, o, h1, fun V _ hV => ⟨(hV.cell (p := ⟨b, o + k * 2, none⟩) h2).trans (h3 k _ hx).1, (hV.cell (p := ⟨b, o + k * 2 + 1, none⟩) h2).trans (h3 k _ hx).2⟩⟩)
            obtain ⟨pb, po, rfl, PC⟩ := PB.out
            have RA : Hid (∃ A, ho = some A ∧ ∀ V, Below W.heap.size W V → V.cell? (A.add i) = some (.string s)) := Lib.hid (by
              rcases HRa.out W (Below.refl _ _) with e0 | ⟨A, h1, h2, h3⟩
              · rw [e0] at hi; cases hi
              · exact ⟨A, h1, fun V hV => (hV.cell (p := A.add i) (by rw [add_block]; exact h2)).trans (h3 i s hi)⟩)
            obtain ⟨A, rfl, RA2⟩ := RA.out
            have RB : Hid (∃ A, bo = some A ∧ ∀ V, Below W.heap.size W V → V.cell? (A.add j) = some (.string t)) := Lib.hid (by
              rcases HRb.out W (Below.refl _ _) with e0 | ⟨A, h1, h2, h3⟩
              · rw [e0] at hj; cases hj
              · exact ⟨A, h1, fun V hV => (hV.cell (p := A.add j) (by rw [add_block]; exact h2)).trans (h3 j t hj)⟩)
            obtain ⟨B, rfl, RB2⟩ := RB.out
            have PC := Lib.hid PC
            have RA2 := Lib.hid RA2
            have RB2 := Lib.hid RB2
            have e1 : decide ((i : Int) < 0) = false := decide_eq_false (by omega)
            have e2 : decide ((ha.length : Int) ≤ (i : Int)) = false := decide_eq_false (by omega)
            have e3 : decide (ha.length ≤ i) = false := decide_eq_false (by omega)
            have e4 : decide ((j : Int) < 0) = false := decide_eq_false (by omega)
            have e5 : decide ((hb.length : Int) ≤ (j : Int)) = false := decide_eq_false (by omega)
            have e6 : decide (hb.length ≤ j) = false := decide_eq_false (by omega)
            obtain ⟨⟨k0, k1⟩, k2, k3⟩ := box.out.cell wr BB.out
            obtain ⟨c1, c2⟩ := PC.out wr BB.out HB.out
            clear hx hi hj PB RA RB
            go_upto_region 13 with fail
            go_quiet (fail)
            obtain ⟨V, HV⟩ : ∃ V, Hid (V = wr.drewN nq) := ⟨_, Lib.hid rfl⟩
            have HBV : Hid (Below w4.heap.size w4 V) := Lib.hid (by rw [HV.out]; exact bdn HB.out)
            have BBV := Lib.hid (below_up B4.out HBV.out)
            rw [← HV.out]
            clear c1 c2 k0 k1 k2 k3 HV
            obtain ⟨⟨k0, k1⟩, k2, k3⟩ := box.out.cell V BBV.out
            obtain ⟨c1, c2⟩ := PC.out V BBV.out HBV.out
            have c3 := RA2.out V BBV.out
            have c4 := RB2.out V BBV.out
            by_cases hst : s = t
            · subst hst
              have hbe : (s.toList == s.toList) = true := by simp
              clear hor FA FB
              go_upto_region 15 with fail
              go_quiet (fail)
              have HB2 : Hid (Below w4.heap.size w4 (V.drewN nq)) := Lib.hid (bdn HBV.out)
              go_wp2_with fail
              go_roundw
              case rel => exact ⟨k + 1, by omega, by go_num, HB2⟩
              case measure => simp [intOf]; omega
            · obtain ⟨hr, f1, f2⟩ := hor.resolve_left hst
              have hbe := strb_eq s t
              rw [decide_eq_false (fun h => hst (ba_eq h))] at hbe
              have hbn : (s.toList != t.toList) = true := by unfold bne; rw [hbe]; rfl
              have FB2 := Lib.hid (FB.out s)
              have FA2 := Lib.hid (FA.out t)
              have g1 : decide (0 ≤ findL hb s) = false := decide_eq_false (by omega)
              have g2 : decide (0 ≤ findL ha t) = false := decide_eq_false (by omega)
              have BD := Lib.hid (BBV.out.drew)
              subst hr
              clear hst f1 f2 FA FB
              generalize findL hb s = y1 at FB2 g1
              generalize findL ha t = y2 at FA2 g2
              go_upto_region 15 with fail
              go_region_held3 (fun V => V.cell? ⟨w.heap.size, 0, none⟩ = some (.slice (some A) ha.length hc) ∧ V.cell? ⟨w.heap.size, 1, none⟩ = some (.slice ro ra.length rc) ∧ V.cell? ⟨w.heap.size + 1, 0, none⟩ = some (.slice (some B) hb.length bc) ∧ V.cell? ⟨w.heap.size + 1, 1, none⟩ = some (.slice so rb.length sc) ∧ V.cell? ⟨pb, po + k * 2, none⟩ = some (.int .i64 i) ∧ V.cell? ⟨pb, po + k * 2 + 1, none⟩ = some (.int .i64 j) ∧ V.cell? (A.add i) = some (.string s) ∧ V.cell? (B.add j) = some (.string t)) ((refine ⟨?_, ?_, ?_, ?_, ?_, ?_, ?_, ?_⟩ <;> first | assumption | go_keep))
                (first
                  | (go_at_call 15; refine (FB2.out _ BD.out).mono ?_; rintro e w5 ⟨rfl, b5⟩; have B5 := Lib.hid (below_up BD.out b5); have H5 := Lib.hid (below_up HBV.out.drew b5); obtain ⟨⟨k0, k1⟩, k2, k3⟩ := box.out.cell _ B5.out; obtain ⟨c1, c2⟩ := PC.out _ B5.out H5.out; have c3 := RA2.out _ B5.out; have c4 := RB2.out _ B5.out; clear b5 FB2)
                  | (go_at_call 15; refine (FA2.out _ B5.out).mono ?_; rintro e w6 ⟨rfl, b6⟩; have B6 := Lib.hid (below_up B5.out b6); have H6 := Lib.hid (below_up H5.out b6); obtain ⟨⟨k0, k1⟩, k2, k3⟩ := box.out.cell _ B6.out; obtain ⟨c1, c2⟩ := PC.out _ B6.out H6.out; have c3 := RA2.out _ B6.out; have c4 := RB2.out _ B6.out; clear b6 FA2))
              go_wp2_with fail
              go_roundw
              case rel => exact ⟨k + 1, by omega, by go_num, H6⟩
              case measure => simp [intOf]; omega
          · obtain rfl : k = n := by omega
            obtain ⟨w5, hw5⟩ : ∃ w5 : World, w5 = wr := ⟨_, rfl⟩
            rw [← hw5] at HB BB ⊢
            clear hw5
            have P5 := Lib.hid (P4.out.kept HB.out)
            have HZ : Hid ((0 : Nat) = (namedK ha hb 0).length) := Lib.hid rfl
            obtain ⟨⟨k0, k1⟩, k2, k3⟩ := box.out.cell w5 BB.out
            clear O1 P4
            go_wp2_with fail
            go_loopw [12, 13] (fun v u wr => ∃ (m q : Nat), q ≤ hb.length ∧ v = .int .i64 m ∧ u = .int .i64 q ∧ Hid (m = (namedK ha hb q).length) ∧ Hid (Below w5.heap.size w5 wr)) (fun _ u _ => hb.length - (intOf u).toNat)
            case atStart => exact ⟨0, 0, Nat.zero_le _, rfl, rfl, HZ, Lib.hid (Below.refl _ _)⟩
            case round =>
              obtain ⟨m, q, hq, rfl, rfl, HM, HB1⟩ := hrel
              have hq2 : q ≤ 60 := by have := HLb.out; omega
              have hm2 : m ≤ 60 := by have := HNl.out q; have := HM.out; omega
              have BB1 := Lib.hid (below_up BB.out HB1.out)
              obtain ⟨⟨k0, k1⟩, k2, k3⟩ := box.out.cell wr BB1.out
              by_cases hlq : q < hb.length
              · obtain ⟨s, hs⟩ : ∃ s, hb[q]? = some s := ⟨_, List.getElem?_eq_getElem hlq⟩
                have RB : Hid (∃ A, bo = some A ∧ ∀ V, Below W.heap.size W V → V.cell? (A.add q) = some (.string s)) := Lib.hid (by
                  rcases HRb.out W (Below.refl _ _) with e0 | ⟨A, h1, h2, h3⟩
                  · rw [e0] at hs; cases hs
                  · exact ⟨A, h1, fun V hV => (hV.cell (p := A.add q) (by rw [add_block]; exact h2)).trans (h3 q s hs)⟩)
                obtain ⟨B, rfl, RB2⟩ := RB.out
                have RB2 := Lib.hid RB2
                have c4 := RB2.out wr BB1.out
                have HS := Lib.hid (HNx.out q s hs)
                have FA2 := Lib.hid (FA.out s)
                have BD := Lib.hid (BB1.out.drew)
                have HD := Lib.hid (HB1.out.drew)
                clear hs RB
                generalize findL ha s = y at FA2 HS
                go_upto_region 21 with fail
                go_region_held3 (fun V => V.cell? ⟨w.heap.size, 0, none⟩ = some (.slice ho ha.length hc) ∧ V.cell? ⟨w.heap.size, 1, none⟩ = some (.slice ro ra.length rc) ∧ V.cell? ⟨w.heap.size + 1, 0, none⟩ = some (.slice (some B) hb.length bc) ∧ V.cell? (B.add q) = some (.string s)) ((refine ⟨?_, ?_, ?_, ?_⟩ <;> first | assumption | go_keep))
                  (first
                    | (go_at_call 15; refine (FA2.out _ BD.out).mono ?_; rintro e w6 ⟨rfl, b6⟩; have B6 := Lib.hid (below_up BD.out b6); have H6 := Lib.hid (below_up HD.out b6); obtain ⟨⟨k0, k1⟩, k2, k3⟩ := box.out.cell _ B6.out; have c4 := RB2.out _ B6.out; clear b6 FA2))
                by_cases hy : 0 ≤ y
                · have dy : decide (0 ≤ y) = true := decide_eq_true hy
                  have HM2 : Hid (m + 1 = (namedK ha hb (q + 1)).length) := Lib.hid (by rw [HS.out, if_pos hy, List.length_append, ← HM.out]; rfl)
                  clear HS HM
                  go_wp2_with fail
                  go_roundw
                  case rel => exact ⟨m + 1, q + 1, by omega, by go_num, by go_num, HM2, H6⟩
                  case measure => simp [intOf]; omega
                · have dy : decide (0 ≤ y) = false := decide_eq_false hy
                  have HM2 : Hid (m = (namedK ha hb (q + 1)).length) := Lib.hid (by rw [HS.out, if_neg hy]; exact HM.out)
                  clear HS HM
                  go_wp2_with fail
                  go_roundw
                  case rel => exact ⟨m, q + 1, by omega, rfl, by go_num, HM2, H6⟩
                  case measure => simp [intOf]; omega
              · obtain rfl : q = hb.length := by omega
                have hm : m = (namedL ha hb).length := by rw [HM.out, HNa2.out]
                have h4 := O4.out
                have h5 := O5.out
                rw [← hm] at h4 h5
                have C := Lib.hid (CP.out lo lc wr (P5.out.kept HB1.out))
                have HKm := Lib.hid h4
                have HKe := Lib.hid h5
                clear hm h4 h5 O4 O5 HM CP
                go_wp2_with fail
                refine C.out.mono ?_; rintro e w7 ⟨rfl, b7⟩
                have B7 := Lib.hid (below_up BB1.out b7)
                have d1 : decide ((m : Int) ≤ (k : Int)) = true := decide_eq_true (by have := HKm.out; omega)
                clear b7 C k0 k1 k2 k3
                cases rename with
                | true =>
                  clear HKe
                  go_wp2_with fail
                  go_ret
                  exact ⟨by simp, below_up B0.out B7.out⟩
                | false =>
                  have d2 : ((k : Int) == (m : Int)) = true := by have := HKe.out rfl; rw [beq_iff_eq]; omega
                  clear HKe
                  go_wp2_with fail
                  go_ret
                  exact ⟨by simp, below_up B0.out B7.out⟩
      · have hb0 : (E != 0) = true := by simp [h0]
        have hz := HOz.out h0
        subst hz
        clear HOz HOn
        go_wp2_with fail
        go_ret
        exact ⟨by simp, below_up B0.out B4.out⟩
end Go.Proofs.YtigijgcldgbokaaGreat
