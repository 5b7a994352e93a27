/-
  The walk of the statement RowsBy.
  Conditions: what the code answers.
-/
import Derived.WalkKit
import Derived.WalkMore
import Derived.IntWalk
import Derived.Lib.Hide
import Derived.Deep.RegionHeld3
import Derived.Test.YtdenehnneloegaaGreatDoorProg
import Derived.Test.YtdenehnneloegaaGreatDoorPa39
namespace Go.Proofs.YtdenehnneloegaaGreatDoor
open Go.RowKit Go.Shelf
set_option linter.unusedVariables false
set_option maxRecDepth 100000 in
set_option maxHeartbeats 4000000 in
theorem walkRowsBy_of (HKe : ByKeyOK) (HLo : ByLookOK) (HRo : RowsOK) (ho : Option Addr) (hc : Nat) (ha : List ByteArray) (ro : Option Addr) (rc : Nat) (ra : List (List ByteArray)) (bo : Option Addr) (bc : Nat) (hb : List ByteArray) (so : Option Addr) (sc : Nat) (rb : List (List ByteArray)) (lo : Option Addr) (lc : Nat) (l : PL) (no : Option Addr) (nc : Nat) (names : List ByteArray) (w : World)
    (hA : StrArg w ho hc ha) (hB : RowsArg w ro rc ra) (hC : StrArg w bo bc hb) (hD : RowsArg w so sc rb) (hL : PairsArg w lo lc l) (hN : StrArg w no nc names) (hpow : Pow w) :
    Calls Tryz.prog 4 #[.agg #[.slice ho ha.length hc, .slice ro ra.length rc], .agg #[.slice bo hb.length bc, .slice so rb.length sc], .slice lo l.length lc, .slice no names.length nc] w fun e w' => e = .returned (.bool true) ∧ Below w.heap.size w w' := by
  obtain ⟨W, HW⟩ : ∃ W, Hid (W = (w.alloc (TabO ho ha.length hc ro ra.length rc)).alloc (TabO bo hb.length bc so rb.length sc)) := ⟨_, Lib.hid rfl⟩
  have box : Hid (BoxedC w W ho ha.length hc ro ra.length rc bo hb.length bc so rb.length sc) := Lib.hid (by rw [HW.out]; exact boxedC _ _ _ _ _ _ _ _ _ _ _ _ _)
  have B0 := Lib.hid box.out.start
  have HK := Lib.hid HKe
  have HL := Lib.hid HLo
  have HR := Lib.hid HRo
  have F1 := Lib.hid (fun V (h : Below w.heap.size w V) => few14_any hA hB hC hD V h)
  have T1 := Lib.hid (fun V h (k : Below w.heap.size w V) => tabR_of hA hB hC hD h k)
  have N1 := Lib.hid (fun V h (k : Below w.heap.size w V) => namesIn_of hN h k)
  have P1 := Lib.hid (fun V h (k : Below w.heap.size w V) => pairsIn_of hL h k)
  have HPw := Lib.hid (fun V (k : Below w.heap.size w V) => hpow.kept k)
  have hl1 : l.length ≤ 9223372036854775807 := by have := hL.len; unfold maxLen at this; omega
  have hn1 : names.length ≤ 9223372036854775807 := by have := hN.len; unfold maxLen at this; omega
  have hn3 : ha.length ≤ 9223372036854775807 := by have := hA.len; unfold maxLen at this; omega
  have hn4 : hb.length ≤ 9223372036854775807 := by have := hC.len; unfold maxLen at this; omega
  clear hA hB hC hD hL hN hpow HKe HLo HRo
  go_enter Tryz.func4, Tryz.ntmps4
  go_upto_region 1 with fail
  rw [show (w.alloc (TabO ho ha.length hc ro ra.length rc)).alloc (TabO bo hb.length bc so rb.length sc) = W from HW.out.symm]
  go_wp2_with fail
  refine (rwworks_any HK.out HL.out HR.out _ (HPw.out W B0.out)).mono ?_; rintro e w1 ⟨rfl, b1⟩
  have B1 := Lib.hid b1
  have C1 := Lib.hid (F1.out w1 (below_up B0.out b1))
  obtain ⟨⟨k0, k1⟩, k2, k3⟩ := box.out.cell w1 b1
  clear b1 F1
  go_wp2_with fail
  refine C1.out.mono ?_; rintro e w2 ⟨b, rfl, hf, b2⟩
  have B2 := Lib.hid (below_up B1.out b2)
  have T1' := Lib.hid (fun h V (k : Below w.heap.size w V) => T1.out V (hf h) k)
  clear b2 k0 k1 k2 k3 C1 B1 T1 hf
  obtain ⟨⟨k0, k1⟩, k2, k3⟩ := box.out.cell w2 B2.out
  cases b with
  | false =>
    clear T1' N1 P1
    go_wp2_with fail
    go_ret
    exact ⟨rfl, below_up B0.out B2.out⟩
  | true =>
    have T1 := Lib.hid (T1'.out rfl)
    clear T1'
    by_cases hl : l.length ≤ 20
    · by_cases hn : names.length ≤ 8
      · have HT : Hid (∀ V, Below W.heap.size W V → TabR V ho hc ha ro rc ra ∧ TabR V bo bc hb so sc rb) := Lib.hid (fun V h => T1.out V (below_up B0.out h))
        have HN : Hid (∀ V, Below W.heap.size W V → NamesIn V no nc names) := Lib.hid (fun V h => N1.out V hn (below_up B0.out h))
        have HP : Hid (∀ V, Below W.heap.size W V → PairsIn V lo lc l) := Lib.hid (fun V h => P1.out V hl (below_up B0.out h))
        have HPo : Hid (∀ V, Below W.heap.size W V → Pow V) := Lib.hid (fun V h => HPw.out V (below_up B0.out h))
        have e1 : decide ((20 : Int) < (l.length : Int)) = false := decide_eq_false (by omega)
        have e2 : decide ((8 : Int) < (names.length : Int)) = false := decide_eq_false (by omega)
        have hU := fun h => use_of (ha := ha) (ra := ra) (hb := hb) (rb := rb) (names := names) h
        clear T1 N1 P1 HPw
        have hk := byKeyU_len hU
        have hlk := byLookU_len ha ra hb rb l
        have hr25 := (HT.out w2 B2.out).1.r25
        have D1 := Lib.hid (fun V (h : Below W.heap.size W V) => HK.out ho hc ha ro rc ra bo bc hb so sc rb no nc names V (HT.out V h).1 (HT.out V h).2 (HN.out V h) (HPo.out V h))
        have D2 := Lib.hid (fun V (h : Below W.heap.size W V) => rbykey_in ho hc ha ro rc ra bo bc hb so sc rb no nc names V (HT.out V h).1 (HT.out V h).2 (HN.out V h))
        have D3 := Lib.hid (fun V (h : Below W.heap.size W V) => HL.out ho hc ha ro rc ra bo bc hb so sc rb lo lc l V (HT.out V h).1 (HT.out V h).2 (HP.out V h) (HPo.out V h))
        have D4 := Lib.hid (fun V (h : Below W.heap.size W V) => rbylook_in ho hc ha ro rc ra bo bc hb so sc rb lo lc l V (HT.out V h).1 (HT.out V h).2 (HP.out V h))
        have D5 := Lib.hid (fun ao bo ca cb V h1 h2 => psameR_any ao bo ca cb (byKeyU (useAB ha ra hb rb names) ha ra hb rb names) (byKeyU (useAB ha ra hb rb names) ha ra hb rb names) V (by omega) h1 h2)
        have D6 := Lib.hid (fun ao bo ca cb V h1 h2 => psameR_any ao bo ca cb (byLookU ha ra hb rb l) (byLookU ha ra hb rb l) V (by omega) h1 h2)
        rw [same_pairs] at D5 D6
        clear HT HN HP HPo hU hk hlk hr25 HK HL HR
        generalize byKeyU (useAB ha ra hb rb names) ha ra hb rb names = L at D1 D2 D5
        generalize byLookU ha ra hb rb l = M at D3 D4 D6
        have BD1 := Lib.hid (B2.out.drew)
        go_upto_region 6 with fail
        go_region_held3 (fun V => V.cell? ⟨w.heap.size, 0, none⟩ = some (.slice ho ha.length hc) ∧ V.cell? ⟨w.heap.size, 1, none⟩ = some (.slice ro ra.length rc) ∧ V.cell? ⟨w.heap.size + 1, 0, none⟩ = some (.slice bo hb.length bc) ∧ V.cell? ⟨w.heap.size + 1, 1, none⟩ = some (.slice so rb.length sc)) ((refine ⟨?_, ?_, ?_, ?_⟩ <;> first | assumption | go_keep))
          (first
            | (go_at_call 14; (with_reducible refine (D1.out _ BD1.out).mono ?_); rintro e w3 ⟨ao3, ca3, rfl, p3, -, -, b3⟩; have B3 := Lib.hid (below_up BD1.out b3); have P3 := Lib.hid p3; obtain ⟨⟨k0, k1⟩, k2, k3⟩ := box.out.cell _ B3.out; clear b3 p3 D1)
            | (go_at_call 15; (with_reducible refine (D2.out _ B3.out).mono ?_); rintro e w4 ⟨ao4, ca4, rfl, p4, -, -, b4⟩; have B4 := Lib.hid (below_up B3.out b4); have D5 := Lib.hid (D5.out ao3 ao4 ca3 ca4 w4 (P3.out.kept b4) p4); obtain ⟨⟨k0, k1⟩, k2, k3⟩ := box.out.cell _ B4.out; clear b4 p4 D2)
            | (go_at_call 13; (with_reducible refine D5.out.mono ?_); rintro e w5 ⟨rfl, b5⟩; have B5 := Lib.hid (below_up B4.out b5); obtain ⟨⟨k0, k1⟩, k2, k3⟩ := box.out.cell _ B5.out; clear b5 D5))
        have BD3 := Lib.hid (B5.out.drew)
        go_upto_region 7 with fail
        go_region_held3 (fun V => V.cell? ⟨w.heap.size, 0, none⟩ = some (.slice ho ha.length hc) ∧ V.cell? ⟨w.heap.size, 1, none⟩ = some (.slice ro ra.length rc) ∧ V.cell? ⟨w.heap.size + 1, 0, none⟩ = some (.slice bo hb.length bc) ∧ V.cell? ⟨w.heap.size + 1, 1, none⟩ = some (.slice so rb.length sc)) ((refine ⟨?_, ?_, ?_, ?_⟩ <;> first | assumption | go_keep))
          (first
            | (go_at_call 16; (with_reducible refine (D3.out _ BD3.out).mono ?_); rintro e w6 ⟨ao6, ca6, rfl, p6, -, -, b6⟩; have B6 := Lib.hid (below_up BD3.out b6); have P6 := Lib.hid p6; obtain ⟨⟨k0, k1⟩, k2, k3⟩ := box.out.cell _ B6.out; clear b6 p6 D3)
            | (go_at_call 17; (with_reducible refine (D4.out _ B6.out).mono ?_); rintro e w7 ⟨ao7, ca7, rfl, p7, -, -, b7⟩; have B7 := Lib.hid (below_up B6.out b7); have D6 := Lib.hid (D6.out ao6 ao7 ca6 ca7 w7 (P6.out.kept b7) p7); obtain ⟨⟨k0, k1⟩, k2, k3⟩ := box.out.cell _ B7.out; clear b7 p7 D4)
            | (go_at_call 13; (with_reducible refine D6.out.mono ?_); rintro e w8 ⟨rfl, b8⟩; have B8 := Lib.hid (below_up B7.out b8); obtain ⟨⟨k0, k1⟩, k2, k3⟩ := box.out.cell _ B8.out; clear b8 D6))
        go_wp2_with fail
        go_ret
        exact ⟨by simp, below_up B0.out B8.out⟩
      · have e1 : decide ((20 : Int) < (l.length : Int)) = false := decide_eq_false (by omega)
        have e2 : decide ((8 : Int) < (names.length : Int)) = true := decide_eq_true (by omega)
        clear N1 P1 T1
        go_wp2_with fail
        go_ret
        exact ⟨rfl, below_up B0.out B2.out⟩
    · have e1 : decide ((20 : Int) < (l.length : Int)) = true := decide_eq_true (by omega)
      clear N1 P1 T1
      go_wp2_with fail
      go_ret
      exact ⟨rfl, below_up B0.out B2.out⟩
end Go.Proofs.YtdenehnneloegaaGreatDoor
