/-
  The walk of the statement ColsAlign.
  Conditions: what the code answers.
-/
import Derived.WalkKit
import Derived.WalkMore
import Derived.IntWalk
import Derived.Lib.Hide
import Derived.Deep.RegionHeld3
import Derived.Test.YtigijgcldgbokaaGreatProg
import Derived.Test.YtigijgcldgbokaaGreatCFew
namespace Go.Proofs.YtigijgcldgbokaaGreat
open Go.RowKit Go.Shelf
set_option linter.unusedVariables false

set_option maxRecDepth 100000 in
set_option maxHeartbeats 4000000 in
theorem walkColsAlign_of (HNa : NamedOK) (HAl : AlignOK) (ho : Option Addr) (hc : Nat) (ha : List ByteArray) (ro : Option Addr) (rc : Nat) (ra : List (List ByteArray)) (bo : Option Addr) (bc : Nat) (hb : List ByteArray) (so : Option Addr) (sc : Nat) (rb : List (List ByteArray)) (rename : Bool) (w : World)
    (hA : StrArg w ho hc ha) (hB : RowsArg w ro rc ra) (hC : StrArg w bo bc hb) (hD : RowsArg w so sc rb) :
    Calls Tryz.prog 3 #[.agg #[.slice ho ha.length hc, .slice ro ra.length rc], .agg #[.slice bo hb.length bc, .slice so rb.length sc], .bool rename] w fun e w' => e = .returned (.bool true) ∧ Below w.heap.size w w' := by
  obtain ⟨W, HW⟩ : ∃ W, Hid (W = (w.alloc (TabO ho ha.length hc ro ra.length rc)).alloc (TabO bo hb.length bc so rb.length sc)) := ⟨_, Lib.hid rfl⟩
  have box : Hid (BoxedC w W ho ha.length hc ro ra.length rc bo hb.length bc so rb.length sc) := Lib.hid (by rw [HW.out]; exact boxedC _ _ _ _ _ _ _ _ _ _ _ _ _)
  have B0 := Lib.hid box.out.start
  have HN := Lib.hid HNa
  have HA := Lib.hid HAl
  have F1 := Lib.hid (fun V (h : Below w.heap.size w V) => few_in hA hB h)
  have F2 := Lib.hid (fun V (h : Below w.heap.size w V) => few_in hC hD h)
  have T1 := Lib.hid (fun V h (k : Below w.heap.size w V) => tabIn_of hA hB h k)
  have T2 := Lib.hid (fun V h (k : Below w.heap.size w V) => tabIn_of hC hD h k)
  clear hA hB hC hD HNa HAl
  go_enter Tryz.func3, Tryz.ntmps3
  go_upto_region 1 with fail
  rw [show (w.alloc (TabO ho ha.length hc ro ra.length rc)).alloc (TabO bo hb.length bc so rb.length sc) = W from HW.out.symm]
  go_wp2_with fail
  refine (cworks_any HN.out HA.out _).mono ?_; rintro e w1 ⟨rfl, b1⟩
  have B1 := Lib.hid b1
  have C1 := Lib.hid (F1.out w1 (below_up B0.out b1))
  obtain ⟨⟨k0, k1⟩, k2, k3⟩ := box.out.cell w1 b1
  clear b1 F1
  go_wp2_with fail
  refine C1.out.mono ?_; rintro e w2 ⟨b, rfl, hf, b2⟩
  have B2 := Lib.hid (below_up B1.out b2)
  have T1' := Lib.hid (fun h V (k : Below w.heap.size w V) => T1.out V (hf h) k)
  clear b2 k0 k1 k2 k3 C1 B1 T1 hf
  obtain ⟨⟨k0, k1⟩, k2, k3⟩ := box.out.cell w2 B2.out
  cases b with
  | false =>
    clear F2 T2 T1'
    go_wp2_with fail
    go_ret
    exact ⟨rfl, below_up B0.out B2.out⟩
  | true =>
    have T1 := Lib.hid (T1'.out rfl)
    have C2 := Lib.hid (F2.out w2 (below_up B0.out B2.out))
    clear T1' F2
    go_wp2_with fail
    refine C2.out.mono ?_; rintro e w3 ⟨b, rfl, hf, b3⟩
    have B3 := Lib.hid (below_up B2.out b3)
    have T2' := Lib.hid (fun h V (k : Below w.heap.size w V) => T2.out V (hf h) k)
    clear b3 k0 k1 k2 k3 C2 B2 T2 hf
    obtain ⟨⟨k0, k1⟩, k2, k3⟩ := box.out.cell w3 B3.out
    cases b with
    | false =>
      clear T2'
      go_wp2_with fail
      go_ret
      exact ⟨rfl, below_up B0.out B3.out⟩
    | true =>
      have T2 := Lib.hid (T2'.out rfl)
      have HT : Hid (∀ V, Below W.heap.size W V → TabIn V ho hc ha ro rc ra ∧ TabIn V bo bc hb so sc rb) := Lib.hid (fun V h => ⟨T1.out V (below_up B0.out h), T2.out V (below_up B0.out h)⟩)
      have D1 := Lib.hid (HA.out ho hc ha ro rc ra bo bc hb so sc rb rename w3 (HT.out w3 B3.out).1 (HT.out w3 B3.out).2)
      have D2 := Lib.hid (fun V (h : Below W.heap.size W V) => ralign_in ho hc ha ro rc ra bo bc hb so sc rb rename V (HT.out V h).1 (HT.out V h).2)
      have D3 := Lib.hid (fun V (h : Below W.heap.size W V) => HN.out ho hc ha ro rc ra bo bc hb so sc rb V (HT.out V h).1 (HT.out V h).2)
      have D4 := Lib.hid (fun V (h : Below W.heap.size W V) => rnamed_in ho hc ha ro rc ra bo bc hb so sc rb V (HT.out V h).1 (HT.out V h).2)
      have hl := alignR_le ha ra hb rb rename (HT.out w3 B3.out).1.hl (HT.out w3 B3.out).2.hl
      have hl2 := named_le ha hb hb.length
      have hl3 : (namedL ha hb).length ≤ 60 := Nat.le_trans hl2 (HT.out w3 B3.out).2.hl
      have D5 := Lib.hid (fun ao bo ca cb V h1 h2 => psameR_any ao bo ca cb (alignR ha ra hb rb rename) (alignR ha ra hb rb rename) V (by omega) h1 h2)
      have D6 := Lib.hid (fun ao bo ca cb V h1 h2 => psameR_any ao bo ca cb (namedL ha hb) (namedL ha hb) V (by omega) h1 h2)
      rw [same_pairs] at D5 D6
      clear T2' T1 T2 HT hl hl2 hl3
      generalize alignR ha ra hb rb rename = L at D1 D2 D5
      generalize alignE ha ra hb rb = E at D1 D2
      generalize namedL ha hb = M at D3 D4 D6
      go_wp2_with fail
      refine D1.out.mono ?_; rintro e w4 ⟨lo, lc, rfl, p4, -, -, b4⟩
      have B4 := Lib.hid (below_up B3.out b4)
      have P4 := Lib.hid p4
      have D2 := Lib.hid (D2.out w4 B4.out)
      clear k0 k1 k2 k3 b4 p4 D1 B3
      obtain ⟨⟨k0, k1⟩, k2, k3⟩ := box.out.cell w4 B4.out
      go_wp2_with fail
      refine D2.out.mono ?_; rintro e w5 ⟨mo, mc, rfl, p5, -, -, b5⟩
      have B5 := Lib.hid (below_up B4.out b5)
      have P4 := Lib.hid (P4.out.kept b5)
      have P5 := Lib.hid p5
      clear k0 k1 k2 k3 b5 p5 D2 B4
      obtain ⟨⟨k0, k1⟩, k2, k3⟩ := box.out.cell w5 B5.out
      have BD := Lib.hid (B5.out.drew)
      have D5 := Lib.hid (D5.out lo mo lc mc w5.drew (P4.out.kept (bdn (n := 1) (Below.refl _ _))) (P5.out.kept (bdn (n := 1) (Below.refl _ _))))
      go_upto_region 9 with fail
      go_region_held3 (fun V => V.cell? ⟨w.heap.size, 0, none⟩ = some (.slice ho ha.length hc) ∧ V.cell? ⟨w.heap.size, 1, none⟩ = some (.slice ro ra.length rc) ∧ V.cell? ⟨w.heap.size + 1, 0, none⟩ = some (.slice bo hb.length bc) ∧ V.cell? ⟨w.heap.size + 1, 1, none⟩ = some (.slice so rb.length sc)) ((refine ⟨?_, ?_, ?_, ?_⟩ <;> first | assumption | go_keep))
        (first
          | (go_at_call 12; refine D5.out.mono ?_; rintro e w6 ⟨rfl, b6⟩; have B6 := Lib.hid (below_up BD.out b6); obtain ⟨⟨k0, k1⟩, k2, k3⟩ := box.out.cell _ B6.out; clear b6 D5)
          | (go_at_call 13; refine (D3.out _ B6.out).mono ?_; rintro e w7 ⟨no, nc, rfl, p7, -, -, b7⟩; have B7 := Lib.hid (below_up B6.out b7); have P7 := Lib.hid p7; obtain ⟨⟨k0, k1⟩, k2, k3⟩ := box.out.cell _ B7.out; clear b7 p7 D3)
          | (go_at_call 14; refine (D4.out _ B7.out).mono ?_; rintro e w8 ⟨oo, oc, rfl, p8, -, -, -, b8⟩; have B8 := Lib.hid (below_up B7.out b8); have D6 := Lib.hid (D6.out no oo nc oc w8 (P7.out.kept b8) p8); obtain ⟨⟨k0, k1⟩, k2, k3⟩ := box.out.cell _ B8.out; clear b8 p8 D4)
          | (go_at_call 12; refine D6.out.mono ?_; rintro e w9 ⟨rfl, b9⟩; have B9 := Lib.hid (below_up B8.out b9); obtain ⟨⟨k0, k1⟩, k2, k3⟩ := box.out.cell _ B9.out; clear b9 D6))
      go_wp2_with fail
      go_ret
      exact ⟨by simp, below_up B0.out B9.out⟩
end Go.Proofs.YtigijgcldgbokaaGreat
