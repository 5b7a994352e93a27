/-
  The walk of the statement RowsOnce.
  Conditions: what the code answers.
-/
import Derived.WalkKit
import Derived.WalkMore
import Derived.IntWalk
import Derived.Lib.Hide
import Derived.Deep.RegionHeld3
import Derived.Test.YtdenehnneloegaaGreatDoorProg
import Derived.Test.YtdenehnneloegaaGreatDoorPb39
namespace Go.Proofs.YtdenehnneloegaaGreatDoor
open Go.RowKit Go.Shelf
set_option linter.unusedVariables false
set_option maxRecDepth 100000 in
set_option maxHeartbeats 4000000 in
theorem walkRowsOnce_of (HKe : ByKeyOK) (HLo : ByLookOK) (HRo : RowsOK) (ho : Option Addr) (hc : Nat) (ha : List ByteArray) (ro : Option Addr) (rc : Nat) (ra : List (List ByteArray)) (bo : Option Addr) (bc : Nat) (hb : List ByteArray) (so : Option Addr) (sc : Nat) (rb : List (List ByteArray)) (lo : Option Addr) (lc : Nat) (l : PL) (no : Option Addr) (nc : Nat) (names : List ByteArray) (w : World)
    (hA : StrArg w ho hc ha) (hB : RowsArg w ro rc ra) (hC : StrArg w bo bc hb) (hD : RowsArg w so sc rb) (hL : PairsArg w lo lc l) (hN : StrArg w no nc names) (hpow : Pow w) :
    Calls Tryz.prog 5 #[.agg #[.slice ho ha.length hc, .slice ro ra.length rc], .agg #[.slice bo hb.length bc, .slice so rb.length sc], .slice lo l.length lc, .slice no names.length nc] w fun e w' => e = .returned (.bool true) ∧ Below w.heap.size w w' := by
  obtain ⟨W, HW⟩ : ∃ W, Hid (W = (w.alloc (TabO ho ha.length hc ro ra.length rc)).alloc (TabO bo hb.length bc so rb.length sc)) := ⟨_, Lib.hid rfl⟩
  have box : Hid (BoxedC w W ho ha.length hc ro ra.length rc bo hb.length bc so rb.length sc) := Lib.hid (by rw [HW.out]; exact boxedC _ _ _ _ _ _ _ _ _ _ _ _ _)
  have B0 := Lib.hid box.out.start
  have HK := Lib.hid HKe
  have HL := Lib.hid HLo
  have HR := Lib.hid HRo
  have F1 := Lib.hid (fun V (h : Below w.heap.size w V) => few14_any hA hB hC hD V h)
  have T1 := Lib.hid (fun V h (k : Below w.heap.size w V) => tabR_of hA hB hC hD h k)
  have N1 := Lib.hid (fun V h (k : Below w.heap.size w V) => namesIn_of hN h k)
  have P1 := Lib.hid (fun V h (k : Below w.heap.size w V) => pairsIn_of hL h k)
  have HPw := Lib.hid (fun V (k : Below w.heap.size w V) => hpow.kept k)
  have hl1 : l.length ≤ 9223372036854775807 := by have := hL.len; unfold maxLen at this; omega
  have hn1 : names.length ≤ 9223372036854775807 := by have := hN.len; unfold maxLen at this; omega
  have hn3 : ha.length ≤ 9223372036854775807 := by have := hA.len; unfold maxLen at this; omega
  have hn4 : hb.length ≤ 9223372036854775807 := by have := hC.len; unfold maxLen at this; omega
  clear hA hB hC hD hL hN hpow HKe HLo HRo
  go_enter Tryz.func5, Tryz.ntmps5
  go_upto_region 1 with fail
  rw [show (w.alloc (TabO ho ha.length hc ro ra.length rc)).alloc (TabO bo hb.length bc so rb.length sc) = W from HW.out.symm]
  go_wp2_with fail
  refine (rwworks_any HK.out HL.out HR.out _ (HPw.out W B0.out)).mono ?_; rintro e w1 ⟨rfl, b1⟩
  have B1 := Lib.hid b1
  have C1 := Lib.hid (F1.out w1 (below_up B0.out b1))
  obtain ⟨⟨k0, k1⟩, k2, k3⟩ := box.out.cell w1 b1
  clear b1 F1
  go_wp2_with fail
  refine C1.out.mono ?_; rintro e w2 ⟨b, rfl, hf, b2⟩
  have B2 := Lib.hid (below_up B1.out b2)
  have T1' := Lib.hid (fun h V (k : Below w.heap.size w V) => T1.out V (hf h) k)
  clear b2 k0 k1 k2 k3 C1 B1 T1 hf
  obtain ⟨⟨k0, k1⟩, k2, k3⟩ := box.out.cell w2 B2.out
  cases b with
  | false =>
    clear T1' N1 P1
    go_wp2_with fail
    go_ret
    exact ⟨rfl, below_up B0.out B2.out⟩
  | true =>
    have T1 := Lib.hid (T1'.out rfl)
    clear T1'
    by_cases hl : l.length ≤ 20
    · by_cases hn : names.length ≤ 8
      · have HT : Hid (∀ V, Below W.heap.size W V → TabR V ho hc ha ro rc ra ∧ TabR V bo bc hb so sc rb) := Lib.hid (fun V h => T1.out V (below_up B0.out h))
        have HN : Hid (∀ V, Below W.heap.size W V → NamesIn V no nc names) := Lib.hid (fun V h => N1.out V hn (below_up B0.out h))
        have HP : Hid (∀ V, Below W.heap.size W V → PairsIn V lo lc l) := Lib.hid (fun V h => P1.out V hl (below_up B0.out h))
        have HPo : Hid (∀ V, Below W.heap.size W V → Pow V) := Lib.hid (fun V h => HPw.out V (below_up B0.out h))
        have e1 : decide ((20 : Int) < (l.length : Int)) = false := decide_eq_false (by omega)
        have e2 : decide ((8 : Int) < (names.length : Int)) = false := decide_eq_false (by omega)
        have hU := fun h => use_of (ha := ha) (ra := ra) (hb := hb) (rb := rb) (names := names) h
        clear T1 N1 P1 HPw
        have hg := fun h1 h2 => rows_good (cols := l) hU h1 h2
        have hlen := rowsL_len (cols := l) hU
        have hr25 := (HT.out w2 B2.out).1.r25
        have hr26 := (HT.out w2 B2.out).2.r25
        obtain ⟨hg1, hg2⟩ := hg (by omega) (by omega)
        have HLn : Hid ((rowsL (useAB ha ra hb rb names) ha ra hb rb l names).length ≤ 25) := Lib.hid (by omega)
        have HBad := Lib.hid (fun h => rows_bad (u := useAB ha ra hb rb names) (ha := ha) (ra := ra) (hb := hb) (rb := rb) (cols := l) (names := names) h)
        have D1 := Lib.hid (HR.out ho hc ha ro rc ra bo bc hb so sc rb lo lc l no nc names w2 (HT.out w2 B2.out).1 (HT.out w2 B2.out).2 (HP.out w2 B2.out) (HN.out w2 B2.out) (HPo.out w2 B2.out))
        have D5 := Lib.hid (fun ao ca V h1 => pcheck_any ao ca (rowsL (useAB ha ra hb rb names) ha ra hb rb l names) (ra.length : Int) (rb.length : Int) V (by omega) hg1 h1)
        rw [hg2] at D5
        clear HT HN HP HPo hU hlen HK HL HR hg hg1 hg2
        generalize rowsL (useAB ha ra hb rb names) ha ra hb rb l names = L at D1 D5 HBad HLn
        generalize rowsE ha ra hb rb l = E at D1 HBad
        go_wp2_with fail
        refine D1.out.mono ?_; rintro e w4 ⟨xo, xc, rfl, p4, -, -, b4⟩
        have B4 := Lib.hid (below_up B2.out b4)
        have D5 := Lib.hid (D5.out xo xc w4 p4)
        clear k0 k1 k2 k3 b4 p4 D1 B2
        obtain ⟨⟨k0, k1⟩, k2, k3⟩ := box.out.cell w4 B4.out
        by_cases h0 : E = 0
        · subst h0
          clear HBad
          go_wp2_with fail
          refine D5.out.mono ?_; rintro e w6 ⟨rfl, b6⟩
          have B6 := Lib.hid (below_up B4.out b6)
          clear b6 D5
          go_wp2_with fail
          go_ret
          exact ⟨rfl, below_up B0.out B6.out⟩
        · obtain rfl := HBad.out h0
          clear HBad D5
          go_wp2_with fail
          go_ret
          exact ⟨rfl, below_up B0.out B4.out⟩
      · have e1 : decide ((20 : Int) < (l.length : Int)) = false := decide_eq_false (by omega)
        have e2 : decide ((8 : Int) < (names.length : Int)) = true := decide_eq_true (by omega)
        clear N1 P1 T1
        go_wp2_with fail
        go_ret
        exact ⟨rfl, below_up B0.out B2.out⟩
    · have e1 : decide ((20 : Int) < (l.length : Int)) = true := decide_eq_true (by omega)
      clear N1 P1 T1
      go_wp2_with fail
      go_ret
      exact ⟨rfl, below_up B0.out B2.out⟩
end Go.Proofs.YtdenehnneloegaaGreatDoor
