/-
  The first row of a key: what the program answers.
  Conditions: at most 2^30 rows, each of at most 2^40 cells of at most 2^48 bytes; at most 2^30 columns; keys of at most 2^30 cells; orders of at most 2^30 numbers.
-/
import Derived.WalkKit
import Derived.WalkMore
import Derived.IntWalk
import Derived.WalkArith
import Derived.Lib.Hide
import Derived.StillTailTactics
import Derived.BigQuiet
import Derived.Deep.QuietTactic
import Derived.Deep.Cut
import Derived.Test.YtmomjhnbhckhpaaDoorProg
import Derived.Test.YtmomjhnbhckhpaaDoorIFind
namespace Go.Proofs.YtmomjhnbhckhpaaDoor
open Go.RowKit Go.Shelf
set_option linter.unusedVariables false

/-- what halving finds in an order -/
def FoundAt (C : Int → Int) (os : List Int) (a : Int) (ok : Bool) : Prop := ∃ p : Nat, p ≤ os.length ∧ (p = 0 ∨ ∃ x, os[p - 1]? = some x ∧ C x < 0) ∧ (p = os.length ∨ ∃ x, os[p]? = some x ∧ 0 ≤ C x) ∧
  ((∃ x, os[p]? = some x ∧ C x = 0 ∧ a = x ∧ ok = true) ∨ ((p = os.length ∨ ∃ x, os[p]? = some x ∧ C x ≠ 0) ∧ a = 0 ∧ ok = false))

set_option maxRecDepth 100000 in
set_option maxHeartbeats 1000000 in
theorem find_any (ho : Option Addr) (m hc : Nat) (ro : Option Addr) (rc : Nat) (rs : List (List ByteArray)) (co : Option Addr) (cc : Nat) (cols : List Int) (oo : Option Addr) (oc : Nat) (os : List Int) (so : Option Addr) (sc : Nat) (key : List ByteArray) (w : World) (hcl : cols.length ≤ 1073741824) (hkl : key.length ≤ 1073741824) (hol : os.length ≤ 1073741824) (hn2 : rs.length ≤ 1099511627776) (hx : ∀ r ∈ rs, r.length ≤ 1099511627776 ∧ ∀ c ∈ r, c.size ≤ 281474976710656) (hR : RowsAt w ro rs) (hI : IntsAt w co cols) (hO : IntsAt w oo os) (hS : StrRow w so key) :
    Calls Tryd.prog 8 #[.agg #[.slice ho m hc, .slice ro rs.length rc], .slice co cols.length cc, .slice oo os.length oc, .slice so key.length sc] w fun e w' => ∃ a ok, e = .returned (.tuple #[.int .i64 a, .bool ok]) ∧ FoundAt (fun x => keyC (rowKey rs cols x) key) os a ok ∧ Below w.heap.size w w' := by
  have HB0 := Lib.hid (one_below w (TabO ho m hc ro rs.length rc))
  have HNew := Lib.hid (World.alloc_heap_new w (TabO ho m hc ro rs.length rc))
  have CC := Lib.hid (fun W (x : Int) (h : Below w.heap.size w W) => stands_any ho m hc ro rc rs x co cc cols so sc key W hcl hkl hn2 hx (hR.kept h) (hI.kept h) (hS.kept h))
  have HO0 := Lib.hid (hO.kept HB0.out)
  obtain ⟨C, hC⟩ : ∃ C : Int → Int, C = fun x => keyC (rowKey rs cols x) key := ⟨_, rfl⟩
  rw [← hC]
  have HC : Hid (∀ x, keyC (rowKey rs cols x) key = C x) := Lib.hid (fun x => by rw [hC])
  have CS := Lib.hid (fun W (x : Int) (h : Below w.heap.size w W) => by have := CC.out W x h; rw [HC.out x] at this; exact this)
  obtain ⟨W, HW⟩ : ∃ W, Hid (W = w.alloc (TabO ho m hc ro rs.length rc)) := ⟨_, Lib.hid rfl⟩
  rw [← HW.out] at HB0 HNew HO0
  clear hR hI hO hS hx CC hC HC
  go_enter Tryd.func8, Tryd.ntmps8
  go_upto_region 1 with fail
  rw [show w.alloc (TabO ho m hc ro rs.length rc) = W from HW.out.symm]
  go_wp2_with fail
  go_step3
  go_wp2_with fail
  go_step3
  go_wp2_with fail
  go_loopw [10, 11] (fun u v wr => ∃ (i j : Nat), i ≤ j ∧ j ≤ os.length ∧ u = .int .i64 i ∧ v = .int .i64 j ∧ Hid (Below W.heap.size W wr) ∧ Hid (i = 0 ∨ ∃ x, os[i - 1]? = some x ∧ C x < 0) ∧ Hid (j = os.length ∨ ∃ x, os[j]? = some x ∧ 0 ≤ C x)) (fun u v _ => (intOf v).toNat - (intOf u).toNat)
  case atStart => exact ⟨0, os.length, Nat.zero_le _, Nat.le_refl _, rfl, rfl, Lib.hid (Below.refl _ _), Lib.hid (.inl rfl), Lib.hid (.inl rfl)⟩
  case round =>
    obtain ⟨i, j, hij, hjn, rfl, rfl, HB, HI, HJ⟩ := hrel
    obtain ⟨d, hd⟩ : ∃ d, d = j - i := ⟨_, rfl⟩
    obtain ⟨q, hq⟩ : ∃ q, q = d / 2 := ⟨_, rfl⟩
    obtain ⟨h, hh⟩ : ∃ h, h = i + q := ⟨_, rfl⟩
    have e1 : (j : Int) - (i : Int) = (d : Int) := by omega
    have w1 : IntKind.i64.wrap ((j : Int) - (i : Int)) = (d : Int) := by rw [IntWalk.i64_in _ (by omega)]; exact e1
    have e2 : (d : Int) / 2 = (q : Int) := by omega
    have w2 : IntKind.i64.wrap ((d : Int).tdiv 2) = (q : Int) := by rw [IntWalk.i64_quo _ _ ⟨by omega, by omega, by omega⟩]; exact e2
    have e3 : (i : Int) + (q : Int) = (h : Int) := by omega
    have w3 : IntKind.i64.wrap ((i : Int) + (q : Int)) = (h : Int) := by rw [IntWalk.i64_in _ (by omega)]; exact e3
    by_cases hlt : i < j
    · have hne : ((i : Int) == (j : Int)) = false := by rw [beq_eq_false_iff_ne]; omega
      have h1 : i ≤ h := by omega
      have h2 : h < j := by omega
      obtain ⟨x, hxx⟩ : ∃ x, os[h]? = some x := ⟨_, List.getElem?_eq_getElem (by omega)⟩
      rcases (HO0.out.kept HB.out) with h0 | ⟨A, rfl, hA, hcell⟩
      · rw [h0] at hxx; simp at hxx
      have hcx := hcell h _ hxx
      obtain ⟨c0, c1⟩ := tabs ((HB.out.block _ (lt_of_heap HNew.out)).trans HNew.out)
      have HX := Lib.hid hxx
      have C1 := Lib.hid (CS.out wr.drew x (bdn (n := 1) (below_up HB0.out HB.out)))
      have hhn : h < os.length := by omega
      have HH := Lib.hid hh
      clear hcell hxx hh hd hq
      obtain ⟨r, hr⟩ : ∃ r, r = C x := ⟨_, rfl⟩
      rw [← hr] at C1
      have HRr := Lib.hid hr
      clear hr
      go_upto_region 5 with fail
      clear e1 w1 e2 w2 e3 w3
      go_still_tail 7, (by kernel_rfl)
      rw [show ({ heap := wr.heap, tape := wr.tape, drawn := wr.drawn + 1, os := wr.os, output := wr.output } : World) = wr.drew from rfl]
      by_cases hneg : r < 0
      · have HI2 : Hid (h + 1 = 0 ∨ ∃ x, os[h + 1 - 1]? = some x ∧ C x < 0) := Lib.hid (.inr ⟨x, by simpa using HX.out, by rw [← HRr.out]; exact hneg⟩)
        go_wp2_with fail
        refine C1.out.mono ?_; rintro e w2 ⟨rfl, b1⟩
        have B1 := Lib.hid (below_up (show Below W.heap.size W wr.drew from bdn (n := 1) HB.out) b1)
        clear b1 c0 c1 hcx
        go_wp2_with fail
        go_roundw
        case rel => exact ⟨h + 1, j, by omega, hjn, by go_num, rfl, B1, HI2, HJ⟩
        case measure => simp [intOf]; omega
      · have HJ2 : Hid (h = os.length ∨ ∃ x, os[h]? = some x ∧ 0 ≤ C x) := Lib.hid (.inr ⟨x, HX.out, by rw [← HRr.out]; omega⟩)
        go_wp2_with fail
        refine C1.out.mono ?_; rintro e w2 ⟨rfl, b1⟩
        have B1 := Lib.hid (below_up (show Below W.heap.size W wr.drew from bdn (n := 1) HB.out) b1)
        clear b1 c0 c1 hcx
        go_wp2_with fail
        go_roundw
        case rel => exact ⟨i, h, h1, by omega, rfl, by first | rfl | go_num, B1, HI, HJ2⟩
        case measure => simp [intOf]; omega
    · obtain rfl : i = j := by omega
      have heq : ((i : Int) == (i : Int)) = true := by simp
      clear hlt
      by_cases hl : i = os.length
      · have hbl : ((i : Int) == (os.length : Int)) = true := by rw [beq_iff_eq]; omega
        have HF : Hid (FoundAt C os 0 false) := Lib.hid ⟨i, hjn, HI.out, HJ.out, .inr ⟨.inl hl, rfl, rfl⟩⟩
        have HL := Lib.hid hl
        clear hl
        go_upto_region 7 with fail
        clear e1 w1 e2 w2 e3 w3
        go_quiet (fail)
        have B1 : Hid (Below W.heap.size W (wr.drewN nq)) := Lib.hid (bdn HB.out)
        go_wp2_with fail
        try rw [Exit.noGoto_ret]
        refine bodyPost_ret (v := (.tuple #[.int .i64 0, .bool false])) (by simp [results, Tryd.results8, go_sem]) rfl ?_
        exact ⟨0, false, rfl, HF.out, below_up HB0.out B1.out⟩
      · have hbl : ((i : Int) == (os.length : Int)) = false := by rw [beq_eq_false_iff_ne]; omega
        obtain ⟨x, hxx⟩ : ∃ x, os[i]? = some x := ⟨_, List.getElem?_eq_getElem (by omega)⟩
        rcases (HO0.out.kept HB.out) with h0 | ⟨A, rfl, hA, hcell⟩
        · rw [h0] at hxx; simp at hxx
        have hcx := hcell i _ hxx
        obtain ⟨c0, c1⟩ := tabs ((HB.out.block _ (lt_of_heap HNew.out)).trans HNew.out)
        have HX := Lib.hid hxx
        have C1 := Lib.hid (CS.out wr.drew x (bdn (n := 1) (below_up HB0.out HB.out)))
        have hin : i < os.length := by omega
        have hHB := HB.out
        clear hcell hxx hl
        obtain ⟨r, hr⟩ : ∃ r, r = C x := ⟨_, rfl⟩
        rw [← hr] at C1
        have HRr := Lib.hid hr
        clear hr
        go_upto_region 7 with fail
        clear e1 w1 e2 w2 e3 w3
        go_still_tail 12, (by kernel_rfl)
        rw [show ({ heap := wr.heap, tape := wr.tape, drawn := wr.drawn + 1, os := wr.os, output := wr.output } : World) = wr.drew from rfl]
        by_cases hz : r = 0
        · have hbz : (r != 0) = false := by rw [hz]; rfl
          have HF : Hid (FoundAt C os x true) := Lib.hid ⟨i, hjn, HI.out, HJ.out, .inl ⟨x, HX.out, by rw [← HRr.out]; exact hz, rfl, rfl⟩⟩
          clear hz
          go_wp2_with fail
          refine C1.out.mono ?_; rintro e w2 ⟨rfl, b1⟩
          have B1 := Lib.hid (below_up (show Below W.heap.size W wr.drew from bdn (n := 1) HB.out) b1)
          have hcx2 : w2.cell? (A.add i) = some (.int .i64 x) := (b1.cell (p := A.add i) (by rw [add_block]; exact hA)).trans hcx
          clear b1 c0 c1 hcx
          go_wp2_with fail
          try rw [Exit.noGoto_ret]
          refine bodyPost_ret (v := (.tuple #[.int .i64 x, .bool true])) (by simp [results, Tryd.results8, go_sem]) rfl ?_
          exact ⟨x, true, rfl, HF.out, below_up HB0.out B1.out⟩
        · have hbz : (r != 0) = true := by simpa using hz
          have HF : Hid (FoundAt C os 0 false) := Lib.hid ⟨i, hjn, HI.out, HJ.out, .inr ⟨.inr ⟨x, HX.out, by rw [← HRr.out]; exact hz⟩, rfl, rfl⟩⟩
          clear hz
          go_wp2_with fail
          refine C1.out.mono ?_; rintro e w2 ⟨rfl, b1⟩
          have B1 := Lib.hid (below_up (show Below W.heap.size W wr.drew from bdn (n := 1) HB.out) b1)
          clear b1 c0 c1 hcx
          go_wp2_with fail
          try rw [Exit.noGoto_ret]
          refine bodyPost_ret (v := (.tuple #[.int .i64 0, .bool false])) (by simp [results, Tryd.results8, go_sem]) rfl ?_
          exact ⟨0, false, rfl, HF.out, below_up HB0.out B1.out⟩
end Go.Proofs.YtmomjhnbhckhpaaDoor
