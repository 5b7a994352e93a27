/-
  The examples of the document that the statements ask for first are so.
  Conditions: none.
-/
import Derived.WalkKit
import Derived.WalkMore
import Derived.Lib.Hide
import Derived.Test.YtgbmpcfnbdbpgaaProg
import Derived.Test.YtgbmpcfnbdbpgaaTRec
namespace Go.Proofs.Ytgbmpcfnbdbpgaa
open Go.RowKit Go.Shelf
set_option linter.unusedVariables false

abbrev bA : ByteArray := ⟨#[97]⟩
abbrev bB : ByteArray := ⟨#[98]⟩
abbrev bC : ByteArray := ⟨#[99]⟩
abbrev bD : ByteArray := ⟨#[100]⟩
theorem ck1 : checkI [bA, bB] [[bC, bD]] = 0 := by decide
theorem ck2 : checkI [bA, bA] [] = 10 := by decide
theorem ck3 : checkI [bA, bB] [[bC]] = 9 := by decide
theorem ck0 : checkI [] [] = 8 := by decide

theorem ofex1 (g : Nat) (w : World) (hR : RowsAt w (some ⟨g, 0, none⟩) [[bA, bB], [bC, bD]]) :
    Calls Try.prog 27 #[.slice (some ⟨g, 0, none⟩) 2 2] w fun e w' => ∃ ho hc ro rc, e = .returned (.tuple #[.agg #[.slice ho 2 hc, .slice ro 1 rc], .int .i64 0]) ∧ StrRow w' ho [bA, bB] ∧ RowsAt w' ro [[bC, bD]] ∧ Below w.heap.size w w' := by
  refine (of_more ⟨g, 0, none⟩ 2 [bA, bB] [[bC, bD]] w (by decide) (by decide) (by decide) (by decide) (by decide) (by decide) (by decide) hR).mono ?_
  rintro e w' ⟨ho, hc, ro, rc, h1, h2, h3, h4⟩
  simp only [ofHead, ofRows, ofErr, ck1, if_true] at h1 h2 h3
  exact ⟨ho, hc, ro, rc, h1, h2, h3, h4⟩
theorem ofex2 (g : Nat) (w : World) (hR : RowsAt w (some ⟨g, 0, none⟩) [[bA, bA]]) :
    Calls Try.prog 27 #[.slice (some ⟨g, 0, none⟩) 1 1] w fun e w' => ∃ ho hc ro rc, e = .returned (.tuple #[.agg #[.slice ho 0 hc, .slice ro 0 rc], .int .i64 10]) ∧ Below w.heap.size w w' := by
  refine (of_one ⟨g, 0, none⟩ [bA, bA] w (by decide) (by decide) (by decide) hR).mono ?_
  rintro e w' ⟨ho, hc, ro, rc, h1, h2, h3, h4⟩
  simp only [ofHead, ofRows, ofErr, ck2] at h1
  exact ⟨ho, hc, ro, rc, h1, h4⟩
theorem ofex3 (g : Nat) (w : World) (hR : RowsAt w (some ⟨g, 0, none⟩) [[bA, bB], [bC]]) :
    Calls Try.prog 27 #[.slice (some ⟨g, 0, none⟩) 2 2] w fun e w' => ∃ ho hc ro rc, e = .returned (.tuple #[.agg #[.slice ho 0 hc, .slice ro 0 rc], .int .i64 9]) ∧ Below w.heap.size w w' := by
  refine (of_more ⟨g, 0, none⟩ 2 [bA, bB] [[bC]] w (by decide) (by decide) (by decide) (by decide) (by decide) (by decide) (by decide) hR).mono ?_
  rintro e w' ⟨ho, hc, ro, rc, h1, h2, h3, h4⟩
  simp only [ofHead, ofRows, ofErr, ck3] at h1
  exact ⟨ho, hc, ro, rc, h1, h4⟩

/-- the table of the first example -/
structure Ex (B : Nat) (ho : Option Addr) (hc : Nat) (ro : Option Addr) (rc : Nat) (W : World) : Prop where
  box : W.heap[B]? = some (TabO ho 2 hc ro 1 rc)
  head : StrRow W ho [bA, bB]
  rows : RowsAt W ro [[bC, bD]]
theorem Ex.kept {B : Nat} {ho : Option Addr} {hc : Nat} {ro : Option Addr} {rc : Nat} {W V : World} (h : Ex B ho hc ro rc W) (k : Below W.heap.size W V) : Ex B ho hc ro rc V := ⟨(k.block _ (lt_of_heap h.box)).trans h.box, h.head.kept k, h.rows.kept k⟩

set_option maxRecDepth 100000 in
set_option maxHeartbeats 8000000 in
theorem tworks_any (w : World) : Calls Try.prog 8 #[] w fun e w' => e = .returned (.bool true) ∧ Below w.heap.size w w' := by
  have L := Lib.hid (lit2 w [bA, bB] [bC, bD] 9 9 22)
  go_enter Try.func8, Try.ntmps8
  go_wp2_with fail
  refine (ofex1 _ _ L.out.1).mono ?_; rintro e u1 ⟨ho, hc, ro, rc, rfl, h1, h2, b1⟩
  have HX : Hid (Ex u1.heap.size ho hc ro rc (u1.alloc (TabO ho 2 hc ro 1 rc))) := Lib.hid ⟨World.alloc_heap_new u1 _, h1.kept (one_below _ _), h2.kept (one_below _ _)⟩
  have HB := Lib.hid (below_up (below_up L.out.2 b1) (one_below u1 (TabO ho 2 hc ro 1 rc)))
  clear h1 h2 b1 L
  have L := Lib.hid (lit1 (u1.alloc (TabO ho 2 hc ro 1 rc)) [bA, bA] 9 22)
  rw [World.size_alloc] at L
  go_wp2_with fail
  refine (ofex2 _ _ L.out.1).mono ?_; rintro e u2 ⟨ho2, hc2, ro2, rc2, rfl, b2⟩
  have HX := Lib.hid (((HX.out.kept (by rw [World.size_alloc]; exact L.out.2)).kept b2).kept (one_below u2 (TabO ho2 0 hc2 ro2 0 rc2)))
  have HB := Lib.hid (below_up (below_up (below_up HB.out (by rw [World.size_alloc]; exact L.out.2)) b2) (one_below u2 (TabO ho2 0 hc2 ro2 0 rc2)))
  clear b2 L
  have L := Lib.hid (lit2 (u2.alloc (TabO ho2 0 hc2 ro2 0 rc2)) [bA, bB] [bC] 9 9 22)
  rw [World.size_alloc] at L
  go_wp2_with fail
  refine (ofex3 _ _ L.out.1).mono ?_; rintro e u3 ⟨ho3, hc3, ro3, rc3, rfl, b3⟩
  have HX := Lib.hid (((HX.out.kept (by rw [World.size_alloc]; exact L.out.2)).kept b3).kept (one_below u3 (TabO ho3 0 hc3 ro3 0 rc3)))
  have HB := Lib.hid (below_up (below_up (below_up HB.out (by rw [World.size_alloc]; exact L.out.2)) b3) (one_below u3 (TabO ho3 0 hc3 ro3 0 rc3)))
  clear b3 L
  obtain ⟨k0, k1⟩ := tabs HX.out.box
  have lB := lt_of_heap HX.out.box
  go_wp2_with fail
  refine (records_any ho hc [bA, bB] ro rc [[bC, bD]] _ (by decide) (by decide) HX.out.head (by decide) (by decide) HX.out.rows).mono ?_; rintro e u4 ⟨g4, c4, rfl, _, _, b4⟩
  have HX := Lib.hid (HX.out.kept b4)
  have HB := Lib.hid (below_up HB.out b4)
  clear b4 k0 k1
  obtain ⟨k0, k1⟩ := tabs HX.out.box
  go_wp2_with fail
  refine (tfind_any ho hc [bA, bB] ro 1 rc bB u4 (by decide) HX.out.head).mono ?_; rintro e u5 ⟨rfl, b5⟩
  rw [show findL [bA, bB] bB = 1 from by decide]
  have HX := Lib.hid (HX.out.kept b5)
  have HB := Lib.hid (below_up HB.out b5)
  clear b5 k0 k1
  obtain ⟨k0, k1⟩ := tabs HX.out.box
  go_wp2_with fail
  refine (tcell_any ho 2 hc ro rc [[bC, bD]] 0 1 u5 (by decide) (by decide) HX.out.rows).mono ?_; rintro e u6 ⟨rfl, b6⟩
  rw [show cellL [[bC, bD]] 0 1 = bD from by decide]
  have HX := Lib.hid (HX.out.kept b6)
  have HB := Lib.hid (below_up HB.out b6)
  clear b6 k0 k1
  obtain ⟨k0, k1⟩ := tabs HX.out.box
  go_wp2_with fail
  refine (tcolumn_any ho hc [bA, bB] ro rc [[bC, bD]] 0 u6 (by decide) (by decide) (by decide) HX.out.rows).mono ?_; rintro e u7 ⟨co, rfl, _, b7⟩
  rw [show (columnT [bA, bB] [[bC, bD]] 0).length = 1 from by decide]
  have HX := Lib.hid (HX.out.kept b7)
  have HB := Lib.hid (below_up HB.out b7)
  clear b7 k0 k1
  obtain ⟨k0, k1⟩ := tabs HX.out.box
  go_wp2_with fail
  refine (total_any ho hc [bA, bB] ro rc [[bC, bD]] u7 (by decide) (by decide) (by decide) HX.out.head HX.out.rows (by decide)).mono ?_; rintro e u8 ⟨rfl, b8⟩
  rw [show ((sumT (allT [bA, bB] [[bC, bD]]) : Nat) : Int) = 4 from by decide]
  have HX := Lib.hid (HX.out.kept b8)
  have HB := Lib.hid (below_up HB.out b8)
  clear b8 k0 k1
  obtain ⟨k0, k1⟩ := tabs HX.out.box
  go_wp2_with fail
  refine (tsame_any ho ho hc hc [bA, bB] [bA, bB] ro ro rc rc [[bC, bD]] [[bC, bD]] u8 (by decide) (by decide) (by decide) HX.out.head HX.out.head HX.out.rows HX.out.rows).mono ?_; rintro e u9 ⟨rfl, b9⟩
  rw [show (sameRow [bA, bB] [bA, bB] && sameRecs [[bC, bD]] [[bC, bD]]) = true from by decide]
  have HX := Lib.hid (HX.out.kept b9)
  have HB := Lib.hid (below_up HB.out b9)
  clear b9 k0 k1
  obtain ⟨k0, k1⟩ := tabs HX.out.box
  go_wp2_with fail
  refine (tsame_any ho none hc 0 [bA, bB] [] ro none rc 0 [[bC, bD]] [] u9 (by decide) (by decide) (by decide) HX.out.head (.inl rfl) HX.out.rows (.inl rfl)).mono ?_; rintro e u10 ⟨rfl, b10⟩
  rw [show (sameRow [bA, bB] [] && sameRecs [[bC, bD]] []) = false from by decide]
  have HX := Lib.hid (HX.out.kept b10)
  have HB := Lib.hid (below_up HB.out b10)
  clear b10 k0 k1
  obtain ⟨k0, k1⟩ := tabs HX.out.box
  go_wp2_with fail
  refine (check_any ho hc [bA, bB] ro rc [[bC, bD]] u10 (by decide) (by decide) (by decide) HX.out.head HX.out.rows (by decide) (by decide)).mono ?_; rintro e u11 ⟨rfl, b11⟩
  rw [ck1]
  have HB := Lib.hid (below_up HB.out b11)
  clear b11 k0 k1
  go_wp2_with fail
  refine (check_any none 0 [] none 0 [] u11 (by decide) (by decide) (by decide) (.inl rfl) (.inl rfl) (by decide) (by decide)).mono ?_; rintro e u12 ⟨rfl, b12⟩
  rw [ck0]
  have HB := Lib.hid (below_up HB.out b12)
  clear b12
  go_wp2_with fail
  go_ret
  exact ⟨rfl, HB.out⟩
end Go.Proofs.Ytgbmpcfnbdbpgaa
