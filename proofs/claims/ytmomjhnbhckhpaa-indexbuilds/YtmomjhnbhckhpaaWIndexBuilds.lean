/-
  The walk of the statement IndexBuilds.
  Conditions: none.
-/
import Derived.WalkKit
import Derived.WalkMore
import Derived.IntWalk
import Derived.Lib.Hide
import Derived.Deep.RegionHeld3
import Derived.Test.YtmomjhnbhckhpaaProg
import Derived.Test.YtmomjhnbhckhpaaIOpen
import Derived.Test.YtmomjhnbhckhpaaTOpen
import Derived.Test.YtmomjhnbhckhpaaIWorks
import Derived.Test.YtmomjhnbhckhpaaIRef2
namespace Go.Proofs.Ytmomjhnbhckhpaa
open Go.RowKit Go.Shelf
set_option linter.unusedVariables false

theorem same_ints (l : List Int) : sameL l l = true := by simp [sameL]
theorem same_row (xs : List ByteArray) : sameRow xs xs = true := by rw [sameRow_iff]

set_option maxRecDepth 100000 in
set_option maxHeartbeats 2000000 in
theorem walkIndexBuilds (ho : Option Addr) (hc : Nat) (hd : List ByteArray) (ro : Option Addr) (rc : Nat) (rs : List (List ByteArray)) (co : Option Addr) (cc : Nat) (cols : List Int) (row : Int) (w : World)
    (hA : StrArg w ho hc hd) (hB : RowsArg w ro rc rs) (hI : IntsArg w co cc cols) (hrow : (Lit.int .i64 row).wf = true) :
    Calls Try.prog 3 #[.agg #[.slice ho hd.length hc, .slice ro rs.length rc], .slice co cols.length cc, .int .i64 row] w fun e w' => e = .returned (.bool true) ∧ Below w.heap.size w w' := by
  obtain ⟨W, HW⟩ : ∃ W, Hid (W = w.alloc (TabO ho hd.length hc ro rs.length rc)) := ⟨_, Lib.hid rfl⟩
  have hb0 : Below w.heap.size w W := by rw [HW.out]; exact one_below _ _
  have hN : W.heap[w.heap.size]? = some (TabO ho hd.length hc ro rs.length rc) := by rw [HW.out]; exact World.alloc_heap_new w _
  have HA := Lib.hid hA
  have HB := Lib.hid hB
  have HI := Lib.hid hI
  have B0 := Lib.hid hb0
  have box : Hid (∀ V, Below W.heap.size W V → V.cell? ⟨w.heap.size, 0, none⟩ = some (.slice ho hd.length hc) ∧ V.cell? ⟨w.heap.size, 1, none⟩ = some (.slice ro rs.length rc)) := Lib.hid (fun V hV => tabs ((hV.block _ (lt_of_heap hN)).trans hN))
  clear hA hB hI hb0 hN
  go_enter Try.func3, Try.ntmps3
  go_upto_region 1 with fail
  rw [show w.alloc (TabO ho hd.length hc ro rs.length rc) = W from HW.out.symm]
  go_wp2_with fail
  refine (iworks_any _).mono ?_; rintro e w1 ⟨rfl, b1⟩
  obtain ⟨p0, p1⟩ := box.out w1 b1
  have X1 := below_up B0.out b1
  have B1 := Lib.hid b1
  have C1 := Lib.hid (few12_any ho hc hd ro rc rs co cc cols.length w1 HA.out.len HB.out.len HI.out.len HB.out.each HA.out.size (HA.out.row.kept X1) (HB.out.rows.kept X1))
  clear b1 X1
  go_wp2_with fail
  refine C1.out.mono ?_; rintro e w2 ⟨b, rfl, hb, b2⟩
  have B2 := Lib.hid (below_up B1.out b2)
  clear b2 p0 p1 C1 B1
  obtain ⟨p0, p1⟩ := box.out w2 B2.out
  cases b with
  | false =>
    clear hb
    go_wp2_with fail
    go_ret
    exact ⟨rfl, below_up B0.out B2.out⟩
  | true =>
    obtain ⟨hf, h40, h12⟩ := hb rfl
    have HX : Hid (∀ r ∈ rs, r.length ≤ 1099511627776 ∧ ∀ c ∈ r, c.size ≤ 281474976710656) := Lib.hid (fun r hr => ⟨by have := hf.1.2.1 r hr; omega, fun c hc => by have := (HB.out.each r hr).2 c hc; omega⟩)
    clear hf hb
    have CB := Lib.hid (fun V (h : Below w.heap.size w V) => build_any ho hd.length hc ro rc rs co cc cols V (by omega) (by omega) HX.out HI.out.wf (HB.out.rows.kept h) (HI.out.ints.kept h))
    have CB2 := Lib.hid (fun V (h : Below w.heap.size w V) => rbuild_any ho hd.length hc ro rc rs co cc cols V (by omega) (by omega) (HB.out.rows.kept h) (HI.out.ints.kept h))
    have CI := Lib.hid (fun V (ao bo : Option Addr) (ca cb : Nat) h1 h2 => ints_any ao bo ca cb (buildL rs cols) (buildL rs cols) V (by rw [build_len]; omega) h1 h2)
    have CK := Lib.hid (fun V (h : Below w.heap.size w V) => key_any ho hd.length hc ro rc rs row co cc cols V (by omega) (by omega) HX.out (HB.out.rows.kept h) (HI.out.ints.kept h))
    have CK2 := Lib.hid (fun V (h : Below w.heap.size w V) => rkey_any ho hd.length hc ro rc rs row co cc cols V (by omega) (HB.out.rows.kept h) (HI.out.ints.kept h))
    have CR := Lib.hid (fun V (ao bo : Option Addr) (ca cb : Nat) h1 h2 => rrow_any ao bo ca cb (rowKey rs cols row) (rowKey rs cols row) V (by rw [rowKey_len]; omega) h1 h2)
    rw [same_ints] at CI
    rw [same_row] at CR
    unfold StrsOut at CK2
    rw [show keyR rs row cols = rowKey rs cols row from rfl] at CK2
    have hbl := build_len rs cols
    have hkl := rowKey_len rs cols row
    unfold BuildOut at CB
    generalize buildL rs cols = BL at CB CB2 CI hbl
    generalize rowKey rs cols row = KX at CK CK2 CR hkl
    rw [hbl] at CB CI
    rw [hkl] at CK2 CR
    have BD := Lib.hid (B2.out.drew)
    clear hbl hkl
    go_upto_region 6 with fail
    go_region_held3 (fun V => V.cell? ⟨w.heap.size, 0, none⟩ = some (.slice ho hd.length hc) ∧ V.cell? ⟨w.heap.size, 1, none⟩ = some (.slice ro rs.length rc)) ((refine ⟨?_, ?_⟩ <;> first | assumption | go_keep)) (first
      | (go_at_call 11; refine (CB.out _ (below_up B0.out BD.out)).mono ?_; rintro e w3 ⟨oo, rfl, hio, b3⟩; have B3 := Lib.hid (below_up BD.out b3); have HIO := Lib.hid hio; obtain ⟨p0, p1⟩ := box.out _ B3.out; clear hio b3)
      | (go_at_call 12; refine (CB2.out _ (below_up B0.out B3.out)).mono ?_; rintro e w4 ⟨ou, oc, rfl, hiu, b4⟩; have B4 := Lib.hid (below_up B3.out b4); have HIO2 := Lib.hid (HIO.out.kept b4); have HIU := Lib.hid hiu; obtain ⟨p0, p1⟩ := box.out _ B4.out; clear hiu b4)
      | (go_at_call 10; refine (CI.out _ _ _ _ _ HIO2.out HIU.out).mono ?_; rintro e w5 ⟨rfl, b5⟩; have B5 := Lib.hid (below_up B4.out b5); obtain ⟨p0, p1⟩ := box.out _ B5.out; clear b5))
    have BD5 := Lib.hid (B5.out.drew)
    clear HIO HIO2 HIU CB CB2 CI BD B3 B4
    go_upto_region 7 with fail
    go_region_held3 (fun V => V.cell? ⟨w.heap.size, 0, none⟩ = some (.slice ho hd.length hc) ∧ V.cell? ⟨w.heap.size, 1, none⟩ = some (.slice ro rs.length rc)) ((refine ⟨?_, ?_⟩ <;> first | assumption | go_keep)) (first
      | (go_at_call 14; refine (CK.out _ (below_up B0.out BD5.out)).mono ?_; rintro e w6 ⟨ao, rfl, hst, b6⟩; have B6 := Lib.hid (below_up BD5.out b6); have HSA := Lib.hid hst; obtain ⟨p0, p1⟩ := box.out _ B6.out; clear hst b6)
      | (go_at_call 15; refine (CK2.out _ (below_up B0.out B6.out)).mono ?_; rintro e w7 ⟨bo, cb, rfl, hst, b7⟩; have B7 := Lib.hid (below_up B6.out b7); have HSA2 := Lib.hid (HSA.out.kept b7); have HSB := Lib.hid hst; obtain ⟨p0, p1⟩ := box.out _ B7.out; clear hst b7)
      | (go_at_call 13; refine (CR.out _ _ _ _ _ HSA2.out HSB.out).mono ?_; rintro e w8 ⟨rfl, b8⟩; have B8 := Lib.hid (below_up B7.out b8); obtain ⟨p0, p1⟩ := box.out _ B8.out; clear b8))
    go_wp2_with fail
    go_ret
    exact ⟨rfl, below_up B0.out B8.out⟩
end Go.Proofs.Ytmomjhnbhckhpaa
