/-
  The walk of the statement IndexFinds.
  Conditions: none.
-/
import Derived.WalkKit
import Derived.WalkMore
import Derived.IntWalk
import Derived.Lib.Hide
import Derived.Deep.RegionHeld3
import Derived.Test.YtmomjhnbhckhpaaProg
import Derived.Test.YtmomjhnbhckhpaaIOpen
import Derived.Test.YtmomjhnbhckhpaaTOpen
import Derived.Test.YtmomjhnbhckhpaaIWorks
import Derived.Test.YtmomjhnbhckhpaaIRef
import Derived.Test.YtmomjhnbhckhpaaIOrder
namespace Go.Proofs.Ytmomjhnbhckhpaa
open Go.RowKit Go.Shelf
set_option linter.unusedVariables false

set_option maxRecDepth 100000 in
set_option maxHeartbeats 2000000 in
theorem walkIndexFinds (ho : Option Addr) (hc : Nat) (hd : List ByteArray) (ro : Option Addr) (rc : Nat) (rs : List (List ByteArray)) (co : Option Addr) (cc : Nat) (cols : List Int) (so : Option Addr) (sc : Nat) (key : List ByteArray) (w : World)
    (hA : StrArg w ho hc hd) (hB : RowsArg w ro rc rs) (hI : IntsArg w co cc cols) (hS : StrArg w so sc key) :
    Calls Try.prog 4 #[.agg #[.slice ho hd.length hc, .slice ro rs.length rc], .slice co cols.length cc, .slice so key.length sc] w fun e w' => e = .returned (.bool true) ∧ Below w.heap.size w w' := by
  obtain ⟨W, HW⟩ : ∃ W, Hid (W = w.alloc (TabO ho hd.length hc ro rs.length rc)) := ⟨_, Lib.hid rfl⟩
  have hb0 : Below w.heap.size w W := by rw [HW.out]; exact one_below _ _
  have hN : W.heap[w.heap.size]? = some (TabO ho hd.length hc ro rs.length rc) := by rw [HW.out]; exact World.alloc_heap_new w _
  have HA := Lib.hid hA
  have HB := Lib.hid hB
  have HI := Lib.hid hI
  have HS := Lib.hid hS
  have B0 := Lib.hid hb0
  have box : Hid (∀ V, Below W.heap.size W V → V.cell? ⟨w.heap.size, 0, none⟩ = some (.slice ho hd.length hc) ∧ V.cell? ⟨w.heap.size, 1, none⟩ = some (.slice ro rs.length rc)) := Lib.hid (fun V hV => tabs ((hV.block _ (lt_of_heap hN)).trans hN))
  have kl := hS.len
  unfold maxLen at kl
  clear hA hB hI hS hb0 hN
  go_enter Try.func4, Try.ntmps4
  go_upto_region 1 with fail
  rw [show w.alloc (TabO ho hd.length hc ro rs.length rc) = W from HW.out.symm]
  go_wp2_with fail
  refine (iworks_any _).mono ?_; rintro e w1 ⟨rfl, b1⟩
  obtain ⟨p0, p1⟩ := box.out w1 b1
  have X1 := below_up B0.out b1
  have B1 := Lib.hid b1
  have C1 := Lib.hid (few12_any ho hc hd ro rc rs co cc cols.length w1 HA.out.len HB.out.len HI.out.len HB.out.each HA.out.size (HA.out.row.kept X1) (HB.out.rows.kept X1))
  clear b1 X1
  go_wp2_with fail
  refine C1.out.mono ?_; rintro e w2 ⟨b, rfl, hb, b2⟩
  have B2 := Lib.hid (below_up B1.out b2)
  clear b2 p0 p1 C1 B1
  obtain ⟨p0, p1⟩ := box.out w2 B2.out
  cases b with
  | false =>
    clear hb
    go_wp2_with fail
    go_ret
    exact ⟨rfl, below_up B0.out B2.out⟩
  | true =>
    obtain ⟨hf, h40, h12⟩ := hb rfl
    have HX : Hid (∀ r ∈ rs, r.length ≤ 1099511627776 ∧ ∀ c ∈ r, c.size ≤ 281474976710656) := Lib.hid (fun r hr => ⟨by have := hf.1.2.1 r hr; omega, fun c hc => by have := (HB.out.each r hr).2 c hc; omega⟩)
    clear hf hb
    by_cases g12 : key.length ≤ 12
    · have e12 : decide ((12 : Int) < (key.length : Int)) = false := decide_eq_false (by omega)
      have CB := Lib.hid (fun V (h : Below w.heap.size w V) => build_any ho hd.length hc ro rc rs co cc cols V (by omega) (by omega) HX.out HI.out.wf (HB.out.rows.kept h) (HI.out.ints.kept h))
      have CF := Lib.hid (fun V (oo : Option Addr) (h : Below w.heap.size w V) (h1 : IntsAt V oo (buildL rs cols)) => find_any ho hd.length hc ro rc rs co cc cols oo (buildL rs cols).length (buildL rs cols) so sc key V (by omega) (by omega) (by rw [build_len]; omega) (by omega) HX.out (HB.out.rows.kept h) (HI.out.ints.kept h) h1 (HS.out.row.kept h))
      have CR := Lib.hid (fun V (h : Below w.heap.size w V) => rfindI_any ho hd.length hc ro rc rs co cc cols so sc key V (by omega) (by omega) (by omega) (HB.out.rows.kept h) (HI.out.ints.kept h) (HS.out.row.kept h))
      have HFF := Lib.hid (fun a ok h => found_first rs cols key a ok h)
      have HHit := Lib.hid (firstK_hit (fun x => keyC (rowKey rs cols x) key) rs.length)
      have HNo := Lib.hid (firstK_none (fun x => keyC (rowKey rs cols x) key) rs.length)
      have hbl := build_len rs cols
      unfold BuildOut at CB
      generalize firstK (fun x => keyC (rowKey rs cols x) key) rs.length = FK at CR HHit HNo
      generalize buildL rs cols = BL at CB CF HFF hbl
      rw [hbl] at CB CF
      have BD := Lib.hid (B2.out.drew)
      clear hbl
      go_upto_region 6 with fail
      go_region_held3 (fun V => V.cell? ⟨w.heap.size, 0, none⟩ = some (.slice ho hd.length hc) ∧ V.cell? ⟨w.heap.size, 1, none⟩ = some (.slice ro rs.length rc)) ((refine ⟨?_, ?_⟩ <;> first | assumption | go_keep)) (first
        | (go_at_call 11; refine (CB.out _ (below_up B0.out BD.out)).mono ?_; rintro e w3 ⟨oo, rfl, hio, b3⟩; have B3 := Lib.hid (below_up BD.out b3); have HIO := Lib.hid hio; obtain ⟨p0, p1⟩ := box.out _ B3.out; clear hio b3)
        | (go_at_call 16; refine (CF.out _ _ (below_up B0.out B3.out) HIO.out).mono ?_; rintro e w4 ⟨a, ok, rfl, hfa, b4⟩; have B4 := Lib.hid (below_up B3.out b4); have HFA := Lib.hid hfa; obtain ⟨p0, p1⟩ := box.out _ B4.out; clear hfa b4))
      have D := Lib.hid (CR.out _ (below_up B0.out B4.out))
      rcases HFF.out a ok HFA.out with ⟨i, rfl, rfl, hil, hik, hij⟩ | ⟨rfl, rfl, hno⟩
      · have hF : FK = some i := HHit.out i hil hik hij
        clear HFA hil hik hij
        go_wp2_with fail
        refine D.out.mono ?_
        rintro e w5 ⟨hc5, b5⟩
        have B5 := Lib.hid (below_up B4.out b5)
        clear b5 p0 p1
        rcases hc5 with ⟨i', hi', rfl⟩ | ⟨hi', rfl⟩
        · rw [hF] at hi'
          simp only [Option.some.injEq] at hi'
          subst hi'
          have eI : ((i : Int) == (i : Int)) = true := by simp
          clear hF
          go_wp2_with fail
          go_ret
          exact ⟨rfl, below_up B0.out B5.out⟩
        · rw [hF] at hi'; cases hi'
      · have hF : FK = none := HNo.out hno
        clear HFA hno
        go_wp2_with fail
        refine D.out.mono ?_
        rintro e w5 ⟨hc5, b5⟩
        have B5 := Lib.hid (below_up B4.out b5)
        clear b5 p0 p1
        rcases hc5 with ⟨i', hi', rfl⟩ | ⟨hi', rfl⟩
        · rw [hF] at hi'; cases hi'
        · clear hF hi'
          go_wp2_with fail
          go_ret
          exact ⟨rfl, below_up B0.out B5.out⟩
    · have e12 : decide ((12 : Int) < (key.length : Int)) = true := decide_eq_true (by omega)
      go_wp2_with fail
      go_ret
      exact ⟨rfl, below_up B0.out B2.out⟩
end Go.Proofs.Ytmomjhnbhckhpaa
