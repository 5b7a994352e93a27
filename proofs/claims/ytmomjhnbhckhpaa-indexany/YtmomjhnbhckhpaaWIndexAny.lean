/-
  The walk of the statement IndexAny.
  Conditions: none.
-/
import Derived.WalkKit
import Derived.WalkMore
import Derived.IntWalk
import Derived.Lib.Hide
import Derived.Test.YtmomjhnbhckhpaaProg
import Derived.Test.YtmomjhnbhckhpaaIOpen
import Derived.Test.YtmomjhnbhckhpaaTOpen
import Derived.Test.YtmomjhnbhckhpaaIWorks
namespace Go.Proofs.Ytmomjhnbhckhpaa
open Go.RowKit Go.Shelf
set_option linter.unusedVariables false

set_option maxRecDepth 100000 in
set_option maxHeartbeats 2000000 in
theorem walkIndexAny (ho : Option Addr) (hc : Nat) (hd : List ByteArray) (ro : Option Addr) (rc : Nat) (rs : List (List ByteArray)) (co : Option Addr) (cc : Nat) (cols : List Int) (oo : Option Addr) (oc : Nat) (os : List Int) (so : Option Addr) (sc : Nat) (key : List ByteArray) (w : World)
    (hA : StrArg w ho hc hd) (hB : RowsArg w ro rc rs) (hI : IntsArg w co cc cols) (hO : IntsArg w oo oc os) (hS : StrArg w so sc key) :
    Calls Try.prog 7 #[.agg #[.slice ho hd.length hc, .slice ro rs.length rc], .slice co cols.length cc, .slice oo os.length oc, .slice so key.length sc] w fun e w' => e = .returned (.bool true) ∧ Below w.heap.size w w' := by
  obtain ⟨W, HW⟩ : ∃ W, Hid (W = w.alloc (TabO ho hd.length hc ro rs.length rc)) := ⟨_, Lib.hid rfl⟩
  have hb0 : Below w.heap.size w W := by rw [HW.out]; exact one_below _ _
  have hN : W.heap[w.heap.size]? = some (TabO ho hd.length hc ro rs.length rc) := by rw [HW.out]; exact World.alloc_heap_new w _
  have HA := Lib.hid hA
  have HB := Lib.hid hB
  have HI := Lib.hid hI
  have HO := Lib.hid hO
  have HS := Lib.hid hS
  have B0 := Lib.hid hb0
  have box : Hid (∀ V, Below W.heap.size W V → V.cell? ⟨w.heap.size, 0, none⟩ = some (.slice ho hd.length hc) ∧ V.cell? ⟨w.heap.size, 1, none⟩ = some (.slice ro rs.length rc)) := Lib.hid (fun V hV => tabs ((hV.block _ (lt_of_heap hN)).trans hN))
  have ol := hO.len
  have kl := hS.len
  unfold maxLen at ol kl
  clear hA hB hI hO hS hb0 hN
  go_enter Try.func7, Try.ntmps7
  go_upto_region 1 with fail
  rw [show w.alloc (TabO ho hd.length hc ro rs.length rc) = W from HW.out.symm]
  go_wp2_with fail
  refine (iworks_any _).mono ?_; rintro e w1 ⟨rfl, b1⟩
  obtain ⟨p0, p1⟩ := box.out w1 b1
  have X1 := below_up B0.out b1
  have B1 := Lib.hid b1
  have C1 := Lib.hid (few12_any ho hc hd ro rc rs co cc cols.length w1 HA.out.len HB.out.len HI.out.len HB.out.each HA.out.size (HA.out.row.kept X1) (HB.out.rows.kept X1))
  clear b1 X1
  go_wp2_with fail
  refine C1.out.mono ?_; rintro e w2 ⟨b, rfl, hb, b2⟩
  have B2 := Lib.hid (below_up B1.out b2)
  clear b2 p0 p1 C1 B1
  obtain ⟨p0, p1⟩ := box.out w2 B2.out
  cases b with
  | false =>
    clear hb
    go_wp2_with fail
    go_ret
    exact ⟨rfl, below_up B0.out B2.out⟩
  | true =>
    obtain ⟨hf, h40, h12⟩ := hb rfl
    have HX : Hid (∀ r ∈ rs, r.length ≤ 1099511627776 ∧ ∀ c ∈ r, c.size ≤ 281474976710656) := Lib.hid (fun r hr => ⟨by have := hf.1.2.1 r hr; omega, fun c hc => by have := (HB.out.each r hr).2 c hc; omega⟩)
    clear hf hb
    by_cases g60 : os.length ≤ 60
    · have e60 : decide ((60 : Int) < (os.length : Int)) = false := decide_eq_false (by omega)
      by_cases g12 : key.length ≤ 12
      · have e12 : decide ((12 : Int) < (key.length : Int)) = false := decide_eq_false (by omega)
        have X2 := below_up B0.out B2.out
        have CF := Lib.hid (find_any ho hd.length hc ro rc rs co cc cols oo oc os so sc key w2 (by omega) (by omega) (by omega) (by omega) HX.out (HB.out.rows.kept X2) (HI.out.ints.kept X2) (HO.out.ints.kept X2) (HS.out.row.kept X2))
        clear X2
        go_wp2_with fail
        refine CF.out.mono ?_; rintro e w3 ⟨a, ok, rfl, hfa, b3⟩
        have B3 := Lib.hid (below_up B2.out b3)
        clear b3 p0 p1 CF B2
        obtain ⟨p0, p1⟩ := box.out w3 B3.out
        obtain ⟨p, -, -, -, hcase⟩ := hfa
        rcases hcase with ⟨x, -, hz, rfl, rfl⟩ | ⟨-, rfl, rfl⟩
        · have X3 := below_up B0.out B3.out
          have CK := Lib.hid (key_any ho hd.length hc ro rc rs a co cc cols w3 (by omega) (by omega) HX.out (HB.out.rows.kept X3) (HI.out.ints.kept X3))
          have CC := Lib.hid (fun V (ao : Option Addr) (h : Below w3.heap.size w3 V) (h1 : StrRow V ao (rowKey rs cols a)) => compareK_any ao so cols.length sc (rowKey rs cols a) key V (by rw [rowKey_len]; omega) (by omega) h1 ((HS.out.row.kept X3).kept h))
          have HL := Lib.hid (rowKey_len rs cols a)
          dsimp only at hz
          rw [hz, HL.out] at CC
          clear hz X3
          generalize rowKey rs cols a = kx at CK CC HL
          go_wp2_with fail
          refine CK.out.mono ?_; rintro e w4 ⟨ao, rfl, hst, b4⟩
          have C4 := Lib.hid (CC.out w4 ao b4 hst)
          have B4 := Lib.hid (below_up B3.out b4)
          clear b4 hst p0 p1
          go_wp2_with fail
          refine C4.out.mono ?_; rintro e w5 ⟨rfl, b5⟩
          have B5 := Lib.hid (below_up B4.out b5)
          clear b5
          go_wp2_with fail
          go_ret
          exact ⟨rfl, below_up B0.out B5.out⟩
        · go_wp2_with fail
          go_ret
          exact ⟨rfl, below_up B0.out B3.out⟩
      · have e12 : decide ((12 : Int) < (key.length : Int)) = true := decide_eq_true (by omega)
        go_wp2_with fail
        go_ret
        exact ⟨rfl, below_up B0.out B2.out⟩
    · have e60 : decide ((60 : Int) < (os.length : Int)) = true := decide_eq_true (by omega)
      go_wp2_with fail
      go_ret
      exact ⟨rfl, below_up B0.out B2.out⟩
end Go.Proofs.Ytmomjhnbhckhpaa
