/-
  Whether two lists of pairs, or of numbers, are alike: the program's answer, and the document's reference's.
  Conditions: lists of at most 2^40 elements.
-/
import Derived.WalkKit
import Derived.WalkMore
import Derived.Lib.Hide
import Derived.Deep.RegionWith
import Derived.StillTailTactics
import Derived.Lib.QuietBelow
import Derived.Test.YtmomjhnbhckhpaaDoorProg
import Derived.Test.YtmomjhnbhckhpaaDoorPBase
namespace Go.Proofs.YtmomjhnbhckhpaaDoor
open Go.RowKit Go.Shelf
set_option linter.unusedVariables false

set_option maxRecDepth 100000 in
set_option maxHeartbeats 1000000 in
theorem ints_any (ao bo : Option Addr) (ca cb : Nat) (xs ys : (List Int)) (w : World) (hn : xs.length ≤ 1099511627776) (hR : IntsAt w ao xs) (hS : IntsAt w bo ys) :
    Calls Tryd.prog 22 #[.slice ao xs.length ca, .slice bo ys.length cb] w fun e w' => e = .returned (.bool (sameL xs ys)) ∧ Below w.heap.size w w' := by
  have HRo := Lib.hid hR
  have HSo := Lib.hid hS
  have HL := Lib.hid (same_len xs ys)
  have HA := Lib.hid (same_all xs ys)
  have HNo := Lib.hid (same_no xs ys)
  clear hR hS
  generalize sameL xs ys = F at HL HA HNo ⊢
  by_cases hlen : xs.length = ys.length
  · have hb : ((xs.length : Int) != (ys.length : Int)) = false := by rw [int_bne]; simpa using hlen
    have HLen := Lib.hid hlen
    go_enter Tryd.func22, Tryd.ntmps22
    go_wp2_with fail
    go_loopw [5] (fun i wr => ∃ k : Nat, k ≤ xs.length ∧ i = .int .i64 k ∧ Hid (Below w.heap.size w wr) ∧ Hid (∀ (j : Nat) x y, j < k → xs[j]? = some x → ys[j]? = some y → x = y)) (fun i _ => xs.length - (intOf i).toNat)
    case atStart => exact ⟨0, Nat.zero_le _, rfl, Lib.hid (Below.refl _ _), Lib.hid (fun j x y h _ _ => by omega)⟩
    case round =>
      obtain ⟨k, hk, rfl, HB, HN⟩ := hrel
      by_cases hlt : k < xs.length
      · obtain ⟨x, hx⟩ : ∃ x, xs[k]? = some x := ⟨_, List.getElem?_eq_getElem hlt⟩
        obtain ⟨y, hy⟩ : ∃ y, ys[k]? = some y := ⟨_, List.getElem?_eq_getElem (by rw [← HLen.out]; exact hlt)⟩
        have HX := Lib.hid hx
        have HY := Lib.hid hy
        have hlt2 : k < ys.length := by rw [← HLen.out]; exact hlt
        rcases (HRo.out.kept HB.out) with h0 | ⟨A, rfl, hA, hcell⟩
        · rw [h0] at hlt; simp at hlt
        rcases (HSo.out.kept HB.out) with h0 | ⟨C, rfl, hC, hcell2⟩
        · rw [h0] at hlt2; simp at hlt2
        have hc := hcell k _ hx
        have hd := hcell2 k _ hy
        clear hcell hcell2 hx hy
        by_cases hxy : x = y
        · have HN' : Hid (∀ (j : Nat) x y, j < k + 1 → xs[j]? = some x → ys[j]? = some y → x = y) := Lib.hid (fun j u v hj hu hv => by
            rcases Nat.lt_or_ge j k with h | h
            · exact HN.out j u v h hu hv
            · obtain rfl : j = k := by omega
              rw [HX.out] at hu; rw [HY.out] at hv
              cases hu; cases hv; exact hxy)
          subst hxy
          go_wp2_with fail
          go_quiet (fail)
          have HB' : Hid (Below w.heap.size w (wr.drewN nq)) := Lib.hid (bdn HB.out)
          go_wp2_with fail
          go_roundw
          case rel => exact ⟨k + 1, by omega, by go_num, HB', HN'⟩
          case measure => simp [intOf]; omega
        · have E := Lib.hid (HNo.out k _ _ HX.out HY.out (by exact hxy))
          have hb2 : (x != y) = true := by simpa using hxy
          clear hxy
          all_goals
            go_wp2_with fail
            go_quiet (fail)
            have HB' : Hid (Below w.heap.size w (wr.drewN nq)) := Lib.hid (bdn HB.out)
            go_wp2_with fail
            go_ret
            exact ⟨by rw [E.out]; rfl, HB'.out⟩
      · obtain rfl : k = xs.length := by omega
        have E := Lib.hid (HA.out HLen.out HN.out)
        go_wp2_with fail
        go_ret
        exact ⟨by rw [E.out]; rfl, HB.out⟩
  · have hb : ((xs.length : Int) != (ys.length : Int)) = true := by rw [int_bne]; simpa using hlen
    have E := Lib.hid (HL.out hlen)
    go_enter Tryd.func22, Tryd.ntmps22
    go_wp2_with fail
    go_ret
    exact ⟨by rw [E.out]; rfl, Below.refl _ _⟩

end Go.Proofs.YtmomjhnbhckhpaaDoor
