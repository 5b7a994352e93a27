/-
  Halving: what the library's search finds.
  Conditions: at most 2^40 places.
-/
import Derived.WalkKit
import Derived.WalkMore
import Derived.IntWalk
import Derived.WalkArith
import Derived.Lib.Hide
import Derived.Deep.Cut
import Derived.BigQuiet
import Derived.Deep.QuietTactic
import Derived.Test.YtolcdhdmonaeaaaProg
import Derived.Test.YtolcdhdmonaeaaaPMathS
namespace Go.Proofs.Ytolcdhdmonaeaaa
open Go.RowKit Go.Shelf
set_option linter.unusedVariables false

set_option maxRecDepth 100000 in
set_option maxHeartbeats 1000000 in
theorem search_any (G : FuncId) (c1 c2 : Value) (p : Nat → Bool) (n : Nat) (w : World) (hn : n ≤ 1099511627776) (hent : ∀ args w, (callFunc G args).run Try.prog w = .ok (.enter G args) w)
    (hG : ∀ (k : Nat) W, k < n → Below w.heap.size w W → Calls Try.prog G #[.int .i64 k, c1, c2] W fun e w' => e = .returned (.bool (p k)) ∧ Below W.heap.size W w') :
    Calls Try.prog 39 #[.int .i64 n, .func (.func G) #[] #[c1, c2]] w fun e w' => ∃ i : Nat, e = .returned (.int .i64 i) ∧ i ≤ n ∧ (i = 0 ∨ p (i - 1) = false) ∧ (i = n ∨ p i = true) ∧ Below w.heap.size w w' := by
  have HG := Lib.hid hG
  clear hG
  go_enter Try.func39, Try.ntmps39
  go_wp2_with fail
  go_loopw [5, 6] (fun a b wr => ∃ (i j : Nat), i ≤ j ∧ j ≤ n ∧ a = .int .i64 i ∧ b = .int .i64 j ∧ Hid (Below w.heap.size w wr) ∧ Hid (i = 0 ∨ p (i - 1) = false) ∧ Hid (j = n ∨ p j = true)) (fun a b _ => (intOf b).toNat - (intOf a).toNat)
  case atStart => exact ⟨0, n, Nat.zero_le _, Nat.le_refl _, rfl, rfl, Lib.hid (Below.refl _ _), Lib.hid (.inl rfl), Lib.hid (.inl rfl)⟩
  case round =>
    obtain ⟨i, j, hij, hjn, rfl, rfl, HB, HI, HJ⟩ := hrel
    by_cases hlt : i < j
    · obtain ⟨h, hh⟩ : ∃ h, h = (i + j) / 2 := ⟨_, rfl⟩
      have hz : ((i : Int) + (j : Int)) / 2 = (h : Int) := by omega
      have h1 : i ≤ h := by omega
      have h2 : h < j := by omega
      have C := Lib.hid (HG.out h wr (by omega) HB.out)
      clear hh
      cases hp : p h with
      | true =>
        rw [hp] at C
        have HJ2 : Hid (h = n ∨ p h = true) := Lib.hid (.inr hp)
        clear hp
        go_wp2_with fail
        refine C.out.mono ?_; rintro e w2 ⟨rfl, b1⟩
        have HB2 := Lib.hid (below_up HB.out b1)
        clear b1
        go_wp2_with fail
        go_roundw
        case rel => exact ⟨i, h, h1, by omega, rfl, rfl, HB2, HI, HJ2⟩
        case measure => simp [intOf]; omega
      | false =>
        rw [hp] at C
        have HI2 : Hid (h + 1 = 0 ∨ p (h + 1 - 1) = false) := Lib.hid (.inr hp)
        clear hp
        go_wp2_with fail
        refine C.out.mono ?_; rintro e w2 ⟨rfl, b1⟩
        have HB2 := Lib.hid (below_up HB.out b1)
        clear b1
        go_wp2_with fail
        go_roundw
        case rel => exact ⟨h + 1, j, by omega, by omega, by go_num, rfl, HB2, HI2, HJ⟩
        case measure => simp [intOf]; omega
    · obtain rfl : i = j := by omega
      go_wp2_with fail
      go_ret
      exact ⟨i, rfl, hjn, HI.out, HJ.out, HB.out⟩

set_option maxRecDepth 100000 in
set_option maxHeartbeats 1000000 in
theorem lengths1_any (b1 b2 : Nat) (ts : List Int) (k : Nat) (a : Int) (mo : Option Addr) (mc : Nat) (w : World) (hk : k < ts.length) (hm : ts.length ≤ 1099511627776) (h1 : w.cell? ⟨b1, 0, none⟩ = some (.slice mo ts.length mc)) (h2 : w.cell? ⟨b2, 0, none⟩ = some (.int .i64 a)) (hT : IntsAt w mo ts) :
    Calls Try.prog 40 #[.int .i64 k, .pointer (some ⟨b1, 0, none⟩), .pointer (some ⟨b2, 0, none⟩)] w fun e w' => e = .returned (.bool (decide (ts.getD k 0 ≤ a))) ∧ Below w.heap.size w w' := by
  rcases hT with h0 | ⟨A, rfl, hA, hcell⟩
  · rw [h0] at hk; simp at hk
  have hc := hcell k _ (List.getElem?_eq_getElem hk)
  rw [show ts.getD k 0 = ts[k] from by rw [List.getD_eq_getElem?_getD, List.getElem?_eq_getElem hk]; rfl]
  generalize ts[k] = v at hc ⊢
  clear hcell
  go_enter Try.func40, Try.ntmps40
  go_wp2_with fail
  go_quiet (fail)
  go_wp2_with fail
  go_ret
  exact ⟨rfl, bdn (Below.refl _ _)⟩
end Go.Proofs.Ytolcdhdmonaeaaa
