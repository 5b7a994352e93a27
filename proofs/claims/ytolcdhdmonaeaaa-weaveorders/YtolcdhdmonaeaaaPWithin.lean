/-
  Whether all pairs are within bounds: what the program answers, by a closure over the bounds.
  Conditions: lists of at most 2^40 pairs.
-/
import Derived.WalkKit
import Derived.WalkMore
import Derived.Lib.Hide
import Derived.Deep.QuietTactic
import Derived.BigQuiet
import Derived.Deep.RegionWith
import Derived.Lib.QuietBelow
import Derived.Test.YtolcdhdmonaeaaaProg
import Derived.Test.YtolcdhdmonaeaaaPSame
namespace Go.Proofs.Ytolcdhdmonaeaaa
open Go.RowKit Go.Shelf
set_option linter.unusedVariables false

set_option maxRecDepth 100000 in
set_option maxHeartbeats 2000000 in
theorem indexP_any (G : FuncId) (v1 v2 : Value) (p : Int × Int → Bool) (ao : Option Addr) (cap : Nat) (xs : PL) (w : World) (hn : xs.length ≤ 1099511627776) (hR : PairsAt w ao xs)
    (hent : ∀ args w, (callFunc G args).run Try.prog w = .ok (.enter G args) w) (hG : ∀ x1 x2 W, Below w.heap.size w W → Calls Try.prog G #[.agg #[.int .i64 x1, .int .i64 x2], v1, v2] W fun e w' => e = .returned (.bool (p (x1, x2))) ∧ Below W.heap.size W w') :
    Calls Try.prog 42 #[.slice ao xs.length cap, .func (.func G) #[] #[v1, v2]] w fun e w' => e = .returned (.int .i64 (firstAt p xs)) ∧ Below w.heap.size w w' := by
  have HG := Lib.hid hG
  have HRo := Lib.hid hR
  have HF := Lib.hid (firstAt_none p xs)
  have HS := Lib.hid (firstAt_some p xs)
  clear hG hR
  generalize firstAt p xs = F at HF HS ⊢
  go_enter Try.func42, Try.ntmps42
  go_wp2_with fail
  go_loopw [8] (fun i wr => ∃ k : Nat, k ≤ xs.length ∧ i = .int .i64 k ∧ Hid (Below w.heap.size w wr) ∧ Hid (∀ (j : Nat) c, j < k → xs[j]? = some c → p c = false)) (fun i _ => xs.length - (intOf i).toNat)
  case atStart => exact ⟨0, Nat.zero_le _, rfl, Lib.hid (Below.refl _ _), Lib.hid (fun j c h _ => by omega)⟩
  case round =>
    obtain ⟨k, hk, rfl, HB, HN⟩ := hrel
    by_cases hlt : k < xs.length
    · obtain ⟨⟨x1, x2⟩, hx⟩ : ∃ x, xs[k]? = some x := ⟨_, List.getElem?_eq_getElem hlt⟩
      have HX := Lib.hid hx
      rcases (HRo.out.kept HB.out) with h0 | ⟨b, o, rfl, hA, hcell⟩
      · rw [h0] at hlt; simp at hlt
      obtain ⟨hc1, hc2⟩ := hcell k _ hx
      dsimp only at hc1 hc2
      have C := Lib.hid (HG.out x1 x2 wr HB.out)
      clear hcell hx
      cases hp : p (x1, x2) with
      | true =>
        rw [hp] at C
        have E := Lib.hid (HS.out k _ HX.out hp HN.out)
        go_wp2_with fail
        refine C.out.mono ?_; rintro e w' ⟨rfl, b1⟩
        have HB1 := Lib.hid (below_up HB.out b1)
        clear b1 hc1 hc2
        go_wp2_with fail
        go_ret
        exact ⟨by rw [E.out]; rfl, HB1.out⟩
      | false =>
        rw [hp] at C
        have HN' : Hid (∀ (j : Nat) c, j < k + 1 → xs[j]? = some c → p c = false) := Lib.hid (fun j c hj hc' => by
          by_cases e : j = k
          · subst e; rw [HX.out] at hc'; cases hc'; exact hp
          · exact HN.out j c (by omega) hc')
        go_wp2_with fail
        refine C.out.mono ?_; rintro e w' ⟨rfl, b1⟩
        have HB1 := Lib.hid (below_up HB.out b1)
        clear b1 hc1 hc2
        go_wp2_with fail
        go_roundw
        case rel => exact ⟨k + 1, by omega, by go_num, HB1, HN'⟩
        case measure => simp [intOf]; omega
    · obtain rfl : k = xs.length := by omega
      have E := Lib.hid (HF.out (fun j c hc => HN.out j c (by obtain ⟨h, _⟩ := List.getElem?_eq_some_iff.1 hc; exact h) hc))
      go_wp2_with fail
      go_ret
      exact ⟨by rw [E.out]; rfl, HB.out⟩
theorem hasP_any (G : FuncId) (v1 v2 : Value) (p : Int × Int → Bool) (ao : Option Addr) (cap : Nat) (xs : PL) (w : World) (hn : xs.length ≤ 1099511627776) (hR : PairsAt w ao xs)
    (hent : ∀ args w, (callFunc G args).run Try.prog w = .ok (.enter G args) w) (hG : ∀ x1 x2 W, Below w.heap.size w W → Calls Try.prog G #[.agg #[.int .i64 x1, .int .i64 x2], v1, v2] W fun e w' => e = .returned (.bool (p (x1, x2))) ∧ Below W.heap.size W w') :
    Calls Try.prog 36 #[.slice ao xs.length cap, .func (.func G) #[] #[v1, v2]] w fun e w' => e = .returned (.bool (xs.any p)) ∧ Below w.heap.size w w' := by
  have C := Lib.hid (indexP_any G v1 v2 p ao cap xs w hn hR hent hG)
  have E := Lib.hid (any_at p xs)
  clear hG hR hent
  generalize firstAt p xs = F at C E
  go_enter Try.func36, Try.ntmps36
  go_wp2_with fail
  refine C.out.mono ?_; rintro e w' ⟨rfl, b1⟩
  go_wp2_with fail
  go_ret
  exact ⟨by rw [← E.out]; simp, b1⟩
/-- a pair that is not of na and nb -/
def badP (na nb : Int) (p : Int × Int) : Bool := decide (p.1 < 0) || decide (na ≤ p.1) || decide (p.2 < 0) || decide (nb ≤ p.2)

set_option maxRecDepth 100000 in
set_option maxHeartbeats 1000000 in
theorem within1_any (x1 x2 na nb : Int) (b1 b2 : Nat) (w : World) (h1 : w.cell? ⟨b1, 0, none⟩ = some (.int .i64 na)) (h2 : w.cell? ⟨b2, 0, none⟩ = some (.int .i64 nb)) :
    Calls Try.prog 37 #[.agg #[.int .i64 x1, .int .i64 x2], .pointer (some ⟨b1, 0, none⟩), .pointer (some ⟨b2, 0, none⟩)] w fun e w' => e = .returned (.bool (badP na nb (x1, x2))) ∧ Below w.heap.size w w' := by
  have HB : Hid (Below w.heap.size w (w.alloc (.cells #[.int .i64 x1, .int .i64 x2] 37))) := Lib.hid ((Below.refl _ w).alloc (Nat.le_refl _) _)
  have E : Hid (badP na nb (x1, x2) = (decide (x1 < 0) || decide (na ≤ x1) || decide (x2 < 0) || decide (nb ≤ x2))) := Lib.hid rfl
  generalize badP na nb (x1, x2) = F at E ⊢
  have g1 := cell_alloc_l (.cells #[.int .i64 x1, .int .i64 x2] 37) h1
  have g2 := cell_alloc_l (.cells #[.int .i64 x1, .int .i64 x2] 37) h2
  have l1 := block_lt_of_cell h1
  have l2 := block_lt_of_cell h2
  by_cases k1 : x1 < 0
  · have E' := Lib.hid (show F = true from by rw [E.out]; simp [k1])
    go_enter Try.func37, Try.ntmps37
    go_wp2_with fail
    go_ret
    exact ⟨by rw [E'.out]; rfl, HB.out⟩
  by_cases k2 : na ≤ x1
  · have E' := Lib.hid (show F = true from by rw [E.out]; simp [k2])
    go_enter Try.func37, Try.ntmps37
    go_wp2_with fail
    go_ret
    exact ⟨by rw [E'.out]; rfl, HB.out⟩
  by_cases k3 : x2 < 0
  · have E' := Lib.hid (show F = true from by rw [E.out]; simp [k3])
    go_enter Try.func37, Try.ntmps37
    go_wp2_with fail
    go_ret
    exact ⟨by rw [E'.out]; rfl, HB.out⟩
  by_cases k4 : nb ≤ x2
  · have E' := Lib.hid (show F = true from by rw [E.out]; simp [k4])
    go_enter Try.func37, Try.ntmps37
    go_wp2_with fail
    go_ret
    exact ⟨by rw [E'.out]; rfl, HB.out⟩
  · have E' := Lib.hid (show F = false from by rw [E.out]; simp [k1, k2, k3, k4])
    go_enter Try.func37, Try.ntmps37
    go_wp2_with fail
    go_ret
    exact ⟨by rw [E'.out]; rfl, HB.out⟩

set_option maxRecDepth 100000 in
set_option maxHeartbeats 1000000 in
theorem within_any (ao : Option Addr) (cap : Nat) (xs : PL) (na nb : Int) (w : World) (hn : xs.length ≤ 1099511627776) (hR : PairsAt w ao xs) :
    Calls Try.prog 25 #[.slice ao xs.length cap, .int .i64 na, .int .i64 nb] w fun e w' => e = .returned (.bool (!(xs.any (badP na nb)))) ∧ Below w.heap.size w w' := by
  obtain ⟨_, hB1, hB2⟩ := two_new w (.cells #[.int .i64 na] 3) (.cells #[.int .i64 nb] 3)
  have hb := two_below w (.cells #[.int .i64 na] 3) (.cells #[.int .i64 nb] 3)
  have C := Lib.hid (hasP_any 37 (.pointer (some ⟨w.heap.size, 0, none⟩)) (.pointer (some ⟨w.heap.size + 1, 0, none⟩)) (badP na nb) ao cap xs _ hn (hR.kept hb) (enters_of Try.func37 (by kernel_rfl) rfl)
    (fun x1 x2 W hW => within1_any x1 x2 na nb w.heap.size (w.heap.size + 1) W (cell_of_box_l ((hW.block _ (lt_of_heap hB1)).trans hB1)).1 (cell_of_box_l ((hW.block _ (lt_of_heap hB2)).trans hB2)).1))
  have HB := Lib.hid hb
  clear hB1 hB2 hb hR
  go_enter Try.func25, Try.ntmps25
  go_wp2_with fail
  refine C.out.mono ?_; rintro e w' ⟨rfl, b1⟩
  have B1 := Lib.hid (below_up HB.out b1)
  clear b1
  go_wp2_with fail
  go_ret
  exact ⟨rfl, B1.out⟩
end Go.Proofs.Ytolcdhdmonaeaaa
