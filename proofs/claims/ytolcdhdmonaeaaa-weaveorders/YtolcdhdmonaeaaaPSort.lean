/-
  Which of two pairs stands ahead, by their Bs; whether pairs are in order: what the program answers.
  Conditions: lists of at most 2^38 pairs.
-/
import Derived.WalkKit
import Derived.WalkMore
import Derived.IntWalk
import Derived.Lib.Hide
import Derived.StillTailTactics
import Derived.Deep.Cut
import Derived.Test.YtolcdhdmonaeaaaProg
import Derived.Test.YtolcdhdmonaeaaaPList
namespace Go.Proofs.Ytolcdhdmonaeaaa
open Go.RowKit Go.Shelf
set_option linter.unusedVariables false

theorem nan_any (a : Int) (w : World) : Calls Try.prog 43 #[.int .i64 a] w fun e w' => e = .returned (.bool false) ∧ w = w' := by
  go_enter Try.func43, Try.ntmps43
  go_wp2_with fail
  go_ret
  exact ⟨rfl, rfl⟩
/-- which of two numbers is less -/
def cmpI (a b : Int) : Int := if a < b then -1 else if b < a then 1 else 0
theorem cmpI_neg (a b : Int) : decide (cmpI a b < 0) = decide (a < b) := by
  unfold cmpI
  split
  · rename_i h; simp [h]
  · rename_i h; split <;> simp [h]
set_option maxRecDepth 100000 in
set_option maxHeartbeats 1000000 in
theorem compare_any (a b : Int) (w : World) : Calls Try.prog 38 #[.int .i64 a, .int .i64 b] w fun e w' => e = .returned (.int .i64 (cmpI a b)) ∧ w = w' := by
  have HN := Lib.hid (fun x W => nan_any x W)
  have E1 : Hid (a < b → cmpI a b = -1) := Lib.hid (fun h => by simp [cmpI, h])
  have E2 : Hid (b < a → cmpI a b = 1) := Lib.hid (fun h => by simp [cmpI, h, show ¬ a < b from by omega])
  have E3 : Hid (¬ a < b → ¬ b < a → cmpI a b = 0) := Lib.hid (fun h k => by simp [cmpI, h, k])
  generalize cmpI a b = c at E1 E2 E3 ⊢
  rcases Int.lt_trichotomy a b with h | h | h
  · have E := Lib.hid (E1.out h)
    go_enter Try.func38, Try.ntmps38
    go_wp2_with fail
    refine (HN.out _ _).mono ?_; rintro e w1 ⟨rfl, rfl⟩
    go_wp2_with fail
    refine (HN.out _ _).mono ?_; rintro e w1 ⟨rfl, rfl⟩
    go_wp2_with fail
    go_ret
    exact ⟨by rw [E.out]; rfl, rfl⟩
  · have E := Lib.hid (E3.out (by omega) (by omega))
    have h1 : ¬ a < b := by omega
    have h2 : ¬ b < a := by omega
    clear h
    go_enter Try.func38, Try.ntmps38
    go_wp2_with fail
    refine (HN.out _ _).mono ?_; rintro e w1 ⟨rfl, rfl⟩
    go_wp2_with fail
    refine (HN.out _ _).mono ?_; rintro e w1 ⟨rfl, rfl⟩
    go_wp2_with fail
    go_ret
    exact ⟨by rw [E.out]; rfl, rfl⟩
  · have E := Lib.hid (E2.out h)
    have h1 : ¬ a < b := by omega
    go_enter Try.func38, Try.ntmps38
    go_wp2_with fail
    refine (HN.out _ _).mono ?_; rintro e w1 ⟨rfl, rfl⟩
    go_wp2_with fail
    refine (HN.out _ _).mono ?_; rintro e w1 ⟨rfl, rfl⟩
    go_wp2_with fail
    go_ret
    exact ⟨by rw [E.out]; rfl, rfl⟩
theorem compareB_any (a b c d : Int) (w : World) : Calls Try.prog 29 #[.agg #[.int .i64 a, .int .i64 b], .agg #[.int .i64 c, .int .i64 d]] w fun e w' => e = .returned (.int .i64 (cmpI b d)) ∧ Below w.heap.size w w' := by
  have C := Lib.hid (fun W => compare_any b d W)
  have HB := Lib.hid (two_below w (.cells #[.int .i64 a, .int .i64 b] 47) (.cells #[.int .i64 c, .int .i64 d] 47))
  go_enter Try.func29, Try.ntmps29
  go_wp2_with fail
  refine (C.out _).mono ?_; rintro e w1 ⟨rfl, rfl⟩
  go_wp2_with fail
  go_ret
  exact ⟨rfl, HB.out⟩
/-- no B is less than the one ahead of it -/
def risesB : PL → Bool
  | p :: q :: l => decide (p.2 ≤ q.2) && risesB (q :: l)
  | _ => true
theorem risesB_iff (l : PL) : risesB l = true ↔ ∀ (j : Nat) p q, l[j]? = some p → l[j + 1]? = some q → p.2 ≤ q.2 := by
  match l with
  | [] => simp [risesB]
  | [p] => simp [risesB]
  | p :: q :: l =>
    have ih := risesB_iff (q :: l)
    simp only [risesB, Bool.and_eq_true, decide_eq_true_eq, ih]
    constructor
    · rintro ⟨h1, h2⟩ j a b ha hb
      cases j with
      | zero => simp at ha hb; subst ha hb; exact h1
      | succ j => exact h2 j a b (by simpa using ha) (by simpa using hb)
    · intro h
      exact ⟨h 0 p q rfl rfl, fun j a b ha hb => h (j + 1) a b (by simpa using ha) (by simpa using hb)⟩
theorem rises_no (l : PL) (j : Nat) (p q : Int × Int) (hp : l[j]? = some p) (hq : l[j + 1]? = some q) (h : q.2 < p.2) : risesB l = false := by
  cases hr : risesB l with
  | false => rfl
  | true => have := (risesB_iff l).1 hr j p q hp hq; omega
theorem rises_yes (l : PL) (h : ∀ (j : Nat) p q, 1 ≤ j + 1 → l[j]? = some p → l[j + 1]? = some q → p.2 ≤ q.2) : risesB l = true := (risesB_iff l).2 (fun j p q hp hq => h j p q (by omega) hp hq)

set_option maxRecDepth 100000 in
set_option maxHeartbeats 1000000 in
theorem isSorted_any (b o cap : Nat) (xs : PL) (w : World) (hn : xs.length ≤ 274877906944) (hR : PairsAt w (some ⟨b, o, none⟩) xs) :
    Calls Try.prog 27 #[.slice (some ⟨b, o, none⟩) xs.length cap, .func (.func 29) #[] #[]] w fun e w' => e = .returned (.bool (risesB xs)) ∧ Below w.heap.size w w' := by
  have HRo := Lib.hid hR
  have C := Lib.hid (fun a b c d W => compareB_any a b c d W)
  have hent := enters_of Try.func29 (by kernel_rfl) rfl
  have HN := Lib.hid (rises_no xs)
  have HY := Lib.hid (rises_yes xs)
  clear hR
  generalize risesB xs = F at HN HY ⊢
  have hm : IntKind.i64.wrap ((xs.length : Int) - 1) = (xs.length : Int) - 1 := IntWalk.i64_in _ (by omega)
  go_enter Try.func27, Try.ntmps27
  go_wp2_with fail
  go_loopw [5] (fun i wr => ∃ k : Int, -1 ≤ k ∧ k < xs.length ∧ i = .int .i64 k ∧ Hid (Below w.heap.size w wr) ∧ Hid (∀ (j : Nat) p q, k < (j : Int) + 1 → xs[j]? = some p → xs[j + 1]? = some q → p.2 ≤ q.2)) (fun i _ => (intOf i).toNat)
  case atStart => exact ⟨(xs.length : Int) - 1, by omega, by omega, rfl, Lib.hid (Below.refl _ _), Lib.hid (fun j p q hj _ hq => by have := (List.getElem?_eq_some_iff.1 hq).1; omega)⟩
  case round =>
    obtain ⟨k, hk1, hk, rfl, HB, HJ⟩ := hrel
    by_cases hpos : k ≤ 0
    · have E := Lib.hid (HY.out (fun j p q h1 hp hq => HJ.out j p q (by omega) hp hq))
      go_wp2_with fail
      go_ret
      exact ⟨by rw [E.out]; rfl, HB.out⟩
    · obtain ⟨n, rfl⟩ := Int.eq_ofNat_of_zero_le (show 0 ≤ k by omega)
      obtain ⟨m, hmk⟩ : ∃ m, n = m + 1 := ⟨n - 1, by omega⟩
      obtain ⟨⟨x1, x2⟩, hx⟩ : ∃ x, xs[m]? = some x := ⟨_, List.getElem?_eq_getElem (by omega)⟩
      obtain ⟨⟨y1, y2⟩, hy⟩ : ∃ x, xs[n]? = some x := ⟨_, List.getElem?_eq_getElem (by omega)⟩
      rcases (HRo.out.kept HB.out) with h0 | ⟨b', o', hbo, hA, hcell⟩
      · rw [h0] at hk; simp at hk; omega
      cases hbo
      obtain ⟨hc1, hc2⟩ := hcell m _ hx
      obtain ⟨hd1, hd2⟩ := hcell n _ hy
      dsimp only at hc1 hc2 hd1 hd2
      have HX := Lib.hid hx
      have HYY : Hid (xs[m + 1]? = some (y1, y2)) := Lib.hid (by rw [← hmk]; exact hy)
      have hneg := cmpI_neg y2 x2
      have hsub : (n : Int) - 1 = (m : Int) := by omega
      have hwr : IntKind.i64.wrap ((n : Int) - 1) = (m : Int) := by rw [IntWalk.i64_in _ (by omega)]; exact hsub
      have hwm : IntKind.i64.wrap (m : Int) = (m : Int) := IntWalk.i64_in _ (by omega)
      have C1 := Lib.hid (fun W => C.out y1 y2 x1 x2 W)
      have hln : n < xs.length := by omega
      have hlm : m < xs.length := by omega
      have HJ' : Hid (x2 ≤ y2 → ∀ (j : Nat) p q, ((n : Int) - 1) < (j : Int) + 1 → xs[j]? = some p → xs[j + 1]? = some q → p.2 ≤ q.2) := Lib.hid (fun hle j p q hj hp hq => by
        by_cases e : j = m
        · subst e; rw [HX.out] at hp; rw [HYY.out] at hq; cases hp; cases hq; exact hle
        · exact HJ.out j p q (by omega) hp hq)
      have HNo : Hid (y2 < x2 → F = false) := Lib.hid (fun h => HN.out m _ _ HX.out HYY.out h)
      have HM := Lib.hid hmk
      clear hcell hx hy hmk HJ
      generalize cmpI y2 x2 = cc at hneg C1
      go_upto_region 4 with fail
      go_still_tail 10, (by kernel_rfl)
      rw [show ({ heap := wr.heap, tape := wr.tape, drawn := wr.drawn + 1, os := wr.os, output := wr.output } : World) = wr.drew from rfl]
      by_cases hlt : y2 < x2
      · have hc0 : cc < 0 := by rw [decide_eq_true hlt] at hneg; exact of_decide_eq_true hneg
        have E := Lib.hid (HNo.out hlt)
        clear hneg hlt
        go_wp2_with fail
        refine (C1.out _).mono ?_; rintro e w2 ⟨rfl, b1⟩
        have B1 := Lib.hid (below_up (show Below w.heap.size w wr.drew from bdn (n := 1) HB.out) b1)
        clear b1 hc1 hc2 hd1 hd2
        go_wp2_with fail
        go_ret
        exact ⟨by rw [E.out]; rfl, B1.out⟩
      · have hc0 : ¬ cc < 0 := by rw [decide_eq_false hlt] at hneg; exact of_decide_eq_false hneg
        have HJ2 := Lib.hid (HJ'.out (by omega))
        clear hneg hlt
        go_wp2_with fail
        refine (C1.out _).mono ?_; rintro e w2 ⟨rfl, b1⟩
        have B1 := Lib.hid (below_up (show Below w.heap.size w wr.drew from bdn (n := 1) HB.out) b1)
        clear b1 hc1 hc2 hd1 hd2
        go_wp2_with fail
        go_roundw
        case rel => exact ⟨(m : Int), by omega, by omega, by first | rfl | go_num, B1, Lib.hid (fun j p q hj hp hq => HJ2.out j p q (by omega) hp hq)⟩
        case measure => simp [intOf]; omega
end Go.Proofs.Ytolcdhdmonaeaaa
