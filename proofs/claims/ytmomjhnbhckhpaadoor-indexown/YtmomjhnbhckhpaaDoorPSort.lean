/-
  Which of two pairs stands ahead, by their Bs; whether pairs are in order: what the program answers.
  Conditions: lists of at most 2^38 pairs.
-/
import Derived.WalkKit
import Derived.WalkMore
import Derived.IntWalk
import Derived.Lib.Hide
import Derived.StillTailTactics
import Derived.Deep.Cut
import Derived.Test.YtmomjhnbhckhpaaDoorProg
import Derived.Test.YtmomjhnbhckhpaaDoorPList
namespace Go.Proofs.YtmomjhnbhckhpaaDoor
open Go.RowKit Go.Shelf
set_option linter.unusedVariables false

theorem nan_any (a : Int) (w : World) : Calls Tryd.prog 73 #[.int .i64 a] w fun e w' => e = .returned (.bool false) ∧ w = w' := by
  go_enter Tryd.func73, Tryd.ntmps73
  go_wp2_with fail
  go_ret
  exact ⟨rfl, rfl⟩
/-- which of two numbers is less -/
def cmpI (a b : Int) : Int := if a < b then -1 else if b < a then 1 else 0
theorem cmpI_neg (a b : Int) : decide (cmpI a b < 0) = decide (a < b) := by
  unfold cmpI
  split
  · rename_i h; simp [h]
  · rename_i h; split <;> simp [h]
set_option maxRecDepth 100000 in
set_option maxHeartbeats 1000000 in
theorem compare_any (a b : Int) (w : World) : Calls Tryd.prog 55 #[.int .i64 a, .int .i64 b] w fun e w' => e = .returned (.int .i64 (cmpI a b)) ∧ w = w' := by
  have HN := Lib.hid (fun x W => nan_any x W)
  have E1 : Hid (a < b → cmpI a b = -1) := Lib.hid (fun h => by simp [cmpI, h])
  have E2 : Hid (b < a → cmpI a b = 1) := Lib.hid (fun h => by simp [cmpI, h, show ¬ a < b from by omega])
  have E3 : Hid (¬ a < b → ¬ b < a → cmpI a b = 0) := Lib.hid (fun h k => by simp [cmpI, h, k])
  generalize cmpI a b = c at E1 E2 E3 ⊢
  rcases Int.lt_trichotomy a b with h | h | h
  · have E := Lib.hid (E1.out h)
    go_enter Tryd.func55, Tryd.ntmps55
    go_wp2_with fail
    refine (HN.out _ _).mono ?_; rintro e w1 ⟨rfl, rfl⟩
    go_wp2_with fail
    refine (HN.out _ _).mono ?_; rintro e w1 ⟨rfl, rfl⟩
    go_wp2_with fail
    go_ret
    exact ⟨by rw [E.out]; rfl, rfl⟩
  · have E := Lib.hid (E3.out (by omega) (by omega))
    have h1 : ¬ a < b := by omega
    have h2 : ¬ b < a := by omega
    clear h
    go_enter Tryd.func55, Tryd.ntmps55
    go_wp2_with fail
    refine (HN.out _ _).mono ?_; rintro e w1 ⟨rfl, rfl⟩
    go_wp2_with fail
    refine (HN.out _ _).mono ?_; rintro e w1 ⟨rfl, rfl⟩
    go_wp2_with fail
    go_ret
    exact ⟨by rw [E.out]; rfl, rfl⟩
  · have E := Lib.hid (E2.out h)
    have h1 : ¬ a < b := by omega
    go_enter Tryd.func55, Tryd.ntmps55
    go_wp2_with fail
    refine (HN.out _ _).mono ?_; rintro e w1 ⟨rfl, rfl⟩
    go_wp2_with fail
    refine (HN.out _ _).mono ?_; rintro e w1 ⟨rfl, rfl⟩
    go_wp2_with fail
    go_ret
    exact ⟨by rw [E.out]; rfl, rfl⟩
/-- no B is less than the one ahead of it -/
def risesB : PL → Bool
  | p :: q :: l => decide (p.2 ≤ q.2) && risesB (q :: l)
  | _ => true
theorem risesB_iff (l : PL) : risesB l = true ↔ ∀ (j : Nat) p q, l[j]? = some p → l[j + 1]? = some q → p.2 ≤ q.2 := by
  match l with
  | [] => simp [risesB]
  | [p] => simp [risesB]
  | p :: q :: l =>
    have ih := risesB_iff (q :: l)
    simp only [risesB, Bool.and_eq_true, decide_eq_true_eq, ih]
    constructor
    · rintro ⟨h1, h2⟩ j a b ha hb
      cases j with
      | zero => simp at ha hb; subst ha hb; exact h1
      | succ j => exact h2 j a b (by simpa using ha) (by simpa using hb)
    · intro h
      exact ⟨h 0 p q rfl rfl, fun j a b ha hb => h (j + 1) a b (by simpa using ha) (by simpa using hb)⟩
theorem rises_no (l : PL) (j : Nat) (p q : Int × Int) (hp : l[j]? = some p) (hq : l[j + 1]? = some q) (h : q.2 < p.2) : risesB l = false := by
  cases hr : risesB l with
  | false => rfl
  | true => have := (risesB_iff l).1 hr j p q hp hq; omega
theorem rises_yes (l : PL) (h : ∀ (j : Nat) p q, 1 ≤ j + 1 → l[j]? = some p → l[j + 1]? = some q → p.2 ≤ q.2) : risesB l = true := (risesB_iff l).2 (fun j p q hp hq => h j p q (by omega) hp hq)

end Go.Proofs.YtmomjhnbhckhpaaDoor
