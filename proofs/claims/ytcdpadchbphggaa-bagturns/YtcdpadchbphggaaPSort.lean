/-
  Which of two pairs stands ahead, by their Bs; whether pairs are in order: what the program answers.
  Conditions: lists of at most 2^38 pairs.
-/
import Derived.WalkKit
import Derived.WalkMore
import Derived.IntWalk
import Derived.Lib.Hide
import Derived.StillTailTactics
import Derived.Deep.Cut
import Derived.Test.YtcdpadchbphggaaProg
import Derived.Test.YtcdpadchbphggaaPList
namespace Go.Proofs.Ytcdpadchbphggaa
open Go.RowKit Go.Shelf
set_option linter.unusedVariables false

/-- which of two numbers is less -/
def cmpI (a b : Int) : Int := if a < b then -1 else if b < a then 1 else 0
theorem cmpI_neg (a b : Int) : decide (cmpI a b < 0) = decide (a < b) := by
  unfold cmpI
  split
  · rename_i h; simp [h]
  · rename_i h; split <;> simp [h]
/-- no B is less than the one ahead of it -/
def risesB : PL → Bool
  | p :: q :: l => decide (p.2 ≤ q.2) && risesB (q :: l)
  | _ => true
theorem risesB_iff (l : PL) : risesB l = true ↔ ∀ (j : Nat) p q, l[j]? = some p → l[j + 1]? = some q → p.2 ≤ q.2 := by
  match l with
  | [] => simp [risesB]
  | [p] => simp [risesB]
  | p :: q :: l =>
    have ih := risesB_iff (q :: l)
    simp only [risesB, Bool.and_eq_true, decide_eq_true_eq, ih]
    constructor
    · rintro ⟨h1, h2⟩ j a b ha hb
      cases j with
      | zero => simp at ha hb; subst ha hb; exact h1
      | succ j => exact h2 j a b (by simpa using ha) (by simpa using hb)
    · intro h
      exact ⟨h 0 p q rfl rfl, fun j a b ha hb => h (j + 1) a b (by simpa using ha) (by simpa using hb)⟩
theorem rises_no (l : PL) (j : Nat) (p q : Int × Int) (hp : l[j]? = some p) (hq : l[j + 1]? = some q) (h : q.2 < p.2) : risesB l = false := by
  cases hr : risesB l with
  | false => rfl
  | true => have := (risesB_iff l).1 hr j p q hp hq; omega
theorem rises_yes (l : PL) (h : ∀ (j : Nat) p q, 1 ≤ j + 1 → l[j]? = some p → l[j + 1]? = some q → p.2 ≤ q.2) : risesB l = true := (risesB_iff l).2 (fun j p q hp hq => h j p q (by omega) hp hq)

end Go.Proofs.Ytcdpadchbphggaa
