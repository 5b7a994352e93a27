/-
  What ends a turn: an error that is not OK, a place that is none.
  Conditions: none.
-/
import Derived.WalkKit
import Derived.WalkMore
import Derived.WalkLawsBesides
import Derived.Lib.Hide
import Derived.Test.YtigijgcldgbokaaGreatProg
import Derived.Test.YtigijgcldgbokaaGreatEVal
namespace Go.Proofs.YtigijgcldgbokaaGreat
open Go.RowKit Go.Shelf
set_option linter.unusedVariables false

/-- what a call leaves that is stopped by an error, or goes on -/
def GoOn (x : Int) (w : World) (e : Ending) (w' : World) : Prop := (x = 0 ∧ e = .returned (.tuple #[]) ∨ x ≠ 0 ∧ e = stopE x) ∧ w' = w
theorem stop_any (x : Int) (w : World) : Calls Tryz.prog 72 #[.int .i64 x] w (GoOn x w) := by
  by_cases h : x = 0
  · have hb : (x != 0) = false := by simp [h]
    have H := Lib.hid h
    clear h
    go_enter Tryz.func72, Tryz.ntmps72
    go_wp2_with fail
    go_end0
    exact ⟨.inl ⟨H.out, rfl⟩, rfl⟩
  · have hb : (x != 0) = true := by simp [h]
    have H := Lib.hid h
    clear h
    go_enter Tryz.func72, Tryz.ntmps72
    go_wp2_with fail
    exact ⟨rfl, .inr ⟨H.out, rfl⟩, rfl⟩
theorem stopIf_any (b : Bool) (x : Int) (w : World) (hx : x ≠ 0) : Calls Tryz.prog 105 #[.bool b, .int .i64 x] w (GoOn (if b then x else 0) w) := by
  cases b with
  | false =>
    go_enter Tryz.func105, Tryz.ntmps105
    go_wp2_with fail
    go_end0
    exact ⟨.inl ⟨rfl, rfl⟩, rfl⟩
  | true =>
    have C := Lib.hid (stop_any x w)
    go_enter Tryz.func105, Tryz.ntmps105
    go_wp2_with fail
    refine C.out.mono ?_; rintro e w' ⟨⟨h, rfl⟩ | ⟨h, rfl⟩, rfl⟩
    · exact absurd h hx
    unfold stopE
    go_wp2_with fail
    exact ⟨rfl, .inr ⟨hx, rfl⟩, rfl⟩
set_option maxRecDepth 100000 in
theorem need_any (k n : Int) (w : World) : Calls Tryz.prog 75 #[.int .i64 k, .int .i64 n] w (GoOn (if 0 ≤ k ∧ k < n then 0 else 11) w) := by
  by_cases h1 : k < 0
  · have C := Lib.hid (stopIf_any true 11 w (by decide))
    rw [if_neg (by omega)]
    simp only [if_true] at C
    go_enter Tryz.func75, Tryz.ntmps75
    go_wp2_with fail
    refine C.out.mono ?_; rintro e w' ⟨⟨h, rfl⟩ | ⟨h, rfl⟩, rfl⟩
    · cases h
    unfold stopE
    go_wp2_with fail
    exact ⟨rfl, .inr ⟨h, rfl⟩, rfl⟩
  · have C := Lib.hid (stopIf_any (decide (n ≤ k)) 11 w (by decide))
    rw [show (if 0 ≤ k ∧ k < n then (0 : Int) else 11) = (if decide (n ≤ k) = true then 11 else 0) from by
      by_cases h2 : k < n
      · rw [if_pos ⟨by omega, h2⟩, if_neg (by simp; omega)]
      · rw [if_neg (by omega), if_pos (by simp; omega)]]
    generalize (if decide (n ≤ k) = true then (11 : Int) else 0) = x at C ⊢
    go_enter Tryz.func75, Tryz.ntmps75
    go_wp2_with fail
    refine C.out.mono ?_; rintro e w' ⟨⟨h, rfl⟩ | ⟨h, rfl⟩, rfl⟩
    · go_wp2_with fail
      go_end0
      exact ⟨.inl ⟨h, rfl⟩, rfl⟩
    · unfold stopE
      go_wp2_with fail
      exact ⟨rfl, .inr ⟨h, rfl⟩, rfl⟩
end Go.Proofs.YtigijgcldgbokaaGreat
