/-
  How often a text is in a list, and how much two lists have in common: the program's answers.
  Conditions: lists of at most 2^20 Go strings.
-/
import Derived.Maps.RangeWalk
import Derived.Sort.KeysCollected
import Derived.Test.YtigijgcldgbokaaGreatProg
import Derived.Test.YtigijgcldgbokaaGreatBTally
namespace Go.Proofs.YtigijgcldgbokaaGreat
open Go.RowKit Go.Shelf Go.Maps
set_option linter.unusedVariables false

theorem strb_eq (x y : ByteArray) : (x.toList == y.toList) = decide (x.data.toList = y.data.toList) := by
  rw [ba_toList, ba_toList]
  by_cases h : x.data.toList = y.data.toList
  · rw [h]; simp
  · rw [decide_eq_false h, beq_eq_false_iff_ne]; exact h

set_option maxRecDepth 100000 in
set_option maxHeartbeats 1000000 in
theorem over1_any (x : ByteArray) (w : World) :
    Calls Tryz.prog 122 #[.string x] w fun e w' => e = .returned (.bool true) ∧ Below w.heap.size w w' := by
  go_enter Tryz.func122, Tryz.ntmps122
  go_wp2_with fail
  go_ret
  exact ⟨rfl, Below.refl _ _⟩

set_option maxRecDepth 100000 in
set_option maxHeartbeats 1000000 in
theorem over2_any (x : ByteArray) (b B k : Nat) (D : DataW Unit) (f : Txt → Nat) (w : World) (hx : x.size ≤ maxLen) (hb : w.heap[b]? = some (.cells #[.map (some B)] 55 (0, 0))) (hM : w.ownsMap Tryz.prog 9 (plainElem Tryz.prog 3) B k D) (hD : CntIs D f) :
    Calls Tryz.prog 123 #[.string x, .pointer (some ⟨b, 0, none⟩)] w fun e w' => e = .returned (.bool (decide (0 < f x.data.toList))) ∧ Below w.heap.size w w' := by
  obtain ⟨cX, _⟩ := cell_of_box_l hb
  have hrun := cnt_look hM hD x hx
  generalize f x.data.toList = c at hrun ⊢
  obtain ⟨z, hz⟩ : ∃ z : Int, z = (c : Int) := ⟨_, rfl⟩
  have e : decide (0 < c) = decide (0 < z) := by rw [hz]; simp
  rw [e]
  rw [← hz] at hrun
  clear hz hb hM hD e
  go_enter Tryz.func123, Tryz.ntmps123
  go_wp2_with fail
  go_ret
  exact ⟨rfl, Below.refl _ _⟩

end Go.Proofs.YtigijgcldgbokaaGreat
