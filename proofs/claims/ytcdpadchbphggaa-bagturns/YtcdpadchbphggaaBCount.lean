/-
  How often a text is in a list, and how much two lists have in common: the program's answers.
  Conditions: lists of at most 2^20 Go strings.
-/
import Derived.Maps.RangeWalk
import Derived.Sort.KeysCollected
import Derived.Test.YtcdpadchbphggaaProg
import Derived.Test.YtcdpadchbphggaaBTally
namespace Go.Proofs.Ytcdpadchbphggaa
open Go.RowKit Go.Shelf Go.Maps
set_option linter.unusedVariables false

theorem strb_eq (x y : ByteArray) : (x.toList == y.toList) = decide (x.data.toList = y.data.toList) := by
  rw [ba_toList, ba_toList]
  by_cases h : x.data.toList = y.data.toList
  · rw [h]; simp
  · rw [decide_eq_false h, beq_eq_false_iff_ne]; exact h

set_option maxRecDepth 100000 in
set_option maxHeartbeats 1000000 in
theorem count1_any (x s : ByteArray) (b : Nat) (w : World) (hb : w.heap[b]? = some (.cells #[.string s] 9 (0, 0))) :
    Calls Try.prog 18 #[.string x, .pointer (some ⟨b, 0, none⟩)] w fun e w' => e = .returned (.bool (decide (x.data.toList = s.data.toList))) ∧ Below w.heap.size w w' := by
  obtain ⟨cX, _⟩ := cell_of_box_l hb
  have hbe := strb_eq x s
  clear hb
  generalize decide (x.data.toList = s.data.toList) = t at hbe ⊢
  go_enter Try.func18, Try.ntmps18
  go_wp2_with fail
  go_ret
  exact ⟨rfl, Below.refl _ _⟩

set_option maxRecDepth 100000 in
set_option maxHeartbeats 1000000 in
theorem over1_any (x : ByteArray) (w : World) :
    Calls Try.prog 16 #[.string x] w fun e w' => e = .returned (.bool true) ∧ Below w.heap.size w w' := by
  go_enter Try.func16, Try.ntmps16
  go_wp2_with fail
  go_ret
  exact ⟨rfl, Below.refl _ _⟩

set_option maxRecDepth 100000 in
set_option maxHeartbeats 1000000 in
theorem over2_any (x : ByteArray) (b B k : Nat) (D : DataW Unit) (f : Txt → Nat) (w : World) (hx : x.size ≤ maxLen) (hb : w.heap[b]? = some (.cells #[.map (some B)] 30 (0, 0))) (hM : w.ownsMap Try.prog 9 (plainElem Try.prog 3) B k D) (hD : CntIs D f) :
    Calls Try.prog 17 #[.string x, .pointer (some ⟨b, 0, none⟩)] w fun e w' => e = .returned (.bool (decide (0 < f x.data.toList))) ∧ Below w.heap.size w w' := by
  obtain ⟨cX, _⟩ := cell_of_box_l hb
  have hrun := cnt_look hM hD x hx
  generalize f x.data.toList = c at hrun ⊢
  obtain ⟨z, hz⟩ : ∃ z : Int, z = (c : Int) := ⟨_, rfl⟩
  have e : decide (0 < c) = decide (0 < z) := by rw [hz]; simp
  rw [e]
  rw [← hz] at hrun
  clear hz hb hM hD e
  go_enter Try.func17, Try.ntmps17
  go_wp2_with fail
  go_ret
  exact ⟨rfl, Below.refl _ _⟩

set_option maxRecDepth 100000 in
set_option maxHeartbeats 2000000 in
theorem bcount_any (ao : Option Addr) (cap : Nat) (xs : List ByteArray) (s : ByteArray) (w : World) (hn : xs.length ≤ 1048576) (hs : ∀ c ∈ xs, c.size ≤ maxLen) (ht : s.size ≤ maxLen) (hR : StrRow w ao xs) :
    Calls Try.prog 12 #[.slice ao xs.length cap, .string s] w fun e w' => e = .returned (.int .i64 ((cntN s.data.toList (bytesOf xs) : Nat) : Int)) ∧ Below w.heap.size w w' := by
  obtain ⟨V, HV⟩ : ∃ V, Hid (V = w.alloc (.cells #[.string s] 9)) := ⟨_, Lib.hid rfl⟩
  have hX : V.heap[w.heap.size]? = some (.cells #[.string s] 9 (0, 0)) := by rw [HV.out]; exact World.alloc_heap_new _ _
  have hB : Below w.heap.size w V.drew := Below.drew (by rw [HV.out]; exact (Below.refl _ _).alloc (Nat.le_refl _) _)
  have C := Lib.hid (tally_any 18 #[.pointer (some ⟨w.heap.size, 0, none⟩)] (fun l => decide (l = s.data.toList)) (enters_of Try.func18 (by kernel_rfl) rfl) ao cap xs V.drew hn hs (hR.kept hB)
    (fun x hx W hW => count1_any x s w.heap.size W ((hW.block _ (lt_of_heap hX)).trans hX)))
  have HB := Lib.hid hB
  have HX := Lib.hid hX
  have HT := Lib.hid ht
  obtain ⟨cX, _⟩ := cell_of_box_l hX
  clear hR hs hX hB ht
  go_enter Try.func12, Try.ntmps12
  go_upto_region 1 with fail
  rw [← HV.out]
  clear HV
  go_region_with (go_at_call 15; (refine C.out.mono ?_); rintro e w1 ⟨B, D, rfl, -, hM, hD, b1⟩; have HB1 := Lib.hid (below_up HB.out b1); obtain ⟨cX1, _⟩ := cell_of_box_l ((b1.block _ (lt_of_heap HX.out)).trans HX.out); have hrun := cnt_look hM hD s HT.out; (simp only [decide_true, if_true] at hrun); clear b1 hM hD)
  all_goals
    go_wp2_with fail
    go_ret
    exact ⟨rfl, HB1.out⟩
end Go.Proofs.Ytcdpadchbphggaa
