/-
  What the program and the document's reference answer for bytes that may stand between fields, and for cells that need no quotes.
  Conditions: the text is a Go string (no longer than the model lets one be).
-/
import Derived.WalkKit
import Derived.WalkMore
import Derived.Lib.Hide
import Derived.Deep.LoopGhost
import Derived.Test.YtacclgfpmkhodaaProg
import Derived.Test.YtacclgfpmkhodaaCount
namespace Go.Proofs.Ytacclgfpmkhodaa
open Go.RowKit Go.Shelf

theorem ret_bool {a b : Bool} (h : a = b) : Ending.returned (.bool a) = .returned (.bool b) := by rw [h]

set_option maxHeartbeats 400000 in
theorem good_any (d : Int) (w : World) :
    Calls Try.prog 10 #[.int .u8 d] w fun e w' => e = .returned (.bool (goodI d)) ∧ w = w' := by
  by_cases h1 : d = 34
  · subst h1
    go_enter Try.func10, Try.ntmps10
    go_wp2
    go_ret
    exact ⟨ret_bool rfl, rfl⟩
  by_cases h2 : d = 13
  · subst h2
    go_enter Try.func10, Try.ntmps10
    go_wp2
    go_ret
    exact ⟨ret_bool rfl, rfl⟩
  by_cases h3 : d = 10
  · subst h3
    go_enter Try.func10, Try.ntmps10
    go_wp2
    go_ret
    exact ⟨ret_bool rfl, rfl⟩
  have e1 : (d == 34) = false := beq_eq_false_iff_ne.2 h1
  have e2 : (d == 13) = false := beq_eq_false_iff_ne.2 h2
  have e3 : (d == 10) = false := beq_eq_false_iff_ne.2 h3
  have e4 : (34 == d) = false := beq_eq_false_iff_ne.2 (Ne.symm h1)
  have e5 : (13 == d) = false := beq_eq_false_iff_ne.2 (Ne.symm h2)
  have e6 : (10 == d) = false := beq_eq_false_iff_ne.2 (Ne.symm h3)
  have eg : goodI d = true := by simp [goodI, e1, e2, e3]
  rw [eg]
  clear h1 h2 h3 eg
  go_enter Try.func10, Try.ntmps10
  go_wp2
  go_ret
  exact ⟨rfl, rfl⟩

set_option maxHeartbeats 400000 in
theorem rgood_any (d : Int) (w : World) :
    Calls Try.prog 15 #[.int .u8 d] w fun e w' => e = .returned (.bool (goodI d)) ∧ w = w' := by
  by_cases h1 : d = 34
  · subst h1
    go_enter Try.func15, Try.ntmps15
    go_wp2
    go_ret
    exact ⟨ret_bool rfl, rfl⟩
  by_cases h2 : d = 13
  · subst h2
    go_enter Try.func15, Try.ntmps15
    go_wp2
    go_ret
    exact ⟨ret_bool rfl, rfl⟩
  by_cases h3 : d = 10
  · subst h3
    go_enter Try.func15, Try.ntmps15
    go_wp2
    go_ret
    exact ⟨ret_bool rfl, rfl⟩
  have e1 : (d != 34) = true := bne_iff_ne.2 h1
  have e2 : (d != 13) = true := bne_iff_ne.2 h2
  have e3 : (d != 10) = true := bne_iff_ne.2 h3
  have eg : goodI d = true := by simp [goodI, h1, h2, h3]
  rw [eg]
  clear h1 h2 h3 eg
  go_enter Try.func15, Try.ntmps15
  go_wp2
  go_ret
  exact ⟨rfl, rfl⟩

theorem plainB_snoc (s : ByteArray) (k : Nat) (d : Int) (h : k < s.size) : plainB (s.data.toList.take (k + 1)) d = (plainB (s.data.toList.take k) d && (goodI (s[k].toNat : Int) && (s[k].toNat : Int) != d)) := by
  rw [take_snoc s k h, plainB_append]; simp [plainB]
theorem plainB_false (s : ByteArray) (k : Nat) (d : Int) (h : k < s.size) (hb : (goodI (s[k].toNat : Int) && (s[k].toNat : Int) != d) = false) : plainB s.data.toList d = false := by
  have e : s.data.toList = s.data.toList.take (k + 1) ++ s.data.toList.drop (k + 1) := (List.take_append_drop _ _).symm
  rw [e, plainB_append, plainB_snoc s k d h, hb]; simp

set_option maxHeartbeats 1000000 in
theorem plain_any (s : ByteArray) (d : Int) (w : World) (hs : s.size ≤ 281474976710656) :
    Calls Try.prog 46 #[.string s, .int .u8 d] w fun e w' => e = .returned (.bool (plainB s.data.toList d)) ∧ w = w' := by
  go_enter Try.func46, Try.ntmps46
  go_wp2_with fail
  go_step3
  go_wp2_with fail
  go_step3
  go_wp2_with fail
  go_loop [5, 9] (fun b i => ∃ k : Nat, k ≤ s.size ∧ b = .bool true ∧ i = .int .i64 k ∧ Hid (plainB (s.data.toList.take k) d = true)) (fun _ i => s.size - (intOf i).toNat)
  case atStart => exact ⟨0, Nat.zero_le _, rfl, rfl, Lib.hid rfl⟩
  case round =>
    obtain ⟨k, hk, rfl, rfl, HP⟩ := hrel
    by_cases hlt : k < s.size
    · cases hg : goodI (s[k].toNat : Int) with
      | false =>
        have HF : Hid (plainB s.data.toList d = false) := Lib.hid (plainB_false s k d hlt (by rw [hg]; rfl))
        go_wp2_with (go_at_call 10; refine (good_any _ _).mono ?_; rintro e w' ⟨rfl, rfl⟩)
        try rw [Exit.noGoto_ret]
        go_ret
        exact ⟨ret_bool HF.out.symm, rfl⟩
      | true =>
        cases hd : ((s[k].toNat : Int) != d) with
        | false =>
          have HF : Hid (plainB s.data.toList d = false) := Lib.hid (plainB_false s k d hlt (by rw [hg, hd]; rfl))
          go_wp2_with (go_at_call 10; refine (good_any _ _).mono ?_; rintro e w' ⟨rfl, rfl⟩)
          try rw [Exit.noGoto_ret]
          go_ret
          exact ⟨ret_bool HF.out.symm, rfl⟩
        | true =>
          have HN : Hid (plainB (s.data.toList.take (k + 1)) d = true) := Lib.hid (by rw [plainB_snoc s k d hlt, HP.out, hg, hd]; rfl)
          go_wp2_with (go_at_call 10; refine (good_any _ _).mono ?_; rintro e w' ⟨rfl, rfl⟩)
          go_round
          case rel => exact ⟨k + 1, by omega, rfl, by go_num, HN⟩
          case measure => simp [intOf]; omega
    · have HT : Hid (plainB s.data.toList d = true) := Lib.hid (by rw [← HP.out, List.take_of_length_le (by simp; omega)])
      go_wp2_with fail
      try rw [Exit.noGoto_ret]
      go_ret
      exact ⟨ret_bool HT.out.symm, rfl⟩

end Go.Proofs.Ytacclgfpmkhodaa
