/-
  What the document's reference answers for a cell in quotes and for a cell as it is written.
  Conditions: the text is at most 2^40 bytes long (the statements ask about far shorter ones).
-/
import Derived.WalkKit
import Derived.WalkMore
import Derived.Lib.Hide
import Derived.Deep.QuietTactic
import Derived.BigQuiet
import Derived.Test.YtacclgfpmkhodaaProg
import Derived.Test.YtacclgfpmkhodaaQuoted
namespace Go.Proofs.Ytacclgfpmkhodaa
open Go.RowKit Go.Shelf

theorem ba_toList (s : ByteArray) : s.toList = s.data.toList := by
  obtain ⟨⟨l⟩⟩ := s
  exact ByteArray.toList_mk l
theorem ba_ext (s : ByteArray) (a b : Nat) : (s.extract a b).data.toList = (s.data.toList.take b).drop a := by
  simp [List.drop_take]
theorem ba_app (a b : ByteArray) : (a ++ b).data.toList = a.data.toList ++ b.data.toList := by simp
theorem ba_size (s : ByteArray) : s.data.toList.length = s.size := by simp
theorem ba_eq {a b : ByteArray} (h : a.data.toList = b.data.toList) : a = b := by
  obtain ⟨⟨a⟩⟩ := a; obtain ⟨⟨b⟩⟩ := b; simp at h; rw [h]
theorem ba_mk_size (l : List UInt8) : (⟨l.toArray⟩ : ByteArray).size = l.length := by simp [ByteArray.size]
theorem ret_str {a b : ByteArray} (h : a.data.toList = b.data.toList) : Ending.returned (.string a) = .returned (.string b) := by rw [ba_eq h]
theorem ba_empty (s : ByteArray) (h : 0 < s.size) : s.toList.isEmpty = false := by
  rw [ba_toList, List.isEmpty_eq_false_iff]; intro e; have := ba_size s; rw [e] at this; simp at this; omega
theorem ba_head (s : ByteArray) (h : 0 < s.size) : s.data.toList = s[0] :: (s.extract 1 s.size).data.toList := by
  have hd := List.drop_eq_getElem_cons (l := s.data.toList) (i := 0) (by rw [ba_size]; exact h)
  rw [List.drop_zero] at hd
  rw [ba_ext, List.take_of_length_le (by rw [ba_size]; omega)]; exact hd

set_option maxHeartbeats 1000000 in
theorem clone_any (s : ByteArray) (w : World) (hs : s.size ≤ 1099511627776) :
    Calls Try.prog 47 #[.string s] w fun e w' => e = .returned (.string s) ∧ Below w.heap.size w w' := by
  go_enter Try.func47, Try.ntmps47
  go_wp2_with fail
  refine (liteClone _ _ (by omega)).mono ?_
  rintro e w1 ⟨rfl, hb⟩
  go_wp2_with fail
  go_ret
  exact ⟨rfl, hb⟩

set_option maxHeartbeats 1000000 in
theorem put_any (s : ByteArray) (d : Int) (w : World) (hs : s.size ≤ 1099511627776) :
    Calls Try.prog 42 #[.string s, .int .u8 d] w fun e w' => e = .returned (.string ⟨(putL s.data.toList d).toArray⟩) ∧ Below w.heap.size w w' := by
  cases hp : plainB s.data.toList d with
  | true =>
    have C := Lib.hid (fun w => plain_any s d w (by omega))
    rw [hp] at C
    have HP := Lib.hid hp; clear hp
    go_enter Try.func42, Try.ntmps42
    go_wp2_with fail
    refine (C.out _).mono ?_
    rintro e w1 ⟨rfl, rfl⟩
    go_wp2_with fail
    refine (clone_any _ _ hs).mono ?_
    rintro e w2 ⟨rfl, hb⟩
    go_wp2_with fail
    go_ret
    exact ⟨ret_str (by simp [putL, HP.out]), hb⟩
  | false =>
    have C := Lib.hid (fun w => plain_any s d w (by omega))
    rw [hp] at C
    have HP := Lib.hid hp; clear hp
    go_enter Try.func42, Try.ntmps42
    go_wp2_with fail
    refine (C.out _).mono ?_
    rintro e w1 ⟨rfl, rfl⟩
    go_wp2_with fail
    refine (quoted_any _ _ hs).mono ?_
    rintro e w2 ⟨rfl, hb⟩
    go_wp2_with fail
    go_ret
    exact ⟨ret_str (by simp [putL, HP.out]), hb⟩

end Go.Proofs.Ytacclgfpmkhodaa
