/-
  What the document's reference answers for a cell in quotes and for a cell as it is written.
  Conditions: the text is at most 2^40 bytes long (the statements ask about far shorter ones).
-/
import Derived.WalkKit
import Derived.WalkMore
import Derived.Lib.Hide
import Derived.Deep.QuietTactic
import Derived.BigQuiet
import Derived.Test.YtebnmenglgadpaaProg
import Derived.Test.YtebnmenglgadpaaQuoted
namespace Go.Proofs.Ytebnmenglgadpaa
open Go.RowKit Go.Shelf

theorem ba_toList (s : ByteArray) : s.toList = s.data.toList := by
  obtain ⟨⟨l⟩⟩ := s
  exact ByteArray.toList_mk l
theorem ba_ext (s : ByteArray) (a b : Nat) : (s.extract a b).data.toList = (s.data.toList.take b).drop a := by
  simp [List.drop_take]
theorem ba_app (a b : ByteArray) : (a ++ b).data.toList = a.data.toList ++ b.data.toList := by simp
theorem ba_size (s : ByteArray) : s.data.toList.length = s.size := by simp
theorem ba_eq {a b : ByteArray} (h : a.data.toList = b.data.toList) : a = b := by
  obtain ⟨⟨a⟩⟩ := a; obtain ⟨⟨b⟩⟩ := b; simp at h; rw [h]
theorem ba_mk_size (l : List UInt8) : (⟨l.toArray⟩ : ByteArray).size = l.length := by simp [ByteArray.size]
theorem ret_str {a b : ByteArray} (h : a.data.toList = b.data.toList) : Ending.returned (.string a) = .returned (.string b) := by rw [ba_eq h]
theorem ba_empty (s : ByteArray) (h : 0 < s.size) : s.toList.isEmpty = false := by
  rw [ba_toList, List.isEmpty_eq_false_iff]; intro e; have := ba_size s; rw [e] at this; simp at this; omega
theorem ba_head (s : ByteArray) (h : 0 < s.size) : s.data.toList = s[0] :: (s.extract 1 s.size).data.toList := by
  have hd := List.drop_eq_getElem_cons (l := s.data.toList) (i := 0) (by rw [ba_size]; exact h)
  rw [List.drop_zero] at hd
  rw [ba_ext, List.take_of_length_le (by rw [ba_size]; omega)]; exact hd

set_option maxHeartbeats 1000000 in
theorem twice_any (n : Nat) : ∀ (s : ByteArray) (w : World), s.size ≤ n → n ≤ 1099511627776 →
    Calls Try.prog 76 #[.string s] w fun e w' => e = .returned (.string ⟨(twice s.data.toList).toArray⟩) ∧ ∃ m, w' = w.drewN m := by
  induction n with
  | zero =>
    intro s w h0 _
    obtain rfl : s = ⟨#[]⟩ := by cases s; simp [ByteArray.size] at h0; simp [h0]
    go_enter Try.func76, Try.ntmps76
    go_wp2_with fail
    go_ret
    exact ⟨rfl, 0, rfl⟩
  | succ n ih =>
    intro s w hl hn
    have IH := Lib.hid ih; clear ih
    by_cases h0 : s.size = 0
    · obtain rfl : s = ⟨#[]⟩ := by cases s; simp [ByteArray.size] at h0; simp [h0]
      go_enter Try.func76, Try.ntmps76
      go_wp2_with fail
      go_ret
      exact ⟨rfl, 0, rfl⟩
    have hpos : 0 < s.size := by omega
    clear h0
    have hE := ba_empty s hpos
    have hp1 : (1 : Int) ≤ (s.size : Int) := by omega
    obtain ⟨t, Ht, hts⟩ : ∃ t : ByteArray, Hid (t = ⟨(twice (s.extract 1 s.size).data.toList).toArray⟩) ∧ t.size ≤ 2199023255552 := by
      refine ⟨_, Lib.hid rfl, ?_⟩
      have h1 := twice_length (s.extract 1 s.size).data.toList; have h2 := cnt_le (s.extract 1 s.size).data.toList
      have h3 : (s.extract 1 s.size).data.toList.length = s.size - 1 := by simp
      rw [ba_mk_size]; omega
    have C := Lib.hid (fun w => IH.out (s.extract 1 s.size) w (by simp; omega) (by omega))
    rw [← Ht.out] at C
    have HH := Lib.hid (ba_head s hpos)
    clear IH
    by_cases hc : s[0] = 34
    · have h1 : ((s[0].toNat : Int) == 34) = true := by rw [hc]; rfl
      have HC := Lib.hid hc; clear hc
      go_enter Try.func76, Try.ntmps76
      go_wp2_with fail
      refine (C.out _).mono ?_
      rintro e w1 ⟨rfl, m, rfl⟩
      go_wp2_with fail
      go_ret
      exact ⟨ret_str (by rw [ba_app, Ht.out, HH.out]; simp [twice, HC.out]), m, rfl⟩
    · have h1 : ((s[0].toNat : Int) == 34) = false := by
        rw [beq_eq_false_iff_ne]; intro e; exact hc (UInt8.toNat_inj.1 (by show s[0].toNat = 34; omega))
      have HC := Lib.hid hc; clear hc
      go_enter Try.func76, Try.ntmps76
      go_wp2_with fail
      go_quiet ((go_at_call 76; exact Calls.quiet_of (C.out _)))
      go_wp2_with fail
      go_ret
      refine ⟨ret_str ?_, nq, rfl⟩
      have e0 : (s.extract 0 1).data.toList = [s[0]] := by rw [ba_ext, HH.out]; simp
      rw [ba_app, Ht.out, e0, HH.out]; simp [twice, HC.out]

set_option maxHeartbeats 1000000 in
theorem rquoted_any (s : ByteArray) (w : World) (hs : s.size ≤ 1099511627776) :
    Calls Try.prog 64 #[.string s] w fun e w' => e = .returned (.string ⟨(quoted s.data.toList).toArray⟩) ∧ ∃ m, w' = w.drewN m := by
  obtain ⟨t, Ht, hts⟩ : ∃ t : ByteArray, Hid (t = ⟨(twice s.data.toList).toArray⟩) ∧ t.size ≤ 2199023255552 := by
    refine ⟨_, Lib.hid rfl, ?_⟩
    have h1 := twice_length s.data.toList; have h2 := cnt_le s.data.toList
    have h3 := ba_size s
    rw [ba_mk_size]; omega
  have C := Lib.hid (fun w => twice_any s.size s w (Nat.le_refl _) hs)
  rw [← Ht.out] at C
  go_enter Try.func64, Try.ntmps64
  go_wp2_with fail
  refine (C.out _).mono ?_
  rintro e w1 ⟨rfl, m, rfl⟩
  go_wp2_with fail
  go_ret
  exact ⟨ret_str (by rw [ba_app, ba_app, Ht.out]; simp [quoted]), m, rfl⟩

set_option maxHeartbeats 1000000 in
theorem rput_any (s : ByteArray) (d : Int) (w : World) (hs : s.size ≤ 1099511627776) :
    Calls Try.prog 53 #[.string s, .int .u8 d] w fun e w' => e = .returned (.string ⟨(putL s.data.toList d).toArray⟩) ∧ ∃ m, w' = w.drewN m := by
  cases hp : plainB s.data.toList d with
  | true =>
    have C := Lib.hid (fun w => rplain_any s d w (by omega))
    rw [hp] at C
    have HP := Lib.hid hp; clear hp
    go_enter Try.func53, Try.ntmps53
    go_wp2_with fail
    refine (C.out _).mono ?_
    rintro e w1 ⟨rfl, rfl⟩
    go_wp2_with fail
    go_ret
    exact ⟨ret_str (by simp [putL, HP.out]), 0, rfl⟩
  | false =>
    have C := Lib.hid (fun w => rplain_any s d w (by omega))
    rw [hp] at C
    have HP := Lib.hid hp; clear hp
    go_enter Try.func53, Try.ntmps53
    go_wp2_with fail
    refine (C.out _).mono ?_
    rintro e w1 ⟨rfl, rfl⟩
    go_wp2_with fail
    refine (rquoted_any _ _ hs).mono ?_
    rintro e w2 ⟨rfl, m, rfl⟩
    go_wp2_with fail
    go_ret
    exact ⟨ret_str (by simp [putL, HP.out]), m, rfl⟩

set_option maxHeartbeats 1000000 in
theorem clone_any (s : ByteArray) (w : World) (hs : s.size ≤ 1099511627776) :
    Calls Try.prog 58 #[.string s] w fun e w' => e = .returned (.string s) ∧ Below w.heap.size w w' := by
  go_enter Try.func58, Try.ntmps58
  go_wp2_with fail
  refine (liteClone _ _ (by omega)).mono ?_
  rintro e w1 ⟨rfl, hb⟩
  go_wp2_with fail
  go_ret
  exact ⟨rfl, hb⟩

set_option maxHeartbeats 1000000 in
theorem put_any (s : ByteArray) (d : Int) (w : World) (hs : s.size ≤ 1099511627776) :
    Calls Try.prog 61 #[.string s, .int .u8 d] w fun e w' => e = .returned (.string ⟨(putL s.data.toList d).toArray⟩) ∧ Below w.heap.size w w' := by
  cases hp : plainB s.data.toList d with
  | true =>
    have C := Lib.hid (fun w => plain_any s d w (by omega))
    rw [hp] at C
    have HP := Lib.hid hp; clear hp
    go_enter Try.func61, Try.ntmps61
    go_wp2_with fail
    refine (C.out _).mono ?_
    rintro e w1 ⟨rfl, rfl⟩
    go_wp2_with fail
    refine (clone_any _ _ hs).mono ?_
    rintro e w2 ⟨rfl, hb⟩
    go_wp2_with fail
    go_ret
    exact ⟨ret_str (by simp [putL, HP.out]), hb⟩
  | false =>
    have C := Lib.hid (fun w => plain_any s d w (by omega))
    rw [hp] at C
    have HP := Lib.hid hp; clear hp
    go_enter Try.func61, Try.ntmps61
    go_wp2_with fail
    refine (C.out _).mono ?_
    rintro e w1 ⟨rfl, rfl⟩
    go_wp2_with fail
    refine (quoted_any _ _ hs).mono ?_
    rintro e w2 ⟨rfl, hb⟩
    go_wp2_with fail
    go_ret
    exact ⟨ret_str (by simp [putL, HP.out]), hb⟩

end Go.Proofs.Ytebnmenglgadpaa
