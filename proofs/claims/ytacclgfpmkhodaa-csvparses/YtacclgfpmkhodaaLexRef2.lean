/-
  What the document's reference answers for what ends a field, and for a field.
  Conditions: the text is at most 2^40 bytes long (the statements ask about far shorter ones).
-/
import Derived.WalkKit
import Derived.WalkMore
import Derived.Lib.Hide
import Derived.Test.YtacclgfpmkhodaaProg
import Derived.Test.YtacclgfpmkhodaaLexRef
namespace Go.Proofs.Ytacclgfpmkhodaa
open Go.RowKit Go.Shelf

theorem endAt_delim (s : ByteArray) (d : Int) (k : Nat) (h : k < s.size) (hc : ((s[k].toNat : Int) == d) = true) : endAt s.data.toList d k = (1, 1) := by
  unfold endAt; rw [bget s k h]; simp only [if_pos (eq_of_beq hc)]
theorem endAt_brk (s : ByteArray) (d : Int) (k : Nat) (h : k < s.size) (hc : ((s[k].toNat : Int) == d) = false) (hb : brk s.data.toList k ≠ 0) : endAt s.data.toList d k = (2, brk s.data.toList k) := by
  unfold endAt; rw [bget s k h]; simp only [if_neg (ne_of_beq_false hc), if_neg hb]
theorem endAt_no (s : ByteArray) (d : Int) (k : Nat) (h : k < s.size) (hc : ((s[k].toNat : Int) == d) = false) (hb : brk s.data.toList k = 0) : endAt s.data.toList d k = (0, 0) := by
  unfold endAt; rw [bget s k h]; simp only [if_neg (ne_of_beq_false hc), if_pos hb]
theorem endAt_out (s : ByteArray) (d : Int) (k : Nat) (h : s.size ≤ k) : endAt s.data.toList d k = (3, 0) := endAt_end _ d k (by rw [ba_size]; exact h)
theorem fault_quote (s : ByteArray) (k : Nat) (h : k < s.size) (hc : s[k] = 34) : faultAt s.data.toList k = 3 := by
  unfold faultAt; rw [bget s k h]; simp [hc]
theorem fault_return (s : ByteArray) (k : Nat) (h : k < s.size) (hc : s[k] = 13) : faultAt s.data.toList k = 6 := by
  unfold faultAt; rw [bget s k h]; simp [hc]
theorem fault_no (s : ByteArray) (k : Nat) (h : k < s.size) (hc : s[k] ≠ 34) (hd : s[k] ≠ 13) : faultAt s.data.toList k = 0 := by
  unfold faultAt; rw [bget s k h]; simp [hc, hd]
theorem ret_two {a b a' b' : Int} (h1 : a = a') (h2 : b = b') : Ending.returned (.tuple #[.int .i64 a, .int .i64 b]) = .returned (.tuple #[.int .i64 a', .int .i64 b']) := by rw [h1, h2]

def fieldV (x : List UInt8 × Int × Nat × Nat) : Value := .tuple #[.string ⟨x.1.toArray⟩, .int .i64 x.2.1, .int .i64 (x.2.2.1 : Int), .int .i64 (x.2.2.2 : Int)]
theorem ret_field {t : ByteArray} {n k e : Int} {x : List UInt8 × Int × Nat × Nat} (h1 : t.data.toList = x.1) (h2 : n = x.2.1) (h3 : k = (x.2.2.1 : Int)) (h4 : e = (x.2.2.2 : Int)) : Ending.returned (.tuple #[.string t, .int .i64 n, .int .i64 k, .int .i64 e]) = .returned (fieldV x) := by
  have : t = ⟨x.1.toArray⟩ := ba_eq (by rw [h1])
  rw [fieldV, this, h2, h3, h4]

theorem plain_stop (s : ByteArray) (d : Int) (a j : Nat) (haj : a ≤ j) (hj : j ≤ s.size) (hno : ∀ k, a ≤ k → k < j → stops s.data.toList d k = false) (hk : (endAt s.data.toList d j).1 ≠ 0) :
    plainOut s.data.toList d a = ((s.extract a j).data.toList, (j : Int) + ((endAt s.data.toList d j).2 : Int), (endAt s.data.toList d j).1, 0) := by
  have e := stopOf_eq s.data.toList d a j haj (by rw [ba_size]; exact hj) hno (by simp [stops, hk])
  unfold plainOut; rw [e, if_neg hk, ba_ext]
theorem plain_fault (s : ByteArray) (d : Int) (a j : Nat) (haj : a ≤ j) (hj : j ≤ s.size) (hno : ∀ k, a ≤ k → k < j → stops s.data.toList d k = false) (hk : (endAt s.data.toList d j).1 = 0) (hf : faultAt s.data.toList j ≠ 0) :
    plainOut s.data.toList d a = ([], (j : Int), 0, faultAt s.data.toList j) := by
  have e := stopOf_eq s.data.toList d a j haj (by rw [ba_size]; exact hj) hno (by simp [stops, hf])
  unfold plainOut; rw [e, if_pos hk]
theorem stops_next (l : List UInt8) (d : Int) (a k : Nat) (hno : ∀ j, a ≤ j → j < k → stops l d j = false) (h1 : (endAt l d k).1 = 0) (h2 : faultAt l k = 0) : ∀ j, a ≤ j → j < k + 1 → stops l d j = false := by
  intro j h3 h4
  by_cases e : j = k
  · subst e; simp [stops, h1, h2]
  · exact hno j h3 (by omega)

theorem field_place (l : List UInt8) (a d : Int) (h : a < 0 ∨ (l.length : Int) < a) : fieldOut l a d = ([], a, 0, 11) := by unfold fieldOut; rw [if_pos h]
theorem field_delim (l : List UInt8) (k : Nat) (d : Int) (h : k ≤ l.length) (hg : goodI d = false) : fieldOut l (k : Int) d = ([], (k : Int), 0, 2) := by
  unfold fieldOut; rw [if_neg (by omega), if_pos hg]
theorem field_quoted (s : ByteArray) (k : Nat) (d : Int) (h : k < s.size) (hg : goodI d = true) (hc : s[k] = 34) : fieldOut s.data.toList (k : Int) d = quotedOut s.data.toList d k := by
  have := ba_size s
  unfold fieldOut; rw [if_neg (by omega), if_neg (by simp [hg]), Int.toNat_natCast, if_pos (by rw [bget s k h, hc])]
theorem field_plain (s : ByteArray) (k : Nat) (d : Int) (h : k ≤ s.size) (hg : goodI d = true) (hc : ∀ hk : k < s.size, s[k] ≠ 34) : fieldOut s.data.toList (k : Int) d = plainOut s.data.toList d k := by
  have := ba_size s
  unfold fieldOut; rw [if_neg (by omega), if_neg (by simp [hg]), Int.toNat_natCast, if_neg ?_]
  by_cases hk : k < s.size
  · rw [bget s k hk]; simpa using hc hk
  · rw [List.getElem?_eq_none (by omega)]; simp

theorem quoted_err (l : List UInt8) (d : Int) (a : Nat) (h : (getL (l.drop a)).2.2 ≠ 0) : quotedOut l d a = ([], (a : Int), 0, (getL (l.drop a)).2.2) := by
  unfold quotedOut; rw [if_pos h]
theorem quoted_behind (l : List UInt8) (d : Int) (a n : Nat) (t : List UInt8) (h : getL (l.drop a) = (t, n, 0)) (hk : (endAt l d (a + n)).1 = 0) : quotedOut l d a = ([], ((a + n : Nat) : Int), 0, 5) := by
  unfold quotedOut; rw [h]; simp [hk]
theorem quoted_ok (l : List UInt8) (d : Int) (a n : Nat) (t : List UInt8) (h : getL (l.drop a) = (t, n, 0)) (hk : (endAt l d (a + n)).1 ≠ 0) : quotedOut l d a = (t, ((a + n : Nat) : Int) + ((endAt l d (a + n)).2 : Int), (endAt l d (a + n)).1, 0) := by
  unfold quotedOut; rw [h]; simp [hk]
theorem got_le (l : List UInt8) (a n : Nat) (t : List UInt8) (h : getL (l.drop a) = (t, n, 0)) (ha : a ≤ l.length) : a + n ≤ l.length := by
  obtain ⟨b, e, _, rfl⟩ := get_only _ _ _ h
  have := congrArg List.length e
  simp at this; omega
theorem ba_tail (s : ByteArray) (a : Nat) : (s.extract a s.size).data.toList = s.data.toList.drop a := by
  rw [ba_ext, List.take_of_length_le (by rw [ba_size]; exact Nat.le_refl _)]

theorem int_le {a b : Nat} (h : a ≤ b) : (a : Int) ≤ (b : Int) := by omega

end Go.Proofs.Ytacclgfpmkhodaa
