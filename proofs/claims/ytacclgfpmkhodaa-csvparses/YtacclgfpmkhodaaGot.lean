/-
  What the program and the document's reference answer for what stands in quotes: text, count of bytes, error.
  Conditions: the text is at most 2^40 bytes long (the statements ask about far shorter ones).
-/
import Derived.WalkKit
import Derived.WalkMore
import Derived.Lib.Hide
import Derived.Test.YtacclgfpmkhodaaProg
import Derived.Test.YtacclgfpmkhodaaGet
namespace Go.Proofs.Ytacclgfpmkhodaa
open Go.RowKit Go.Shelf

/-- the three results, of what is got -/
def gotV (x : List UInt8 × Nat × Nat) : Value := .tuple #[.string ⟨x.1.toArray⟩, .int .i64 (x.2.1 : Int), .int .i64 (x.2.2 : Int)]
theorem ret_got {t : ByteArray} {n e : Int} {x : List UInt8 × Nat × Nat} (h1 : t.data.toList = x.1) (h2 : n = (x.2.1 : Int)) (h3 : e = (x.2.2 : Int)) : Ending.returned (.tuple #[.string t, .int .i64 n, .int .i64 e]) = .returned (gotV x) := by
  have : t = ⟨x.1.toArray⟩ := ba_eq (by rw [h1])
  rw [gotV, this, h2, h3]
theorem get_nil (s : ByteArray) (h : s.size = 0) : getL s.data.toList = ([], 0, 3) := by
  have : s.data.toList = [] := List.eq_nil_of_length_eq_zero (by rw [ba_size]; exact h)
  rw [this]; rfl
theorem get_other (s : ByteArray) (h : 0 < s.size) (hc : s[0] ≠ 34) : getL s.data.toList = ([], 0, 3) := by
  rw [ba_head s h]; simp [getL, hc]
theorem get_quote (s : ByteArray) (h : 0 < s.size) (hc : s[0] = 34) : getL s.data.toList = if lastAt s.data.toList 1 = 0 then ([], 0, 4) else ((haTo (s.extract 1 (lastAt s.data.toList 1)).data.toList).1, lastAt s.data.toList 1 + 1, 0) := by
  have e := ba_head s h
  rw [hc] at e
  have e2 : ∀ k, (s.extract 1 k).data.toList = (s.extract 1 s.size).data.toList.take (k - 1) := by
    intro k; rw [ba_ext, ba_ext, show s.data.toList.take s.size = s.data.toList from List.take_of_length_le (by rw [ba_size]; exact Nat.le_refl _), List.drop_take]
  rw [e2, e, get_by_last]

set_option maxHeartbeats 1000000 in
theorem get_any (s : ByteArray) (w : World) (hs : s.size ≤ 1099511627776) :
    Calls Try.prog 50 #[.string s] w fun e w' => e = .returned (gotV (getL s.data.toList)) ∧ Below w.heap.size w w' := by
  by_cases h0 : s.size = 0
  · have HG := Lib.hid (get_nil s h0)
    obtain rfl : s = ⟨#[]⟩ := by cases s; simp [ByteArray.size] at h0; simp [h0]
    clear h0 hs
    go_enter Try.func50, Try.ntmps50
    go_wp2_with fail
    go_ret3
    exact ⟨ret_got (by rw [HG.out]) (by rw [HG.out]; rfl) (by rw [HG.out]; rfl), Below.refl _ _⟩
  have hpos : 0 < s.size := by omega
  clear h0
  have hE := ba_empty s hpos
  by_cases hc : s[0] = 34
  · obtain ⟨q1, q2⟩ := byte_yes _ hc
    have HG := Lib.hid (get_quote s hpos hc)
    clear hc
    have hle := lastAt_le s.data.toList 1
    rw [ba_size] at hle
    have C := Lib.hid (fun w => lastQuote_any s w hs hpos)
    generalize lastAt s.data.toList 1 = p at HG hle C
    by_cases hp : p = 0
    · subst hp
      rw [if_pos rfl] at HG
      clear hle
      go_enter Try.func50, Try.ntmps50
      go_wp2_with fail
      refine (C.out _).mono ?_
      rintro e w1 ⟨rfl, rfl⟩
      go_wp2_with fail
      go_ret3
      exact ⟨ret_got (by rw [HG.out]) (by rw [HG.out]; rfl) (by rw [HG.out]; rfl), Below.refl _ _⟩
    · have hp1 : 1 ≤ p := by omega
      have hp2 : p < s.size := by omega
      have hp3 : ((p : Int) == 0) = false := beq_eq_false_iff_ne.2 (by omega)
      rw [if_neg hp] at HG
      have hb1 : (1 : Int) ≤ (p : Int) := by omega
      have hb2 : (p : Int) ≤ (s.size : Int) := by omega
      clear hp hle
      go_enter Try.func50, Try.ntmps50
      go_wp2_with fail
      refine (C.out _).mono ?_
      rintro e w1 ⟨rfl, rfl⟩
      go_wp2_with fail
      refine (halved_any (s.extract 1 p) _ (by simp; omega)).mono ?_
      rintro e w2 ⟨rfl, hb⟩
      go_wp2_with fail
      go_ret3
      exact ⟨ret_got (by rw [HG.out]; simp) (by rw [HG.out]; simp) (by rw [HG.out]; rfl), hb⟩
  · obtain ⟨q1, q2⟩ := byte_no _ hc
    have HG := Lib.hid (get_other s hpos hc)
    clear hc
    go_enter Try.func50, Try.ntmps50
    go_wp2_with fail
    go_ret3
    exact ⟨ret_got (by rw [HG.out]) (by rw [HG.out]; rfl) (by rw [HG.out]; rfl), Below.refl _ _⟩

/-! ### the reference -/
/-- what the reference's loop comes to, from place k on, with g at hand -/
def restR (l g : List UInt8) (k : Nat) : List UInt8 × Nat × Bool := match scan (l.drop k) with | some x => (g ++ x.1, k + x.2, true) | none => ([], 0, false)
def restV (x : List UInt8 × Nat × Bool) : Value := .tuple #[.string ⟨x.1.toArray⟩, .int .i64 (x.2.1 : Int), .bool x.2.2]
theorem ret_rest {t : ByteArray} {n : Int} {b : Bool} {x : List UInt8 × Nat × Bool} (h1 : t.data.toList = x.1) (h2 : n = (x.2.1 : Int)) (h3 : b = x.2.2) : Ending.returned (.tuple #[.string t, .int .i64 n, .bool b]) = .returned (restV x) := by
  have : t = ⟨x.1.toArray⟩ := ba_eq (by rw [h1])
  rw [restV, this, h2, h3]
theorem ba_drop (s : ByteArray) (k : Nat) (h : k < s.size) : s.data.toList.drop k = s[k] :: s.data.toList.drop (k + 1) := List.drop_eq_getElem_cons (by rw [ba_size]; exact h)
theorem restR_end (s : ByteArray) (g : List UInt8) (k : Nat) (h : s.size ≤ k) : restR s.data.toList g k = ([], 0, false) := by
  simp [restR, List.drop_of_length_le (show s.data.toList.length ≤ k by rw [ba_size]; exact h), scan]
theorem restR_other (s : ByteArray) (g : List UInt8) (k : Nat) (h : k < s.size) (hc : s[k] ≠ 34) : restR s.data.toList g k = restR s.data.toList (g ++ [s[k]]) (k + 1) := by
  unfold restR; rw [ba_drop s k h, scan_other _ _ hc]
  cases scan (s.data.toList.drop (k + 1)) with
  | none => rfl
  | some x => simp; omega
theorem restR_two (s : ByteArray) (g : List UInt8) (k : Nat) (h : k + 1 < s.size) (hc : s[k] = 34) (hd : s[k + 1] = 34) : restR s.data.toList g k = restR s.data.toList (g ++ [34]) (k + 2) := by
  unfold restR; rw [ba_drop s k (by omega), ba_drop s (k + 1) h, hc, hd, scan_two]
  cases scan (s.data.toList.drop (k + 2)) with
  | none => rfl
  | some x => simp; omega
theorem restR_close (s : ByteArray) (g : List UInt8) (k : Nat) (h : k + 1 < s.size) (hc : s[k] = 34) (hd : s[k + 1] ≠ 34) : restR s.data.toList g k = (g, k + 1, true) := by
  unfold restR; rw [ba_drop s k (by omega), ba_drop s (k + 1) h, hc, scan_close _ _ hd]; simp
theorem restR_last (s : ByteArray) (g : List UInt8) (k : Nat) (h : k + 1 = s.size) (hc : s[k] = 34) : restR s.data.toList g k = (g, k + 1, true) := by
  unfold restR; rw [ba_drop s k (by omega), hc, List.drop_of_length_le (show s.data.toList.length ≤ k + 1 by rw [ba_size]; omega), scan_quote_end]; simp
theorem restR_get (s : ByteArray) (h : 0 < s.size) (hc : s[0] = 34) : getL s.data.toList = if (restR s.data.toList [] 1).2.2 = true then ((restR s.data.toList [] 1).1, (restR s.data.toList [] 1).2.1, 0) else ([], 0, 4) := by
  have e := ba_head s h
  rw [hc] at e
  have e1 : s.data.toList.drop 1 = (s.extract 1 s.size).data.toList := by rw [ba_ext, List.take_of_length_le (by rw [ba_size]; omega)]
  unfold restR; rw [e1, e]
  generalize (s.extract 1 s.size).data.toList = r
  cases hsc : scan r with
  | none => simp [getL, hsc]
  | some x => simp [getL, hsc, Nat.add_comm]

end Go.Proofs.Ytacclgfpmkhodaa
