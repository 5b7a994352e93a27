/-
  Mathematics of a field of a text: a break, what ends a field, what a field without quotes may not have, the first place where something stops it, the whole answer; and a record as it is written.
  Conditions: none.
-/
import Derived.Test.YtacclgfpmkhodaaMath
namespace Go.Proofs.Ytacclgfpmkhodaa

/-- how many bytes the break has that stands at i -/
def brk (l : List UInt8) (i : Nat) : Nat :=
  match l[i]? with
  | none => 0
  | some c => if c = 10 then 1 else if c = 13 ∧ l[i + 1]? = some 10 then 2 else 0
def brkI (l : List UInt8) (a : Int) : Nat := if a < 0 then 0 else brk l a.toNat
/-- what ends a field at i: its kind and its size; kind 0: nothing -/
def endAt (l : List UInt8) (d : Int) (i : Nat) : Nat × Nat :=
  match l[i]? with
  | none => (3, 0)
  | some c => if (c.toNat : Int) = d then (1, 1) else if brk l i = 0 then (0, 0) else (2, brk l i)
def faultAt (l : List UInt8) (i : Nat) : Nat :=
  match l[i]? with
  | none => 0
  | some c => if c = 34 then 3 else if c = 13 then 6 else 0
def stops (l : List UInt8) (d : Int) (i : Nat) : Bool := (endAt l d i).1 != 0 || faultAt l i != 0
def stopIn (l : List UInt8) (d : Int) : Nat → Nat → Nat
  | 0, i => i
  | n + 1, i => if stops l d i = true then i else stopIn l d n (i + 1)
def stopOf (l : List UInt8) (d : Int) (i : Nat) : Nat := stopIn l d (l.length - i) i
def plainOut (l : List UInt8) (d : Int) (a : Nat) : List UInt8 × Int × Nat × Nat :=
  if (endAt l d (stopOf l d a)).1 = 0 then ([], (stopOf l d a : Int), 0, faultAt l (stopOf l d a))
  else ((l.take (stopOf l d a)).drop a, (stopOf l d a : Int) + ((endAt l d (stopOf l d a)).2 : Int), (endAt l d (stopOf l d a)).1, 0)
def quotedOut (l : List UInt8) (d : Int) (a : Nat) : List UInt8 × Int × Nat × Nat :=
  if (getL (l.drop a)).2.2 ≠ 0 then ([], (a : Int), 0, (getL (l.drop a)).2.2)
  else if (endAt l d (a + (getL (l.drop a)).2.1)).1 = 0 then ([], ((a + (getL (l.drop a)).2.1 : Nat) : Int), 0, 5)
  else ((getL (l.drop a)).1, ((a + (getL (l.drop a)).2.1 : Nat) : Int) + ((endAt l d (a + (getL (l.drop a)).2.1)).2 : Int), (endAt l d (a + (getL (l.drop a)).2.1)).1, 0)
def fieldOut (l : List UInt8) (a : Int) (d : Int) : List UInt8 × Int × Nat × Nat :=
  if a < 0 ∨ (l.length : Int) < a then ([], a, 0, 11)
  else if goodI d = false then ([], a, 0, 2)
  else if l[a.toNat]? = some 34 then quotedOut l d a.toNat
  else plainOut l d a.toNat
/-- a record's cells, with the byte between -/
def restL (d : UInt8) (r : List (List UInt8)) : List UInt8 := r.flatMap fun c => d :: putL c (d.toNat : Int)
def recL (d : UInt8) : List (List UInt8) → List UInt8
  | [] => []
  | c :: r => putL c (d.toNat : Int) ++ restL d r
def brkL (crlf : Bool) : List UInt8 := if crlf = true then [13, 10] else [10]
def writeL (r : List (List UInt8)) (d : UInt8) (crlf : Bool) : List UInt8 := recL d r ++ brkL crlf

theorem brk_le (l : List UInt8) (i : Nat) : i + brk l i ≤ l.length ∨ brk l i = 0 := by
  unfold brk
  cases h : l[i]? with
  | none => exact .inr rfl
  | some c =>
    obtain ⟨hi, _⟩ := List.getElem?_eq_some_iff.1 h
    by_cases h1 : c = 10
    · simp [h1]; omega
    · by_cases h2 : c = 13 ∧ l[i + 1]? = some 10
      · obtain ⟨h2a, h2b⟩ := h2
        obtain ⟨hi2, _⟩ := List.getElem?_eq_some_iff.1 h2b
        simp [h2a, h2b]; omega
      · simp only [h1, h2]; simp
theorem brk_lt (l : List UInt8) (i : Nat) : brk l i ≤ 2 := by
  unfold brk; split
  · exact Nat.zero_le _
  · split
    · decide
    · split <;> decide
theorem endAt_le (l : List UInt8) (d : Int) (i : Nat) (h : i ≤ l.length) : i + (endAt l d i).2 ≤ l.length := by
  unfold endAt
  cases h1 : l[i]? with
  | none => simpa using h
  | some c =>
    obtain ⟨hi, _⟩ := List.getElem?_eq_some_iff.1 h1
    have hb := brk_le l i
    simp only
    split
    · simp; omega
    · split
      · simp; omega
      · simp; omega
theorem endAt_le2 (l : List UInt8) (d : Int) (i : Nat) : (endAt l d i).2 ≤ 2 := by
  have hb := brk_lt l i
  unfold endAt; split
  · simp
  · split
    · simp
    · split
      · simp
      · exact hb
theorem endAt_end (l : List UInt8) (d : Int) (i : Nat) (h : l.length ≤ i) : endAt l d i = (3, 0) := by
  unfold endAt; rw [List.getElem?_eq_none h]
theorem faultAt_end (l : List UInt8) (i : Nat) (h : l.length ≤ i) : faultAt l i = 0 := by
  unfold faultAt; rw [List.getElem?_eq_none h]
theorem stops_end (l : List UInt8) (d : Int) : stops l d l.length = true := by
  unfold stops; rw [endAt_end l d _ (Nat.le_refl _)]; rfl
theorem stopIn_eq (l : List UInt8) (d : Int) (n : Nat) : ∀ i j, i + n = l.length → i ≤ j → j ≤ l.length → (∀ k, i ≤ k → k < j → stops l d k = false) → stops l d j = true → stopIn l d n i = j := by
  induction n with
  | zero => intro i j h1 h2 h3 _ _; simp only [stopIn]; omega
  | succ n ih =>
    intro i j h1 h2 h3 hno hyes
    unfold stopIn
    by_cases hij : i = j
    · subst hij; simp [hyes]
    · rw [hno i (Nat.le_refl _) (by omega)]
      simp only [Bool.false_eq_true, if_false]
      exact ih (i + 1) j (by omega) (by omega) h3 (fun k hk1 hk2 => hno k (by omega) hk2) hyes
theorem stopOf_eq (l : List UInt8) (d : Int) (i j : Nat) (hij : i ≤ j) (hj : j ≤ l.length) (hno : ∀ k, i ≤ k → k < j → stops l d k = false) (hyes : stops l d j = true) : stopOf l d i = j :=
  stopIn_eq l d _ i j (by omega) hij hj hno hyes
theorem stopIn_spec (l : List UInt8) (d : Int) (n : Nat) : ∀ i, i + n = l.length → i ≤ stopIn l d n i ∧ stopIn l d n i ≤ l.length ∧ (∀ k, i ≤ k → k < stopIn l d n i → stops l d k = false) ∧ stops l d (stopIn l d n i) = true := by
  induction n with
  | zero =>
    intro i h
    obtain rfl : i = l.length := by omega
    exact ⟨Nat.le_refl _, Nat.le_refl _, fun k h1 h2 => by simp only [stopIn] at h2; omega, stops_end l d⟩
  | succ n ih =>
    intro i h
    unfold stopIn
    cases hs : stops l d i with
    | true => simp only [if_true]; exact ⟨Nat.le_refl _, by omega, fun k h1 h2 => by omega, hs⟩
    | false =>
      simp only [Bool.false_eq_true, if_false]
      obtain ⟨a, b, c, e⟩ := ih (i + 1) (by omega)
      refine ⟨by omega, b, fun k h1 h2 => ?_, e⟩
      by_cases hk : k = i
      · rw [hk]; exact hs
      · exact c k (by omega) h2
theorem stopOf_spec (l : List UInt8) (d : Int) (i : Nat) (h : i ≤ l.length) : i ≤ stopOf l d i ∧ stopOf l d i ≤ l.length ∧ (∀ k, i ≤ k → k < stopOf l d i → stops l d k = false) ∧ stops l d (stopOf l d i) = true :=
  stopIn_spec l d _ i (by omega)
theorem stops_end_or (l : List UInt8) (d : Int) (j : Nat) (h : stops l d j = true) (h0 : (endAt l d j).1 = 0) : faultAt l j ≠ 0 := by
  unfold stops at h; rw [h0] at h; simpa using h
theorem restL_snoc (d : UInt8) (r : List (List UInt8)) (c : List UInt8) : restL d (r ++ [c]) = restL d r ++ d :: putL c (d.toNat : Int) := by
  simp [restL]
theorem recL_snoc (d : UInt8) (r : List (List UInt8)) (c : List UInt8) : recL d (r ++ [c]) = recL d r ++ (if r.isEmpty = true then [] else [d]) ++ putL c (d.toNat : Int) := by
  cases r with
  | nil => simp [recL, restL]
  | cons x y => simp [recL, restL]
end Go.Proofs.Ytacclgfpmkhodaa
