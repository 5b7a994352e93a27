/-
  Mathematics of records as a text: what is read, field by field; the bookkeeping of a reader that goes byte by byte.
  Conditions: none.
-/
import Derived.Test.YtacclgfpmkhodaaLexMath3
namespace Go.Proofs.Ytacclgfpmkhodaa

/-- a field's answer, where it must fit and its cell may not be too large -/
def cellOut (l : List UInt8) (a : Nat) (d : Int) (fits : Bool) : List UInt8 × Int × Nat × Nat :=
  if fits = false then ([], (a : Int), 0, 7) else if 4096 < (fieldOut l (a : Int) d).1.length then ([], (a : Int), 0, 7) else fieldOut l (a : Int) d
abbrev Recs := List (List (List UInt8))
def fitsB (done : Recs) (row : List (List UInt8)) : Bool := decide (done.length < 2048) && decide (row.length < 128)
/-- the records from a place on, some records and cells having been read -/
def readL (l : List UInt8) (d : Int) : Nat → Nat → Recs → List (List UInt8) → Recs × Int × Nat
  | 0, _, done, _ => (done, 0, 0)
  | n + 1, a, done, row =>
    if row = [] ∧ l.length ≤ a then (done, 0, 0)
    else if (cellOut l a d (fitsB done row)).2.2.2 ≠ 0 then ([], (cellOut l a d (fitsB done row)).2.1, (cellOut l a d (fitsB done row)).2.2.2)
    else if (cellOut l a d (fitsB done row)).2.2.1 = 1 then readL l d n (cellOut l a d (fitsB done row)).2.1.toNat done (row ++ [(cellOut l a d (fitsB done row)).1])
    else readL l d n (cellOut l a d (fitsB done row)).2.1.toNat (done ++ [row ++ [(cellOut l a d (fitsB done row)).1]]) []
/-- how many steps are enough -/
def enough (l : List UInt8) (a : Nat) (row : List (List UInt8)) (f : Nat) : Prop := 2 * (l.length - a) + (if row = [] then 1 else 2) ≤ f
def parseL (l : List UInt8) (d : Int) : Recs × Int × Nat :=
  if goodI d = false then ([], 0, 2) else if 4194304 < l.length then ([], 0, 7) else readL l d (2 * l.length + 1) 0 [] []

theorem field_place_ok (l : List UInt8) (a : Nat) (d : Int) (t : List UInt8) (n : Int) (k : Nat) (h : fieldOut l (a : Int) d = (t, n, k, 0)) :
    ∃ j to : Nat, n = (to : Int) ∧ a ≤ j ∧ j ≤ to ∧ to ≤ l.length ∧ k = (endAt l d j).1 ∧ ((k = 1 ∧ a < to) ∨ (k = 2 ∧ a < to) ∨ (k = 3 ∧ to = l.length)) := by
  obtain ⟨i, j, h1, h2, h3, h4, h5, h6, _, _⟩ := field_good l a d t n k h
  obtain rfl : a = i := by omega
  have he := endAt_le l d j h3
  have hk : (endAt l d j).1 ≠ 0 := by rw [← h5]; exact h6
  refine ⟨j, j + (endAt l d j).2, by rw [h4]; simp, h2, by omega, he, h5, ?_⟩
  rcases endAt_ways l d j h3 hk with ⟨e, hj⟩ | ⟨e, _⟩ | ⟨e, hb⟩
  · right; right; rw [h5, e]; exact ⟨rfl, by simp [hj]⟩
  · left; rw [h5, e]; exact ⟨rfl, by simp; omega⟩
  · right; left; rw [h5, e]; exact ⟨rfl, by simp; omega⟩
theorem cell_ok (l : List UInt8) (a : Nat) (d : Int) (fits : Bool) (t : List UInt8) (n : Int) (k : Nat) (h : cellOut l a d fits = (t, n, k, 0)) :
    fits = true ∧ t.length ≤ 4096 ∧ fieldOut l (a : Int) d = (t, n, k, 0) ∧ ∃ to : Nat, n = (to : Int) ∧ a ≤ to ∧ to ≤ l.length ∧ ((k = 1 ∧ a < to) ∨ (k = 2 ∧ a < to) ∨ (k = 3 ∧ to = l.length)) := by
  unfold cellOut at h
  by_cases h1 : fits = false
  · rw [if_pos h1] at h; simp at h
  rw [if_neg h1] at h
  by_cases h2 : 4096 < (fieldOut l (a : Int) d).1.length
  · rw [if_pos h2] at h; simp at h
  rw [if_neg h2] at h
  obtain ⟨j, to, e1, e2, e3, e4, e5, e6⟩ := field_place_ok l a d t n k h
  refine ⟨by simpa using h1, ?_, h, to, e1, by omega, e4, e6⟩
  rw [h] at h2; simp only at h2; omega
theorem read_stop (l : List UInt8) (d : Int) (f a : Nat) (done : Recs) (h : l.length ≤ a) : readL l d f a done [] = (done, 0, 0) := by
  cases f with
  | zero => rfl
  | succ n => unfold readL; rw [if_pos ⟨rfl, h⟩]
theorem read_err (l : List UInt8) (d : Int) (f a : Nat) (done : Recs) (row : List (List UInt8)) (hf : enough l a row f) (hr : row ≠ [] ∨ a < l.length) (t : List UInt8) (n : Int) (k e : Nat)
    (h : cellOut l a d (fitsB done row) = (t, n, k, e)) (he : e ≠ 0) : readL l d f a done row = ([], n, e) := by
  cases f with
  | zero => unfold enough at hf; split at hf <;> omega
  | succ m =>
    unfold readL
    rw [if_neg (by rintro ⟨h1, h2⟩; rcases hr with h3 | h3; exact h3 h1; omega), h, if_pos he]
theorem read_more (l : List UInt8) (d : Int) (f a : Nat) (done : Recs) (row : List (List UInt8)) (hf : enough l a row f) (hr : row ≠ [] ∨ a < l.length) (t : List UInt8) (n : Int)
    (h : cellOut l a d (fitsB done row) = (t, n, 1, 0)) : ∃ f', enough l n.toNat (row ++ [t]) f' ∧ readL l d f a done row = readL l d f' n.toNat done (row ++ [t]) := by
  obtain ⟨_, _, _, to, rfl, h1, h2, h3⟩ := cell_ok l a d _ t n 1 h
  cases f with
  | zero => unfold enough at hf; split at hf <;> omega
  | succ m =>
    refine ⟨m, ?_, ?_⟩
    · unfold enough at hf ⊢
      rw [if_neg (by simp), Int.toNat_natCast]
      split at hf <;> omega
    · rw [readL]
      rw [if_neg (by rintro ⟨h1, h2⟩; rcases hr with h3 | h3; exact h3 h1; omega), h, if_neg (by simp), if_pos rfl]
theorem read_next (l : List UInt8) (d : Int) (f a : Nat) (done : Recs) (row : List (List UInt8)) (hf : enough l a row f) (hr : row ≠ [] ∨ a < l.length) (t : List UInt8) (n : Int) (k : Nat) (hk : k ≠ 1)
    (h : cellOut l a d (fitsB done row) = (t, n, k, 0)) : ∃ f', enough l n.toNat [] f' ∧ readL l d f a done row = readL l d f' n.toNat (done ++ [row ++ [t]]) [] := by
  obtain ⟨_, _, _, to, rfl, h1, h2, h3⟩ := cell_ok l a d _ t n k h
  cases f with
  | zero => unfold enough at hf; split at hf <;> omega
  | succ m =>
    refine ⟨m, ?_, ?_⟩
    · unfold enough at hf ⊢
      rw [if_pos rfl, Int.toNat_natCast]
      split at hf
      · next e => rcases hr with h4 | h4; exact absurd e h4; omega
      · omega
    · rw [readL]
      rw [if_neg (by rintro ⟨h1, h2⟩; rcases hr with h3 | h3; exact h3 h1; omega), h, if_neg (by simp), if_neg hk]

/-! ### byte by byte -/

/-- what a reader knows of the field that begins at b, being at a: 0 at its beginning, 1 in a plain one, 2 in quotes, 3 behind a quote in quotes -/
def Within (l : List UInt8) (d : Int) (b a st : Nat) (cell : List UInt8) : Prop :=
  (st = 0 ∧ a = b ∧ cell = []) ∨
  (st = 1 ∧ b < a ∧ l[b]? ≠ some 34 ∧ (∀ k, b ≤ k → k < a → stops l d k = false) ∧ cell = (l.take a).drop b) ∨
  (st = 2 ∧ b < a ∧ l[b]? = some 34 ∧ (l.take a).drop (b + 1) = twice cell) ∨
  (st = 3 ∧ b < a ∧ l[b]? = some 34 ∧ (l.take a).drop (b + 1) = twice cell ++ [34])

theorem td_snoc (l : List UInt8) (b a : Nat) (h : a < l.length) (hb : b ≤ a) : (l.take (a + 1)).drop b = (l.take a).drop b ++ [l[a]] := by
  rw [List.take_succ_eq_append_getElem h, List.drop_append_of_le_length (by simp; omega)]
theorem drop_split (l : List UInt8) (b a : Nat) (hb : b ≤ a) (ha : a ≤ l.length) : l.drop b = (l.take a).drop b ++ l.drop a := by
  have h : l.drop b = (l.take a ++ l.drop a).drop b := by rw [List.take_append_drop]
  rw [h, List.drop_append_of_le_length (by simp; omega)]
theorem twice_one (c : List UInt8) (x : UInt8) (h : x ≠ 34) : twice (c ++ [x]) = twice c ++ [x] := by rw [twice_append]; simp [twice, h]
theorem twice_q (c : List UInt8) : twice (c ++ [34]) = twice c ++ [34, 34] := by rw [twice_append]; simp [twice]

theorem in_two (l : List UInt8) (d : Int) (b a : Nat) (cell : List UInt8) (ha : a < l.length) (h : Within l d b a 2 cell) : (l[a] = 34 → Within l d b (a + 1) 3 cell) ∧ (l[a] ≠ 34 → Within l d b (a + 1) 2 (cell ++ [l[a]])) := by
  rcases h with ⟨h, _⟩ | ⟨h, _⟩ | ⟨_, h1, h2, h3⟩ | ⟨h, _⟩
  · cases h
  · cases h
  · refine ⟨fun e => .inr (.inr (.inr ⟨rfl, by omega, h2, ?_⟩)), fun e => .inr (.inr (.inl ⟨rfl, by omega, h2, ?_⟩))⟩
    · rw [td_snoc l _ _ ha (by omega), h3, e]
    · rw [td_snoc l _ _ ha (by omega), h3, twice_one _ _ e]
  · cases h
theorem in_three (l : List UInt8) (d : Int) (b a : Nat) (cell : List UInt8) (ha : a < l.length) (h : Within l d b a 3 cell) (e : l[a] = 34) : Within l d b (a + 1) 2 (cell ++ [34]) := by
  rcases h with ⟨h, _⟩ | ⟨h, _⟩ | ⟨h, _⟩ | ⟨_, h1, h2, h3⟩
  · cases h
  · cases h
  · cases h
  · refine .inr (.inr (.inl ⟨rfl, by omega, h2, ?_⟩))
    rw [td_snoc l _ _ ha (by omega), h3, twice_q, e]; simp
theorem in_quote (l : List UInt8) (d : Int) (b a : Nat) (cell : List UInt8) (ha : a < l.length) (h : Within l d b a 0 cell) (e : l[a] = 34) : Within l d b (a + 1) 2 [] ∧ cell = [] := by
  rcases h with ⟨_, rfl, rfl⟩ | ⟨h, _⟩ | ⟨h, _⟩ | ⟨h, _⟩
  · refine ⟨.inr (.inr (.inl ⟨rfl, by omega, by rw [List.getElem?_eq_getElem ha, e], ?_⟩)), rfl⟩
    rw [List.drop_of_length_le (by simp; omega)]; rfl
  · cases h
  · cases h
  · cases h
theorem in_plain (l : List UInt8) (d : Int) (b a st : Nat) (cell : List UInt8) (ha : a < l.length) (h : Within l d b a st cell) (hst : st = 0 ∨ st = 1) (e : l[a] ≠ 34) (hs : stops l d a = false) : Within l d b (a + 1) 1 (cell ++ [l[a]]) := by
  rcases h with ⟨_, rfl, rfl⟩ | ⟨_, h1, h2, h3, h4⟩ | ⟨h, _⟩ | ⟨h, _⟩
  · refine .inr (.inl ⟨rfl, by omega, by rw [List.getElem?_eq_getElem ha]; simpa using e, fun k h1 h2 => ?_, ?_⟩)
    · obtain rfl : k = a := by omega
      exact hs
    · rw [td_snoc l _ _ ha (by omega), List.drop_of_length_le (by simp; omega)]
  · refine .inr (.inl ⟨rfl, by omega, h2, fun k h5 h6 => ?_, ?_⟩)
    · by_cases hk : k = a
      · rw [hk]; exact hs
      · exact h3 k h5 (by omega)
    · rw [td_snoc l _ _ ha (by omega), h4]
  · omega
  · omega
/-- where the field ends -/
theorem in_end (l : List UInt8) (d : Int) (b a st : Nat) (cell : List UInt8) (hb : b ≤ a) (ha : a ≤ l.length) (hg : goodI d = true) (h : Within l d b a st cell) (hst : st ≠ 2) (h0 : st = 0 → l[a]? ≠ some 34) (h3 : st = 3 → l[a]? ≠ some 34)
    (he : (endAt l d a).1 ≠ 0) : fieldOut l (b : Int) d = (cell, ((a + (endAt l d a).2 : Nat) : Int), (endAt l d a).1, 0) := by
  have hstop : stops l d a = true := by unfold stops; simp [he]
  unfold fieldOut
  rw [if_neg (by omega), if_neg (by simp [hg]), Int.toNat_natCast]
  rcases h with ⟨rfl, rfl, rfl⟩ | ⟨rfl, h1, h2, h4, h5⟩ | ⟨h, _⟩ | ⟨rfl, h1, h2, h4⟩
  · rw [if_neg (h0 rfl)]
    unfold plainOut
    rw [stopOf_eq l d a a (Nat.le_refl _) ha (fun k h1 h2 => by omega) hstop, if_neg he]
    simp
  · rw [if_neg h2]
    unfold plainOut
    rw [stopOf_eq l d b a hb ha h4 hstop, if_neg he, ← h5]
    simp
  · exact absurd h hst
  · rw [if_pos h2]
    obtain ⟨hlt, e34⟩ := List.getElem?_eq_some_iff.1 h2
    have hq : l.drop b = quoted cell ++ l.drop a := by
      rw [List.drop_eq_getElem_cons hlt, drop_split l (b + 1) a (by omega) ha, h4, e34]; simp [quoted]
    have hno : noQuote (l.drop a) = true := by
      cases hd : l.drop a with
      | nil => rfl
      | cons x y =>
        have : l[a]? = some x := by rw [← List.head?_drop, hd]; rfl
        have := h3 rfl
        simp only [noQuote, bne_iff_ne, ne_eq]; rintro rfl; contradiction
    have hgt := get_quoted cell (l.drop a) hno
    rw [← hq] at hgt
    have hlen : b + (quoted cell).length = a := by
      have := congrArg List.length hq; simp at this; omega
    unfold quotedOut
    rw [hgt]; simp only [hlen]
    rw [if_neg (by simp), if_neg he]
    simp
/-- where the field is wrong: no end, and a quote or a return -/
theorem in_fault (l : List UInt8) (d : Int) (b a st : Nat) (cell : List UInt8) (hb : b ≤ a) (ha : a < l.length) (hg : goodI d = true) (h : Within l d b a st cell) (hst : st = 0 ∨ st = 1) (h0 : st = 0 → l[a]? ≠ some 34)
    (he : (endAt l d a).1 = 0) (hf : faultAt l a ≠ 0) : fieldOut l (b : Int) d = ([], (a : Int), 0, faultAt l a) := by
  have hstop : stops l d a = true := by unfold stops; simp [hf]
  unfold fieldOut
  rw [if_neg (by omega), if_neg (by simp [hg]), Int.toNat_natCast]
  rcases h with ⟨rfl, rfl, rfl⟩ | ⟨rfl, h1, h2, h4, h5⟩ | ⟨rfl, _⟩ | ⟨rfl, _⟩
  · rw [if_neg (h0 rfl)]
    unfold plainOut
    rw [stopOf_eq l d a a (Nat.le_refl _) (by omega) (fun k h1 h2 => by omega) hstop, if_pos he]
  · rw [if_neg h2]
    unfold plainOut
    rw [stopOf_eq l d b a hb (by omega) h4 hstop, if_pos he]
  · omega
  · omega
theorem in_behind (l : List UInt8) (d : Int) (b a : Nat) (cell : List UInt8) (hb : b ≤ a) (ha : a < l.length) (hg : goodI d = true) (h : Within l d b a 3 cell) (h3 : l[a]? ≠ some 34)
    (he : (endAt l d a).1 = 0) : fieldOut l (b : Int) d = ([], (a : Int), 0, 5) := by
  unfold fieldOut
  rw [if_neg (by omega), if_neg (by simp [hg]), Int.toNat_natCast]
  rcases h with ⟨h, _⟩ | ⟨h, _⟩ | ⟨h, _⟩ | ⟨_, h1, h2, h4⟩
  · cases h
  · cases h
  · cases h
  · rw [if_pos h2]
    obtain ⟨hlt, e34⟩ := List.getElem?_eq_some_iff.1 h2
    have hq : l.drop b = quoted cell ++ l.drop a := by
      rw [List.drop_eq_getElem_cons hlt, drop_split l (b + 1) a (by omega) (by omega), h4, e34]; simp [quoted]
    have hno : noQuote (l.drop a) = true := by
      cases hd : l.drop a with
      | nil => rfl
      | cons x y =>
        have : l[a]? = some x := by rw [← List.head?_drop, hd]; rfl
        simp only [noQuote, bne_iff_ne, ne_eq]; rintro rfl; contradiction
    have hgt := get_quoted cell (l.drop a) hno
    rw [← hq] at hgt
    have hlen : b + (quoted cell).length = a := by
      have := congrArg List.length hq; simp at this; omega
    unfold quotedOut
    rw [hgt]; simp only [hlen]
    rw [if_neg (by simp), if_pos he]
theorem scan_open (c : List UInt8) : scan (twice c) = none := by
  induction c with
  | nil => rfl
  | cons x r ih =>
    by_cases h : x = 34
    · subst h; simp only [twice, if_true]; rw [scan_two, ih]; rfl
    · simp only [twice, if_neg h]; rw [scan_other _ _ h, ih]; rfl
theorem in_open (l : List UInt8) (d : Int) (b : Nat) (cell : List UInt8) (hg : goodI d = true) (h : Within l d b l.length 2 cell) : fieldOut l (b : Int) d = ([], (b : Int), 0, 4) := by
  rcases h with ⟨h, _⟩ | ⟨h, _⟩ | ⟨_, h1, h2, h4⟩ | ⟨h, _⟩
  · cases h
  · cases h
  · unfold fieldOut
    rw [if_neg (by omega), if_neg (by simp [hg]), Int.toNat_natCast, if_pos h2]
    obtain ⟨hlt, e34⟩ := List.getElem?_eq_some_iff.1 h2
    have hq : getL (l.drop b) = ([], 0, 4) := by
      rw [List.drop_eq_getElem_cons hlt, e34]
      rw [List.take_length] at h4
      rw [h4]; simp [getL, scan_open]
    unfold quotedOut
    rw [hq]; simp
  · cases h
end Go.Proofs.Ytacclgfpmkhodaa
