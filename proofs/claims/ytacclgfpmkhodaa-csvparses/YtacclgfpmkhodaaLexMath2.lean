/-
  Mathematics of a field of a text: the form of an answer, and what is written is read back.
  Conditions: none.
-/
import Derived.Test.YtacclgfpmkhodaaLexMath
namespace Go.Proofs.Ytacclgfpmkhodaa

theorem endAt_lt (l : List UInt8) (d : Int) (j : Nat) (h : (endAt l d j).1 = 0) : j < l.length := by
  rcases Nat.lt_or_ge j l.length with h' | h'
  · exact h'
  · rw [endAt_end l d j h'] at h; simp at h
theorem faultAt_lt (l : List UInt8) (j : Nat) (h : faultAt l j ≠ 0) : j < l.length := by
  rcases Nat.lt_or_ge j l.length with h' | h'
  · exact h'
  · rw [faultAt_end l j h'] at h; simp at h
theorem lt_of_get {l : List UInt8} {i : Nat} {c : UInt8} (h : l[i]? = some c) : i < l.length := (List.getElem?_eq_some_iff.1 h).1
theorem brk_one (l : List UInt8) (j : Nat) (h : brk l j = 1) : l[j]? = some 10 := by
  unfold brk at h
  cases hc : l[j]? with
  | none => rw [hc] at h; simp at h
  | some c =>
    rw [hc] at h
    simp only at h
    by_cases h1 : c = 10
    · rw [h1]
    · rw [if_neg h1] at h; split at h <;> simp at h
theorem brk_of_two (l : List UInt8) (j : Nat) (h : brk l j = 2) : l[j]? = some 13 ∧ l[j + 1]? = some 10 := by
  unfold brk at h
  cases hc : l[j]? with
  | none => rw [hc] at h; simp at h
  | some c =>
    rw [hc] at h
    simp only at h
    by_cases h1 : c = 10
    · rw [if_pos h1] at h; simp at h
    · rw [if_neg h1] at h
      by_cases h2 : c = 13 ∧ l[j + 1]? = some 10
      · exact ⟨by rw [h2.1], h2.2⟩
      · rw [if_neg h2] at h; simp at h
theorem brk_at_two (l : List UInt8) (j : Nat) (h1 : l[j]? = some 13) (h2 : l[j + 1]? = some 10) : brk l j = 2 := by
  unfold brk; rw [h1]; simp [h2]
theorem brk_at_one (l : List UInt8) (j : Nat) (h1 : l[j]? = some 10) : brk l j = 1 := by
  unfold brk; rw [h1]; simp
theorem endAt_brk_some (l : List UInt8) (d : Int) (j : Nat) (h : brk l j ≠ 0) : (endAt l d j).1 ≠ 0 := by
  unfold endAt; split
  · decide
  · split
    · decide
    · simp
theorem take_drop_quoted (l t b : List UInt8) (i : Nat) (h : l.drop i = quoted t ++ b) : (l.take (i + (quoted t).length)).drop i = quoted t := by
  rw [List.drop_take, h]; simp
theorem quoted_last (t : List UInt8) : (quoted t)[(quoted t).length - 1]? = some 34 := by
  simp [quoted]
theorem field_err (l : List UInt8) (a d : Int) (t : List UInt8) (n : Int) (k e : Nat) (h : fieldOut l a d = (t, n, k, e)) (he : e ≠ 0) :
    t = [] ∧ k = 0 ∧ (e = 11 ∨ e = 2 ∨ (a ≤ n ∧ n < (l.length : Int))) := by
  unfold fieldOut at h
  by_cases h1 : a < 0 ∨ (l.length : Int) < a
  · rw [if_pos h1] at h; simp only [Prod.mk.injEq] at h; obtain ⟨rfl, _, rfl, rfl⟩ := h; exact ⟨rfl, rfl, .inl rfl⟩
  rw [if_neg h1] at h
  by_cases h2 : goodI d = false
  · rw [if_pos h2] at h; simp only [Prod.mk.injEq] at h; obtain ⟨rfl, _, rfl, rfl⟩ := h; exact ⟨rfl, rfl, .inr (.inl rfl)⟩
  rw [if_neg h2] at h
  by_cases h3 : l[a.toNat]? = some 34
  · rw [if_pos h3] at h
    have hlt := lt_of_get h3
    unfold quotedOut at h
    by_cases h4 : (getL (l.drop a.toNat)).2.2 ≠ 0
    · rw [if_pos h4] at h; simp only [Prod.mk.injEq] at h; obtain ⟨rfl, rfl, rfl, _⟩ := h; exact ⟨rfl, rfl, .inr (.inr (by omega))⟩
    · rw [if_neg h4] at h
      by_cases h5 : (endAt l d (a.toNat + (getL (l.drop a.toNat)).2.1)).1 = 0
      · rw [if_pos h5] at h
        have := endAt_lt l d _ h5
        simp only [Prod.mk.injEq] at h; obtain ⟨rfl, rfl, rfl, _⟩ := h; exact ⟨rfl, rfl, .inr (.inr (by omega))⟩
      · rw [if_neg h5] at h
        simp only [Prod.mk.injEq] at h; exact absurd h.2.2.2.symm he
  · rw [if_neg h3] at h
    unfold plainOut at h
    obtain ⟨h6, h7, _, h9⟩ := stopOf_spec l d a.toNat (by omega)
    by_cases h5 : (endAt l d (stopOf l d a.toNat)).1 = 0
    · rw [if_pos h5] at h
      have := endAt_lt l d _ h5
      simp only [Prod.mk.injEq] at h; obtain ⟨rfl, rfl, rfl, _⟩ := h; exact ⟨rfl, rfl, .inr (.inr (by omega))⟩
    · rw [if_neg h5] at h
      simp only [Prod.mk.injEq] at h; exact absurd h.2.2.2.symm he
theorem field_good (l : List UInt8) (a d : Int) (t : List UInt8) (n : Int) (k : Nat) (h : fieldOut l a d = (t, n, k, 0)) :
    ∃ i j : Nat, a = (i : Int) ∧ i ≤ j ∧ j ≤ l.length ∧ n = (j : Int) + ((endAt l d j).2 : Int) ∧ k = (endAt l d j).1 ∧ k ≠ 0 ∧ ((l.take j).drop i = t ∨ (l.take j).drop i = quoted t) ∧ (i < j → l[j - 1]? = some 13 → brk l j ≠ 1) := by
  unfold fieldOut at h
  by_cases h1 : a < 0 ∨ (l.length : Int) < a
  · rw [if_pos h1] at h; simp at h
  rw [if_neg h1] at h
  by_cases h2 : goodI d = false
  · rw [if_pos h2] at h; simp at h
  rw [if_neg h2] at h
  refine ⟨a.toNat, ?_⟩
  by_cases h3 : l[a.toNat]? = some 34
  · rw [if_pos h3] at h
    have hlt := lt_of_get h3
    unfold quotedOut at h
    by_cases h4 : (getL (l.drop a.toNat)).2.2 ≠ 0
    · rw [if_pos h4] at h; simp only [Prod.mk.injEq] at h; exact absurd h.2.2.2 h4
    · rw [if_neg h4] at h
      by_cases h5 : (endAt l d (a.toNat + (getL (l.drop a.toNat)).2.1)).1 = 0
      · rw [if_pos h5] at h; simp at h
      · rw [if_neg h5] at h
        simp only [Prod.mk.injEq] at h
        obtain ⟨ht, hn, hk, _⟩ := h
        obtain ⟨b, e1, e2, e3⟩ := get_only (l.drop a.toNat) (getL (l.drop a.toNat)).1 (getL (l.drop a.toNat)).2.1 (by
          have : (getL (l.drop a.toNat)).2.2 = 0 := by simpa using h4
          rw [← this])
        rw [ht] at e1 e3
        rw [e3] at hn hk h5
        have hq : (l.take (a.toNat + (quoted t).length)).drop a.toNat = quoted t := take_drop_quoted l t b _ e1
        have hlen := congrArg List.length e1
        simp only [List.length_drop, List.length_append] at hlen
        refine ⟨a.toNat + (quoted t).length, by omega, by omega, by omega, hn.symm, hk.symm, by rw [← hk]; exact h5, .inr hq, fun _ hc => ?_⟩
        have h6 : (l.drop a.toNat)[(quoted t).length - 1]? = some 34 := by
          have hp : 0 < (quoted t).length := by simp [quoted]
          rw [e1, List.getElem?_append_left (by omega)]; exact quoted_last t
        rw [List.getElem?_drop] at h6
        have hp : 0 < (quoted t).length := by simp [quoted]
        have e : a.toNat + ((quoted t).length - 1) = a.toNat + (quoted t).length - 1 := by omega
        rw [e, hc] at h6
        simp at h6
  · rw [if_neg h3] at h
    unfold plainOut at h
    obtain ⟨h6, h7, h8, h9⟩ := stopOf_spec l d a.toNat (by omega)
    by_cases h5 : (endAt l d (stopOf l d a.toNat)).1 = 0
    · rw [if_pos h5] at h
      have := stops_end_or l d _ h9 h5
      simp only [Prod.mk.injEq] at h; exact absurd h.2.2.2 this
    · rw [if_neg h5] at h
      simp only [Prod.mk.injEq] at h
      obtain ⟨ht, hn, hk, _⟩ := h
      refine ⟨stopOf l d a.toNat, by omega, h6, h7, hn.symm, hk.symm, by rw [← hk]; exact h5, .inl ht, fun hlt hc hb => ?_⟩
      have h10 := brk_one l _ hb
      have e : stopOf l d a.toNat - 1 + 1 = stopOf l d a.toNat := by omega
      have h11 := brk_at_two l (stopOf l d a.toNat - 1) hc (by rw [e]; exact h10)
      have h12 := h8 (stopOf l d a.toNat - 1) (by omega) (by omega)
      have h13 := endAt_brk_some l d (stopOf l d a.toNat - 1) (by rw [h11]; decide)
      simp [stops, h13] at h12
/-- the three ways in which a field ends -/
theorem endAt_ways (l : List UInt8) (d : Int) (j : Nat) (hj : j ≤ l.length) (h : (endAt l d j).1 ≠ 0) :
    (endAt l d j = (3, 0) ∧ j = l.length) ∨ (endAt l d j = (1, 1) ∧ ∃ c, l[j]? = some c ∧ (c.toNat : Int) = d) ∨ (endAt l d j = (2, brk l j) ∧ (brk l j = 1 ∨ brk l j = 2)) := by
  unfold endAt at h ⊢
  cases hc : l[j]? with
  | none =>
    have := List.getElem?_eq_none_iff.1 hc
    exact .inl ⟨rfl, by omega⟩
  | some c =>
    rw [hc] at h
    simp only at h ⊢
    by_cases h1 : (c.toNat : Int) = d
    · rw [if_pos h1]; exact .inr (.inl ⟨rfl, c, rfl, h1⟩)
    · rw [if_neg h1] at h ⊢
      by_cases h2 : brk l j = 0
      · rw [if_pos h2] at h; simp at h
      · rw [if_neg h2]
        have := brk_lt l j
        exact .inr (.inr ⟨rfl, by omega⟩)
end Go.Proofs.Ytacclgfpmkhodaa
