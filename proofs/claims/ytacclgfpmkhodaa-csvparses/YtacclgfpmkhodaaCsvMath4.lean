/-
  Mathematics of records that are parsed and printed again.
  Conditions: none.
-/
import Derived.Test.YtacclgfpmkhodaaCsvLaw
import Derived.Test.YtacclgfpmkhodaaCsvMath3
namespace Go.Proofs.Ytacclgfpmkhodaa

theorem read_zero (l : List UInt8) (d : Int) (rs : Recs) (n : Int) : ∀ (f a : Nat) (done : Recs) (row : List (List UInt8)), readL l d f a done row = (rs, n, 0) → n = 0 := by
  intro f
  induction f with
  | zero => intro a done row h; simp only [readL, Prod.mk.injEq] at h; exact h.2.1.symm
  | succ f ih =>
    intro a done row h
    rcases read_step l _ f a done row _ h with ⟨_, _, e⟩ | ⟨t, m, k, e, _, he, e2⟩ | ⟨t, to, hc, hr⟩ | ⟨t, to, k, hc, hk, hr⟩
    · simp only [Prod.mk.injEq] at e; exact e.2.1
    · simp only [Prod.mk.injEq] at e2; exact absurd e2.2.2.symm he
    · exact ih _ _ _ hr
    · exact ih _ _ _ hr
theorem parse_good (l : List UInt8) (u : UInt8) (hl : l.length ≤ 3000) (rs : Recs) (n : Int) (h : parseL l (u.toNat : Int) = (rs, n, 0)) : goodI (u.toNat : Int) = true ∧ n = 0 ∧ (∀ r ∈ rs, fine r) ∧ rs.length ≤ 2048 ∧ (textL rs u false).length ≤ l.length + 1 := by
  unfold parseL at h
  by_cases c1 : goodI (u.toNat : Int) = false
  · rw [if_pos c1] at h; simp at h
  rw [if_neg c1, if_neg (by omega)] at h
  have hn : n = 0 := by
    exact read_zero l _ rs n _ _ _ _ h
  subst hn
  obtain ⟨h1, h2⟩ := read_props l _ rs _ 0 [] [] h (by simp) (by simp) (by simp) (by simp)
  exact ⟨by simpa using c1, rfl, h1, h2, read_size l u rs _ 0 [] [] h (by omega) (by simp [textL, costL, sumL])⟩
theorem parse_bad (l : List UInt8) (u : UInt8) (hl : l.length ≤ 3000) (rs : Recs) (n : Int) (e : Nat) (he : e ≠ 0) (h : parseL l (u.toNat : Int) = (rs, n, e)) : rs = [] ∧ 0 ≤ n ∧ n ≤ (l.length : Int) := by
  unfold parseL at h
  by_cases c1 : goodI (u.toNat : Int) = false
  · rw [if_pos c1] at h; simp only [Prod.mk.injEq] at h; obtain ⟨rfl, rfl, _⟩ := h; exact ⟨rfl, by omega, by omega⟩
  rw [if_neg c1, if_neg (by omega)] at h
  exact read_errs l _ rs n e he _ 0 [] [] (by omega) h
/-- fine records are printed -/
theorem print_fine (rs : List (List ByteArray)) (u : UInt8) (x : Bool) (hg : goodI (u.toNat : Int) = true) (hf : ∀ r ∈ recsOf rs, fine r) (hn : rs.length ≤ 2048) (ht : (textL (recsOf rs) u x).length ≤ 4194304) : printL rs u x = (textL (recsOf rs) u x, 0) := by
  have hfr : ∀ r ∈ rs, r.length ≠ 0 ∧ r.length ≤ 128 ∧ ∀ c ∈ r, c.size ≤ 4096 := fun r hr => by
    obtain ⟨h1, h2, h3⟩ := hf (bytesOf r) (List.mem_map.2 ⟨r, hr, rfl⟩)
    refine ⟨fun e => h1 (by simp [bytesOf, List.eq_nil_of_length_eq_zero e]), by simpa [bytesOf] using h2, fun c hc => ?_⟩
    have := h3 c.data.toList (List.mem_map.2 ⟨c, hc, rfl⟩)
    rwa [ba_size] at this
  unfold printL
  rw [if_neg (by simp [hg]), if_neg (by
    intro h
    obtain ⟨r, hr, h0⟩ := List.any_eq_true.1 h
    exact (hfr r hr).1 (by simpa [bareRow] using h0)), if_neg (by
    unfold tooLarge
    rw [decide_eq_false (show ¬ 2048 < rs.length by omega), Bool.false_or]
    intro h
    obtain ⟨r, hr, h0⟩ := List.any_eq_true.1 h
    simp only [largeRow, Bool.or_eq_true, decide_eq_true_eq, List.any_eq_true] at h0
    rcases h0 with h0 | ⟨c, hc, h0⟩
    · have := (hfr r hr).2.1; omega
    · have := (hfr r hr).2.2 c hc; omega), if_neg (by omega)]

end Go.Proofs.Ytacclgfpmkhodaa
