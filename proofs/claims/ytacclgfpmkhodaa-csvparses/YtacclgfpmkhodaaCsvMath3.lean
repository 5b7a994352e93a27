/-
  Mathematics of records that are parsed: what they are like, and how long their text is.
  Conditions: none.
-/
import Derived.Test.YtacclgfpmkhodaaCsvMath2
namespace Go.Proofs.Ytacclgfpmkhodaa

theorem plain_of_stops (l : List UInt8) (d : Int) (k : Nat) (c : UInt8) (hc : l[k]? = some c) (h : stops l d k = false) : goodI (c.toNat : Int) = true ∧ (c.toNat : Int) ≠ d := by
  unfold stops at h
  simp only [Bool.or_eq_false_iff, bne_eq_false_iff_eq] at h
  obtain ⟨h1, h2⟩ := h
  unfold faultAt at h2
  unfold endAt at h1
  rw [hc] at h1 h2
  simp only at h1 h2
  have n34 : c ≠ 34 := fun e => by rw [if_pos e] at h2; cases h2
  rw [if_neg n34] at h2
  have n13 : c ≠ 13 := fun e => by rw [if_pos e] at h2; cases h2
  have nd : (c.toNat : Int) ≠ d := fun e => by rw [if_pos e] at h1; cases h1
  rw [if_neg nd] at h1
  have n10 : c ≠ 10 := fun e => by
    have : brk l k = 1 := brk_at_one l k (by rw [hc, e])
    rw [this] at h1; cases h1
  have i34 : (c.toNat : Int) ≠ 34 := fun e => n34 (UInt8.toNat_inj.1 (by show c.toNat = 34; omega))
  have i13 : (c.toNat : Int) ≠ 13 := fun e => n13 (UInt8.toNat_inj.1 (by show c.toNat = 13; omega))
  have i10 : (c.toNat : Int) ≠ 10 := fun e => n10 (UInt8.toNat_inj.1 (by show c.toNat = 10; omega))
  exact ⟨by simp [goodI, i34, i13, i10], nd⟩
/-- what is read as a field is as long as the field is written, at least -/
theorem field_put (l : List UInt8) (a : Nat) (d : Int) (t : List UInt8) (n : Int) (k : Nat) (h : fieldOut l (a : Int) d = (t, n, k, 0)) :
    ∃ j, a + (putL t d).length ≤ j ∧ j ≤ l.length ∧ n = (j : Int) + ((endAt l d j).2 : Int) ∧ k = (endAt l d j).1 ∧ k ≠ 0 := by
  unfold fieldOut at h
  by_cases c1 : (a : Int) < 0 ∨ (l.length : Int) < (a : Int)
  · rw [if_pos c1] at h; simp at h
  rw [if_neg c1] at h
  by_cases c2 : goodI d = false
  · rw [if_pos c2] at h; simp at h
  rw [if_neg c2, Int.toNat_natCast] at h
  by_cases c3 : l[a]? = some 34
  · rw [if_pos c3] at h
    unfold quotedOut at h
    by_cases c4 : (getL (l.drop a)).2.2 ≠ 0
    · rw [if_pos c4] at h; simp only [Prod.mk.injEq] at h; exact absurd h.2.2.2 c4
    rw [if_neg c4] at h
    by_cases c5 : (endAt l d (a + (getL (l.drop a)).2.1)).1 = 0
    · rw [if_pos c5] at h; simp at h
    rw [if_neg c5] at h
    simp only [Prod.mk.injEq] at h
    obtain ⟨e1, e2, e3, _⟩ := h
    obtain ⟨b, x1, x2, x3⟩ := get_only (l.drop a) (getL (l.drop a)).1 (getL (l.drop a)).2.1 (by
      have : (getL (l.drop a)).2.2 = 0 := by simpa using c4
      rw [← this])
    rw [e1] at x1 x3
    rw [x3] at e2 e3 c5
    have hlen := congrArg List.length x1
    simp only [List.length_drop, List.length_append] at hlen
    have hq : (putL t d).length ≤ (quoted t).length := by unfold putL; split; rw [quoted_length]; omega; exact Nat.le_refl _
    have hq0 := quoted_length t
    exact ⟨a + (quoted t).length, by omega, by omega, e2.symm, e3.symm, by rw [← e3]; exact c5⟩
  · rw [if_neg c3] at h
    unfold plainOut at h
    obtain ⟨y1, y2, y3, y4⟩ := stopOf_spec l d a (by omega)
    by_cases c5 : (endAt l d (stopOf l d a)).1 = 0
    · rw [if_pos c5] at h
      have := stops_end_or l d _ y4 c5
      simp only [Prod.mk.injEq] at h; exact absurd h.2.2.2 this
    rw [if_neg c5] at h
    simp only [Prod.mk.injEq] at h
    obtain ⟨e1, e2, e3, _⟩ := h
    have hp : plainB t d = true := List.all_eq_true.2 fun c hc => by
      rw [← e1] at hc
      obtain ⟨q, hq, rfl⟩ := List.getElem_of_mem hc
      simp only [List.length_drop, List.length_take] at hq
      have hs := y3 (a + q) (by omega) (by omega)
      obtain ⟨g1, g2⟩ := plain_of_stops l d (a + q) l[a + q] (List.getElem?_eq_getElem (by omega)) hs
      rw [List.getElem_drop, List.getElem_take]
      simp [g1, g2]
    have hlen : t.length = stopOf l d a - a := by rw [← e1]; simp; omega
    have hput : putL t d = t := by unfold putL; rw [if_pos hp]
    exact ⟨stopOf l d a, by rw [hput]; omega, y2, e2.symm, e3.symm, by rw [← e3]; exact c5⟩
theorem field_err_place (l : List UInt8) (a : Nat) (ha : a ≤ l.length) (d : Int) (t : List UInt8) (n : Int) (k e : Nat) (h : fieldOut l (a : Int) d = (t, n, k, e)) (he : e ≠ 0) : 0 ≤ n ∧ n ≤ (l.length : Int) := by
  unfold fieldOut at h
  rw [if_neg (by omega)] at h
  by_cases c2 : goodI d = false
  · rw [if_pos c2] at h; simp only [Prod.mk.injEq] at h; omega
  rw [if_neg c2, Int.toNat_natCast] at h
  by_cases c3 : l[a]? = some 34
  · rw [if_pos c3] at h
    unfold quotedOut at h
    by_cases c4 : (getL (l.drop a)).2.2 ≠ 0
    · rw [if_pos c4] at h; simp only [Prod.mk.injEq] at h; omega
    rw [if_neg c4] at h
    by_cases c5 : (endAt l d (a + (getL (l.drop a)).2.1)).1 = 0
    · rw [if_pos c5] at h
      have := endAt_lt l d _ c5
      simp only [Prod.mk.injEq] at h; omega
    rw [if_neg c5] at h
    simp only [Prod.mk.injEq] at h
    exact absurd h.2.2.2.symm he
  · rw [if_neg c3] at h
    unfold plainOut at h
    obtain ⟨y1, y2, y3, y4⟩ := stopOf_spec l d a (by omega)
    by_cases c5 : (endAt l d (stopOf l d a)).1 = 0
    · rw [if_pos c5] at h
      simp only [Prod.mk.injEq] at h; omega
    rw [if_neg c5] at h
    simp only [Prod.mk.injEq] at h
    exact absurd h.2.2.2.symm he
theorem cell_err_place (l : List UInt8) (a : Nat) (ha : a ≤ l.length) (d : Int) (fits : Bool) (t : List UInt8) (n : Int) (k e : Nat) (h : cellOut l a d fits = (t, n, k, e)) (he : e ≠ 0) : 0 ≤ n ∧ n ≤ (l.length : Int) := by
  unfold cellOut at h
  split at h
  · simp only [Prod.mk.injEq] at h; omega
  · split at h
    · simp only [Prod.mk.injEq] at h; omega
    · exact field_err_place l a ha d t n k e h he

/-- one step of reading -/
theorem read_step (l : List UInt8) (d : Int) (f a : Nat) (done : Recs) (row : List (List UInt8)) (R : Recs × Int × Nat) (h : readL l d (f + 1) a done row = R) :
    (row = [] ∧ l.length ≤ a ∧ R = (done, 0, 0)) ∨
    (∃ t n k e, cellOut l a d (fitsB done row) = (t, n, k, e) ∧ e ≠ 0 ∧ R = ([], n, e)) ∨
    (∃ (t : List UInt8) (to : Nat), cellOut l a d (fitsB done row) = (t, (to : Int), 1, 0) ∧ readL l d f to done (row ++ [t]) = R) ∨
    (∃ (t : List UInt8) (to k : Nat), cellOut l a d (fitsB done row) = (t, (to : Int), k, 0) ∧ k ≠ 1 ∧ readL l d f to (done ++ [row ++ [t]]) [] = R) := by
  rw [readL] at h
  by_cases c1 : row = [] ∧ l.length ≤ a
  · rw [if_pos c1] at h; exact .inl ⟨c1.1, c1.2, h.symm⟩
  rw [if_neg c1] at h
  obtain ⟨t, n, k, e, hc⟩ : ∃ t n k e, cellOut l a d (fitsB done row) = (t, n, k, e) := ⟨_, _, _, _, rfl⟩
  rw [hc] at h
  simp only at h
  by_cases he : e ≠ 0
  · rw [if_pos he] at h; exact .inr (.inl ⟨t, n, k, e, hc, he, h.symm⟩)
  rw [if_neg he] at h
  obtain rfl : e = 0 := by simpa using he
  obtain ⟨_, _, _, to, rfl, _⟩ := cell_ok l a d _ t n k hc
  rw [Int.toNat_natCast] at h
  by_cases hk : k = 1
  · subst hk; rw [if_pos rfl] at h; exact .inr (.inr (.inl ⟨t, to, hc, h⟩))
  · rw [if_neg hk] at h; exact .inr (.inr (.inr ⟨t, to, k, hc, hk, h⟩))
theorem read_props (l : List UInt8) (d : Int) (rs : Recs) : ∀ (f a : Nat) (done : Recs) (row : List (List UInt8)), readL l d f a done row = (rs, 0, 0) → (∀ r ∈ done, fine r) → row.length ≤ 128 → (∀ c ∈ row, c.length ≤ 4096) → done.length ≤ 2048 → (∀ r ∈ rs, fine r) ∧ rs.length ≤ 2048 := by
  intro f
  induction f with
  | zero => intro a done row h h1 h2 h3 h4; simp only [readL, Prod.mk.injEq] at h; obtain ⟨rfl, _⟩ := h; exact ⟨h1, h4⟩
  | succ f ih =>
    intro a done row h h1 h2 h3 h4
    rcases read_step l d f a done row _ h with ⟨_, _, e⟩ | ⟨t, n, k, e, _, he, e2⟩ | ⟨t, to, hc, hr⟩ | ⟨t, to, k, hc, hk, hr⟩
    · simp only [Prod.mk.injEq] at e; obtain ⟨rfl, _⟩ := e; exact ⟨h1, h4⟩
    · simp only [Prod.mk.injEq] at e2; exact absurd e2.2.2.symm he
    · obtain ⟨hf, ht, _⟩ := cell_ok l a d _ _ _ _ hc
      simp only [fitsB, Bool.and_eq_true, decide_eq_true_eq] at hf
      exact ih to done (row ++ [t]) hr h1 (by simp; omega) (fun c hc' => by
        rcases List.mem_append.1 hc' with h | h
        · exact h3 c h
        · simp at h; subst h; exact ht) h4
    · obtain ⟨hf, ht, _⟩ := cell_ok l a d _ _ _ _ hc
      simp only [fitsB, Bool.and_eq_true, decide_eq_true_eq] at hf
      refine ih to (done ++ [row ++ [t]]) [] hr (fun r hr' => ?_) (by simp) (by simp) (by simp; omega)
      rcases List.mem_append.1 hr' with h | h
      · exact h1 r h
      · simp at h; subst h
        exact ⟨by simp, by simp; omega, fun c hc' => by
          rcases List.mem_append.1 hc' with h | h
          · exact h3 c h
          · simp at h; subst h; exact ht⟩
theorem read_errs (l : List UInt8) (d : Int) (rs : Recs) (n : Int) (e : Nat) (he : e ≠ 0) : ∀ (f a : Nat) (done : Recs) (row : List (List UInt8)), a ≤ l.length → readL l d f a done row = (rs, n, e) → rs = [] ∧ 0 ≤ n ∧ n ≤ (l.length : Int) := by
  intro f
  induction f with
  | zero => intro a done row _ h; simp only [readL, Prod.mk.injEq] at h; exact absurd h.2.2.symm he
  | succ f ih =>
    intro a done row ha h
    rcases read_step l d f a done row _ h with ⟨_, _, e1⟩ | ⟨t, n', k, e', hc, he', e2⟩ | ⟨t, to, hc, hr⟩ | ⟨t, to, k, hc, hk, hr⟩
    · simp only [Prod.mk.injEq] at e1; exact absurd e1.2.2 he
    · simp only [Prod.mk.injEq] at e2
      obtain ⟨rfl, rfl, rfl⟩ := e2
      exact ⟨rfl, cell_err_place l a ha d _ t n k e hc he⟩
    · obtain ⟨_, _, _, to', h1, h2, h3, _⟩ := cell_ok l a d _ _ _ _ hc
      exact ih to done _ (by omega) hr
    · obtain ⟨_, _, _, to', h1, h2, h3, _⟩ := cell_ok l a d _ _ _ _ hc
      exact ih to _ [] (by omega) hr
def costL (u : UInt8) (row : List (List UInt8)) : Nat := sumL u row + row.length
theorem cost_snoc (u : UInt8) (row : List (List UInt8)) (t : List UInt8) : costL u (row ++ [t]) = costL u row + (putL t (u.toNat : Int)).length + 1 := by
  unfold costL; rw [sumL_snoc]; simp; omega
theorem write_cost (u : UInt8) (r : List (List UInt8)) (h : r ≠ []) : (writeL r u false).length = costL u r := by
  have := List.length_pos_iff.2 h
  rw [write_sum]; unfold costL; simp [brkL]; omega
theorem text_snoc (u : UInt8) (crlf : Bool) (rs : Recs) (r : List (List UInt8)) : textL (rs ++ [r]) u crlf = textL rs u crlf ++ writeL r u crlf := by simp [textL]
theorem read_size (l : List UInt8) (u : UInt8) (rs : Recs) : ∀ (f a : Nat) (done : Recs) (row : List (List UInt8)), readL l (u.toNat : Int) f a done row = (rs, 0, 0) → a ≤ l.length → (textL done u false).length + costL u row ≤ a → (textL rs u false).length ≤ l.length + 1 := by
  intro f
  induction f with
  | zero => intro a done row h h1 h2; simp only [readL, Prod.mk.injEq] at h; obtain ⟨rfl, _⟩ := h; omega
  | succ f ih =>
    intro a done row h h1 h2
    rcases read_step l _ f a done row _ h with ⟨_, _, e⟩ | ⟨t, n, k, e, _, he, e2⟩ | ⟨t, to, hc, hr⟩ | ⟨t, to, k, hc, hk, hr⟩
    · simp only [Prod.mk.injEq] at e; obtain ⟨rfl, _⟩ := e; omega
    · simp only [Prod.mk.injEq] at e2; exact absurd e2.2.2.symm he
    · obtain ⟨_, _, hfo, to', g1, g2, g3, _⟩ := cell_ok l a _ _ _ _ _ hc
      obtain ⟨j, j1, j2, j3, j4, j5⟩ := field_put l a _ _ _ _ hfo
      have hk2 := endAt_ways l _ j j2 (by rw [← j4]; exact j5)
      have hend : (endAt l (u.toNat : Int) j).2 = 1 := by
        rcases hk2 with ⟨e, _⟩ | ⟨e, _⟩ | ⟨e, _⟩
        · rw [e] at j4; cases j4
        · rw [e]
        · rw [e] at j4; cases j4
      exact ih to done (row ++ [t]) hr (by omega) (by rw [cost_snoc]; omega)
    · obtain ⟨_, _, hfo, to', g1, g2, g3, _⟩ := cell_ok l a _ _ _ _ _ hc
      obtain ⟨j, j1, j2, j3, j4, j5⟩ := field_put l a _ _ _ _ hfo
      have hk2 := endAt_ways l _ j j2 (by rw [← j4]; exact j5)
      have hw : (textL (done ++ [row ++ [t]]) u false).length ≤ j + 1 := by
        rw [text_snoc, List.length_append, write_cost u _ (by simp), cost_snoc]; omega
      rcases hk2 with ⟨e, hj⟩ | ⟨e, _⟩ | ⟨e, hb⟩
      · rw [e] at j3
        rw [read_stop _ _ _ _ _ (by omega)] at hr
        simp only [Prod.mk.injEq] at hr
        obtain ⟨rfl, _⟩ := hr
        omega
      · rw [e] at j4; exact absurd j4 hk
      · rw [e] at j3
        refine ih to _ [] hr (by omega) ?_
        have : costL u [] = 0 := rfl
        simp only at j3
        omega
theorem text_breaks (u : UInt8) (rs : Recs) (x : Bool) : (textL rs u x).length ≤ (textL rs u false).length + rs.length := by
  induction rs with
  | nil => simp [textL]
  | cons r rs ih =>
    have h1 : ∀ y, (textL (r :: rs) u y).length = (recL u r).length + (brkL y).length + (textL rs u y).length := fun y => by simp [textL, writeL]; omega
    have h2 : (brkL x).length ≤ 2 := by cases x <;> decide
    have h3 : (brkL false).length = 1 := rfl
    rw [h1, h1, List.length_cons]; omega
/-- what is read begins with what has been read -/
theorem read_begins (l : List UInt8) (d : Int) (rs : Recs) : ∀ (f a : Nat) (done : Recs) (row : List (List UInt8)), enough l a row f → readL l d f a done row = (rs, 0, 0) → (∃ x, rs = done ++ x) ∧ (row ≠ [] → ∃ y x, rs = done ++ (row ++ y) :: x) := by
  intro f
  induction f with
  | zero => intro a done row hf h; unfold enough at hf; split at hf <;> omega
  | succ f ih =>
    intro a done row hf h
    rcases read_step l d f a done row _ h with ⟨h0, _, e⟩ | ⟨t, n, k, e, _, he, e2⟩ | ⟨t, to, hc, hr⟩ | ⟨t, to, k, hc, hk, hr⟩
    · simp only [Prod.mk.injEq] at e; obtain ⟨rfl, _⟩ := e; exact ⟨⟨[], by simp⟩, fun h1 => absurd h0 h1⟩
    · simp only [Prod.mk.injEq] at e2; exact absurd e2.2.2.symm he
    · obtain ⟨_, _, _, to', g1, g2, g3, g4⟩ := cell_ok l a d _ _ _ _ hc
      have hf' : enough l to (row ++ [t]) f := by unfold enough at hf ⊢; rw [if_neg (by simp)]; split at hf <;> omega
      obtain ⟨_, h2⟩ := ih to done (row ++ [t]) hf' hr
      obtain ⟨y, x, e⟩ := h2 (by simp)
      exact ⟨⟨_, e⟩, fun _ => ⟨t :: y, x, by rw [e]; simp⟩⟩
    · obtain ⟨_, _, _, to', g1, g2, g3, g4⟩ := cell_ok l a d _ _ _ _ hc
      by_cases hto : to < l.length ∨ a < to
      · have hf' : enough l to [] f := by unfold enough at hf ⊢; rw [if_pos rfl]; split at hf <;> omega
        obtain ⟨⟨x, e⟩, _⟩ := ih to (done ++ [row ++ [t]]) [] hf' hr
        exact ⟨⟨(row ++ [t]) :: x, by rw [e]; simp⟩, fun _ => ⟨[t], x, by rw [e]; simp⟩⟩
      · rw [read_stop _ _ _ _ _ (by omega)] at hr
        simp only [Prod.mk.injEq] at hr
        obtain ⟨e, _⟩ := hr
        exact ⟨⟨[row ++ [t]], by rw [e]⟩, fun _ => ⟨[t], [], by rw [← e]⟩⟩
end Go.Proofs.Ytacclgfpmkhodaa
