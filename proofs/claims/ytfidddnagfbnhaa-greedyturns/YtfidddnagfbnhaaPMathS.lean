/-
  How long a choice of rising numbers can be that begins at each place; what halving finds of it.
  Conditions: none.
-/
import Derived.Test.YtfidddnagfbnhaaPRest
namespace Go.Proofs.Ytfidddnagfbnhaa
set_option linter.unusedVariables false

/-- the most of those whose numbers are more than a -/
def best (a : Int) : List Int → List Nat → Nat
  | x :: r, n :: ns => if a < x then max n (best a r ns) else best a r ns
  | _, _ => 0
/-- how long a choice of rising numbers can be that begins at each place -/
def longs : List Int → List Nat
  | [] => []
  | a :: r => (best a r (longs r) + 1) :: longs r
theorem longs_len (l : List Int) : (longs l).length = l.length := by
  induction l with
  | nil => rfl
  | cons a r ih => simp [longs, ih]
theorem best_ge (a : Int) : ∀ (r : List Int) (ns : List Nat) (j : Nat) (x : Int) (n : Nat), r[j]? = some x → ns[j]? = some n → a < x → n ≤ best a r ns
  | x :: r, n :: ns, j, y, m, hx, hn, h => by
    unfold best
    cases j with
    | zero => simp at hx hn; subst hx hn; rw [if_pos h]; exact Nat.le_max_left _ _
    | succ j =>
      have := best_ge a r ns j y m (by simpa using hx) (by simpa using hn) h
      split
      · exact Nat.le_trans this (Nat.le_max_right _ _)
      · exact this
  | [], _, j, y, m, hx, _, _ => by simp at hx
  | _ :: _, [], j, y, m, _, hn, _ => by simp at hn
theorem best_at (a : Int) : ∀ (r : List Int) (ns : List Nat), best a r ns ≠ 0 → ∃ (j : Nat) (x : Int), r[j]? = some x ∧ ns[j]? = some (best a r ns) ∧ a < x
  | x :: r, n :: ns, h => by
    unfold best at h ⊢
    split at h
    · rename_i hx
      rw [if_pos hx]
      rcases Nat.le_total (best a r ns) n with hle | hle
      · exact ⟨0, x, rfl, by rw [Nat.max_eq_left hle]; rfl, hx⟩
      · rw [Nat.max_eq_right hle] at h ⊢
        obtain ⟨j, y, h1, h2, h3⟩ := best_at a r ns h
        exact ⟨j + 1, y, by simpa using h1, by simpa using h2, h3⟩
    · rename_i hx
      rw [if_neg hx]
      obtain ⟨j, y, h1, h2, h3⟩ := best_at a r ns h
      exact ⟨j + 1, y, by simpa using h1, by simpa using h2, h3⟩
  | [], _, h => by simp [best] at h
  | _ :: _, [], h => by simp [best] at h
theorem longs_pos (l : List Int) (j n : Nat) (h : (longs l)[j]? = some n) : 0 < n := by
  induction l generalizing j with
  | nil => simp [longs] at h
  | cons a r ih =>
    cases j with
    | zero => simp [longs] at h; omega
    | succ j => exact ih j (by simpa [longs] using h)
/-- the greatest -/
def most : List Nat → Nat
  | [] => 0
  | n :: r => max n (most r)
theorem most_ge (l : List Nat) (j n : Nat) (h : l[j]? = some n) : n ≤ most l := by
  induction l generalizing j with
  | nil => simp at h
  | cons a r ih =>
    unfold most
    cases j with
    | zero => simp at h; subst h; exact Nat.le_max_left _ _
    | succ j => exact Nat.le_trans (ih j (by simpa using h)) (Nat.le_max_right _ _)
theorem most_at (l : List Nat) (h : most l ≠ 0) : ∃ j : Nat, l[j]? = some (most l) := by
  induction l with
  | nil => simp [most] at h
  | cons a r ih =>
    unfold most at h ⊢
    rcases Nat.le_total (most r) a with hle | hle
    · exact ⟨0, by rw [Nat.max_eq_left hle]; rfl⟩
    · rw [Nat.max_eq_right hle] at h ⊢
      obtain ⟨j, hj⟩ := ih h
      exact ⟨j + 1, by simpa using hj⟩
theorem most_le (l : List Nat) (m : Nat) (h : ∀ (j n : Nat), l[j]? = some n → n ≤ m) : most l ≤ m := by
  rcases Nat.eq_zero_or_pos (most l) with h0 | h0
  · omega
  · obtain ⟨j, hj⟩ := most_at l (by omega)
    exact h j _ hj
theorem longs_le (l : List Int) (j n : Nat) (h : (longs l)[j]? = some n) : n + j ≤ l.length := by
  induction l generalizing j n with
  | nil => simp [longs] at h
  | cons a r ih =>
    cases j with
    | zero =>
      simp [longs] at h
      subst h
      by_cases hb : best a r (longs r) = 0
      · simp [hb]
      · obtain ⟨j, x, h1, h2, _⟩ := best_at a r (longs r) hb
        have := ih j _ h2
        simp; omega
    | succ j =>
      have := ih j n (by simpa [longs] using h)
      simp; omega
theorem most_longs_le (l : List Int) : most (longs l) ≤ l.length := most_le _ _ (fun j n h => by have := longs_le l j n h; omega)
/-- the most that the first number of a choice of one, of two .. can be -/
structure Tops (r : List Int) (t : List Int) : Prop where
  here : ∀ (k : Nat) v, t[k]? = some v → ∃ (j n : Nat), r[j]? = some v ∧ (longs r)[j]? = some n ∧ k + 1 ≤ n
  top : ∀ (j n : Nat) x, r[j]? = some x → (longs r)[j]? = some n → n ≤ t.length ∧ ∀ (k : Nat) v, k + 1 ≤ n → t[k]? = some v → x ≤ v
  falls : ∀ (k : Nat) v u, t[k]? = some v → t[k + 1]? = some u → u < v
theorem Tops.nil : Tops [] [] := ⟨fun k v h => by simp at h, fun j n x h => by simp at h, fun k v u h => by simp at h⟩
theorem Tops.len {r t : List Int} (h : Tops r t) : t.length = most (longs r) := by
  refine Nat.le_antisymm ?_ (most_le _ _ (fun j n hn => ?_))
  · rcases Nat.eq_zero_or_pos t.length with h0 | h0
    · omega
    · obtain ⟨j, n, _, h2, h3⟩ := h.here (t.length - 1) _ (List.getElem?_eq_getElem (by omega))
      have := most_ge _ j n h2; omega
  · obtain ⟨hj, _⟩ := List.getElem?_eq_some_iff.1 hn
    rw [longs_len] at hj
    exact (h.top j n _ (List.getElem?_eq_getElem hj) hn).1
theorem Tops.fallsTo {r t : List Int} (h : Tops r t) : ∀ (d k : Nat) v u, t[k]? = some v → t[k + d]? = some u → u ≤ v
  | 0, k, v, u, hv, hu => by simp at hu; rw [hv] at hu; cases hu; exact Int.le_refl _
  | d + 1, k, v, u, hv, hu => by
    obtain ⟨hk, _⟩ := List.getElem?_eq_some_iff.1 hu
    have h1 := Tops.fallsTo h d k v _ hv (List.getElem?_eq_getElem (show k + d < t.length by omega))
    have h2 := h.falls (k + d) _ u (List.getElem?_eq_getElem (show k + d < t.length by omega)) hu
    omega
/-- what halving finds is the most of those that are more -/
theorem Tops.found {r t : List Int} (h : Tops r t) (a : Int) (i : Nat) (hi : i ≤ t.length) (h1 : i = 0 ∨ ∃ v, t[i - 1]? = some v ∧ a < v) (h2 : i = t.length ∨ ∃ v, t[i]? = some v ∧ v ≤ a) : best a r (longs r) = i := by
  refine Nat.le_antisymm ?_ ?_
  · rcases Nat.eq_zero_or_pos (best a r (longs r)) with h0 | h0
    · omega
    · obtain ⟨j, x, hx, hn, hax⟩ := best_at a r (longs r) (by omega)
      obtain ⟨t1, t2⟩ := h.top j _ x hx hn
      rcases h2 with rfl | ⟨v, hv, hva⟩
      · exact t1
      · rcases Nat.lt_or_ge i (best a r (longs r)) with hlt | hge
        · have := t2 i v (by omega) hv; omega
        · exact hge
  · rcases h1 with rfl | ⟨v, hv, hva⟩
    · exact Nat.zero_le _
    · obtain ⟨j, n, hx, hn, hk⟩ := h.here (i - 1) v hv
      have := best_ge a r (longs r) j v n hx hn hva
      omega
/-- one number more, ahead of all -/
theorem Tops.cons {r t : List Int} (h : Tops r t) (a : Int) (i : Nat) (hi : i ≤ t.length) (h1 : i = 0 ∨ ∃ v, t[i - 1]? = some v ∧ a < v) (h2 : i = t.length ∨ ∃ v, t[i]? = some v ∧ v ≤ a) (t' : List Int) (ht : t' = if i < t.length then t.set i a else t ++ [a]) : Tops (a :: r) t' := by
  have hb := h.found a i hi h1 h2
  have at' : ∀ k, t'[k]? = if k = i then some a else t[k]? := fun k => by
    rw [ht]
    split
    · rename_i hlt
      rw [List.getElem?_set]
      by_cases e : i = k
      · subst e; simp [hlt]
      · rw [if_neg e, if_neg (fun e' => e e'.symm)]
    · have hl : i = t.length := by omega
      by_cases e : k = i
      · subst e; rw [if_pos rfl, hl, List.getElem?_append_right (Nat.le_refl _), Nat.sub_self]; rfl
      · rw [if_neg e]
        by_cases hk : k < t.length
        · rw [List.getElem?_append_left hk]
        · rw [List.getElem?_eq_none (by simp; omega), List.getElem?_eq_none (by omega)]
  have hl : i < t'.length ∧ t.length ≤ t'.length := by
    rw [ht]; split
    · simp; omega
    · simp; omega
  refine ⟨fun k v hv => ?_, fun j n x hx hn => ?_, fun k v u hv hu => ?_⟩
  · rw [at'] at hv
    split at hv
    · rename_i e; subst e; cases hv
      exact ⟨0, _, rfl, rfl, by rw [hb]; exact Nat.le_refl _⟩
    · obtain ⟨j, n, g1, g2, g3⟩ := h.here k v hv
      exact ⟨j + 1, n, by simpa using g1, by simpa [longs] using g2, g3⟩
  · cases j with
    | zero =>
      simp at hx; subst hx
      simp [longs, hb] at hn; subst hn
      refine ⟨hl.1, fun k v hk hv => ?_⟩
      rw [at'] at hv
      split at hv
      · cases hv; exact Int.le_refl _
      · rcases h1 with rfl | ⟨u, hu, hau⟩
        · omega
        · have := h.fallsTo (i - 1 - k) k v u hv (by rw [show k + (i - 1 - k) = i - 1 from by omega]; exact hu)
          omega
    | succ j =>
      have g1 : r[j]? = some x := by simpa using hx
      have g2 : (longs r)[j]? = some n := by simpa [longs] using hn
      obtain ⟨t1, t2⟩ := h.top j n x g1 g2
      refine ⟨Nat.le_trans t1 hl.2, fun k v hk hv => ?_⟩
      rw [at'] at hv
      split at hv
      · rename_i e; subst e; cases hv
        rcases h2 with rfl | ⟨u, hu, hua⟩
        · omega
        · have := t2 k u hk hu; omega
      · exact t2 k v hk hv
  · rw [at'] at hv hu
    split at hv
    · rename_i e; subst e; cases hv
      rw [if_neg (by omega)] at hu
      rcases h2 with rfl | ⟨v2, hv2, hva⟩
      · rw [List.getElem?_eq_none (by omega)] at hu; cases hu
      · have := h.falls k v2 u hv2 hu; omega
    · split at hu
      · rename_i e1 e2; cases hu
        rcases h1 with rfl | ⟨v2, hv2, hav⟩
        · omega
        · rw [show i - 1 = k from by omega, hv] at hv2; cases hv2; exact hav
      · exact h.falls k v u hv hu
/-- those that are still, of how long a choice can be from each place on -/
def pick : List Nat → Nat → Nat → List Int
  | [], _, _ => []
  | n :: r, i, left => if left = 0 then [] else if n = left then (i : Int) :: pick r (i + 1) (left - 1) else pick r (i + 1) left
def stillL (l : PL) : List Int := pick (longs (l.map Prod.fst)) 0 (most (longs (l.map Prod.fst)))
theorem pick_zero (l : List Nat) (i : Nat) : pick l i 0 = [] := by cases l <;> simp [pick]
theorem pick_le (l : List Nat) (i left : Nat) : (pick l i left).length ≤ l.length := by
  induction l generalizing i left with
  | nil => simp [pick]
  | cons n r ih =>
    unfold pick
    split
    · simp
    · split
      · have := ih (i + 1) (left - 1); simp; omega
      · have := ih (i + 1) left; simp; omega
end Go.Proofs.Ytfidddnagfbnhaa
