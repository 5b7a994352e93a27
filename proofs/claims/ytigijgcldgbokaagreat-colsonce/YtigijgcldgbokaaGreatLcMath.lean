/-
  The longest common row of two lists: how long it is, which one the document names, and what holds of both.
  Conditions: none.
-/
import Derived.Test.YtigijgcldgbokaaGreatProg
namespace Go.Proofs.YtigijgcldgbokaaGreat
set_option linter.unusedVariables false
set_option linter.unusedSectionVars false

section
variable {α β : Type} [DecidableEq α] [DecidableEq β]
/-- how long the longest common row is -/
def lcsN : List α → List α → Nat
  | [], _ => 0
  | _ :: _, [] => 0
  | x :: a, y :: b => if x = y then lcsN a b + 1 else max (lcsN a (y :: b)) (lcsN (x :: a) b)
termination_by a b => a.length + b.length
/-- the one that the document names -/
def wayC : Nat → Nat → List α → List α → List (Int × Int)
  | _, _, [], _ => []
  | _, _, _ :: _, [] => []
  | i, j, x :: a, y :: b => if x = y then ((i : Int), (j : Int)) :: wayC (i + 1) (j + 1) a b else if lcsN (x :: a) b ≤ lcsN a (y :: b) then wayC (i + 1) j a (y :: b) else wayC i (j + 1) (x :: a) b
termination_by _ _ a b => a.length + b.length
theorem lcs_nil (b : List α) : lcsN [] b = 0 := by rw [lcsN]
theorem lcs_nil2 (a : List α) : lcsN a [] = 0 := by cases a <;> rw [lcsN]
theorem lcs_cons (x y : α) (a b : List α) : lcsN (x :: a) (y :: b) = if x = y then lcsN a b + 1 else max (lcsN a (y :: b)) (lcsN (x :: a) b) := by rw [lcsN]
theorem way_nil (i j : Nat) (b : List α) : wayC i j [] b = [] := by rw [wayC]
theorem way_nil2 (i j : Nat) (a : List α) : wayC i j a [] = [] := by cases a <;> rw [wayC]
theorem way_cons (i j : Nat) (x y : α) (a b : List α) : wayC i j (x :: a) (y :: b) = if x = y then ((i : Int), (j : Int)) :: wayC (i + 1) (j + 1) a b else if lcsN (x :: a) b ≤ lcsN a (y :: b) then wayC (i + 1) j a (y :: b) else wayC i (j + 1) (x :: a) b := by rw [wayC]
theorem wayC_len (i j : Nat) (a b : List α) : (wayC i j a b).length = lcsN a b := by
  induction i, j, a, b using wayC.induct with
  | case1 i j b => rw [way_nil, lcs_nil]; rfl
  | case2 i j x a => rw [way_nil2, lcs_nil2]; rfl
  | case3 i j a x b ih => rw [way_cons, lcs_cons, if_pos rfl, if_pos rfl, List.length_cons, ih]
  | case4 i j x a y b h h2 ih => rw [way_cons, lcs_cons, if_neg h, if_neg h, if_pos h2, ih]; omega
  | case5 i j x a y b h h2 ih => rw [way_cons, lcs_cons, if_neg h, if_neg h, if_neg h2, ih]; omega
theorem lcs_le (a b : List α) : lcsN a b ≤ a.length ∧ lcsN a b ≤ b.length := by
  induction a, b using lcsN.induct with
  | case1 b => rw [lcs_nil]; simp
  | case2 x a => rw [lcs_nil2]; simp
  | case3 a x b ih => rw [lcs_cons, if_pos rfl]; simp only [List.length_cons]; omega
  | case4 x a y b h ih1 ih2 => rw [lcs_cons, if_neg h]; simp only [List.length_cons] at *; omega
/-- there is a common row so long .. -/
theorem lcs_wit (a b : List α) : ∃ s, List.Sublist s a ∧ List.Sublist s b ∧ s.length = lcsN a b := by
  induction a, b using lcsN.induct with
  | case1 b => exact ⟨[], by simp, by simp, by rw [lcs_nil]; rfl⟩
  | case2 x a => exact ⟨[], by simp, by simp, by rw [lcs_nil2]; rfl⟩
  | case3 a x b ih =>
    obtain ⟨s, h1, h2, h3⟩ := ih
    exact ⟨x :: s, h1.cons_cons x, h2.cons_cons x, by rw [lcs_cons, if_pos rfl, List.length_cons, h3]⟩
  | case4 x a y b h ih1 ih2 =>
    obtain ⟨s, h1, h2, h3⟩ := ih1
    obtain ⟨s', h1', h2', h3'⟩ := ih2
    rw [lcs_cons, if_neg h]
    rcases Nat.le_total (lcsN a (y :: b)) (lcsN (x :: a) b) with hl | hl
    · exact ⟨s', h1', h2'.cons y, by omega⟩
    · exact ⟨s, h1.cons x, h2, by omega⟩
theorem tail_sub {x : α} {s a : List α} (h : List.Sublist s (x :: a)) : List.Sublist s.tail a := by
  cases h with
  | cons _ h => exact (List.tail_sublist s).trans h
  | cons_cons _ h => exact h
/-- .. and none is longer -/
theorem lcs_max (a b : List α) : ∀ s, List.Sublist s a → List.Sublist s b → s.length ≤ lcsN a b := by
  induction a, b using lcsN.induct with
  | case1 b => intro s h1 _; rw [List.sublist_nil.1 h1]; simp
  | case2 x a => intro s _ h2; rw [List.sublist_nil.1 h2]; simp
  | case3 a x b ih =>
    intro s h1 h2
    have := ih _ (tail_sub h1) (tail_sub h2)
    rw [lcs_cons, if_pos rfl]
    simp only [List.length_tail] at this; omega
  | case4 x a y b h ih1 ih2 =>
    intro s h1 h2
    rw [lcs_cons, if_neg h]
    cases h1 with
    | cons _ h1 => have := ih1 _ h1 h2; omega
    | cons_cons _ h1 =>
      cases h2 with
      | cons _ h2 => have := ih2 _ (h1.cons_cons x) h2; omega
      | cons_cons _ _ => exact absurd rfl h
theorem lcs_mono {a b a' b' : List α} (h : List.Sublist a a') (k : List.Sublist b b') : lcsN a b ≤ lcsN a' b' := by
  obtain ⟨s, h1, h2, h3⟩ := lcs_wit a b
  rw [← h3]; exact lcs_max _ _ s (h1.trans h) (h2.trans k)
theorem lcs_symm (a b : List α) : lcsN b a = lcsN a b := by
  obtain ⟨s, h1, h2, h3⟩ := lcs_wit a b
  obtain ⟨t, k1, k2, k3⟩ := lcs_wit b a
  have := lcs_max _ _ s h2 h1
  have := lcs_max _ _ t k2 k1
  omega
theorem lcs_front (c a b : List α) : lcsN (c ++ a) (c ++ b) = lcsN a b + c.length := by
  induction c with
  | nil => simp
  | cons x c ih => rw [List.cons_append, List.cons_append, lcs_cons, if_pos rfl, ih]; simp; omega
theorem lcs_end (a b c : List α) : lcsN (a ++ c) (b ++ c) = lcsN a b + c.length := by
  obtain ⟨s, h1, h2, h3⟩ := lcs_wit a b
  have ge := lcs_max _ _ (s ++ c) (h1.append (List.Sublist.refl c)) (h2.append (List.Sublist.refl c))
  rw [List.length_append, h3] at ge
  obtain ⟨t, k1, k2, k3⟩ := lcs_wit (a ++ c) (b ++ c)
  obtain ⟨t1, t2, e1, m1, m2⟩ := List.sublist_append_iff.1 k1
  obtain ⟨u1, u2, e2, n1, n2⟩ := List.sublist_append_iff.1 k2
  have hl2 := m2.length_le
  have hl2' := n2.length_le
  have e : t1 ++ t2 = u1 ++ u2 := e1.symm.trans e2
  have key : t.length ≤ lcsN a b + c.length := by
    rcases Nat.le_total t1.length u1.length with hl | hl
    · have hp : t1 <+: u1 := List.prefix_of_prefix_length_le (List.prefix_append t1 t2) (by rw [e]; exact List.prefix_append u1 u2) hl
      have := lcs_max _ _ t1 m1 (hp.sublist.trans n1)
      rw [e1, List.length_append]; omega
    · have hp : u1 <+: t1 := List.prefix_of_prefix_length_le (List.prefix_append u1 u2) (by rw [← e]; exact List.prefix_append t1 t2) hl
      have := lcs_max _ _ u1 (hp.sublist.trans m1) n1
      rw [e2, List.length_append]; omega
  omega
theorem lcs_self (a : List α) : lcsN a a = a.length := by
  have h1 := lcs_max a a a (List.Sublist.refl _) (List.Sublist.refl _)
  have h2 := (lcs_le a a).1
  omega
theorem lcs_less (a : List α) (k : Nat) (h : k < a.length) : lcsN a (a.take k ++ a.drop (k + 1)) = a.length - 1 ∧ lcsN (a.take k ++ a.drop (k + 1)) a = a.length - 1 := by
  have hs : List.Sublist (a.take k ++ a.drop (k + 1)) a := by
    conv => rhs; rw [← List.take_append_drop k a]
    refine (List.Sublist.refl _).append ?_
    rw [List.drop_eq_getElem_cons h]
    exact List.sublist_cons_self _ _
  have hl : (a.take k ++ a.drop (k + 1)).length = a.length - 1 := by simp; omega
  have h1 := lcs_max a _ _ hs (List.Sublist.refl _)
  have h2 := (lcs_le a (a.take k ++ a.drop (k + 1))).2
  have : lcsN a (a.take k ++ a.drop (k + 1)) = a.length - 1 := by omega
  exact ⟨this, by rw [lcs_symm]; exact this⟩
theorem way_self (i : Nat) (a : List α) : ∀ k, k < a.length → (wayC i i a a)[k]? = some (((i + k : Nat) : Int), ((i + k : Nat) : Int)) := by
  induction a generalizing i with
  | nil => intro k hk; simp at hk
  | cons x a ih =>
    intro k hk
    rw [way_cons, if_pos rfl]
    cases k with
    | zero => simp
    | succ k =>
      rw [List.getElem?_cons_succ, ih (i + 1) k (by simpa using hk)]
      simp only [Option.some.injEq, Prod.mk.injEq]; omega
/-- the same of texts and of what stands for them -/
theorem lcs_map (f : α → β) (a b : List α) (h : ∀ x ∈ a, ∀ y ∈ b, f x = f y → x = y) : lcsN (a.map f) (b.map f) = lcsN a b := by
  induction a, b using lcsN.induct with
  | case1 b => rw [List.map_nil, lcs_nil, lcs_nil]
  | case2 x a => rw [List.map_nil, lcs_nil2, lcs_nil2]
  | case3 a x b ih => rw [List.map_cons, List.map_cons, lcs_cons, lcs_cons, if_pos rfl, if_pos rfl, ih (fun u hu v hv => h u (by simp [hu]) v (by simp [hv]))]
  | case4 x a y b hne ih1 ih2 =>
    have hf : f x ≠ f y := fun e => hne (h x (by simp) y (by simp) e)
    have e1 := ih1 (fun u hu v hv => h u (by simp [hu]) v hv)
    have e2 := ih2 (fun u hu v hv => h u hu v (by simp [hv]))
    rw [List.map_cons] at e1 e2
    rw [List.map_cons, List.map_cons, lcs_cons, lcs_cons, if_neg hne, if_neg hf, e1, e2]
theorem way_map (f : α → β) (i j : Nat) (a b : List α) (h : ∀ x ∈ a, ∀ y ∈ b, f x = f y → x = y) : wayC i j (a.map f) (b.map f) = wayC i j a b := by
  induction i, j, a, b using wayC.induct with
  | case1 i j b => rw [List.map_nil, way_nil, way_nil]
  | case2 i j x a => rw [List.map_nil, way_nil2, way_nil2]
  | case3 i j a x b ih => rw [List.map_cons, List.map_cons, way_cons, way_cons, if_pos rfl, if_pos rfl, ih (fun u hu v hv => h u (by simp [hu]) v (by simp [hv]))]
  | case4 i j x a y b hne h2 ih =>
    have hf : f x ≠ f y := fun e => hne (h x (by simp) y (by simp) e)
    have e1 := lcs_map f (x :: a) b (fun u hu v hv => h u hu v (by simp [hv]))
    have e2 := lcs_map f a (y :: b) (fun u hu v hv => h u (by simp [hu]) v hv)
    have e3 := ih (fun u hu v hv => h u (by simp [hu]) v hv)
    rw [List.map_cons] at e1 e2 e3
    rw [List.map_cons, List.map_cons, way_cons, way_cons, if_neg hne, if_neg hf, e1, e2, if_pos h2, if_pos h2, e3]
  | case5 i j x a y b hne h2 ih =>
    have hf : f x ≠ f y := fun e => hne (h x (by simp) y (by simp) e)
    have e1 := lcs_map f (x :: a) b (fun u hu v hv => h u hu v (by simp [hv]))
    have e2 := lcs_map f a (y :: b) (fun u hu v hv => h u (by simp [hu]) v hv)
    have e3 := ih (fun u hu v hv => h u hu v (by simp [hv]))
    rw [List.map_cons] at e1 e2 e3
    rw [List.map_cons, List.map_cons, way_cons, way_cons, if_neg hne, if_neg hf, e1, e2, if_neg h2, if_neg h2, e3]
/-! step by step, by places -/
theorem drop_at {γ : Type} (a : List γ) (i : Nat) (x : γ) (h : a[i]? = some x) : a.drop i = x :: a.drop (i + 1) := by
  obtain ⟨hi, e⟩ := List.getElem?_eq_some_iff.1 h
  rw [List.drop_eq_getElem_cons hi, e]
theorem way_both (a b : List α) (i j : Nat) (x : α) (ha : a[i]? = some x) (hb : b[j]? = some x) : wayC i j (a.drop i) (b.drop j) = ((i : Int), (j : Int)) :: wayC (i + 1) (j + 1) (a.drop (i + 1)) (b.drop (j + 1)) := by
  rw [drop_at a i x ha, drop_at b j x hb, way_cons, if_pos rfl]
theorem way_a (a b : List α) (i j : Nat) (x y : α) (ha : a[i]? = some x) (hb : b[j]? = some y) (hne : x ≠ y) (h : lcsN (a.drop i) (b.drop (j + 1)) ≤ lcsN (a.drop (i + 1)) (b.drop j)) : wayC i j (a.drop i) (b.drop j) = wayC (i + 1) j (a.drop (i + 1)) (b.drop j) := by
  rw [drop_at a i x ha] at h ⊢
  rw [drop_at b j y hb] at h ⊢
  rw [way_cons, if_neg hne, if_pos h]
theorem way_b (a b : List α) (i j : Nat) (x y : α) (ha : a[i]? = some x) (hb : b[j]? = some y) (hne : x ≠ y) (h : ¬ lcsN (a.drop i) (b.drop (j + 1)) ≤ lcsN (a.drop (i + 1)) (b.drop j)) : wayC i j (a.drop i) (b.drop j) = wayC i (j + 1) (a.drop i) (b.drop (j + 1)) := by
  rw [drop_at a i x ha] at h ⊢
  rw [drop_at b j y hb] at h ⊢
  rw [way_cons, if_neg hne, if_neg h]
theorem way_end (a b : List α) (i j : Nat) (h : a.length ≤ i ∨ b.length ≤ j) : wayC i j (a.drop i) (b.drop j) = [] := by
  rcases h with h | h
  · rw [List.drop_eq_nil_of_le h, way_nil]
  · rw [List.drop_eq_nil_of_le h, way_nil2]
/-- the lengths from each place of b on -/
def rowOf (a b : List α) : List Int := (List.range (b.length + 1)).map fun j => ((lcsN a (b.drop j) : Nat) : Int)
theorem rowOf_len (a b : List α) : (rowOf a b).length = b.length + 1 := by simp [rowOf]
theorem rowOf_at (a b : List α) (j : Nat) (h : j ≤ b.length) : (rowOf a b)[j]? = some ((lcsN a (b.drop j) : Nat) : Int) := by
  unfold rowOf
  rw [List.getElem?_map, List.getElem?_range (by omega)]; rfl
theorem lcs_hit (x : α) (a b : List α) (j : Nat) (h : b[j]? = some x) : lcsN (x :: a) (b.drop j) = lcsN a (b.drop (j + 1)) + 1 := by
  rw [drop_at b j x h, lcs_cons, if_pos rfl]
theorem lcs_miss (x y : α) (a b : List α) (j : Nat) (h : b[j]? = some y) (hne : x ≠ y) : lcsN (x :: a) (b.drop j) = max (lcsN a (b.drop j)) (lcsN (x :: a) (b.drop (j + 1))) := by
  rw [drop_at b j y h, lcs_cons, if_neg hne]
/-! a common row by places -/
def Ahead (p q : Int × Int) : Prop := p.1 < q.1 ∧ p.2 < q.2
def InBoth (a b : List α) (i j : Nat) (p : Int × Int) : Prop := ∃ (s t : Nat) (x : α), p = ((s : Int), (t : Int)) ∧ i ≤ s ∧ j ≤ t ∧ a[s]? = some x ∧ b[t]? = some x
theorem rows_le (a b : List α) (l : List (Int × Int)) : ∀ i j, (∀ p ∈ l, InBoth a b i j p) → l.Pairwise Ahead → l.length ≤ lcsN (a.drop i) (b.drop j) := by
  induction l with
  | nil => intro i j _ _; simp
  | cons p l ih =>
    intro i j h hp
    obtain ⟨s, t, x, rfl, h1, h2, h3, h4⟩ := h p (by simp)
    obtain ⟨g1, g2⟩ := List.pairwise_cons.1 hp
    have k := ih (s + 1) (t + 1) (fun q hq => by
      obtain ⟨s', t', x', e, _, _, h3', h4'⟩ := h q (by simp [hq])
      have := g1 q hq
      rw [e] at this
      obtain ⟨m1, m2⟩ := this
      dsimp only at m1 m2
      exact ⟨s', t', x', e, by omega, by omega, h3', h4'⟩) g2
    have e : lcsN (a.drop s) (b.drop t) = lcsN (a.drop (s + 1)) (b.drop (t + 1)) + 1 := by rw [drop_at a s x h3]; exact lcs_hit x _ b t h4
    have sub : ∀ (c : List α) (i s : Nat), i ≤ s → List.Sublist (c.drop s) (c.drop i) := fun c i s h => by
      rw [show c.drop s = (c.drop i).drop (s - i) from by rw [List.drop_drop]; congr 1; omega]
      exact List.drop_sublist _ _
    have := lcs_mono (sub a i s h1) (sub b j t h2)
    simp only [List.length_cons]; omega
theorem way_in (i j : Nat) (a b : List α) : (∀ p ∈ wayC i j a b, ∃ (s t : Nat) (x : α), p = (((i + s : Nat) : Int), ((j + t : Nat) : Int)) ∧ a[s]? = some x ∧ b[t]? = some x) ∧ (wayC i j a b).Pairwise Ahead := by
  induction i, j, a, b using wayC.induct with
  | case1 i j b => rw [way_nil]; exact ⟨(fun p hp => by cases hp), List.Pairwise.nil⟩
  | case2 i j x a => rw [way_nil2]; exact ⟨(fun p hp => by cases hp), List.Pairwise.nil⟩
  | case3 i j a x b ih =>
    obtain ⟨h1, h2⟩ := ih
    rw [way_cons, if_pos rfl]
    refine ⟨fun p hp => ?_, List.pairwise_cons.2 ⟨fun q hq => ?_, h2⟩⟩
    · rcases List.mem_cons.1 hp with rfl | hp
      · exact ⟨0, 0, x, by simp, by simp, by simp⟩
      · obtain ⟨s, t, y, rfl, e1, e2⟩ := h1 p hp
        refine ⟨s + 1, t + 1, y, ?_, by simpa using e1, by simpa using e2⟩
        simp only [Prod.mk.injEq]; omega
    · obtain ⟨s, t, y, rfl, _, _⟩ := h1 q hq
      refine ⟨?_, ?_⟩ <;> simp only <;> omega
  | case4 i j x a y b hne h2 ih =>
    obtain ⟨h1, h3⟩ := ih
    rw [way_cons, if_neg hne, if_pos h2]
    refine ⟨fun p hp => ?_, h3⟩
    obtain ⟨s, t, z, rfl, e1, e2⟩ := h1 p hp
    exact ⟨s + 1, t, z, by rw [show i + 1 + s = i + (s + 1) from by omega], by simpa using e1, e2⟩
  | case5 i j x a y b hne h2 ih =>
    obtain ⟨h1, h3⟩ := ih
    rw [way_cons, if_neg hne, if_neg h2]
    refine ⟨fun p hp => ?_, h3⟩
    obtain ⟨s, t, z, rfl, e1, e2⟩ := h1 p hp
    exact ⟨s, t + 1, z, by rw [show j + 1 + t = j + (t + 1) from by omega], e1, by simpa using e2⟩
theorem way_both_in (a b : List α) (p : Int × Int) (h : p ∈ wayC 0 0 a b) : InBoth a b 0 0 p := by
  obtain ⟨s, t, x, rfl, e1, e2⟩ := (way_in 0 0 a b).1 p h
  exact ⟨s, t, x, by simp, by omega, by omega, e1, e2⟩
theorem ahead_trans {p q r : Int × Int} (h : Ahead p q) (k : Ahead q r) : Ahead p r := ⟨Int.lt_trans h.1 k.1, Int.lt_trans h.2 k.2⟩
theorem ahead_next (l : List (Int × Int)) (k : Nat) (p : Int × Int) (hp : l[k]? = some p) (h : (l.take k).Pairwise Ahead) (hk : k = 0 ∨ ∃ q, l[k - 1]? = some q ∧ Ahead q p) : (l.take (k + 1)).Pairwise Ahead := by
  obtain ⟨hl, e⟩ := List.getElem?_eq_some_iff.1 hp
  rw [List.take_succ_eq_append_getElem hl, e, List.pairwise_append]
  refine ⟨h, List.pairwise_singleton _ _, fun x hx y hy => ?_⟩
  simp at hy; subst hy
  rcases hk with rfl | ⟨q, hq, ha⟩
  · simp at hx
  · rcases Nat.eq_zero_or_pos k with h0 | h0
    · subst h0; simp at hx
    · obtain ⟨m, rfl⟩ : ∃ m, k = m + 1 := ⟨k - 1, by omega⟩
      simp only [Nat.add_sub_cancel] at hq
      obtain ⟨hl', e'⟩ := List.getElem?_eq_some_iff.1 hq
      rw [List.take_succ_eq_append_getElem hl', e', List.pairwise_append] at h
      rw [List.take_succ_eq_append_getElem hl', e', List.mem_append] at hx
      rcases hx with hx | hx
      · exact ahead_trans (h.2.2 x hx q (by simp)) ha
      · simp at hx; subst hx; exact ha
theorem ahead_of (l : List (Int × Int)) (k : Nat) (p q : Int × Int) (h : l.Pairwise Ahead) (hp : l[k]? = some p) (hq : l[k + 1]? = some q) : Ahead p q := by
  obtain ⟨h1, e1⟩ := List.getElem?_eq_some_iff.1 hp
  obtain ⟨h2, e2⟩ := List.getElem?_eq_some_iff.1 hq
  have := List.pairwise_iff_getElem.1 h k (k + 1) h1 h2 (by omega)
  rwa [e1, e2] at this
end
end Go.Proofs.YtigijgcldgbokaaGreat
