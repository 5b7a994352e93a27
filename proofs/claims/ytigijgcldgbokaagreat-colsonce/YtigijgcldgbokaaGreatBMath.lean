/-
  How much two lists have in common, as a number; what holds of it.
  Conditions: none.
-/
import Derived.Test.YtigijgcldgbokaaGreatProg
import Derived.Test.YtigijgcldgbokaaGreatLcMath
namespace Go.Proofs.YtigijgcldgbokaaGreat
set_option linter.unusedVariables false
set_option linter.unusedSectionVars false

section
variable {α : Type} [DecidableEq α]
/-- how often a thing is in a list -/
def cntN (x : α) : List α → Nat
  | [] => 0
  | y :: ys => (if y = x then 1 else 0) + cntN x ys
/-- how much is in common -/
def overL : List α → List α → Nat
  | [], _ => 0
  | x :: a, b => overL a b + if cntN x a < cntN x b then 1 else 0
theorem cnt_append (x : α) (a b : List α) : cntN x (a ++ b) = cntN x a + cntN x b := by
  induction a with
  | nil => simp [cntN]
  | cons y a ih => simp only [List.cons_append, cntN, ih]; omega
theorem cnt_le (x : α) (a : List α) : cntN x a ≤ a.length := by
  induction a with
  | nil => simp [cntN]
  | cons y a ih => simp only [cntN, List.length_cons]; split <;> omega
theorem cnt_pos (x : α) (a : List α) : 0 < cntN x a ↔ x ∈ a := by
  induction a with
  | nil => simp [cntN]
  | cons y a ih =>
    simp only [cntN, List.mem_cons]
    by_cases h : y = x
    · rw [if_pos h]; exact ⟨fun _ => .inl h.symm, fun _ => by omega⟩
    · rw [if_neg h, Nat.zero_add, ih]
      exact ⟨fun h1 => .inr h1, fun h1 => h1.resolve_left (fun e => h e.symm)⟩
theorem cnt_none (x : α) (a : List α) (h : x ∉ a) : cntN x a = 0 := by
  have := cnt_pos x a
  have : ¬ 0 < cntN x a := fun h1 => h (this.1 h1)
  omega
theorem cnt_perm (x : α) {a b : List α} (h : a.Perm b) : cntN x a = cntN x b := by
  induction h with
  | nil => rfl
  | cons y _ ih => simp only [cntN, ih]
  | swap y z l => simp only [cntN]; omega
  | trans _ _ h1 h2 => exact h1.trans h2
theorem cnt_sub (x : α) {a b : List α} (h : List.Sublist a b) : cntN x a ≤ cntN x b := by
  induction h with
  | slnil => exact Nat.le_refl _
  | cons y _ ih => simp only [cntN]; omega
  | cons_cons y _ ih => simp only [cntN]; omega
/-- the sum over some things, each once -/
def sumN (f : α → Nat) : List α → Nat
  | [] => 0
  | x :: l => f x + sumN f l
theorem sum_append (f : α → Nat) (a b : List α) : sumN f (a ++ b) = sumN f a + sumN f b := by
  induction a with
  | nil => simp [sumN]
  | cons y a ih => simp only [List.cons_append, sumN, ih]; omega
theorem sum_congr (f g : α → Nat) (l : List α) (h : ∀ x ∈ l, f x = g x) : sumN f l = sumN g l := by
  induction l with
  | nil => rfl
  | cons y l ih => simp only [sumN]; rw [h y List.mem_cons_self, ih (fun x hx => h x (List.mem_cons_of_mem _ hx))]
theorem sum_le_sum (f g : α → Nat) (l : List α) (h : ∀ x ∈ l, f x ≤ g x) : sumN f l ≤ sumN g l := by
  induction l with
  | nil => exact Nat.le_refl _
  | cons y l ih => simp only [sumN]; have := h y List.mem_cons_self; have := ih (fun x hx => h x (List.mem_cons_of_mem _ hx)); omega
theorem sum_zero (l : List α) : sumN (fun _ => 0) l = 0 := by
  induction l with
  | nil => rfl
  | cons y l ih => simp only [sumN, ih]
theorem sum_one (f g : α → Nat) (x : α) (d : Nat) (l : List α) (hn : l.Nodup) (ho : ∀ y, y ≠ x → f y = g y) (hx : f x = g x + d) : sumN f l = sumN g l + if x ∈ l then d else 0 := by
  induction l with
  | nil => simp [sumN]
  | cons y l ih =>
    obtain ⟨h1, h2⟩ := List.nodup_cons.1 hn
    simp only [sumN]
    by_cases e : y = x
    · subst e
      rw [sum_congr f g l (fun z hz => ho z (fun e' => h1 (e' ▸ hz))), hx, if_pos List.mem_cons_self]; omega
    · rw [ih h2, ho y e]
      have : (x ∈ y :: l) ↔ x ∈ l := by simp [Ne.symm e]
      by_cases hm : x ∈ l
      · rw [if_pos hm, if_pos (this.2 hm)]; omega
      · rw [if_neg hm, if_neg (fun h' => hm (this.1 h'))]; omega
/-- what is in common, thing by thing -/
theorem over_sum (a b ss : List α) (hn : ss.Nodup) (hs : ∀ s, s ∈ a → s ∈ b → s ∈ ss) : overL a b = sumN (fun s => min (cntN s b) (cntN s a)) ss := by
  induction a with
  | nil => rw [overL, sum_congr _ (fun _ => 0) ss (fun x _ => by simp [cntN]), sum_zero]
  | cons x a ih =>
    rw [overL, ih (fun s h1 h2 => hs s (List.mem_cons_of_mem _ h1) h2)]
    rw [sum_one (fun s => min (cntN s b) (cntN s (x :: a))) (fun s => min (cntN s b) (cntN s a)) x (if cntN x a < cntN x b then 1 else 0) ss hn
      (fun y hy => by simp only [cntN]; rw [if_neg (Ne.symm hy), Nat.zero_add]) (by simp only [cntN, if_true]; split <;> omega)]
    by_cases hb : x ∈ b
    · rw [if_pos (hs x List.mem_cons_self hb)]
    · rw [cnt_none x b hb]; simp
theorem sum_le_over (a b ss : List α) (hn : ss.Nodup) : sumN (fun s => min (cntN s b) (cntN s a)) ss ≤ overL a b := by
  induction a with
  | nil => rw [overL, sum_congr _ (fun _ => 0) ss (fun x _ => by simp [cntN]), sum_zero]; exact Nat.le_refl _
  | cons x a ih =>
    rw [overL]
    rw [sum_one (fun s => min (cntN s b) (cntN s (x :: a))) (fun s => min (cntN s b) (cntN s a)) x (if cntN x a < cntN x b then 1 else 0) ss hn
      (fun y hy => by simp only [cntN]; rw [if_neg (Ne.symm hy), Nat.zero_add]) (by simp only [cntN, if_true]; split <;> omega)]
    split <;> omega
/-- each thing of a list, once -/
def once : List α → List α
  | [] => []
  | x :: l => if x ∈ once l then once l else x :: once l
theorem once_nodup (l : List α) : (once l).Nodup := by
  induction l with
  | nil => simp [once]
  | cons x l ih => rw [once]; split; exact ih; exact List.nodup_cons.2 ⟨by assumption, ih⟩
theorem mem_once (x : α) (l : List α) : x ∈ once l ↔ x ∈ l := by
  induction l with
  | nil => simp [once]
  | cons y l ih =>
    rw [once]
    split
    · rw [ih]; constructor
      · exact fun h => List.mem_cons_of_mem _ h
      · intro h; rcases List.mem_cons.1 h with rfl | h
        · rename_i h1; exact ih.1 h1
        · exact h
    · rw [List.mem_cons, List.mem_cons, ih]
theorem over_once (a b : List α) : overL a b = sumN (fun s => min (cntN s b) (cntN s a)) (once b) := over_sum a b _ (once_nodup b) (fun s _ h => (mem_once s b).2 h)
theorem over_symm (a b : List α) : overL b a = overL a b := by
  rw [over_sum b a (once b) (once_nodup b) (fun s h _ => (mem_once s b).2 h), over_once a b]
  exact sum_congr _ _ _ (fun x _ => Nat.min_comm _ _)
theorem over_mono {a a' b b' : List α} (h : ∀ x, cntN x a ≤ cntN x a') (k : ∀ x, cntN x b ≤ cntN x b') : overL a b ≤ overL a' b' := by
  have sub : ∀ s, s ∈ b → s ∈ b' := fun s hs => (cnt_pos s b').1 (Nat.lt_of_lt_of_le ((cnt_pos s b).2 hs) (k s))
  rw [over_sum a b (once b') (once_nodup b') (fun s _ h => (mem_once s b').2 (sub s h)), over_once a' b']
  exact sum_le_sum _ _ _ (fun x _ => by have := h x; have := k x; omega)
theorem over_same {a a' b b' : List α} (h : ∀ x, cntN x a = cntN x a') (k : ∀ x, cntN x b = cntN x b') : overL a b = overL a' b' :=
  Nat.le_antisymm (over_mono (fun x => Nat.le_of_eq (h x)) (fun x => Nat.le_of_eq (k x))) (over_mono (fun x => Nat.le_of_eq (h x).symm) (fun x => Nat.le_of_eq (k x).symm))
theorem over_perm {a a' b b' : List α} (h : a.Perm a') (k : b.Perm b') : overL a b = overL a' b' := over_same (fun x => cnt_perm x h) (fun x => cnt_perm x k)
theorem over_snoc (a b : List α) (x : α) : overL (a ++ [x]) b = overL a b + if cntN x a < cntN x b then 1 else 0 := by
  rw [over_perm (a' := x :: a) (b' := b) (List.perm_append_comm) (List.Perm.refl _), overL]
theorem over_le1 (a b : List α) : overL a b ≤ a.length := by
  induction a with
  | nil => simp [overL]
  | cons x a ih => rw [overL, List.length_cons]; split <;> omega
theorem over_le2 (a b : List α) : overL a b ≤ b.length := by rw [← over_symm]; exact over_le1 b a
theorem over_full (a b : List α) (h : ∀ x, cntN x a ≤ cntN x b) : overL a b = a.length := by
  induction a with
  | nil => simp [overL]
  | cons x a ih =>
    have h1 := h x
    simp only [cntN, if_true] at h1
    rw [overL, ih (fun y => by have := h y; simp only [cntN] at this; omega), if_pos (by omega), List.length_cons]
theorem over_self (a : List α) : overL a a = a.length := over_full a a (fun _ => Nat.le_refl _)
theorem over_both (a b : List α) (x : α) : overL (x :: a) (b ++ [x]) = overL a b + 1 := by
  rw [overL, ← over_symm, over_snoc, over_symm, cnt_append]
  simp only [cntN, if_true]
  by_cases h : cntN x b < cntN x a
  · rw [if_pos h, if_neg (by omega)]
  · rw [if_neg h, if_pos (by omega)]
theorem over_lcs (a b : List α) : lcsN a b ≤ overL a b := by
  obtain ⟨s, h1, h2, h3⟩ := lcs_wit a b
  rw [← h3, ← over_full s b (fun x => cnt_sub x h2)]
  exact over_mono (fun x => cnt_sub x h1) (fun _ => Nat.le_refl _)
/-- those of a list of which something holds, counted -/
theorem cnt_filter (p : α → Bool) (x : α) (a : List α) : cntN x (a.filter p) = if p x = true then cntN x a else 0 := by
  induction a with
  | nil => simp [cntN]
  | cons y a ih =>
    rw [List.filter_cons]
    by_cases hy : p y = true
    · rw [if_pos hy]
      simp only [cntN, ih]
      by_cases e : y = x
      · subst e; simp [hy]
      · simp only [if_neg e, Nat.zero_add]
    · rw [if_neg hy, ih]
      simp only [cntN]
      by_cases e : y = x
      · subst e; simp [hy]
      · simp only [if_neg e, Nat.zero_add]
end
/-- two things of a list change places -/
theorem swap_perm {α : Type} (a : List α) (j k : Nat) (x y : α) (hj : a[j]? = some x) (hk : a[k]? = some y) : ((a.set j y).set k x).Perm a := by
  obtain ⟨hj1, ej⟩ := List.getElem?_eq_some_iff.1 hj
  obtain ⟨hk1, ek⟩ := List.getElem?_eq_some_iff.1 hk
  have := List.set_set_perm hj1 hk1
  rw [ej, ek] at this
  exact this
end Go.Proofs.YtigijgcldgbokaaGreat
