/-
  No usable choice of up to three names is shorter than the one inferred, and none of as many stands ahead of it.
  Conditions: the names are all different; the choice is of places that rise.
-/
import Derived.Test.YtmomjhnbhckhpaaDoorKMath4
namespace Go.Proofs.YtmomjhnbhckhpaaDoor
set_option linter.unusedVariables false

/-- a list of places stands ahead of another one -/
def aheadI : List Nat → List Nat → Prop
  | a :: aa, b :: bb => a < b ∨ (a = b ∧ aheadI aa bb)
  | _, _ => False
theorem ahead_at : ∀ (P C : List Nat), (P = C ∨ aheadI P C) → ∀ i : Nat, (∀ j : Nat, j < i → P[j]? = C[j]?) → ∀ p c : Nat, P[i]? = some p → C[i]? = some c → p ≤ c
  | P, C, .inl e, i, _, p, c, hp, hc => by rw [e, hc] at hp; cases hp; exact Nat.le_refl _
  | [], _, .inr h, _, _, _, _, _, _ => by simp [aheadI] at h
  | _ :: _, [], .inr h, _, _, _, _, _, _ => by simp [aheadI] at h
  | a :: aa, b :: bb, .inr h, 0, _, p, c, hp, hc => by
    simp at hp hc; subst hp; subst hc
    rcases h with h | ⟨h, -⟩ <;> omega
  | a :: aa, b :: bb, .inr h, i + 1, hj, p, c, hp, hc => by
    have h0 := hj 0 (by omega)
    simp at h0
    rcases h with h | ⟨-, h⟩
    · omega
    · exact ahead_at aa bb (.inr h) i (fun j hji => by have := hj (j + 1) (by omega); simpa using this) p c (by simpa using hp) (by simpa using hc)
theorem choices_rise : ∀ (n : Nat) (K : List Nat), K.Pairwise (· < ·) → (choicesL n K).Pairwise aheadI
  | 0, K, _ => by rw [choices_zero]; simp
  | n + 1, [], _ => by simp [choicesL]
  | n + 1, k :: ks, h => by
    rw [List.pairwise_cons] at h
    simp only [choicesL]
    rw [List.pairwise_append]
    refine ⟨?_, choices_rise (n + 1) ks h.2, ?_⟩
    · rw [List.pairwise_map]
      exact (choices_rise n ks h.2).imp fun h => .inr ⟨rfl, h⟩
    · intro x hx y hy
      obtain ⟨x, -, rfl⟩ := List.mem_map.1 hx
      obtain ⟨h1, h2⟩ := choices_len (n + 1) ks y hy
      cases y with
      | nil => simp at h1
      | cons b y => exact .inl (h.1 b (h2 b List.mem_cons_self))
theorem choices_in : ∀ (K C : List Nat), K.Pairwise (· < ·) → C.Pairwise (· < ·) → (∀ c ∈ C, c ∈ K) → C ∈ choicesL C.length K
  | K, [], _, _, _ => by rw [List.length_nil, choices_zero]; simp
  | [], c :: C, _, _, h => by have := h c List.mem_cons_self; simp at this
  | k :: K, c :: C, hK, hC, h => by
    rw [List.pairwise_cons] at hK
    have hC2 := List.pairwise_cons.1 hC
    simp only [List.length_cons, choicesL, List.mem_append, List.mem_map]
    by_cases e : c = k
    · subst e
      refine .inl ⟨C, choices_in K C hK.2 hC2.2 fun x hx => ?_, rfl⟩
      rcases List.mem_cons.1 (h x (List.mem_cons_of_mem _ hx)) with e2 | h2
      · have := hC2.1 x hx; omega
      · exact h2
    · refine .inr ?_
      have h0 : c ∈ K := (List.mem_cons.1 (h c List.mem_cons_self)).resolve_left e
      have hk := hK.1 c h0
      exact choices_in K (c :: C) hK.2 hC fun x hx => by
        rcases List.mem_cons.1 (h x hx) with e2 | h2
        · rcases List.mem_cons.1 hx with e3 | h3
          · omega
          · have := hC2.1 x h3; omega
        · exact h2
theorem find_ahead {α : Type} (R : α → α → Prop) (p : α → Bool) : ∀ (L : List α), L.Pairwise R → ∀ x ∈ L, p x = true → ∃ y, L.find? p = some y ∧ (y = x ∨ R y x)
  | [], _, x, hx, _ => by simp at hx
  | a :: L, h, x, hx, hp => by
    rw [List.pairwise_cons] at h
    rw [List.find?_cons]
    cases ha : p a with
    | true =>
      refine ⟨a, rfl, ?_⟩
      rcases List.mem_cons.1 hx with e | hx
      · exact .inl e.symm
      · exact .inr (h.1 x hx)
    | false =>
      have hx2 : x ∈ L := (List.mem_cons.1 hx).resolve_left fun e => by rw [e, ha] at hp; cases hp
      exact find_ahead R p L h.2 x hx2 hp
/-- shorter, or as long and ahead -/
def lessI (P C : List Nat) : Prop := P.length < C.length ∨ (P.length = C.length ∧ aheadI P C)
def preI (K : List Nat) : List (List Nat) := choicesL 1 K ++ choicesL 2 K ++ choicesL 3 K
theorem pre_rise (K : List Nat) (h : K.Pairwise (· < ·)) : (preI K).Pairwise lessI := by
  have key : ∀ n, (choicesL n K).Pairwise lessI := fun n => by
    refine (choices_rise n K h).imp_of_mem fun {a b} ha hb hab => .inr ⟨?_, hab⟩
    rw [(choices_len n K a ha).1, (choices_len n K b hb).1]
  unfold preI
  rw [List.pairwise_append, List.pairwise_append]
  refine ⟨⟨key 1, key 2, fun x hx y hy => .inl ?_⟩, key 3, fun x hx y hy => .inl ?_⟩
  · rw [(choices_len _ _ x hx).1, (choices_len _ _ y hy).1]; omega
  · rw [(choices_len _ _ y hy).1]
    rcases List.mem_append.1 hx with hx | hx <;> rw [(choices_len _ _ x hx).1] <;> omega
def nm (names : List ByteArray) (i : Nat) : ByteArray := names.getD i ByteArray.empty
theorem names_nm (names : List ByteArray) : names = (List.range names.length).map (nm names) := by
  apply List.ext_getElem?
  intro i
  by_cases h : i < names.length
  · simp [h, nm, List.getD_eq_getElem?_getD]
  · simp [h]
theorem nm_at {names : List ByteArray} {i : Nat} (h : i < names.length) : names[i]? = some (nm names i) := by
  simp [nm, List.getD_eq_getElem?_getD, h]
theorem best_usable (ts : List Tab) (names : List ByteArray) (h : inferC ts names ≠ []) : usableC ts (inferC ts names) = true := by
  rw [infer_same] at h ⊢
  unfold inferR firstOf at h ⊢
  cases hf : (preR (candR ts names) 4).find? (usableC ts) with
  | none => rw [hf] at h; exact absurd rfl h
  | some x => exact List.find?_some hf
theorem least_math (ts : List Tab) (names : List ByteArray) (C : List Nat) (hnd : names.Nodup) (hC : C.Pairwise (· < ·)) (hin : ∀ c ∈ C, c < names.length) (h1 : 1 ≤ C.length) (h3 : C.length ≤ 3) (hu : usableC ts (C.map (nm names)) = true) :
    ∃ P : List Nat, inferC ts names = P.map (nm names) ∧ P.Pairwise (· < ·) ∧ (∀ p ∈ P, p < names.length) ∧ 1 ≤ P.length ∧ (P = C ∨ lessI P C) := by
  obtain ⟨K, hK⟩ : ∃ K, K = (List.range names.length).filter (hasAll ts ∘ nm names) := ⟨_, rfl⟩
  have hKs : K.Pairwise (· < ·) := by rw [hK]; exact List.pairwise_lt_range.filter _
  have hKn : ∀ k ∈ K, k < names.length := fun k hk => by rw [hK] at hk; exact List.mem_range.1 (List.mem_filter.1 hk).1
  have eK : candR ts names = K.map (nm names) := by
    unfold candR
    rw [once_of names hnd]
    conv => lhs; rw [names_nm names]
    rw [List.filter_map, ← hK]
  have eP : preR (candR ts names) 4 = (preI K).map (List.map (nm names)) := by
    rw [eK, preR_next _ 3 (by omega), preR_next _ 2 (by omega), preR_next _ 1 (by omega), choices_map, choices_map, choices_map]
    simp [preR, preI]
  have hCK : ∀ c ∈ C, c ∈ K := fun c hc => by
    rw [hK]
    refine List.mem_filter.2 ⟨List.mem_range.2 (hin c hc), ?_⟩
    obtain ⟨-, -, h⟩ := (usable_iff ts _).1 hu
    unfold hasAll
    simp only [Function.comp]
    rw [List.all_eq_true]
    exact fun t ht => decide_eq_true ((h t ht).1 _ (List.mem_map.2 ⟨c, hc, rfl⟩))
  have hCp : C ∈ preI K := by
    have := choices_in K C hKs hC hCK
    unfold preI
    rw [List.mem_append, List.mem_append]
    have : C.length = 1 ∨ C.length = 2 ∨ C.length = 3 := by omega
    rcases this with e | e | e <;> rw [e] at this
    · exact .inl (.inl (by rw [e] at *; assumption))
    · exact .inl (.inr (by rw [e] at *; assumption))
    · exact .inr (by rw [e] at *; assumption)
  obtain ⟨P, hf, hPC⟩ := find_ahead lessI (usableC ts ∘ List.map (nm names)) (preI K) (pre_rise K hKs) C hCp hu
  have hPm := List.mem_of_find?_eq_some hf
  have hPk : (P.length = 1 ∨ P.length = 2 ∨ P.length = 3) ∧ P.Sublist K := by
    unfold preI at hPm
    rw [List.mem_append, List.mem_append] at hPm
    rcases hPm with (h | h) | h
    · exact ⟨.inl (choices_len _ _ P h).1, choices_sub _ _ P h⟩
    · exact ⟨.inr (.inl (choices_len _ _ P h).1), choices_sub _ _ P h⟩
    · exact ⟨.inr (.inr (choices_len _ _ P h).1), choices_sub _ _ P h⟩
  refine ⟨P, ?_, hKs.sublist hPk.2, fun p hp => hKn p (hPk.2.subset hp), by omega, hPC⟩
  rw [infer_same]
  unfold inferR firstOf
  rw [eP, List.find?_map, hf]
  rfl
end Go.Proofs.YtmomjhnbhckhpaaDoor
