/-
  The reference's least key is the program's.
  Conditions: none.
-/
import Derived.Test.YtmomjhnbhckhpaaDoorKRef7
namespace Go.Proofs.YtmomjhnbhckhpaaDoor
set_option linter.unusedVariables false

theorem choices_map {α β : Type} (f : α → β) : ∀ (n : Nat) (xs : List α), choicesL n (xs.map f) = (choicesL n xs).map (List.map f)
  | 0, xs => by rw [choices_zero, choices_zero]; rfl
  | n + 1, [] => rfl
  | n + 1, y :: ys => by
    simp only [List.map_cons, choicesL, List.map_append, List.map_map]
    rw [choices_map f n ys, choices_map f (n + 1) ys, List.map_map]
    rfl
theorem choices_sub {α : Type} : ∀ (n : Nat) (xs : List α), ∀ c ∈ choicesL n xs, c.Sublist xs
  | 0, xs, c, h => by rw [choices_zero] at h; simp at h; subst h; exact List.nil_sublist _
  | n + 1, [], c, h => by simp [choicesL] at h
  | n + 1, y :: ys, c, h => by
    simp only [choicesL, List.mem_append, List.mem_map] at h
    rcases h with ⟨d, hd, rfl⟩ | h
    · exact (choices_sub n ys d hd).cons_cons y
    · exact (choices_sub (n + 1) ys c h).cons y
def fullC (ts : List Tab) (s : ByteArray) : Cand := (s, ts.map fun t => findL t.1 s)
theorem usable_apart (ts : List Tab) (names x : List ByteArray) (hs : x.Sublist (candR ts names)) (h0 : x ≠ []) : usableC ts x = apartC ts (x.map (fullC ts)) := by
  have hall : ∀ s ∈ x, ∀ t ∈ ts, 0 ≤ findL t.1 s := fun s h t ht => by
    have h1 := (List.mem_filter.1 (hs.subset h)).2
    exact of_decide_eq_true (List.all_eq_true.1 h1 t ht)
  have hnd : x.Nodup := hs.nodup ((once_nodup names).filter _)
  rw [Bool.eq_iff_iff, usable_iff, apartC_iff]
  constructor
  · rintro ⟨-, -, h⟩ i t hi
    rw [show x.map (fullC ts) = x.map fun s => (s, ts.map fun t => findL t.1 s) from rfl, cols_full ts x i t hi]
    exact (h t (List.mem_of_getElem? hi)).2
  · intro h
    refine ⟨h0, hnd, fun t ht => ⟨fun s hs' => hall s hs' t ht, ?_⟩⟩
    obtain ⟨i, hi⟩ := List.mem_iff_getElem?.1 ht
    have := h i t hi
    rwa [show x.map (fullC ts) = x.map fun s => (s, ts.map fun t => findL t.1 s) from rfl, cols_full ts x i t hi] at this
theorem usable_all (ts : List Tab) (names x : List ByteArray) (hs : x.Sublist (candR ts names)) (hu : usableC ts x = true) : apartC ts ((candR ts names).map (fullC ts)) = true := by
  rw [apartC_iff]
  intro i t hi
  have ht := List.mem_of_getElem? hi
  rw [show (candR ts names).map (fullC ts) = (candR ts names).map fun s => (s, ts.map fun t => findL t.1 s) from rfl, cols_full ts _ i t hi]
  obtain ⟨-, -, h⟩ := (usable_iff ts x).1 hu
  refine uniq_more _ _ _ _ (fun c hc => ?_) (fun c hc => ?_) (h t ht).2
  · unfold placeL at hc ⊢
    obtain ⟨s, hs', rfl⟩ := List.mem_map.1 hc
    exact List.mem_map.2 ⟨s, hs.subset hs', rfl⟩
  · unfold placeL at hc
    obtain ⟨s, hs', rfl⟩ := List.mem_map.1 hc
    have h1 : 0 ≤ findL t.1 s := of_decide_eq_true (List.all_eq_true.1 (List.mem_filter.1 hs').2 t ht)
    refine ⟨h1, ?_⟩
    rw [find_text] at h1 ⊢
    rcases find_range t.1 s.data.toList with e | ⟨h2, h3⟩
    · omega
    · exact h3
theorem infer_same (ts : List Tab) (names : List ByteArray) : inferC ts names = inferR ts names := by
  have hL : ∀ x ∈ preR (candR ts names) 4, x.Sublist (candR ts names) ∧ x ≠ [] := fun x hx => by
    unfold preR at hx
    rw [List.mem_flatMap] at hx
    obtain ⟨i, hi, hx⟩ := hx
    refine ⟨choices_sub _ _ x hx, fun e => ?_⟩
    have := (choices_len _ _ x hx).1
    rw [e] at this; simp at this
  have e4 : choicesL 1 (candsL ts names) ++ choicesL 2 (candsL ts names) ++ choicesL 3 (candsL ts names) = (preR (candR ts names) 4).map (List.map (fullC ts)) := by
    rw [candR_is, show (fun s => (s, ts.map fun t => findL t.1 s)) = fullC ts from rfl, choices_map, choices_map, choices_map]
    rw [preR_next _ 3 (by omega), preR_next _ 2 (by omega), preR_next _ 1 (by omega)]
    simp [preR]
  have eC : candsL ts names = (candR ts names).map (fullC ts) := candR_is ts names
  unfold inferC inferR firstOf
  rw [e4, List.find?_map]
  have ef : (preR (candR ts names) 4).find? (apartC ts ∘ List.map (fullC ts)) = (preR (candR ts names) 4).find? (usableC ts) := by
    generalize preR (candR ts names) 4 = L at hL
    induction L with
    | nil => rfl
    | cons a L ih =>
      have ha := hL a List.mem_cons_self
      rw [List.find?_cons, List.find?_cons, ih (fun x hx => hL x (List.mem_cons_of_mem _ hx))]
      simp only [Function.comp]
      rw [usable_apart ts names a ha.1 ha.2]
  rw [ef]
  cases hf : (preR (candR ts names) 4).find? (usableC ts) with
  | none => simp
  | some x =>
    have h1 := List.find?_some hf
    have h2 := (hL x (List.mem_of_find?_eq_some hf)).1
    rw [if_pos (by rw [eC]; exact usable_all ts names x h2 h1)]
    simp [fullC, Function.comp_def]
end Go.Proofs.YtmomjhnbhckhpaaDoor
