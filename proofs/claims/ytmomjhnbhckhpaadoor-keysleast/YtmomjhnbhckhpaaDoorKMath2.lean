/-
  When names are a key of tables: what it means, and that it is a key of some tables and one more just if it is one of those and of that one.
  Conditions: none.
-/
import Derived.Test.YtmomjhnbhckhpaaDoorKUsable
namespace Go.Proofs.YtmomjhnbhckhpaaDoor
set_option linter.unusedVariables false

theorem once_eq (xs : List ByteArray) : (onceL xs).length = xs.length → onceL xs = xs := by
  induction xs using List.reverseRecOn' with
  | nil => intro _; rfl
  | snoc xs y ih =>
    intro h
    have hl := once_len xs
    rw [once_snoc] at h ⊢
    split at h
    · rw [List.length_append] at h; simp at h; omega
    · rename_i hn
      rw [if_neg hn]
      rw [ih (by rw [List.length_append, List.length_append] at h; simpa using h)]
theorem once_of (xs : List ByteArray) : xs.Nodup → onceL xs = xs := by
  induction xs using List.reverseRecOn' with
  | nil => intro _; rfl
  | snoc xs y ih =>
    intro h
    rw [List.nodup_append] at h
    obtain ⟨h1, -, h3⟩ := h
    have e := ih h1
    rw [once_snoc, e, if_neg]
    intro hm
    exact h3 y ((mem_bytes _ _).1 hm) y (by simp) rfl
theorem step_map (hd : List ByteArray) (p : ByteArray → Bool) (g : ByteArray → List Int) : ∀ l : List ByteArray, stepC hd ((l.filter p).map fun s => (s, g s)) = (l.filter fun s => p s && decide (0 ≤ findL hd s)).map fun s => (s, g s ++ [findL hd s])
  | [] => rfl
  | a :: l => by
    have ih := step_map hd p g l
    unfold stepC at ih ⊢
    by_cases hp : p a = true
    · by_cases hf : 0 ≤ findL hd a
      · simp only [List.filter_cons, hp, if_true, List.map_cons, List.filterMap_cons, hf, decide_true, Bool.and_true, ih]
      · simp only [List.filter_cons, hp, if_true, List.map_cons, List.filterMap_cons, hf, decide_false, Bool.and_false, if_false, ih]
        rfl
    · simp only [List.filter_cons, hp, Bool.false_and]
      simp [ih]
theorem cands_is (ts : List Tab) (names : List ByteArray) : candsL ts names = ((onceL names).filter fun s => ts.all fun t => decide (0 ≤ findL t.1 s)).map fun s => (s, ts.map fun t => findL t.1 s) := by
  induction ts using List.reverseRecOn' with
  | nil => simp only [List.all_nil, List.map_nil]; rw [List.filter_eq_self.2 (fun _ _ => rfl)]; rfl
  | snoc ts t ih =>
    rw [cands_snoc, ih, step_map]
    simp only [List.all_append, List.all_cons, List.all_nil, Bool.and_true, List.map_append, List.map_cons, List.map_nil]
theorem apartC_iff (ts : List Tab) (ch : List Cand) : apartC ts ch = true ↔ ∀ i t, ts[i]? = some t → uniqL t.1.length t.2 (colsOf ch i) = true := by
  constructor
  · intro h i t ht
    cases hu : uniqL t.1.length t.2 (colsOf ch i) with
    | true => rfl
    | false => rw [apartC_no ht hu] at h; cases h
  · exact apartC_yes
/-- the columns of names in a table -/
def placeL (t : Tab) (names : List ByteArray) : List Int := names.map (findL t.1)
theorem cols_full (ts : List Tab) (names : List ByteArray) (i : Nat) (t : Tab) (ht : ts[i]? = some t) : colsOf (names.map fun s => (s, ts.map fun t => findL t.1 s)) i = placeL t names := by
  unfold colsOf placeL
  rw [List.map_map]
  refine List.map_congr_left fun s _ => ?_
  simp [List.getD_eq_getElem?_getD, ht]
theorem usable_iff (ts : List Tab) (names : List ByteArray) : usableC ts names = true ↔ names ≠ [] ∧ names.Nodup ∧ ∀ t ∈ ts, (∀ s ∈ names, 0 ≤ findL t.1 s) ∧ uniqL t.1.length t.2 (placeL t names) = true := by
  have full : names.Nodup → (∀ t ∈ ts, ∀ s ∈ names, 0 ≤ findL t.1 s) → candsL ts names = names.map fun s => (s, ts.map fun t => findL t.1 s) := fun h1 h2 => by
    rw [cands_is, once_of names h1, List.filter_eq_self.2 (fun s hs => by rw [List.all_eq_true]; intro t ht; exact decide_eq_true (h2 t ht s hs))]
  unfold usableC
  rw [Bool.and_eq_true, Bool.and_eq_true, decide_eq_true_iff, decide_eq_true_iff]
  constructor
  · rintro ⟨⟨h0, h1⟩, h2⟩
    have hlen := h1
    rw [cands_is, List.length_map] at hlen
    have hf := List.length_filter_le (fun s => ts.all fun t => decide (0 ≤ findL t.1 s)) (onceL names)
    have ho := once_len names
    have he := once_eq names (by omega)
    rw [he] at hlen
    have hall := List.length_filter_eq_length_iff.1 hlen
    have hnd : names.Nodup := by rw [← he]; exact once_nodup names
    have hin : ∀ t ∈ ts, ∀ s ∈ names, 0 ≤ findL t.1 s := fun t ht s hs => of_decide_eq_true (List.all_eq_true.1 (hall s hs) t ht)
    rw [full hnd hin, apartC_iff] at h2
    refine ⟨by intro e; rw [e] at h0; simp at h0, hnd, fun t ht => ⟨hin t ht, ?_⟩⟩
    obtain ⟨i, hi⟩ := List.mem_iff_getElem?.1 ht
    have := h2 i t hi
    rwa [cols_full ts names i t hi] at this
  · rintro ⟨h0, h1, h2⟩
    have e := full h1 (fun t ht => (h2 t ht).1)
    rw [e]
    refine ⟨⟨by cases names with | nil => exact absurd rfl h0 | cons a l => simp, by simp⟩, (apartC_iff _ _).2 fun i t hi => ?_⟩
    rw [cols_full ts names i t hi]
    exact (h2 t (List.mem_of_getElem? hi)).2
theorem usable_more (ts : List Tab) (t : Tab) (names : List ByteArray) : usableC (ts ++ [t]) names = (usableC ts names && usableC [t] names) := by
  rw [Bool.eq_iff_iff, Bool.and_eq_true, usable_iff, usable_iff, usable_iff]
  constructor
  · rintro ⟨h0, h1, h2⟩
    exact ⟨⟨h0, h1, fun x hx => h2 x (List.mem_append_left _ hx)⟩, h0, h1, fun x hx => h2 x (List.mem_append_right _ hx)⟩
  · rintro ⟨⟨h0, h1, h2⟩, -, -, h3⟩
    exact ⟨h0, h1, fun x hx => (List.mem_append.1 hx).elim (h2 x) (h3 x)⟩
end Go.Proofs.YtmomjhnbhckhpaaDoor
