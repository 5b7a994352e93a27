/-
  How large what an edit makes may be; what two functions make of a table's columns and rows.
  Conditions: none.
-/
import Derived.WalkKit
import Derived.Lib.Hide
import Derived.Test.YtigijgcldgbokaaGreatProg
import Derived.Test.YtigijgcldgbokaaGreatEClo2
namespace Go.Proofs.YtigijgcldgbokaaGreat
open Go.RowKit Go.Shelf
set_option linter.unusedVariables false

def tiR (xs : List ByteArray) : Prop := xs.length ≤ 1000 ∧ ∀ c ∈ xs, c.size ≤ 10000
def tiT (hd : List ByteArray) (rs : List (List ByteArray)) : Prop := tiR hd ∧ rs.length ≤ 1000 ∧ ∀ r ∈ rs, tiR r
theorem tiR.sm {xs : List ByteArray} (h : tiR xs) : smR xs := ⟨by have := h.1; omega, h.2⟩
theorem tiT.sm {hd : List ByteArray} {rs : List (List ByteArray)} (h : tiT hd rs) : smT hd rs := ⟨h.1.sm, by have := h.2.1; omega, fun r hr => (h.2.2 r hr).sm⟩
theorem ins_sm {xs ys : List ByteArray} {k : Int} {x : ByteArray} (h : tiR xs) (hx : x.size ≤ 10000) (e : insV xs k x = .ok ys) : smR ys := by
  obtain ⟨_, _, h3, h4⟩ := ins_mem e
  refine ⟨by have := h.1; omega, fun c hc => ?_⟩
  rcases h4 c hc with rfl | hc
  · exact hx
  · exact h.2 c hc
theorem del_sm {xs ys : List ByteArray} {k : Int} (h : tiR xs) (e : delL xs k = .ok ys) : smR ys := by
  obtain ⟨_, _, h3, h4⟩ := del_mem e
  exact ⟨by have := h.1; omega, fun c hc => h.2 c (h4 c hc)⟩
theorem mov_sm {xs ys : List ByteArray} {k t : Int} (h : tiR xs) (e : movL xs k t = .ok ys) : smR ys := by
  obtain ⟨_, _, _, _, h3, h4⟩ := mov_mem e
  exact ⟨by have := h.1; omega, fun c hc => h.2 c (h4 c hc)⟩
theorem set_mem {α : Type} {l o : List α} {k : Int} {x : α} (h : setL l k x = .ok o) : 0 ≤ k ∧ k < (l.length : Int) ∧ o.length = l.length ∧ ∀ u ∈ o, u = x ∨ u ∈ l := by
  unfold setL at h
  split at h
  · rename_i hk
    injection h with h
    subst h
    refine ⟨hk.1, hk.2, by simp, fun u hu => ?_⟩
    rcases List.mem_or_eq_of_mem_set hu with hu | hu
    · exact .inr hu
    · exact .inl hu
  · cases h
theorem set_sm {xs ys : List ByteArray} {k : Int} {x : ByteArray} (h : tiR xs) (hx : x.size ≤ 10000) (e : setL xs k x = .ok ys) : smR ys := by
  obtain ⟨_, _, h3, h4⟩ := set_mem e
  refine ⟨by have := h.1; omega, fun c hc => ?_⟩
  rcases h4 c hc with rfl | hc
  · exact hx
  · exact h.2 c hc
theorem pick_mem {α : Type} {l o : List α} {ps : List Int} (h : pickV l ps = .ok o) : (∀ p ∈ ps, 0 ≤ p ∧ p < (l.length : Int)) ∧ o.length = ps.length ∧ ∀ u ∈ o, u ∈ l := by
  unfold pickV at h
  split at h
  · rename_i hall
    injection h with h
    have hb : ∀ p ∈ ps, 0 ≤ p ∧ p < (l.length : Int) := fun p hp => by
      have := List.all_eq_true.1 hall p hp
      simpa [inB] using this
    obtain ⟨ys, h1, h2, h3⟩ := pick_yes l ps (fun k p hp => hb p (List.mem_of_getElem? hp))
    have e : pickV l ps = .ok o := by unfold pickV; rw [if_pos hall, h]
    rw [e] at h1
    injection h1 with h1
    subst h1
    refine ⟨hb, h2, fun u hu => ?_⟩
    rw [← h] at hu
    obtain ⟨p, _, hp⟩ := List.mem_filterMap.1 hu
    exact List.mem_of_getElem? hp
  · cases h
theorem pick_sm {xs ys : List ByteArray} {ps : List Int} (h : tiR xs) (hp : ps.length ≤ 5000) (e : pickV xs ps = .ok ys) : smR ys := by
  obtain ⟨_, h3, h4⟩ := pick_mem e
  exact ⟨by omega, fun c hc => h.2 c (h4 c hc)⟩
theorem each_ok {α : Type} {f : Nat → α → Except Int α} {l : List α} : ∀ {k : Nat} {o : List α}, eachL f k l = .ok o → o.length = l.length ∧ ∀ (i : Nat) x, l[i]? = some x → ∃ y, o[i]? = some y ∧ f (k + i) x = .ok y := by
  induction l with
  | nil => intro k o h; simp only [eachL] at h; injection h with h; subst h; exact ⟨rfl, fun i x hx => by simp at hx⟩
  | cons x l ih =>
    intro k o h
    simp only [eachL] at h
    cases hx : f k x with
    | error e => rw [hx] at h; cases h
    | ok y =>
      rw [hx] at h
      simp only at h
      cases hl : eachL f (k + 1) l with
      | error e => rw [hl] at h; cases h
      | ok t =>
        rw [hl] at h
        simp only [emap] at h
        injection h with h
        subst h
        obtain ⟨h1, h2⟩ := ih hl
        refine ⟨by simp [h1], fun i z hz => ?_⟩
        match i, hz with
        | 0, hz => simp at hz; subst hz; exact ⟨y, rfl, hx⟩
        | i + 1, hz =>
          obtain ⟨u, hu, hfu⟩ := h2 i z (by simpa using hz)
          exact ⟨u, by simpa using hu, by rw [← hfu]; congr 1; omega⟩
theorem each_mem {α : Type} {f : Nat → α → Except Int α} {l o : List α} {k : Nat} (h : eachL f k l = .ok o) : ∀ u ∈ o, ∃ (i : Nat) (x : α), l[i]? = some x ∧ f (k + i) x = .ok u := fun u hu => by
  obtain ⟨h1, h2⟩ := each_ok h
  obtain ⟨i, hi, rfl⟩ := List.getElem_of_mem hu
  obtain ⟨y, hy, hf⟩ := h2 i (l[i]'(by omega)) (List.getElem?_eq_getElem (by omega))
  rw [List.getElem?_eq_getElem hi] at hy
  injection hy with hy
  exact ⟨i, _, List.getElem?_eq_getElem (by omega), by rw [hf, hy]⟩
theorem colsH_is {f : List ByteArray → Except Int (List ByteArray)} {xs ys : List ByteArray} (h : colsH f xs = .ok ys) : f xs = .ok ys ∧ checkI ys [] = 0 := by
  cases hf : f xs with
  | error e => rw [colsH_err hf] at h; cases h
  | ok zs =>
    rw [colsH_ok hf] at h
    split at h
    · rename_i hk; injection h with h; subst h; exact ⟨rfl, hk⟩
    · cases h
theorem cols_sm {f : List ByteArray → Except Int (List ByteArray)} {hd h : List ByteArray} {rs r : List (List ByteArray)} (ht : tiT hd rs) (hf : ∀ xs ys, tiR xs → f xs = .ok ys → smR ys) (h1 : colsH f hd = .ok h) (h2 : colsR f rs = .ok r) : smT h r := by
  refine ⟨hf _ _ ht.1 (colsH_is h1).1, ?_, fun x hx => ?_⟩
  · have := (each_ok h2).1
    have := ht.2.1
    omega
  · obtain ⟨i, y, hy, he⟩ := each_mem h2 x hx
    exact hf _ _ (ht.2.2 y (List.mem_of_getElem? hy)) he
end Go.Proofs.YtigijgcldgbokaaGreat
