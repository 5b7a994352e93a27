/-
  What edits undo, and what they leave: facts of lists and tables.
  Conditions: none.
-/
import Derived.WalkKit
import Derived.Lib.Hide
import Derived.Test.YtigijgcldgbokaaGreatProg
import Derived.Test.YtigijgcldgbokaaGreatEFunA
import Derived.Test.YtigijgcldgbokaaGreatEFunC
namespace Go.Proofs.YtigijgcldgbokaaGreat
open Go.RowKit Go.Shelf
set_option linter.unusedVariables false

theorem check_parts {hd : List ByteArray} {rs : List (List ByteArray)} : checkI hd rs = 0 ↔ hd.length ≠ 0 ∧ (∀ r ∈ rs, r.length = hd.length) ∧ (bytesOf hd).Nodup ∧ hd.length ≤ 40 ∧ rs.length ≤ 400 ∧ (∀ c ∈ hd, c.size ≤ 1000) ∧ (∀ r ∈ rs, ∀ c ∈ r, c.size ≤ 1000) ∧ sumT (allT hd rs) ≤ 40000 := by
  have hrag : raggedB hd rs = false ↔ ∀ r ∈ rs, r.length = hd.length := by
    unfold raggedB
    rw [List.any_eq_false]
    constructor
    · intro h r hr
      have := h r hr
      simp [wideB] at this
      exact this
    · intro h r hr
      simp [wideB, h r hr]
  have hlarge : largeB hd rs = false ↔ hd.length ≤ 40 ∧ rs.length ≤ 400 ∧ (∀ c ∈ hd, c.size ≤ 1000) ∧ (∀ r ∈ rs, ∀ c ∈ r, c.size ≤ 1000) ∧ sumT (allT hd rs) ≤ 40000 := by
    have hl : longT (allT hd rs) = false ↔ (∀ c ∈ hd, c.size ≤ 1000) ∧ (∀ r ∈ rs, ∀ c ∈ r, c.size ≤ 1000) := by
      unfold longT allT
      rw [List.any_eq_false]
      constructor
      · intro h
        refine ⟨fun c hc => ?_, fun r hr c hc => ?_⟩
        · have := h c (List.mem_append_left _ hc); simp at this; omega
        · have := h c (List.mem_append_right _ (List.mem_flatten.2 ⟨r, hr, hc⟩)); simp at this; omega
      · rintro ⟨h1, h2⟩ c hc
        rcases List.mem_append.1 hc with hc | hc
        · have := h1 c hc; simp; omega
        · obtain ⟨r, hr, hc⟩ := List.mem_flatten.1 hc
          have := h2 r hr c hc; simp; omega
    unfold largeB
    simp only [Bool.or_eq_false_iff, decide_eq_false_iff_not, hl]
    constructor
    · rintro ⟨⟨⟨h1, h2⟩, h3, h4⟩, h5⟩; exact ⟨by omega, by omega, h3, h4, by omega⟩
    · rintro ⟨h1, h2, h3, h4, h5⟩; exact ⟨⟨⟨by omega, by omega⟩, h3, h4⟩, by omega⟩
  have hdup : dupL hd = false ↔ (bytesOf hd).Nodup := by unfold dupL; simp
  unfold checkI
  constructor
  · intro h
    split at h
    · cases h
    rename_i h0
    split at h
    · cases h
    rename_i h1
    split at h
    · cases h
    rename_i h2
    split at h
    · cases h
    rename_i h3
    simp only [Bool.not_eq_true] at h1 h2 h3
    exact ⟨h0, hrag.1 h1, hdup.1 h2, hlarge.1 h3⟩
  · rintro ⟨h0, h1, h2, h3⟩
    rw [if_neg h0, hrag.2 h1, hdup.2 h2, hlarge.2 h3]
    rfl
theorem check_ti {hd : List ByteArray} {rs : List (List ByteArray)} (h : checkI hd rs = 0) : tiT hd rs := by
  obtain ⟨h0, h1, h2, h3, h4, h5, h6, h7⟩ := check_parts.1 h
  exact ⟨⟨by omega, fun c hc => by have := h5 c hc; omega⟩, by omega, fun r hr => ⟨by have := h1 r hr; omega, fun c hc => by have := h6 r hr c hc; omega⟩⟩
theorem sum_app (a b : List ByteArray) : sumT (a ++ b) = sumT a + sumT b := by simp [sumT]
/-- fewer rows of a table that may be -/
theorem check_sub {hd : List ByteArray} {rs ss : List (List ByteArray)} (h : checkI hd rs = 0) (hm : ∀ r ∈ ss, r ∈ rs) (hl : ss.length ≤ rs.length) (hs : sumT ss.flatten ≤ sumT rs.flatten) : checkI hd ss = 0 := by
  obtain ⟨h0, h1, h2, h3, h4, h5, h6, h7⟩ := check_parts.1 h
  refine check_parts.2 ⟨h0, fun r hr => h1 r (hm r hr), h2, h3, by omega, h5, fun r hr => h6 r (hm r hr), ?_⟩
  rw [allT, sum_app] at h7 ⊢
  omega
theorem check_head {hd : List ByteArray} {rs : List (List ByteArray)} (h : checkI hd rs = 0) : checkI hd [] = 0 := check_sub h (fun r hr => by cases hr) (Nat.zero_le _) (by simp [sumT])

theorem ins_at {α : Type} {l o : List α} {k : Int} {x : α} (h : insV l k x = .ok o) : delL o k = .ok l ∧ o[k.toNat]? = some x := by
  obtain ⟨h1, h2, h3, _⟩ := ins_mem h
  obtain ⟨j, rfl⟩ := Int.eq_ofNat_of_zero_le h1
  unfold insV at h
  rw [if_pos ⟨h1, h2⟩] at h
  injection h with h
  rw [Int.toNat_natCast] at h ⊢
  have hj : j ≤ l.length := by omega
  have ht : (l.take j).length = j := by rw [List.length_take]; omega
  unfold delL
  rw [if_pos ⟨by omega, by omega⟩, Int.toNat_natCast]
  subst h
  rw [List.append_assoc]
  refine ⟨?_, ?_⟩
  · congr 1
    rw [List.take_append_of_le_length (by omega), List.take_of_length_le (by omega), List.drop_append, ht, show j + 1 - j = 1 from by omega, List.drop_of_length_le (by omega)]
    simp
  · rw [List.getElem?_append_right (by omega), ht, Nat.sub_self]; rfl
theorem del_at {α : Type} {l d : List α} {k : Int} {x : α} (h : delL l k = .ok d) (hx : l[k.toNat]? = some x) : insV d k x = .ok l := by
  obtain ⟨h1, h2, h3, _⟩ := del_mem h
  obtain ⟨j, rfl⟩ := Int.eq_ofNat_of_zero_le h1
  unfold delL at h
  rw [if_pos ⟨h1, h2⟩] at h
  injection h with h
  rw [Int.toNat_natCast] at h hx
  have hj : j < l.length := by omega
  have ht : (l.take j).length = j := by rw [List.length_take]; omega
  unfold insV
  rw [if_pos ⟨by omega, by omega⟩, Int.toNat_natCast]
  subst h
  congr 1
  rw [List.take_append_of_le_length (by omega), List.take_of_length_le (by omega), List.drop_append, ht, Nat.sub_self, List.drop_of_length_le (by omega), List.nil_append, List.drop_zero]
  obtain ⟨_, e⟩ := List.getElem?_eq_some_iff.1 hx
  conv => rhs; rw [← List.take_append_drop j l, List.drop_eq_getElem_cons hj, e]
  simp
theorem mov_is {α : Type} {l o : List α} {f t : Int} (h : movL l f t = .ok o) : ∃ d x, delL l f = .ok d ∧ l[f.toNat]? = some x ∧ insV d t x = .ok o := by
  cases hd : delL l f with
  | error e => rw [mov_err hd] at h; cases h
  | ok d =>
    obtain ⟨h1, h2, h3, h4⟩ := del_mem hd
    have hj : f.toNat < l.length := by omega
    rw [mov_ok hd (List.getElem?_eq_getElem hj)] at h
    exact ⟨d, _, rfl, List.getElem?_eq_getElem hj, h⟩
theorem mov_back {α : Type} {l o : List α} {f t : Int} (h : movL l f t = .ok o) : movL o t f = .ok l ∧ o[t.toNat]? = l[f.toNat]? := by
  obtain ⟨d, x, h1, h2, h3⟩ := mov_is h
  obtain ⟨h4, h5⟩ := ins_at h3
  exact ⟨by rw [mov_ok h4 h5]; exact del_at h1 h2, by rw [h5, h2]⟩
theorem each_back {α : Type} {f g : Nat → α → Except Int α} {l : List α} : ∀ {k : Nat} {o : List α}, (∀ (i : Nat) x y, l[i]? = some x → f (k + i) x = .ok y → g (k + i) y = .ok x) → eachL f k l = .ok o → eachL g k o = .ok l := by
  induction l with
  | nil => intro k o _ h; simp only [eachL] at h; injection h with h; subst h; rfl
  | cons x l ih =>
    intro k o hfg h
    simp only [eachL] at h
    cases hx : f k x with
    | error e => rw [hx] at h; cases h
    | ok y =>
      rw [hx] at h
      simp only at h
      cases hl : eachL f (k + 1) l with
      | error e => rw [hl] at h; cases h
      | ok t =>
        rw [hl] at h
        simp only [emap] at h
        injection h with h
        subst h
        have h1 := hfg 0 x y rfl hx
        rw [Nat.add_zero] at h1
        have h2 := ih (k := k + 1) (o := t) (fun i u v hu hv => by
          have e : k + 1 + i = k + (i + 1) := by omega
          rw [e] at hv ⊢
          exact hfg (i + 1) u v (by simpa using hu) hv) hl
        simp only [eachL, h1, h2, emap]
theorem turn_is {gh : List ByteArray → Except Int (List ByteArray)} {gr : List (List ByteArray) → Except Int (List (List ByteArray))} {hd h : List ByteArray} {rs r : List (List ByteArray)} (e : turnR gh gr hd rs = .ok (h, r)) : checkI hd rs = 0 ∧ gh hd = .ok h ∧ gr rs = .ok r ∧ checkI h r = 0 := by
  by_cases hk : checkI hd rs = 0
  · cases h1 : gh hd with
    | error x => rw [turn_head hk h1] at e; cases e
    | ok h' =>
      cases h2 : gr rs with
      | error x => rw [turn_rows hk h1 h2] at e; cases e
      | ok r' =>
        rw [turn_ok hk h1 h2] at e
        split at e
        · rename_i hk2
          injection e with e
          injection e with e1 e2
          subst e1 e2
          exact ⟨hk, rfl, rfl, hk2⟩
        · cases e
  · rw [turn_bad hk] at e; cases e
theorem turn_mk {gh : List ByteArray → Except Int (List ByteArray)} {gr : List (List ByteArray) → Except Int (List (List ByteArray))} {hd h : List ByteArray} {rs r : List (List ByteArray)} (h0 : checkI hd rs = 0) (h1 : gh hd = .ok h) (h2 : gr rs = .ok r) (h3 : checkI h r = 0) : turnR gh gr hd rs = .ok (h, r) := by
  rw [turn_ok h0 h1 h2, if_pos h3]
/-- what stops a turn is an error -/
theorem turn_ne {gh : List ByteArray → Except Int (List ByteArray)} {gr : List (List ByteArray) → Except Int (List (List ByteArray))} {hd : List ByteArray} {rs : List (List ByteArray)} {x : Int} (h1 : ∀ e, gh hd = .error e → e ≠ 0) (h2 : ∀ e, gr rs = .error e → e ≠ 0) (e : turnR gh gr hd rs = .error x) : x ≠ 0 := by
  by_cases hk : checkI hd rs = 0
  · cases k1 : gh hd with
    | error y => rw [turn_head hk k1] at e; injection e with e; subst e; exact h1 _ k1
    | ok h' =>
      cases k2 : gr rs with
      | error y => rw [turn_rows hk k1 k2] at e; injection e with e; subst e; exact h2 _ k2
      | ok r' =>
        rw [turn_ok hk k1 k2] at e
        split at e
        · cases e
        · rename_i hk2; injection e with e; subst e; exact hk2
  · rw [turn_bad hk] at e; injection e with e; subst e; exact hk
theorem ins_ne {α : Type} {l : List α} {k : Int} {x : α} : ∀ e, insV l k x = .error e → e ≠ 0 := fun e h => by
  unfold insV at h; split at h
  · cases h
  · injection h with h; subst h; decide
theorem del_ne {α : Type} {l : List α} {k : Int} : ∀ e, delL l k = .error e → e ≠ 0 := fun e h => by
  unfold delL at h; split at h
  · cases h
  · injection h with h; subst h; decide
theorem mov_ne {α : Type} {l : List α} {f t : Int} : ∀ e, movL l f t = .error e → e ≠ 0 := fun e h => by
  cases hd : delL l f with
  | error x => rw [mov_err hd] at h; injection h with h; subst h; exact del_ne _ hd
  | ok d =>
    obtain ⟨h1, h2, _⟩ := del_mem hd
    rw [mov_ok hd (List.getElem?_eq_getElem (show f.toNat < l.length by omega))] at h
    exact ins_ne _ h
theorem set_ne {α : Type} {l : List α} {k : Int} {x : α} : ∀ e, setL l k x = .error e → e ≠ 0 := fun e h => by
  unfold setL at h; split at h
  · cases h
  · injection h with h; subst h; decide
theorem pick_ne {α : Type} {l : List α} {ps : List Int} : ∀ e, pickV l ps = .error e → e ≠ 0 := fun e h => by
  unfold pickV at h; split at h
  · cases h
  · injection h with h; subst h; decide
theorem each_ne {α : Type} {f : Nat → α → Except Int α} (hf : ∀ i x e, f i x = .error e → e ≠ 0) : ∀ (l : List α) (k : Nat) (e : Int), eachL f k l = .error e → e ≠ 0 := by
  intro l
  induction l with
  | nil => intro k e h; simp [eachL] at h
  | cons x l ih =>
    intro k e h
    simp only [eachL] at h
    cases hx : f k x with
    | error y => rw [hx] at h; injection h with h; subst h; exact hf _ _ _ hx
    | ok y =>
      rw [hx] at h
      simp only at h
      cases hl : eachL f (k + 1) l with
      | error z => rw [hl] at h; simp only [emap] at h; injection h with h; subst h; exact ih _ _ hl
      | ok t => rw [hl] at h; cases h
theorem colsH_ne {f : List ByteArray → Except Int (List ByteArray)} {xs : List ByteArray} (hf : ∀ e, f xs = .error e → e ≠ 0) : ∀ e, colsH f xs = .error e → e ≠ 0 := fun e h => by
  cases hx : f xs with
  | error y => rw [colsH_err hx] at h; injection h with h; subst h; exact hf _ hx
  | ok y =>
    rw [colsH_ok hx] at h
    split at h
    · cases h
    · rename_i hk; injection h with h; subst h; exact hk
theorem cols_ne {f : List ByteArray → Except Int (List ByteArray)} {hd : List ByteArray} {rs : List (List ByteArray)} {x : Int} (hf : ∀ xs e, f xs = .error e → e ≠ 0) (e : turnR (colsH f) (colsR f) hd rs = .error x) : x ≠ 0 :=
  turn_ne (colsH_ne (hf hd)) (fun e h => each_ne (fun _ r e h => hf r e h) rs 0 e h) e
theorem ok_ne {α : Type} {x : α} : ∀ e, (Except.ok x : Except Int α) = .error e → e ≠ 0 := fun e h => by cases h
/-- columns that are turned there and back -/
theorem cols_back {f g : List ByteArray → Except Int (List ByteArray)} (hfg : ∀ x y, f x = .ok y → g y = .ok x) {hd h : List ByteArray} {rs r : List (List ByteArray)} (e : turnR (colsH f) (colsR f) hd rs = .ok (h, r)) : turnR (colsH g) (colsR g) h r = .ok (hd, rs) := by
  obtain ⟨h0, h1, h2, h3⟩ := turn_is e
  refine turn_mk h3 ?_ (each_back (fun i x y _ hy => hfg x y hy) h2) h0
  rw [colsH_ok (hfg _ _ (colsH_is h1).1), if_pos (check_head h0)]
theorem rows_back {f g : List (List ByteArray) → Except Int (List (List ByteArray))} {hd h : List ByteArray} {rs r : List (List ByteArray)} (hfg : f rs = .ok r → g r = .ok rs) (e : turnR (fun xs => .ok xs) f hd rs = .ok (h, r)) : h = hd ∧ turnR (fun xs => .ok xs) g hd r = .ok (hd, rs) := by
  obtain ⟨h0, h1, h2, h3⟩ := turn_is e
  injection h1 with h1
  subst h1
  exact ⟨rfl, turn_mk h3 rfl (hfg h2) h0⟩

/-- EditMoves -/
theorem moves_cols {hd h : List ByteArray} {rs r : List (List ByteArray)} {f t : Int} (e : turnR (colsH (fun xs => movL xs f t)) (colsR (fun xs => movL xs f t)) hd rs = .ok (h, r)) :
    turnR (colsH (fun xs => movL xs t f)) (colsR (fun xs => movL xs t f)) h r = .ok (hd, rs) ∧ tiT h r ∧ h.length = hd.length ∧ ∃ (i j : Nat) (x : ByteArray), f = i ∧ t = j ∧ i < hd.length ∧ j < hd.length ∧ hd[i]? = some x ∧ h[j]? = some x := by
  obtain ⟨h0, h1, h2, h3⟩ := turn_is e
  have hm := (colsH_is h1).1
  obtain ⟨a1, a2, a3, a4, a5, _⟩ := mov_mem hm
  have hb := (mov_back hm).2
  obtain ⟨i, rfl⟩ := Int.eq_ofNat_of_zero_le a1
  obtain ⟨j, rfl⟩ := Int.eq_ofNat_of_zero_le a3
  rw [Int.toNat_natCast, Int.toNat_natCast] at hb
  refine ⟨cols_back (fun x y hxy => (mov_back hxy).1) e, check_ti h3, a5, i, j, hd[i]'(by omega), rfl, rfl, by omega, by omega, List.getElem?_eq_getElem (by omega), ?_⟩
  rw [hb]; exact List.getElem?_eq_getElem (by omega)
theorem moves_rows {hd h : List ByteArray} {rs r : List (List ByteArray)} {f t : Int} (e : turnR (fun xs => .ok xs) (fun rs => movL rs f t) hd rs = .ok (h, r)) :
    h = hd ∧ turnR (fun xs => .ok xs) (fun rs => movL rs t f) hd r = .ok (hd, rs) ∧ tiT hd r ∧ r.length = rs.length := by
  obtain ⟨h0, h1, h2, h3⟩ := turn_is e
  obtain ⟨b1, b2⟩ := rows_back (g := fun rs => movL rs t f) (fun h => (mov_back h).1) e
  subst b1
  exact ⟨rfl, b2, check_ti h3, (mov_mem h2).2.2.2.2.1⟩
end Go.Proofs.YtigijgcldgbokaaGreat
