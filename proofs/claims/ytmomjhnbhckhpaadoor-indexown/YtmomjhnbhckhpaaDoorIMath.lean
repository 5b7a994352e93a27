/-
  How keys stand, how their parts stand, and the rank of a key: mathematics.
  Conditions: none.
-/
import Derived.Lib.Bytealg
namespace Go.Proofs.YtmomjhnbhckhpaaDoor
set_option linter.unusedVariables false

/-- what a comparison is: one order, either way round and through a third one; alike are just those that are the same -/
structure IsCmp {α : Type} (f : α → α → Int) : Prop where
  unit : ∀ a b, f a b = -1 ∨ f a b = 0 ∨ f a b = 1
  zero : ∀ a b, f a b = 0 ↔ a = b
  anti : ∀ a b, f b a = - f a b
  trans : ∀ a b c, f a b ≤ 0 → f b c ≤ 0 → f a c ≤ 0
/-- two lists, place by place -/
def lexH {α β : Type} (f : α → β → Int) : List α → List β → Int
  | [], [] => 0
  | [], _ :: _ => -1
  | _ :: _, [] => 1
  | a :: as, b :: bs => if f a b = 0 then lexH f as bs else f a b
theorem IsCmp.lt_trans {α : Type} {f : α → α → Int} (h : IsCmp f) {a b c : α} (h1 : f a b ≤ 0) (h2 : f b c ≤ 0) (h3 : f a b < 0 ∨ f b c < 0) : f a c < 0 := by
  have h4 := h.trans a b c h1 h2
  rcases h.unit a c with e | e | e
  · omega
  · have e2 := (h.zero a c).1 e
    subst e2
    have := h.anti a b
    omega
  · omega
theorem IsCmp.lex {α : Type} {f : α → α → Int} (h : IsCmp f) : IsCmp (lexH f) where
  unit := fun a => by
    induction a with
    | nil => intro b; cases b <;> simp [lexH]
    | cons x a ih =>
      intro b
      cases b with
      | nil => simp [lexH]
      | cons y b => simp only [lexH]; split; exact ih b; exact h.unit x y
  zero := fun a => by
    induction a with
    | nil => intro b; cases b <;> simp [lexH]
    | cons x a ih =>
      intro b
      cases b with
      | nil => simp [lexH]
      | cons y b =>
        simp only [lexH]
        split
        · rename_i e
          rw [ih b, (h.zero x y).1 e]; simp
        · rename_i e
          constructor
          · intro e2; exact absurd e2 e
          · intro e2; injection e2 with e3 _; exact absurd ((h.zero x y).2 e3) e
  anti := fun a => by
    induction a with
    | nil => intro b; cases b <;> simp [lexH]
    | cons x a ih =>
      intro b
      cases b with
      | nil => simp [lexH]
      | cons y b =>
        simp only [lexH]
        have := h.anti x y
        by_cases e : f x y = 0
        · rw [if_pos e, if_pos (by omega)]; exact ih b
        · rw [if_neg e, if_neg (by omega)]; exact this
  trans := fun a => by
    induction a with
    | nil => intro b c h1 h2; cases c <;> simp [lexH]
    | cons x a ih =>
      intro b c h1 h2
      cases b with
      | nil => simp [lexH] at h1
      | cons y b =>
        cases c with
        | nil => simp [lexH] at h2
        | cons z c =>
          simp only [lexH] at h1 h2 ⊢
          by_cases e1 : f x y = 0
          · have e1' := (h.zero x y).1 e1
            subst e1'
            rw [if_pos e1] at h1
            by_cases e2 : f x z = 0
            · rw [if_pos e2] at h2 ⊢; exact ih b c h1 h2
            · rw [if_neg e2] at h2 ⊢; exact h2
          · rw [if_neg e1] at h1
            have h2' : f y z ≤ 0 := by
              by_cases e2 : f y z = 0
              · omega
              · rw [if_neg e2] at h2; exact h2
            have := h.lt_trans h1 h2' (.inl (by omega))
            rw [if_neg (by omega)]; omega
/-- one byte -/
def byteC (a b : UInt8) : Int := if a < b then -1 else if b < a then 1 else 0
theorem byte_is (a b : UInt8) : byteC a b = if a.toNat < b.toNat then -1 else if b.toNat < a.toNat then 1 else 0 := by
  unfold byteC
  simp only [UInt8.lt_iff_toNat_lt]
theorem byte_cmp : IsCmp byteC where
  unit := fun a b => by unfold byteC; split; simp; split <;> simp
  zero := fun a b => by
    have : a = b ↔ a.toNat = b.toNat := ⟨fun h => by rw [h], fun h => UInt8.toNat_inj.1 h⟩
    rw [this, byte_is]
    split
    · simp; omega
    · split
      · simp; omega
      · simp; omega
  anti := fun a b => by
    rw [byte_is, byte_is]
    split
    · split
      · omega
      · rfl
    · split <;> rfl
  trans := fun a b c => by
    rw [byte_is, byte_is, byte_is]
    intro h1 h2
    split at h1 <;> split at h2 <;> (try split at h1) <;> (try split at h2) <;> (split <;> (try split)) <;> omega
theorem compareBytes_lex : ∀ a b : List UInt8, Go.Lib.compareBytes a b = lexH byteC a b
  | [], [] => rfl
  | [], _ :: _ => rfl
  | _ :: _, [] => rfl
  | a :: as, b :: bs => by
    have ih := compareBytes_lex as bs
    show (if a < b then -1 else if b < a then 1 else Go.Lib.compareBytes as bs) = (if byteC a b = 0 then lexH byteC as bs else byteC a b)
    by_cases h1 : a < b
    · have e : byteC a b = -1 := by unfold byteC; rw [if_pos h1]
      rw [if_pos h1, e]; rfl
    · by_cases h2 : b < a
      · have e : byteC a b = 1 := by unfold byteC; rw [if_neg h1, if_pos h2]
        rw [if_neg h1, if_pos h2, e]; rfl
      · have e : byteC a b = 0 := by unfold byteC; rw [if_neg h1, if_neg h2]
        rw [if_neg h1, if_neg h2, e, ih]; rfl
/-- a part of a key: its place, and its text -/
abbrev Part : Type := Nat × ByteArray
def txtC (a b : ByteArray) : Int := Go.Lib.compareBytes a.data.toList b.data.toList
theorem cmp_on {α β : Type} {f : α → α → Int} (h : IsCmp f) (g : β → α) (hg : ∀ x y, g x = g y → x = y) : IsCmp (fun x y => f (g x) (g y)) where
  unit := fun a b => h.unit _ _
  zero := fun a b => by
    rw [h.zero]
    exact ⟨fun e => hg _ _ e, fun e => by rw [e]⟩
  anti := fun a b => h.anti _ _
  trans := fun a b c => h.trans _ _ _
theorem txt_cmp : IsCmp txtC := by
  have := cmp_on byte_cmp.lex (fun a : ByteArray => a.data.toList) (fun x y e => by
    cases x; cases y
    simp only [Array.toList_inj] at e
    rw [e])
  have e : txtC = fun x y : ByteArray => lexH byteC x.data.toList y.data.toList := by
    funext x y
    exact compareBytes_lex _ _
  rw [e]; exact this
/-- how two keys stand -/
def keyC : List ByteArray → List ByteArray → Int := lexH txtC
theorem key_cmp : IsCmp keyC := txt_cmp.lex
def natC (a b : Nat) : Int := if (a : Int) < b then -1 else if (b : Int) < a then 1 else 0
/-- how two keys stand that are alike ahead of these parts -/
def partC (p q : Part) : Int := if natC q.1 p.1 = 0 then txtC p.2 q.2 else natC q.1 p.1
/-- the parts of a key from place i on: those that no place ahead has told -/
def partsFrom (first : Nat → Bool) (cell : Nat → ByteArray) : Nat → Nat → List Part
  | _, 0 => []
  | i, n + 1 => if first i = true ∧ cell i ≠ ByteArray.empty then (i, cell i) :: partsFrom first cell (i + 1) n else partsFrom first cell (i + 1) n
theorem parts_ge (first : Nat → Bool) (cell : Nat → ByteArray) : ∀ (n i : Nat), ∀ p ∈ partsFrom first cell i n, i ≤ p.1
  | 0, i, p, h => by simp [partsFrom] at h
  | n + 1, i, p, h => by
    unfold partsFrom at h
    split at h
    · rcases List.mem_cons.1 h with rfl | h
      · exact Nat.le_refl _
      · have := parts_ge first cell n (i + 1) p h; omega
    · have := parts_ge first cell n (i + 1) p h; omega
theorem txt_empty (a : ByteArray) (h : a ≠ ByteArray.empty) : txtC a ByteArray.empty = 1 ∧ txtC ByteArray.empty a = -1 := by
  have h1 : txtC a ByteArray.empty = 1 := by
    have hl : a.data.toList ≠ [] := fun e => h (by cases a; simp at e; subst e; rfl)
    unfold txtC
    cases hh : a.data.toList with
    | nil => exact absurd hh hl
    | cons x l => rfl
  exact ⟨h1, by rw [txt_cmp.anti, h1]⟩
/-- two keys' parts stand as the keys do -/
theorem parts_key (first : Nat → Bool) (ca cb : Nat → ByteArray) (N : Nat) (hf : ∀ i, i < N → first i = false → ∃ j, j < i ∧ ca j = ca i ∧ cb j = cb i) : ∀ (n i : Nat), i + n = N → (∀ j, j < i → ca j = cb j) →
    lexH partC (partsFrom first ca i n) (partsFrom first cb i n) = keyC ((List.range' i n).map ca) ((List.range' i n).map cb)
  | 0, i, _, _ => rfl
  | n + 1, i, hN, hD => by
    rw [List.range'_succ, List.map_cons, List.map_cons]
    have step : ca i = cb i → lexH partC (partsFrom first ca (i + 1) n) (partsFrom first cb (i + 1) n) = keyC ((List.range' (i + 1) n).map ca) ((List.range' (i + 1) n).map cb) := fun e =>
      parts_key first ca cb N hf n (i + 1) (by omega) (fun j hj => by
        by_cases h : j = i
        · rw [h]; exact e
        · exact hD j (by omega))
    have hkey : keyC (ca i :: (List.range' (i + 1) n).map ca) (cb i :: (List.range' (i + 1) n).map cb) = if txtC (ca i) (cb i) = 0 then keyC ((List.range' (i + 1) n).map ca) ((List.range' (i + 1) n).map cb) else txtC (ca i) (cb i) := rfl
    rw [hkey]
    unfold partsFrom
    cases hfi : first i with
    | false =>
      obtain ⟨j, hj, e1, e2⟩ := hf i (by omega) hfi
      have e : ca i = cb i := by rw [← e1, ← e2]; exact hD j hj
      rw [if_neg (by simp), if_neg (by simp), if_pos ((txt_cmp.zero _ _).2 e)]
      exact step e
    | true =>
      by_cases ha : ca i = ByteArray.empty
      · by_cases hb : cb i = ByteArray.empty
        · rw [if_neg (by simp [ha]), if_neg (by simp [hb]), if_pos ((txt_cmp.zero _ _).2 (by rw [ha, hb]))]
          exact step (by rw [ha, hb])
        · rw [if_neg (by simp [ha]), if_pos ⟨rfl, hb⟩, ha, (txt_empty _ hb).2]
          have hg := parts_ge first ca n (i + 1)
          generalize partsFrom first ca (i + 1) n = L at hg
          cases L with
          | nil => rfl
          | cons p L =>
            have := hg p List.mem_cons_self
            have e : partC p (i, cb i) = -1 := by
              unfold partC natC
              simp only
              rw [if_pos (show (i : Int) < p.1 by omega)]
              rfl
            simp only [lexH, e]; rfl
      · by_cases hb : cb i = ByteArray.empty
        · rw [if_pos ⟨rfl, ha⟩, if_neg (by simp [hb]), hb, (txt_empty _ ha).1]
          have hg := parts_ge first cb n (i + 1)
          generalize partsFrom first cb (i + 1) n = L at hg
          cases L with
          | nil => rfl
          | cons p L =>
            have := hg p List.mem_cons_self
            have e : partC (i, ca i) p = 1 := by
              unfold partC natC
              simp only
              rw [if_neg (show ¬ (p.1 : Int) < i by omega), if_pos (show (i : Int) < p.1 by omega)]
              rfl
            simp only [lexH, e]; rfl
        · rw [if_pos ⟨rfl, ha⟩, if_pos ⟨rfl, hb⟩]
          have e : partC (i, ca i) (i, cb i) = txtC (ca i) (cb i) := by
            unfold partC natC
            simp
          simp only [lexH, e]
          by_cases hz : txtC (ca i) (cb i) = 0
          · rw [if_pos hz, if_pos hz]; exact step ((txt_cmp.zero _ _).1 hz)
          · rw [if_neg hz, if_neg hz]
/-- the rank of a key: how many are less -/
def rankK {α : Type} (f : α → α → Int) (l : List α) (x : α) : Int := ((l.filter fun y => decide (f y x < 0)).length : Int)
theorem filter_more {α : Type} (p q : α → Bool) : ∀ (l : List α), (∀ y ∈ l, p y = true → q y = true) → (l.filter p).length ≤ (l.filter q).length ∧ (∀ x ∈ l, p x = false → q x = true → (l.filter p).length < (l.filter q).length)
  | [], _ => ⟨Nat.le_refl _, fun x hx => by simp at hx⟩
  | a :: l, h => by
    obtain ⟨i1, i2⟩ := filter_more p q l (fun y hy => h y (List.mem_cons_of_mem _ hy))
    have ha := h a List.mem_cons_self
    rw [List.filter_cons, List.filter_cons]
    cases hp : p a with
    | true =>
      rw [ha hp]
      simp only [if_true, List.length_cons]
      refine ⟨by omega, fun x hx hpx hqx => ?_⟩
      rcases List.mem_cons.1 hx with rfl | hx
      · rw [hp] at hpx; cases hpx
      · have := i2 x hx hpx hqx; omega
    | false =>
      cases hq : q a with
      | true =>
        simp only [if_true, List.length_cons]
        exact ⟨by simp; omega, fun x hx hpx hqx => by simp; omega⟩
      | false =>
        refine ⟨by simpa using i1, fun x hx hpx hqx => ?_⟩
        rcases List.mem_cons.1 hx with rfl | hx
        · rw [hq] at hqx; cases hqx
        · have := i2 x hx hpx hqx; simpa using this
def intC (a b : Int) : Int := if a < b then -1 else if b < a then 1 else 0
theorem rank_cmp {α : Type} {f : α → α → Int} (h : IsCmp f) (l : List α) (x y : α) (hx : x ∈ l) (hy : y ∈ l) : intC (rankK f l x) (rankK f l y) = f x y := by
  have key : ∀ x y, x ∈ l → f x y < 0 → rankK f l x < rankK f l y := fun x y hx hlt => by
    unfold rankK
    have := (filter_more (fun z => decide (f z x < 0)) (fun z => decide (f z y < 0)) l (fun z _ hz => by
      simp only [decide_eq_true_eq] at hz ⊢
      exact h.lt_trans (by omega) (by omega) (.inl hz))).2 x hx (by
        simp only [decide_eq_false_iff_not]; have := (h.zero x x).2 rfl; omega) (by simpa using hlt)
    omega
  unfold intC
  rcases h.unit x y with e | e | e
  · rw [if_pos (key x y hx (by omega)), e]
  · have e2 := (h.zero x y).1 e
    subst e2
    rw [if_neg (by omega), if_neg (by omega), e]
  · have := h.anti x y
    have := key y x hy (by omega)
    rw [if_neg (by omega), if_pos this, e]
end Go.Proofs.YtmomjhnbhckhpaaDoor
