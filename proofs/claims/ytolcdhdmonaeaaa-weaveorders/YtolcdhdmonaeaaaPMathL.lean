/-
  No choice of rising numbers is longer than what is still, and of as long ones none begins further ahead.
  Conditions: none.
-/
import Derived.Test.YtolcdhdmonaeaaaPStillR
namespace Go.Proofs.Ytolcdhdmonaeaaa
set_option linter.unusedVariables false

/-- a choice of places, rising from 'fr' on, whose numbers rise above 'last' -/
def Rise (al : List Int) : Nat → Option Int → List Int → Prop
  | _, _, [] => True
  | fr, last, p :: c => ∃ (j : Nat) (x : Int), p = (j : Int) ∧ fr ≤ j ∧ al[j]? = some x ∧ (∀ a, last = some a → a < x) ∧ Rise al (j + 1) (some x) c
theorem longs_more (al : List Int) (p q m n : Nat) (x y : Int) (hx : al[p]? = some x) (hy : al[q]? = some y) (hm : (longs al)[p]? = some m) (hn : (longs al)[q]? = some n) (hpq : p < q) (hxy : x < y) : n + 1 ≤ m := by
  have e := longs_at al p m x hx hm
  have hb := best_ge x (al.drop (p + 1)) (longs (al.drop (p + 1))) (q - (p + 1)) y n (by rw [List.getElem?_drop, show p + 1 + (q - (p + 1)) = q from by omega]; exact hy) (by rw [longs_drop, List.getElem?_drop, show p + 1 + (q - (p + 1)) = q from by omega]; exact hn) hxy
  omega
theorem longs_some (al : List Int) (p : Nat) (x : Int) (hx : al[p]? = some x) : ∃ n, (longs al)[p]? = some n :=
  ⟨_, List.getElem?_eq_getElem (by rw [longs_len]; exact (List.getElem?_eq_some_iff.1 hx).1)⟩
theorem rise_len (al : List Int) : ∀ (c : List Int) (fr : Nat) (last : Option Int) (p : Int), Rise al fr last (p :: c) → ∃ (j n : Nat) (x : Int), p = (j : Int) ∧ al[j]? = some x ∧ (longs al)[j]? = some n ∧ c.length + 1 ≤ n
  | [], fr, last, p, ⟨j, x, h1, h2, h3, h4, _⟩ => by
    obtain ⟨n, hn⟩ := longs_some al j x h3
    exact ⟨j, n, x, h1, h3, hn, longs_pos al j n hn⟩
  | q :: c, fr, last, p, ⟨j, x, h1, h2, h3, h4, h5⟩ => by
    obtain ⟨n, hn⟩ := longs_some al j x h3
    obtain ⟨k, m, y, g1, g2, g3, g4⟩ := rise_len al c (j + 1) (some x) q h5
    obtain ⟨k', y', e1, e2, e3, e4, _⟩ := h5
    have hk : k' = k := by omega
    subst hk
    rw [g2] at e3; cases e3
    have := longs_more al j k' n m x y h3 g2 hn g3 (by omega) (e4 x rfl)
    exact ⟨j, n, x, h1, h3, hn, by simp; omega⟩
theorem rise_most (al : List Int) (c : List Int) (h : Rise al 0 none c) : c.length ≤ most (longs al) := by
  cases c with
  | nil => simp
  | cons p c =>
    obtain ⟨j, n, x, _, _, hn, hl⟩ := rise_len al c 0 none p h
    have := most_ge _ j n hn
    simp; omega
/-- no further ahead -/
def lexLE : List Int → List Int → Prop
  | p :: L, q :: c => p < q ∨ (p = q ∧ lexLE L c)
  | _, _ => True
theorem pick_best (al : List Int) : ∀ (d k left : Nat) (last : Option Int), (longs al).length - k = d → Comes al k left last → (∀ (j n : Nat) (x : Int), k ≤ j → al[j]? = some x → (longs al)[j]? = some n → (∀ a, last = some a → a < x) → n ≤ left) →
    (pick ((longs al).drop k) k left).length = left ∧ Rise al k last (pick ((longs al).drop k) k left) ∧ ∀ c, Rise al k last c → c.length = left → lexLE (pick ((longs al).drop k) k left) c
  | d, k, left, last, hd, hC, hT => by
    by_cases h0 : left = 0
    · subst h0
      rw [pick_zero]
      exact ⟨rfl, trivial, fun c _ _ => by simp [lexLE]⟩
    · rcases Nat.lt_or_ge k (longs al).length with hk | hk
      · obtain ⟨n, hn⟩ : ∃ n, (longs al)[k]? = some n := ⟨_, List.getElem?_eq_getElem hk⟩
        obtain ⟨x, hx⟩ : ∃ x, al[k]? = some x := ⟨_, List.getElem?_eq_getElem (by rw [← longs_len]; exact hk)⟩
        by_cases hnl : n = left
        · subst hnl
          rw [pick_hit (longs al) k n hn h0]
          have ih := pick_best al (d - 1) (k + 1) (n - 1) (some x) (by omega) (Comes.hit (last := none) hx hn) (fun j m y hj hy hm ha => by
            have := longs_more al k j n m x y hx hy hn hm (by omega) (ha x rfl); omega)
          obtain ⟨i1, i2, i3⟩ := ih
          refine ⟨by simp [i1]; omega, ⟨k, x, rfl, Nat.le_refl _, hx, fun a ha => ?_, i2⟩, fun c hc hl => ?_⟩
          · subst ha; exact hC.rises hx hn
          · cases c with
            | nil => simp [lexLE]
            | cons q c =>
              obtain ⟨j, y, g1, g2, g3, g4, g5⟩ := hc
              rcases Nat.lt_or_ge k j with h | h
              · exact .inl (by omega)
              · have hjk : j = k := by omega
                subst hjk
                rw [hx] at g3; cases g3
                exact .inr ⟨g1.symm, i3 c g5 (by simp at hl; omega)⟩
        · rw [pick_miss (longs al) k left n hn h0 hnl]
          obtain ⟨i1, i2, i3⟩ := pick_best al (d - 1) (k + 1) left last (by omega) (hC.miss hn hnl) (fun j m y hj hy hm ha => hT j m y (by omega) hy hm ha)
          have up : ∀ c, Rise al (k + 1) last c → Rise al k last c := fun c hc => by
            cases c with
            | nil => trivial
            | cons q c => obtain ⟨j, y, g1, g2, g3⟩ := hc; exact ⟨j, y, g1, by omega, g3⟩
          refine ⟨i1, up _ i2, fun c hc hl => ?_⟩
          cases c with
          | nil => simp at hl; omega
          | cons q c =>
            refine i3 _ ?_ hl
            obtain ⟨j, m, y, e1, e2, e3, e4⟩ := rise_len al c k last q hc
            obtain ⟨j', y', g1, g2, g3, g4, g5⟩ := hc
            have hjj : j' = j := by omega
            subst hjj
            rw [e2] at g3; cases g3
            have hne : j' ≠ k := fun e => by
              subst e
              rw [hn] at e3; cases e3
              have := hT j' n y (Nat.le_refl _) e2 hn g4
              simp at hl; omega
            exact ⟨j', y, g1, by omega, e2, g4, g5⟩
      · exfalso
        rcases hC with h | ⟨j, x, h1, h2, _⟩
        · exact h0 h
        · have := (List.getElem?_eq_some_iff.1 h2).1; omega
theorem still_best (xs : PL) : (stillL xs).length = most (longs (xs.map Prod.fst)) ∧ Rise (xs.map Prod.fst) 0 none (stillL xs) ∧ ∀ c, Rise (xs.map Prod.fst) 0 none c → c.length ≤ (stillL xs).length ∧ (c.length = (stillL xs).length → lexLE (stillL xs) c) := by
  have h := pick_best (xs.map Prod.fst) _ 0 (most (longs (xs.map Prod.fst))) none rfl (Comes.start _) (fun j n x _ _ hn _ => most_ge _ j n hn)
  rw [List.drop_zero] at h
  obtain ⟨h1, h2, h3⟩ := h
  refine ⟨h1, h2, fun c hc => ⟨?_, fun hl => h3 c hc (by rw [hl]; exact h1)⟩⟩
  have := rise_most _ c hc
  unfold stillL; rw [h1]; exact this
/-- a choice, place by place -/
theorem rise_at (al : List Int) : ∀ (c : List Int) (fr : Nat) (last : Option Int), Rise al fr last c → ∀ (i : Nat) (p : Int), c[i]? = some p → ∃ (j : Nat) (x : Int), p = (j : Int) ∧ al[j]? = some x ∧ ∀ q, c[i + 1]? = some q → ∃ (k : Nat) (y : Int), q = (k : Int) ∧ j < k ∧ al[k]? = some y ∧ x < y
  | [], _, _, _, i, p, h => by simp at h
  | q :: c, fr, last, ⟨j, x, h1, h2, h3, h4, h5⟩, 0, p, h => by
    simp at h; subst h
    refine ⟨j, x, h1, h3, fun r hr => ?_⟩
    cases c with
    | nil => simp at hr
    | cons s c =>
      simp at hr; subst hr
      obtain ⟨k, y, g1, g2, g3, g4, _⟩ := h5
      exact ⟨k, y, g1, by omega, g3, g4 x rfl⟩
  | q :: c, fr, last, ⟨j, x, h1, h2, h3, h4, h5⟩, i + 1, p, h => by
    have := rise_at al c (j + 1) (some x) h5 i p (by simpa using h)
    simpa using this
theorem rise_of (al : List Int) : ∀ (c : List Int) (fr : Nat) (last : Option Int), (∀ (i : Nat) (p : Int), c[i]? = some p → ∃ (j : Nat) (x : Int), p = (j : Int) ∧ al[j]? = some x ∧ ∀ q, c[i + 1]? = some q → ∃ (k : Nat) (y : Int), q = (k : Int) ∧ j < k ∧ al[k]? = some y ∧ x < y) →
    (∀ p, c[0]? = some p → ∃ (j : Nat) (x : Int), p = (j : Int) ∧ fr ≤ j ∧ al[j]? = some x ∧ ∀ a, last = some a → a < x) → Rise al fr last c
  | [], _, _, _, _ => trivial
  | p :: c, fr, last, h, h0 => by
    obtain ⟨j, x, g1, g2, g3, g4⟩ := h0 p rfl
    obtain ⟨j', x', e1, e2, e3⟩ := h 0 p rfl
    have hj : j' = j := by omega
    subst hj
    rw [g3] at e2; cases e2
    refine ⟨j', x, g1, g2, g3, g4, rise_of al c (j' + 1) (some x) (fun i q hq => by simpa using h (i + 1) q (by simpa using hq)) (fun q hq => ?_)⟩
    obtain ⟨k, y, f1, f2, f3, f4⟩ := e3 q (by simpa using hq)
    exact ⟨k, y, f1, by omega, f3, fun a ha => by cases ha; exact f4⟩
theorem lex_at : ∀ (L c : List Int), lexLE L c → ∀ (i : Nat) (p q : Int), (∀ (j : Nat) (u v : Int), j < i → L[j]? = some u → c[j]? = some v → u = v) → L[i]? = some p → c[i]? = some q → p ≠ q → p < q
  | [], c, _, i, p, q, _, hp, _, _ => by simp at hp
  | x :: L, [], _, i, p, q, _, _, hq, _ => by simp at hq
  | x :: L, y :: c, h, 0, p, q, _, hp, hq, hne => by
    simp at hp hq; subst hp hq
    rcases h with h | ⟨h, _⟩
    · exact h
    · exact absurd h hne
  | x :: L, y :: c, h, i + 1, p, q, hall, hp, hq, hne => by
    have e := hall 0 x y (by omega) rfl rfl
    rcases h with h | ⟨_, h⟩
    · omega
    · exact lex_at L c h i p q (fun j u v hj hu hv => hall (j + 1) u v (by omega) (by simpa using hu) (by simpa using hv)) (by simpa using hp) (by simpa using hq) hne
end Go.Proofs.Ytolcdhdmonaeaaa
