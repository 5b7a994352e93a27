/-
  In the woven list the new order is kept, and what is gone stands in the old order among what is still.
  Conditions: none.
-/
import Derived.Test.YtolcdhdmonaeaaaWvMath
namespace Go.Proofs.Ytolcdhdmonaeaaa
set_option linter.unusedVariables false

/-- what the statement asks of a list, pair by pair: where it stands then (the last A, the next B), or nothing where it is broken -/
def riseW (S : PL) : PL → Int → Int → Option Int
  | [], _, next => some next
  | p :: l, last, next =>
    if 0 ≤ p.2 ∧ p.2 ≠ next then none else
    if p ∈ S ∨ p.2 < 0 then (if p.1 ≤ last then none else riseW S l p.1 (if 0 ≤ p.2 then next + 1 else next))
    else riseW S l last (if 0 ≤ p.2 then next + 1 else next)
theorem rise_cons (S : PL) (p : Int × Int) (l : PL) (last next : Int) : riseW S (p :: l) last next = if 0 ≤ p.2 ∧ p.2 ≠ next then none else if p ∈ S ∨ p.2 < 0 then (if p.1 ≤ last then none else riseW S l p.1 (if 0 ≤ p.2 then next + 1 else next)) else riseW S l last (if 0 ≤ p.2 then next + 1 else next) := rfl
theorem rise_gone (S : PL) (g : List Int) (l : PL) (last next : Int) (hg : g.Pairwise (· < ·)) (hl : ∀ a ∈ g, last < a) : ∃ last', riseW S (goneP g ++ l) last next = riseW S l last' next ∧ (last' = last ∨ last' ∈ g) := by
  induction g generalizing last with
  | nil => exact ⟨last, rfl, .inl rfl⟩
  | cons a g ih =>
    obtain ⟨h1, h2⟩ := List.pairwise_cons.1 hg
    obtain ⟨l', e, h3⟩ := ih a h2 (fun x hx => h1 x hx)
    refine ⟨l', ?_, ?_⟩
    · have ha := hl a (by simp)
      show riseW S ((a, -1) :: (goneP g ++ l)) last next = _
      rw [rise_cons, if_neg (by simp), if_pos (.inr (by simp)), if_neg (by simp only; omega), if_neg (by simp)]
      exact e
    · rcases h3 with rfl | h3
      · exact .inr (by simp)
      · exact .inr (by simp [h3])
/-- what is asked of marked pairs and gone ones -/
structure Ris (S : PL) (m : ML) (g : List Int) (last : Int) : Prop where
  ge : -1 ≤ last
  mark : ∀ q ∈ m, (q.1 = true ↔ q.2 ∈ S)
  new : ∀ b, (-1, b) ∉ S
  up : m.Pairwise (fun p q => p.1 = true → q.1 = true → p.2.1 < q.2.1)
  lastM : ∀ q ∈ m, q.1 = true → last < q.2.1
  gone : g.Pairwise (· < ·)
  lastG : ∀ a ∈ g, last < a
  apart : ∀ q ∈ m, q.2.1 ∉ g
theorem behind_gt (a : Int) (g : List Int) (h : g.Pairwise (· < ·)) : ∀ x ∈ behindA a g, a < x := by
  induction g with
  | nil => intro x hx; cases hx
  | cons y g ih =>
    obtain ⟨h1, h2⟩ := List.pairwise_cons.1 h
    intro x hx
    unfold behindA at hx
    by_cases hy : y ≤ a
    · rw [List.dropWhile_cons_of_pos (by simp [hy])] at hx
      exact ih h2 x hx
    · rw [List.dropWhile_cons_of_neg (by simp [hy])] at hx
      rcases List.mem_cons.1 hx with rfl | hx
      · omega
      · have := h1 x hx; omega
theorem upTo_le (a : Int) (g : List Int) : ∀ x ∈ upToA a g, x ≤ a := by
  intro x hx
  have := List.all_takeWhile (l := g) (p := fun x => decide (x ≤ a))
  rw [List.all_eq_true] at this
  simpa using this x hx
theorem weave_rises (S : PL) (n : Nat) (b : Int) (m : ML) (g : List Int) (last : Int) (h : Row n b m) (hr : Ris S m g last) : riseW S (weaveM n b m g) last b = some (b + n) := by
  induction n generalizing b m g last with
  | zero =>
    rw [h.nil]
    show riseW S (goneP g) last b = _
    obtain ⟨l', e, _⟩ := rise_gone S g [] last b hr.gone hr.lastG
    rw [List.append_nil] at e
    rw [e]; simp [riseW]
  | succ n ih =>
    have newStep : ∀ (m' : ML), (m' = m) → Row n (b + 1) m' → riseW S ((-1, b) :: weaveM n (b + 1) m' g) last b = some (b + (n + 1 : Nat)) := fun m' e hR => by
      subst e
      unfold riseW
      have h0 := h.b0
      rw [if_neg (by simp), if_neg (by simp only [not_or]; exact ⟨hr.new b, by omega⟩), if_pos (by simpa using h0), ih _ _ _ _ hR hr]
      congr 1; omega
    cases m with
    | nil => exact newStep [] rfl (h.none (by simp))
    | cons q m =>
      obtain ⟨s, p⟩ := q
      have hw := h.within (s, p) (by simp)
      have h0 := h.b0
      simp only at hw
      unfold weaveM
      split
      · rename_i hb
        obtain ⟨u1, u2⟩ := List.pairwise_cons.1 hr.up
        split
        · rename_i hs
          subst hs
          have hpS : p ∈ S := (hr.mark (true, p) (by simp)).1 rfl
          have hlp := hr.lastM (true, p) (by simp) rfl
          simp only at hlp
          have hg1 : (upToA p.1 g).Pairwise (· < ·) := hr.gone.sublist (List.takeWhile_sublist _)
          obtain ⟨l', e, hl'⟩ := rise_gone S (upToA p.1 g) (p :: weaveM n (b + 1) m (behindA p.1 g)) last b hg1 (fun a ha => hr.lastG a (mem_upToA ha))
          rw [e]
          have hlt : l' < p.1 := by
            rcases hl' with rfl | hl'
            · exact hlp
            · have h1 := upTo_le p.1 g _ hl'
              have h2 : l' ≠ p.1 := fun e' => hr.apart (true, p) (by simp) (by rw [← e']; exact mem_upToA hl')
              omega
          unfold riseW
          rw [if_neg (by simp only [not_and, Decidable.not_not]; intro _; exact hb), if_pos (.inl hpS), if_neg (by omega), if_pos (by omega)]
          have hR' : Ris S m (behindA p.1 g) p.1 := ⟨by omega, fun q hq => hr.mark q (by simp [hq]), hr.new, u2, fun q hq hq1 => u1 q hq rfl hq1, hr.gone.sublist (List.dropWhile_sublist _), behind_gt p.1 g hr.gone, fun q hq hx => hr.apart q (by simp [hq]) (mem_behindA hx)⟩
          rw [ih _ _ _ _ h.next hR']
          congr 1; omega
        · rename_i hs
          have hpS : p ∉ S := fun hp => hs ((hr.mark (s, p) (by simp)).2 hp)
          unfold riseW
          rw [if_neg (by simp only [not_and, Decidable.not_not]; intro _; exact hb), if_neg (by simp only [not_or]; exact ⟨hpS, by omega⟩), if_pos (by omega)]
          have hR' : Ris S m g last := ⟨hr.ge, fun q hq => hr.mark q (by simp [hq]), hr.new, u2, fun q hq hq1 => hr.lastM q (by simp [hq]) hq1, hr.gone, hr.lastG, fun q hq => hr.apart q (by simp [hq])⟩
          rw [ih _ _ _ _ h.next hR']
          congr 1; omega
      · rename_i hne
        exact newStep ((s, p) :: m) rfl (h.none (fun q hq => by cases hq; exact hne))
theorem inj_nodup {α : Type} {f : α → Int} {l : List α} (h : (l.map f).Nodup) {x y : α} (hx : x ∈ l) (hy : y ∈ l) (e : f x = f y) : x = y := by
  induction l with
  | nil => cases hx
  | cons a l ih =>
    rw [List.map_cons, List.nodup_cons] at h
    rcases List.mem_cons.1 hx with rfl | hx1
    · rcases List.mem_cons.1 hy with rfl | hy1
      · rfl
      · exact absurd (by rw [e]; exact List.mem_map_of_mem hy1) h.1
    · rcases List.mem_cons.1 hy with rfl | hy1
      · exact absurd (by rw [← e]; exact List.mem_map_of_mem hx1) h.1
      · exact ih h.2 hx1 hy1
theorem upTo_rise (n : Nat) : (upTo n).Pairwise (· < ·) := by
  unfold upTo
  exact List.Pairwise.map _ (fun a b hab => by simpa using hab) List.pairwise_lt_range
theorem out_rise (S : List Int) (n : Nat) : (outOf S n).Pairwise (· < ·) := (upTo_rise n).sublist List.filter_sublist
theorem rises_woven {l : PL} {na nb : Int} (h : May l na nb) : riseW (atP l (stillL l)) (weaveL l na nb) (-1) 0 = some nb := by
  obtain ⟨e, hu⟩ := marks_ok l
  have hs := marks_snd l 0 (stillL l)
  have hmem : ∀ q ∈ marks 0 l (stillL l), q.2 ∈ l := fun q hq => by rw [← hs]; exact List.mem_map_of_mem (f := Prod.snd) hq
  have hR := may_row h (stillL l)
  have hfst : ((marks 0 l (stillL l)).map (fun q => q.2.1)).Nodup := by
    have : (marks 0 l (stillL l)).map (fun q => q.2.1) = l.map Prod.fst := by
      conv => rhs; rw [← hs, List.map_map]
      rfl
    rw [this]; exact h.fst
  have hr : Ris (atP l (stillL l)) (marks 0 l (stillL l)) (outOf (l.map Prod.fst) na.toNat) (-1) := by
    refine ⟨Int.le_refl _, fun q hq => ⟨fun hq1 => ?_, fun hq2 => ?_⟩, fun b hb => ?_, hu, fun q hq _ => ?_, out_rise _ _, fun a ha => ?_, fun q hq hx => ?_⟩
    · rw [e]; exact List.mem_map.2 ⟨q, List.mem_filter.2 ⟨hq, hq1⟩, rfl⟩
    · rw [e] at hq2
      obtain ⟨r, hr, er⟩ := List.mem_map.1 hq2
      obtain ⟨hr1, hr2⟩ := List.mem_filter.1 hr
      have hq' : r = q := by
        have hinj := inj_nodup hfst hr1 hq (by simp only [er])
        exact hinj
      rw [← hq']; exact hr2
    · rw [e] at hb
      obtain ⟨r, hr, er⟩ := List.mem_map.1 hb
      have := (h.within _ (hmem r (List.mem_filter.1 hr).1)).1
      rw [er] at this; simp at this
    · have := (h.within _ (hmem q hq)).1; omega
    · have := out_ge _ _ a ha; omega
    · have := (List.mem_filter.1 hx).2
      simp only [decide_eq_true_eq] at this
      exact this (List.mem_map_of_mem (f := Prod.fst) (hmem q hq))
  have := weave_rises _ _ _ _ _ _ hR hr
  unfold weaveL
  rw [this]
  have := h.b0
  congr 1; omega
end Go.Proofs.Ytolcdhdmonaeaaa
