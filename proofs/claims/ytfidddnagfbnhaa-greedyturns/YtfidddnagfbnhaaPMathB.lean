/-
  Pairs that may be, turned: they may be, turned again they are as they were; what is in none.
  Conditions: none.
-/
import Derived.Test.YtfidddnagfbnhaaPMathT
import Derived.Test.YtfidddnagfbnhaaPTurn
import Derived.Test.YtfidddnagfbnhaaPCheck
import Derived.Test.YtfidddnagfbnhaaPRest
namespace Go.Proofs.Ytfidddnagfbnhaa
set_option linter.unusedVariables false

/-- pairs that may be -/
structure MayBe (l : PL) (na nb : Int) : Prop where
  a0 : 0 ≤ na
  b0 : 0 ≤ nb
  within : ∀ p ∈ l, 0 ≤ p.1 ∧ p.1 < na ∧ 0 ≤ p.2 ∧ p.2 < nb
  fst : (l.map Prod.fst).Nodup
  snd : (l.map Prod.snd).Nodup
  sorted : Sorted l
theorem rises_sorted (l : PL) : risesB l = true ↔ Sorted l := by
  induction l with
  | nil => simp [risesB, Sorted]
  | cons p l ih =>
    cases l with
    | nil => simp [risesB, Sorted]
    | cons q l =>
      simp only [risesB, Bool.and_eq_true, decide_eq_true_eq, ih]
      unfold Sorted
      rw [List.pairwise_cons (a := p)]
      constructor
      · rintro ⟨h1, h2⟩
        refine ⟨fun r hr => ?_, h2⟩
        rcases List.mem_cons.1 hr with rfl | hr
        · exact h1
        · have := (List.pairwise_cons.1 h2).1 r hr; omega
      · rintro ⟨h1, h2⟩
        exact ⟨h1 q (by simp), h2⟩
theorem may_be (l : PL) (na nb : Int) : checkP l na nb = 0 ↔ MayBe l na nb := by
  unfold checkP
  constructor
  · intro h
    split at h
    · omega
    · rename_i h1
      split at h
      · omega
      · rename_i h2
        split at h
        · omega
        · rename_i h3
          split at h
          · rename_i h4
            simp only [twiceL, Decidable.not_not, decide_eq_true_eq] at h3
            refine ⟨by omega, by omega, fun p hp => ?_, h3.1, h3.2, (rises_sorted l).1 h4⟩
            have : ¬ badP na nb p = true := fun hb => h2 (List.any_eq_true.2 ⟨p, hp, hb⟩)
            simp only [badP, Bool.or_eq_true, decide_eq_true_eq] at this
            omega
          · omega
  · intro h
    have h1 : ¬ (na < 0 ∨ nb < 0) := by have := h.a0; have := h.b0; omega
    have h2 : l.any (badP na nb) = false := List.any_eq_false.2 (fun p hp => by
      have := h.within p hp
      simp only [badP, Bool.or_eq_true, decide_eq_true_eq]; omega)
    have h3 : twiceL l = false := by simp [twiceL, h.fst, h.snd]
    rw [if_neg h1, h2, h3, (rises_sorted l).2 h.sorted]; rfl
theorem count_eq (R L : PL) (h : ∀ v, ofB v R = ofB v L) (p : Int × Int) : R.count p = L.count p := by
  have key : ∀ (M : PL), M.count p = (ofB p.2 M).count p := fun M => by
    unfold ofB; rw [List.count_filter (by simp)]
  rw [key, key L, h]
theorem stab_perm {R L : PL} (h : ∀ v, ofB v R = ofB v L) : R.Perm L := List.perm_iff_count.2 (count_eq R L h)
theorem turn_perm (l : PL) : (turnL l).Perm (l.map swapP) := stab_perm (sortB_stab _).2
theorem swap_swap (l : PL) : (l.map swapP).map swapP = l := by
  rw [List.map_map]
  exact (List.map_congr_left (fun p _ => by rfl)).trans (List.map_id l)
theorem map_fst_swap (l : PL) : (l.map swapP).map Prod.fst = l.map Prod.snd := by rw [List.map_map]; rfl
theorem map_snd_swap (l : PL) : (l.map swapP).map Prod.snd = l.map Prod.fst := by rw [List.map_map]; rfl
theorem turn_fst (l : PL) : ((turnL l).map Prod.fst).Perm (l.map Prod.snd) := by have := (turn_perm l).map Prod.fst; rwa [map_fst_swap] at this
theorem turn_snd (l : PL) : ((turnL l).map Prod.snd).Perm (l.map Prod.fst) := by have := (turn_perm l).map Prod.snd; rwa [map_snd_swap] at this
theorem MayBe.turn {l : PL} {na nb : Int} (h : MayBe l na nb) : MayBe (turnL l) nb na := by
  refine ⟨h.b0, h.a0, fun p hp => ?_, (turn_fst l).nodup_iff.2 h.snd, (turn_snd l).nodup_iff.2 h.fst, (sortB_stab _).1⟩
  have := (turn_perm l).mem_iff.1 hp
  obtain ⟨q, hq, rfl⟩ := List.mem_map.1 this
  have := h.within q hq
  simp only [swapP]; omega
/-- with no B twice, what is in order is known by what is in it -/
theorem sorted_perm {R L : PL} (hR : Sorted R) (hL : Sorted L) (hp : R.Perm L) (hn : (L.map Prod.snd).Nodup) : R = L := by
  refine stab_unique R L hR hL (fun v => ?_)
  have one : ∀ (M : PL), (M.map Prod.snd).Nodup → ∀ p ∈ M, p.2 = v → ofB v M = [p] := fun M => by
    induction M with
    | nil => intro _ p hp; cases hp
    | cons q M ih =>
      intro hM p hp hv
      rw [List.map_cons, List.nodup_cons] at hM
      rw [ofB_cons]
      rcases List.mem_cons.1 hp with rfl | hp
      · rw [if_pos hv, ofB_none v M (fun r hr e => hM.1 (List.mem_map.2 ⟨r, hr, by rw [e, hv]⟩))]
      · rw [if_neg (fun e => hM.1 (List.mem_map.2 ⟨p, hp, by rw [hv, e]⟩))]
        exact ih hM.2 p hp hv
  have hn' : (R.map Prod.snd).Nodup := (hp.map Prod.snd).nodup_iff.2 hn
  by_cases hex : ∃ p ∈ L, p.2 = v
  · obtain ⟨p, hpL, hv⟩ := hex
    rw [one L hn p hpL hv, one R hn' p (hp.mem_iff.2 hpL) hv]
  · rw [ofB_none v L (fun p hp' e => hex ⟨p, hp', e⟩), ofB_none v R (fun p hp' e => hex ⟨p, hp.mem_iff.1 hp', e⟩)]
theorem turn_twice {l : PL} {na nb : Int} (h : MayBe l na nb) : turnL (turnL l) = l := by
  refine sorted_perm (sortB_stab _).1 h.sorted ?_ h.snd
  have := (turn_perm (turnL l)).trans ((turn_perm l).map swapP)
  rwa [swap_swap] at this
theorem outOf_congr (S T : List Int) (n : Nat) (h : ∀ x, x ∈ S ↔ x ∈ T) : outOf S n = outOf T n := by
  unfold outOf
  refine List.filter_congr (fun x _ => ?_)
  simp only [h x]
theorem rest_turn (l : PL) (n : Nat) : outOf (l.map Prod.fst) n = outOf ((turnL l).map Prod.snd) n := outOf_congr _ _ _ (fun x => (turn_snd l).mem_iff.symm)
theorem out_count (S : List Int) (n : Nat) (hn : S.Nodup) (hb : ∀ x ∈ S, 0 ≤ x ∧ x < (n : Int)) : (outOf S n).length + S.length = n := by
  have h1 : (outOf S n).length + ((upTo n).filter (fun x => decide (x ∈ S))).length = n := by
    have : ∀ (M : List Int), (M.filter (fun x => decide (x ∉ S))).length + (M.filter (fun x => decide (x ∈ S))).length = M.length := fun M => by
      induction M with
      | nil => rfl
      | cons y M ih =>
        by_cases hy : y ∈ S
        · simp only [List.filter_cons, hy, not_true, decide_false, decide_true, if_true, List.length_cons, Bool.false_eq_true, if_false] at ih ⊢; omega
        · simp only [List.filter_cons, hy, not_false_eq_true, decide_false, decide_true, if_true, List.length_cons, Bool.false_eq_true, if_false] at ih ⊢; omega
    have := this (upTo n)
    rw [upTo_len] at this
    exact this
  have h2 : ((upTo n).filter (fun x => decide (x ∈ S))).length = S.length := by
    have hnu : (upTo n).Nodup := by
      unfold upTo
      refine List.Pairwise.map _ (fun a b hab e => hab (Int.ofNat.inj e)) List.nodup_range
    refine Nat.le_antisymm (sub_len _ _ (hnu.filter _) (fun x hx => by have := (List.mem_filter.1 hx).2; simpa using this)) (sub_len _ _ hn (fun x hx => List.mem_filter.2 ⟨(upTo_mem n x).2 (hb x hx), by simp [hx]⟩))
  omega
end Go.Proofs.Ytfidddnagfbnhaa
