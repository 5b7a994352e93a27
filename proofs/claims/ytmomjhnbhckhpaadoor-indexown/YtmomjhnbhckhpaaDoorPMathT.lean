/-
  Lists in order of their Bs, in which those of the same B stand as they stood.
  Conditions: none.
-/
import Derived.Test.YtmomjhnbhckhpaaDoorPIns
namespace Go.Proofs.YtmomjhnbhckhpaaDoor
set_option linter.unusedVariables false

/-- in order of the Bs -/
def Sorted (l : PL) : Prop := l.Pairwise (fun p q => p.2 ≤ q.2)
def ofB (v : Int) (l : PL) : PL := l.filter (fun p => decide (p.2 = v))
/-- R is L in order, those of the same B as they stood -/
def StabOf (R L : PL) : Prop := Sorted R ∧ ∀ v, ofB v R = ofB v L
theorem ofB_app (v : Int) (a b : PL) : ofB v (a ++ b) = ofB v a ++ ofB v b := by simp [ofB]
theorem ofB_cons (v : Int) (p : Int × Int) (l : PL) : ofB v (p :: l) = if p.2 = v then p :: ofB v l else ofB v l := by
  unfold ofB; rw [List.filter_cons]; simp
theorem ofB_none (v : Int) (l : PL) (h : ∀ p ∈ l, p.2 ≠ v) : ofB v l = [] := List.filter_eq_nil_iff.2 (fun p hp => by simp [h p hp])
theorem ofB_mem (v : Int) (l : PL) (p : Int × Int) (h : p ∈ l) (hv : p.2 = v) : p ∈ ofB v l := List.mem_filter.2 ⟨h, by simp [hv]⟩
theorem mem_ofB {v : Int} {l : PL} {p : Int × Int} (h : p ∈ ofB v l) : p ∈ l ∧ p.2 = v := by
  have := List.mem_filter.1 h; simpa using this
theorem stab_mem {R L : PL} (h : ∀ v, ofB v R = ofB v L) (p : Int × Int) : p ∈ R ↔ p ∈ L :=
  ⟨fun hp => (mem_ofB (by rw [← h]; exact ofB_mem p.2 R p hp rfl)).1, fun hp => (mem_ofB (by rw [h]; exact ofB_mem p.2 L p hp rfl)).1⟩
theorem stab_unique : ∀ (R R' : PL), Sorted R → Sorted R' → (∀ v, ofB v R = ofB v R') → R = R'
  | [], [], _, _, _ => rfl
  | [], p :: R', _, _, h => by have := h p.2; rw [ofB_cons, if_pos rfl] at this; cases this
  | p :: R, [], _, _, h => by have := h p.2; rw [ofB_cons, if_pos rfl] at this; cases this
  | p :: R, q :: R', hs, hs', h => by
    obtain ⟨h1, h2⟩ := List.pairwise_cons.1 hs
    obtain ⟨h1', h2'⟩ := List.pairwise_cons.1 hs'
    have hp : p ∈ q :: R' := (stab_mem h p).1 (by simp)
    have hq : q ∈ p :: R := (stab_mem h q).2 (by simp)
    have e : p.2 = q.2 := by
      have a1 : q.2 ≤ p.2 := by rcases List.mem_cons.1 hp with rfl | hp'; exact Int.le_refl _; exact h1' p hp'
      have a2 : p.2 ≤ q.2 := by rcases List.mem_cons.1 hq with rfl | hq'; exact Int.le_refl _; exact h1 q hq'
      omega
    have hh := h p.2
    rw [ofB_cons, if_pos rfl, ofB_cons, if_pos e.symm] at hh
    injection hh with e1 e2
    subst e1
    rw [stab_unique R R' h2 h2' (fun v => by
      have := h v
      rw [ofB_cons, ofB_cons] at this
      split at this
      · injection this
      · exact this)]
theorem sorted_app {a b : PL} (ha : Sorted a) (hb : Sorted b) (h : ∀ p ∈ a, ∀ q ∈ b, p.2 ≤ q.2) : Sorted (a ++ b) := List.pairwise_append.2 ⟨ha, hb, h⟩
theorem putK_ahead (p : Int × Int) (l : PL) (hs : Sorted l) : (∀ q ∈ l.take (putK p l), q.2 ≤ p.2) ∧ (∀ q ∈ l.drop (putK p l), p.2 < q.2) := by
  induction l with
  | nil => simp
  | cons x l ih =>
    obtain ⟨h1, h2⟩ := List.pairwise_cons.1 hs
    obtain ⟨i1, i2⟩ := ih h2
    unfold putK
    by_cases hz : putK p l = 0
    · rw [if_pos hz]
      rw [hz] at i2
      simp at i2
      by_cases hx : x.2 ≤ p.2
      · rw [if_pos hx]
        refine ⟨fun q hq => ?_, fun q hq => ?_⟩
        · simp at hq; subst hq; exact hx
        · simp at hq; exact i2 _ _ hq
      · rw [if_neg hx]
        refine ⟨fun q hq => by simp at hq, fun q hq => ?_⟩
        rw [List.drop_zero] at hq
        rcases List.mem_cons.1 hq with rfl | hq
        · omega
        · exact i2 q.1 q.2 hq
    · rw [if_neg hz]
      refine ⟨fun q hq => ?_, fun q hq => i2 q (by simpa using hq)⟩
      rw [List.take_succ_cons] at hq
      rcases List.mem_cons.1 hq with rfl | hq
      · cases l with
        | nil => simp [putK] at hz
        | cons y l =>
          obtain ⟨k, hk⟩ : ∃ k, putK p (y :: l) = k + 1 := ⟨putK p (y :: l) - 1, by omega⟩
          have := i1 y (by rw [hk]; simp)
          have := h1 y (by simp)
          omega
      · exact i1 q hq
theorem putB_stab (l : PL) (p : Int × Int) (hs : Sorted l) : Sorted (putB l p) ∧ ∀ v, ofB v (putB l p) = ofB v (l ++ [p]) := by
  obtain ⟨h1, h2⟩ := putK_ahead p l hs
  unfold putB
  have hsp : Sorted (l.take (putK p l) ++ l.drop (putK p l)) := by rw [List.take_append_drop]; exact hs
  obtain ⟨s1, s2, s3⟩ := List.pairwise_append.1 hsp
  refine ⟨sorted_app s1 (List.pairwise_cons.2 ⟨fun q hq => by have := h2 q hq; omega, s2⟩) (fun q hq r hr => ?_), fun v => ?_⟩
  · rcases List.mem_cons.1 hr with rfl | hr
    · exact h1 q hq
    · exact s3 q hq r hr
  · have e : ofB v (l ++ [p]) = ofB v (l.take (putK p l) ++ l.drop (putK p l) ++ [p]) := by rw [List.take_append_drop]
    rw [e, ofB_app, ofB_cons, ofB_app, ofB_app, ofB_cons]
    by_cases hv : p.2 = v
    · rw [ofB_none v (l.drop (putK p l)) (fun q hq => by have := h2 q hq; omega)]
      simp [hv, ofB]
    · simp [hv, ofB]
theorem sortB_stab (l : PL) : StabOf (sortB l) l := by
  have key : ∀ (l m n : PL), StabOf m n → StabOf (l.foldl putB m) (n ++ l) := fun l => by
    induction l with
    | nil => intro m n h; simpa using h
    | cons p l ih =>
      intro m n h
      rw [List.foldl_cons, show n ++ p :: l = (n ++ [p]) ++ l from by simp]
      obtain ⟨g1, g2⟩ := putB_stab m p h.1
      exact ih _ _ ⟨g1, fun v => by rw [g2, ofB_app, ofB_app, h.2]⟩
  have := key l [] [] ⟨List.Pairwise.nil, fun v => rfl⟩
  simpa [sortB] using this
theorem sortB_is {R L : PL} (h : StabOf R L) : R = sortB L := stab_unique _ _ h.1 (sortB_stab L).1 (fun v => by rw [h.2, (sortB_stab L).2])
theorem sortB_sorted {L : PL} (h : Sorted L) : sortB L = L := (sortB_is ⟨h, fun v => rfl⟩).symm
theorem sortB_mem (L : PL) (p : Int × Int) : p ∈ sortB L ↔ p ∈ L := stab_mem (sortB_stab L).2 p
/-- two halves, of which the second begins with the first one's larger ones -/
theorem sortB_parts (A1 A2 B1 B2 : PL) (hA : Sorted (A1 ++ A2)) (hB : Sorted (B1 ++ B2)) (h12 : ∀ p ∈ A1, ∀ q ∈ B2, p.2 ≤ q.2) (h21 : ∀ p ∈ B1, ∀ q ∈ A2, p.2 < q.2) : sortB (A1 ++ B1) ++ sortB (A2 ++ B2) = sortB ((A1 ++ A2) ++ (B1 ++ B2)) := by
  obtain ⟨a1, a2, a3⟩ := List.pairwise_append.1 hA
  obtain ⟨b1, b2, b3⟩ := List.pairwise_append.1 hB
  refine sortB_is ⟨sorted_app (sortB_stab _).1 (sortB_stab _).1 (fun p hp q hq => ?_), fun v => ?_⟩
  · rw [sortB_mem] at hp hq
    rcases List.mem_append.1 hp with hp | hp <;> rcases List.mem_append.1 hq with hq | hq
    · exact a3 p hp q hq
    · exact h12 p hp q hq
    · have := h21 p hp q hq; omega
    · exact b3 p hp q hq
  · rw [ofB_app, (sortB_stab _).2, (sortB_stab _).2]
    simp only [ofB_app]
    by_cases hv : ∃ p ∈ B1, p.2 = v
    · obtain ⟨p, hp, rfl⟩ := hv
      rw [ofB_none p.2 A2 (fun q hq => by have := h21 p hp q hq; omega)]; simp
    · rw [ofB_none v B1 (fun q hq e => hv ⟨q, hq, e⟩)]; simp
end Go.Proofs.YtmomjhnbhckhpaaDoor
