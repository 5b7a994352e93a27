/-
  What holds of pairs of columns that are the same.
  Conditions: none.
-/
import Derived.WalkArith
import Derived.Test.YtigijgcldgbokaaGreatProg
import Derived.Test.YtigijgcldgbokaaGreatCFew
namespace Go.Proofs.YtigijgcldgbokaaGreat
set_option linter.unusedVariables false

theorem alignE_zero {ha : List ByteArray} {ra : List (List ByteArray)} {hb : List ByteArray} {rb : List (List ByteArray)} (h : alignE ha ra hb rb = 0) : checkI ha ra = 0 ∧ checkI hb rb = 0 := by
  by_cases h1 : checkI ha ra = 0
  · refine ⟨h1, ?_⟩
    unfold alignE at h
    rw [if_neg (by simp [h1])] at h
    exact h
  · unfold alignE at h
    rw [if_pos h1] at h
    exact absurd h h1
theorem alignR_bad {ha : List ByteArray} {ra : List (List ByteArray)} {hb : List ByteArray} {rb : List (List ByteArray)} {rename : Bool} (h : alignE ha ra hb rb ≠ 0) : alignR ha ra hb rb rename = [] := if_neg h
theorem rises_of (l : PL) (h : RiseB l) : risesB l = true := by
  rw [risesB_iff]
  intro j p q h1 h2
  obtain ⟨a1, e1⟩ := List.getElem?_eq_some_iff.1 h1
  obtain ⟨a2, e2⟩ := List.getElem?_eq_some_iff.1 h2
  have := List.pairwise_iff_getElem.1 h j (j + 1) a1 a2 (by omega)
  rw [e1, e2] at this
  omega
theorem wf_small (n : Nat) (h : n ≤ 60) : (Lit.int .i64 (n : Int)).wf = true := Go.WalkArith.wf_i64 (n := (n : Int)) (by omega)
theorem once_facts {ha : List ByteArray} {ra : List (List ByteArray)} {hb : List ByteArray} {rb : List (List ByteArray)} {rename : Bool} (h : alignE ha ra hb rb = 0) (h60 : ha.length ≤ 60) (h61 : hb.length ≤ 60) :
    (∀ (k : Nat) p, (alignR ha ra hb rb rename)[k]? = some p → ∃ (i j : Nat) (s t : ByteArray), p = ((i : Int), (j : Int)) ∧ ha[i]? = some s ∧ hb[j]? = some t ∧ (s = t ∨ (rename = true ∧ findL hb s < 0 ∧ findL ha t < 0))) ∧
    okP (alignR ha ra hb rb rename) ∧ checkP (alignR ha ra hb rb rename) ha.length hb.length = 0 ∧
    (namedL ha hb).length ≤ (alignR ha ra hb rb rename).length ∧ (rename = false → (alignR ha ra hb rb rename).length = (namedL ha hb).length) := by
  obtain ⟨h1, h2⟩ := alignE_zero h
  have na := nodup_of_dup ha (check_dup h1)
  have nb := nodup_of_dup hb (check_dup h2)
  rw [(align_good ha ra hb rb rename h1 h2).2]
  have hp : ∀ p ∈ alignL ra rb ha hb rename, ∃ (i j : Nat) (s t : ByteArray), p = ((i : Int), (j : Int)) ∧ ha[i]? = some s ∧ hb[j]? = some t ∧ (s = t ∨ (rename = true ∧ findL hb s < 0 ∧ findL ha t < 0)) := fun p hp => by
    obtain ⟨i, j, s, t, e1, e2, e3⟩ := align_pair ra rb ha hb na rename p.1 p.2 hp
    exact ⟨i, j, s, t, by rw [← e1, ← e2], e3⟩
  refine ⟨fun k p hk => hp p (List.mem_of_getElem? hk), fun p hm => ?_, ?_, ?_, ?_⟩
  · obtain ⟨i, j, s, t, rfl, h3, h4, -⟩ := hp p hm
    have h5 := (List.getElem?_eq_some_iff.1 h3).1
    have h6 := (List.getElem?_eq_some_iff.1 h4).1
    exact ⟨wf_small i (by omega), wf_small j (by omega)⟩
  · refine checkP5 (by omega) ?_ ?_ (rises_of _ (align_rise _ _ _ _ _))
    · rw [List.any_eq_false]
      intro p hm
      obtain ⟨i, j, s, t, rfl, h3, h4, -⟩ := hp p hm
      have h5 := (List.getElem?_eq_some_iff.1 h3).1
      have h6 := (List.getElem?_eq_some_iff.1 h4).1
      simp only [badP, Bool.or_eq_true, decide_eq_true_eq]
      omega
    · refine twice_no _ ?_ ?_
      · rw [List.take_length]; exact align_fst ra rb ha hb nb rename
      · rw [List.take_length, List.Nodup, List.pairwise_map]
        exact (align_rise ra rb ha hb rename).imp fun h e => by omega
  · rw [align_len]; omega
  · intro hr; subst hr; rw [align_len]; simp
theorem named_all (ha hb : List ByteArray) : namedK ha hb hb.length = namedL ha hb := rfl
end Go.Proofs.YtigijgcldgbokaaGreat
