/-
  A slice of slices of strings among the arguments, as records, with what the form of claims lets a string be at most; whether such records are few.
  Conditions: none.
-/
import Derived.Deep.Slices
import Derived.SliceStrings
import Derived.SizedLaws
import Derived.WalkKit
import Derived.WalkMore
import Derived.Lib.Hide
import Derived.Test.YtebnmenglgadpaaProg
import Derived.Test.YtebnmenglgadpaaCsvOpen
namespace Go.Proofs.Ytebnmenglgadpaa
open Go.ChangeShapes Go.WideShapes Go.Deep

theorem weights_all {H : Type} {P : Program} {e : TypeId} {n : Nat} {d : DataW H} : ∀ {l : List (DataW H)}, d ∈ l → n ∈ d.weights P e → n ∈ DataW.weightsAll P e l := by
  intro l
  induction l with
  | nil => intro h; cases h
  | cons x r ih =>
    intro h hn
    rw [DataW.weightsAll]
    rcases List.mem_cons.1 h with rfl | h
    · exact List.mem_append_left _ hn
    · exact List.mem_append_right _ (ih h hn)
theorem weights_elem {H : Type} {P : Program} {t e : TypeId} {n : Nat} {d : DataW H} {elems spare : List (DataW H)} (hu : P.underlying t = some (.slice e)) (h : d ∈ elems) (hn : n ∈ d.weights P e) : n ∈ (DataW.slice elems spare).weights P t := by
  rw [DataW.weights]
  simp only [hu]
  exact List.mem_cons_of_mem _ (List.mem_append_left _ (weights_all h hn))
theorem open_reach {H : Type} {enc : TypeId × Value → H} {P : Program} {w : World} {base : Nat} {held : Bool} {t e q : TypeId} {fuel : Nat} {ao : Option Addr} {len cap : Nat} {x : DataW H × List MemPlace} (ht : P.underlying t = some (.slice e)) (he : P.underlying e = some (.slice q)) (hq : P.underlying q = some .string)
    (ce : P.cellsOf e = 1) (cq : P.cellsOf q = 1) (h : DataW.trod enc P w base (fun _ => true) held fuel t [.slice ao len cap] = some x) (hw : ∀ n ∈ x.1.weights P t, n ≤ reachBytes) :
    ∃ rs : List (List ByteArray), rs.length = len ∧ rs.length ≤ maxLen ∧ RowsAt w ao rs ∧ sized rs ∧ ∀ r ∈ rs, ∀ c ∈ r, c.size ≤ 140737488351232 := by
  rcases open_slice1 ht ce h with ⟨hcs, _⟩ | ⟨a, len', cap', m, n, V, D, Pl, hcs, hb, hl, hm, hmm, rfl, hx⟩
  · simp at hcs; obtain ⟨rfl, rfl, rfl⟩ := hcs
    exact ⟨[], rfl, Nat.zero_le _, .inl rfl, (fun r hr => by cases hr), fun r hr => by cases hr⟩
  · simp at hcs; obtain ⟨rfl, rfl, rfl⟩ := hcs
    simp only [if_true] at hmm
    have each : ∀ i, i < len → ∃ y : Option Addr × Nat × List ByteArray, V i = .slice y.1 y.2.2.length y.2.1 ∧ StrRow w y.1 y.2.2 ∧ y.2.2.length ≤ maxLen ∧ (∀ c ∈ y.2.2, c.size ≤ maxLen) ∧ ∀ c ∈ y.2.2, c.size ≤ 140737488351232 := by
      intro i hi
      rcases open_strings he hq cq (hx i (by omega)).2 with ⟨h1, _⟩ | ⟨a', l', c', ss, h1, _, hl', hm', hz, hy, hcell, hsz⟩
      · simp at h1
        exact ⟨(none, 0, []), h1, .inl rfl, Nat.zero_le _, (fun c hc => by cases hc), fun c hc => by cases hc⟩
      · simp at h1
        simp only [if_true] at hz
        simp only [Prod.mk.injEq] at hy
        have hln : (ss.take l').length = l' := by rw [List.length_take]; omega
        refine ⟨(some a', c', ss.take l'), by simp only; rw [hln]; exact h1, row_of w a' l' ss hcell, by simp only; rw [hln]; omega, fun c hc => hsz c (List.mem_of_mem_take hc), fun c hc => ?_⟩
        have hmem : c.data.toList.length ∈ (DataW.lit (H := H) (.string c.data.toList)).weights P q := by rw [DataW.weights]; exact List.mem_singleton.2 rfl
        have h2 : c.data.toList.length ∈ (D i).weights P e := by
          rw [hy.1]
          exact weights_elem he (List.mem_map.2 ⟨c, hc, rfl⟩) hmem
        have h3 := hw _ (weights_elem ht (List.mem_map.2 ⟨i, List.mem_range.2 hi, rfl⟩) h2)
        rw [ba_size] at h3
        exact h3
    obtain ⟨y, hy⟩ := choose_lt each
    refine ⟨(List.range len).map fun i => (y i).2.2, by simp, by simp; omega, ?_, ?_, ?_⟩
    · by_cases h0 : len = 0
      · subst h0; exact .inl rfl
      · refine .inr ⟨a, rfl, ?_, fun i r hr => ?_⟩
        · have := block_lt_of_cell (hx 0 (by omega)).1
          rwa [add_block] at this
        · rw [List.getElem?_map] at hr
          obtain ⟨j, hj, rfl⟩ := Option.map_eq_some_iff.1 hr
          obtain ⟨hi, rfl⟩ := List.getElem?_eq_some_iff.1 hj
          simp only [List.length_range] at hi
          simp only [List.getElem_range]
          obtain ⟨h1, h2, _⟩ := hy i hi
          exact ⟨(y i).1, (y i).2.1, by rw [(hx i (by omega)).1, h1], h2⟩
    · intro r hr
      obtain ⟨i, hi, rfl⟩ := List.mem_map.1 hr
      obtain ⟨_, _, h3, h4, _⟩ := hy i (List.mem_range.1 hi)
      exact ⟨h3, h4⟩
    · intro r hr
      obtain ⟨i, hi, rfl⟩ := List.mem_map.1 hr
      exact (hy i (List.mem_range.1 hi)).2.2.2.2
end Go.Proofs.Ytebnmenglgadpaa
