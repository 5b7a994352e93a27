/-
  Texts of these rows' proofs, laid one behind the other: IOrder.
  Conditions: those of each theorem.
-/
import Derived.Test.YtdenehnneloegaaGreatDoorPb36
namespace Go.Proofs.YtdenehnneloegaaGreatDoor
set_option linter.unusedVariables false
/-- by rank, and of the same rank by number -/
def ordR (p q : Int × Int) : Prop := p.2 < q.2 ∨ (p.2 = q.2 ∧ p.1 < q.1)
theorem sort_order (l : PL) (hl : l.Pairwise fun p q => p.1 < q.1) : (sortB l).Pairwise ordR := by
  have hs := sortB_stab l
  rw [List.pairwise_iff_forall_sublist]
  intro a b hab
  have h1 : a.2 ≤ b.2 := List.pairwise_iff_forall_sublist.1 hs.1 hab
  rcases Int.lt_or_eq_of_le h1 with h | h
  · exact .inl h
  · refine .inr ⟨h, ?_⟩
    have h2 := hab.filter (fun p => decide (p.2 = b.2))
    have h3 : [a, b].filter (fun p => decide (p.2 = b.2)) = [a, b] := by simp [h]
    rw [h3] at h2
    have h4 : (sortB l).filter (fun p => decide (p.2 = b.2)) = l.filter (fun p => decide (p.2 = b.2)) := hs.2 b.2
    rw [h4] at h2
    exact List.pairwise_iff_forall_sublist.1 hl (h2.trans List.filter_sublist)
theorem rowsK_rise (rs : List (List ByteArray)) (cols : List Int) : (rowsK rs cols).Pairwise fun p q => p.1 < q.1 := by
  unfold rowsK
  rw [List.pairwise_map]
  exact List.pairwise_lt_range.imp fun h => by simp only; omega
theorem sort_ranked (rs : List (List ByteArray)) (cols : List Int) : ∀ p ∈ sortB (rowsK rs cols), Ranked rs cols p := fun p hp => by
  have := (stab_mem (sortB_stab (rowsK rs cols)).2 p).1 hp
  unfold rowsK at this
  obtain ⟨i, hi, rfl⟩ := List.mem_map.1 this
  exact ⟨i, List.mem_range.1 hi, rfl⟩
/-- how two rows stand -/
def ahead (rs : List (List ByteArray)) (cols : List Int) (x y : Int) : Prop := keyC (rowKey rs cols x) (rowKey rs cols y) < 0 ∨ (keyC (rowKey rs cols x) (rowKey rs cols y) = 0 ∧ x < y)
theorem build_order (rs : List (List ByteArray)) (cols : List Int) : (buildL rs cols).Pairwise (ahead rs cols) := by
  unfold buildL
  rw [List.pairwise_map]
  have hr := sort_ranked rs cols
  refine (sort_order _ (rowsK_rise rs cols)).imp_of_mem fun {p q} hp hq h => ?_
  obtain ⟨i, hi, rfl⟩ := hr p hp
  obtain ⟨j, hj, rfl⟩ := hr q hq
  have e := rank_key rs cols i j hi hj
  unfold ordR at h
  unfold ahead
  simp only at h ⊢
  rw [← e]
  unfold cmpI
  rcases h with h | ⟨h1, h2⟩
  · left; rw [if_pos h]; omega
  · right; rw [if_neg (by omega), if_neg (by omega)]; exact ⟨rfl, h2⟩
theorem build_mem (rs : List (List ByteArray)) (cols : List Int) (x : Int) : x ∈ buildL rs cols ↔ ∃ i : Nat, i < rs.length ∧ x = i := by
  unfold buildL
  rw [List.mem_map]
  constructor
  · rintro ⟨p, hp, rfl⟩
    obtain ⟨i, hi, rfl⟩ := sort_ranked rs cols p hp
    exact ⟨i, hi, rfl⟩
  · rintro ⟨i, hi, rfl⟩
    refine ⟨((i : Int), rankI rs cols i), ?_, rfl⟩
    rw [stab_mem (sortB_stab (rowsK rs cols)).2]
    unfold rowsK
    exact List.mem_map.2 ⟨i, List.mem_range.2 hi, rfl⟩
/-- in that order, what halving finds is the first row of the key -/
theorem found_first (rs : List (List ByteArray)) (cols : List Int) (key : List ByteArray) (a : Int) (ok : Bool) (h : FoundAt (fun x => keyC (rowKey rs cols x) key) (buildL rs cols) a ok) :
    (∃ i : Nat, a = i ∧ ok = true ∧ i < rs.length ∧ keyC (rowKey rs cols i) key = 0 ∧ ∀ j : Nat, j < i → keyC (rowKey rs cols j) key ≠ 0) ∨ (a = 0 ∧ ok = false ∧ ∀ j : Nat, j < rs.length → keyC (rowKey rs cols j) key ≠ 0) := by
  obtain ⟨p, hp, h1, h2, h3⟩ := h
  dsimp only at h1 h2 h3
  have ho := build_order rs cols
  -- a row of that key stands at p or behind it
  have hat : ∀ j : Nat, j < rs.length → keyC (rowKey rs cols j) key = 0 → ∃ q, p ≤ q ∧ (buildL rs cols)[q]? = some (j : Int) := fun j hj hk => by
    obtain ⟨q, hq⟩ := List.mem_iff_getElem?.1 ((build_mem rs cols j).2 ⟨j, hj, rfl⟩)
    refine ⟨q, ?_, hq⟩
    rcases Nat.lt_or_ge q p with hlt | hge
    · exfalso
      rcases h1 with h1 | ⟨x, hx, hxk⟩
      · omega
      · have hle : keyC (rowKey rs cols j) (rowKey rs cols x) ≤ 0 := by
          rcases Nat.lt_or_ge q (p - 1) with h4 | h4
          · obtain ⟨b1, e1⟩ := List.getElem?_eq_some_iff.1 hq
            obtain ⟨b2, e2⟩ := List.getElem?_eq_some_iff.1 hx
            have := List.pairwise_iff_getElem.1 ho q (p - 1) b1 b2 h4
            rw [e1, e2] at this
            rcases this with h | ⟨h, _⟩ <;> omega
          · have : q = p - 1 := by omega
            subst this
            rw [hq] at hx; cases hx
            have := (key_cmp.zero (rowKey rs cols (j : Int)) (rowKey rs cols j)).2 rfl
            omega
        have := key_cmp.lt_trans hle (by omega) (.inr hxk)
        omega
    · exact hge
  rcases h3 with ⟨x, hx, hk, rfl, rfl⟩ | ⟨h3, rfl, rfl⟩
  · left
    obtain ⟨i, hi, rfl⟩ := (build_mem rs cols a).1 (List.mem_of_getElem? hx)
    refine ⟨i, rfl, rfl, hi, hk, fun j hj hjk => ?_⟩
    obtain ⟨q, hq, hqj⟩ := hat j (by omega) hjk
    obtain ⟨b1, e1⟩ := List.getElem?_eq_some_iff.1 hx
    obtain ⟨b2, e2⟩ := List.getElem?_eq_some_iff.1 hqj
    rcases Nat.lt_or_ge p q with h4 | h4
    · have := List.pairwise_iff_getElem.1 ho p q b1 b2 h4
      rw [e1, e2] at this
      have hz : keyC (rowKey rs cols i) (rowKey rs cols j) = 0 := by
        rw [key_cmp.zero] at hk hjk ⊢
        rw [hk, hjk]
      rcases this with h | ⟨_, h⟩ <;> omega
    · have : q = p := by omega
      subst this
      rw [hx] at hqj
      simp at hqj; omega
  · right
    refine ⟨rfl, rfl, fun j hj hjk => ?_⟩
    obtain ⟨q, hq, hqj⟩ := hat j hj hjk
    obtain ⟨b2, e2⟩ := List.getElem?_eq_some_iff.1 hqj
    rcases h3 with h3 | ⟨x, hx, hxk⟩
    · omega
    · rcases h2 with h2 | ⟨x', hx', hx0⟩
      · omega
      · rw [hx] at hx'; cases hx'
        obtain ⟨b1, e1⟩ := List.getElem?_eq_some_iff.1 hx
        have hle : keyC (rowKey rs cols x) (rowKey rs cols j) ≤ 0 := by
          rcases Nat.lt_or_ge p q with h4 | h4
          · have := List.pairwise_iff_getElem.1 ho p q b1 b2 h4
            rw [e1, e2] at this
            rcases this with h | ⟨h, _⟩ <;> omega
          · have : q = p := by omega
            subst this
            rw [hx] at hqj; cases hqj
            have := (key_cmp.zero (rowKey rs cols (j : Int)) (rowKey rs cols j)).2 rfl
            omega
        rw [(key_cmp.zero _ _).1 hjk] at hle
        omega
end Go.Proofs.YtdenehnneloegaaGreatDoor
