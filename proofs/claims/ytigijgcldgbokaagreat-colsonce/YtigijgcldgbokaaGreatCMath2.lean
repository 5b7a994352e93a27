/-
  Which columns of two tables are the same: a table with itself, with a column that has another name, with one that was moved.
  Conditions: none.
-/
import Derived.Test.YtigijgcldgbokaaGreatCMath
namespace Go.Proofs.YtigijgcldgbokaaGreat
set_option linter.unusedVariables false

theorem riseB_unique : ∀ (A B : PL), RiseB A → RiseB B → (∀ x, x ∈ A ↔ x ∈ B) → A = B
  | [], [], _, _, _ => rfl
  | [], b :: B, _, _, h => by have := (h b).2 List.mem_cons_self; simp at this
  | a :: A, [], _, _, h => by have := (h a).1 List.mem_cons_self; simp at this
  | a :: A, b :: B, hA, hB, h => by
    have hA2 := List.pairwise_cons.1 hA
    have hB2 := List.pairwise_cons.1 hB
    have e : a = b := by
      rcases List.mem_cons.1 ((h a).1 List.mem_cons_self) with e | h1
      · exact e
      · rcases List.mem_cons.1 ((h b).2 List.mem_cons_self) with e | h2
        · exact e.symm
        · have := hB2.1 a h1; have := hA2.1 b h2; omega
    subst e
    congr 1
    refine riseB_unique A B hA2.2 hB2.2 fun x => ?_
    constructor
    · intro hx
      rcases List.mem_cons.1 ((h x).1 (List.mem_cons_of_mem _ hx)) with e | h1
      · have := hA2.1 x hx; rw [e] at this; omega
      · exact h1
    · intro hx
      rcases List.mem_cons.1 ((h x).2 (List.mem_cons_of_mem _ hx)) with e | h1
      · have := hB2.1 x hx; rw [e] at this; omega
      · exact h1
/-- each column with itself -/
def diagL (n : Nat) : PL := (List.range n).map fun (i : Nat) => ((i : Int), (i : Int))
theorem diag_len (n : Nat) : (diagL n).length = n := by simp [diagL]
theorem diag_at (n i : Nat) (h : i < n) : (diagL n)[i]? = some ((i : Int), (i : Int)) := by simp [diagL, h]
theorem diag_mem (n : Nat) (p : Int × Int) : p ∈ diagL n ↔ ∃ i : Nat, i < n ∧ p = ((i : Int), (i : Int)) := by
  unfold diagL
  rw [List.mem_map]
  exact ⟨fun ⟨i, hi, e⟩ => ⟨i, List.mem_range.1 hi, e.symm⟩, fun ⟨i, hi, e⟩ => ⟨i, List.mem_range.2 hi, e.symm⟩⟩
theorem diag_rise (n : Nat) : RiseB (diagL n) := by
  unfold RiseB diagL
  rw [List.pairwise_map]
  exact List.pairwise_lt_range.imp fun h => by simp only; omega
theorem pick_nil : pickL [] = [] := by unfold pickL sortT; simp [scanT, sortB]
theorem fm_congr {α β : Type} (f g : α → Option β) : ∀ l : List α, (∀ x ∈ l, f x = g x) → l.filterMap f = l.filterMap g
  | [], _ => rfl
  | x :: l, h => by
    rw [List.filterMap_cons, List.filterMap_cons, h x List.mem_cons_self, fm_congr f g l fun y hy => h y (List.mem_cons_of_mem _ hy)]
theorem choices_nil (ra rb : List (List ByteArray)) (ha hb : List ByteArray) (h : freeA ha (namedL ha hb) = []) : choicesA ra rb ha hb = [] := by
  unfold choicesA choicesOf; rw [h]; rfl
theorem align_named (ra rb : List (List ByteArray)) (ha hb : List ByteArray) (rename : Bool) (h : freeA ha (namedL ha hb) = []) : alignL ra rb ha hb rename = namedL ha hb := by
  unfold alignL
  cases rename with
  | false => rfl
  | true => rw [if_pos rfl, choices_nil ra rb ha hb h, pick_nil]; rfl
theorem free_none (ha hb : List ByteArray) (hna : ha.Nodup) (h : ∀ s ∈ ha, s ∈ hb) : freeA ha (namedL ha hb) = [] := by
  apply List.eq_nil_iff_forall_not_mem.2
  intro p hp
  obtain ⟨k, s, rfl, hk, hs⟩ := free_a ha hb hna p hp
  exact hs (h s (List.mem_of_getElem? hk))
theorem same_align (ra rb : List (List ByteArray)) (ha : List ByteArray) (hna : ha.Nodup) (rename : Bool) : alignL ra rb ha ha rename = diagL ha.length := by
  rw [align_named ra rb ha ha rename (free_none ha ha hna fun s h => h)]
  refine riseB_unique _ _ (named_rise ha ha _) (diag_rise _) fun p => ?_
  obtain ⟨p1, p2⟩ := p
  rw [named_mem, diag_mem]
  constructor
  · rintro ⟨k, s, rfl, hk, hf, h0⟩
    rw [find_is ha hna k s hk] at hf
    exact ⟨k, (List.getElem?_eq_some_iff.1 hk).1, by rw [hf]⟩
  · rintro ⟨i, hi, e⟩
    simp only [Prod.mk.injEq] at e
    obtain ⟨rfl, rfl⟩ := e
    obtain ⟨s, hs⟩ : ∃ s, ha[i]? = some s := ⟨_, List.getElem?_eq_getElem hi⟩
    exact ⟨i, s, rfl, hs, find_is ha hna i s hs, by omega⟩
/-- a head whose names are the other one's, in another order -/
theorem moved_align (ra rb : List (List ByteArray)) (ha hb : List ByteArray) (hna : ha.Nodup) (hp : hb.Perm ha) (rename : Bool) : (alignL ra rb ha hb rename).length = ha.length ∧ ∀ (i : Nat) s, hb[i]? = some s → (alignL ra rb ha hb rename)[i]? = some (findL ha s, (i : Int)) ∧ ∃ k : Nat, findL ha s = k ∧ ha[k]? = some s := by
  rw [align_named ra rb ha hb rename (free_none ha hb hna fun s h => hp.mem_iff.2 h)]
  have e : namedL ha hb = (List.range hb.length).map fun (i : Nat) => (findL ha (hb.getD i ByteArray.empty), (i : Int)) := by
    unfold namedL namedK
    rw [← List.filterMap_eq_map]
    refine fm_congr _ _ _ fun i hi => ?_
    have hi := List.mem_range.1 hi
    obtain ⟨s, hs⟩ : ∃ s, hb[i]? = some s := ⟨_, List.getElem?_eq_getElem hi⟩
    unfold namedO
    rw [hs]
    simp only
    rw [if_pos (find_none ha s (hp.mem_iff.1 (List.mem_of_getElem? hs)))]
    simp only [Function.comp]
    rw [List.getD_eq_getElem?_getD, hs]; rfl
  rw [e]
  refine ⟨by simp [hp.length_eq], fun i s hs => ?_⟩
  have hi := (List.getElem?_eq_some_iff.1 hs).1
  constructor
  · rw [List.getElem?_map, List.getElem?_range hi]
    simp only [Option.map_some]
    rw [List.getD_eq_getElem?_getD, hs]; rfl
  · obtain ⟨k, h1, h2⟩ := find_there ha s (find_none ha s (hp.mem_iff.1 (List.mem_of_getElem? hs)))
    exact ⟨k, h1, h2⟩
theorem pick_one (x : T3) (h : 0 ≤ x.1 ∧ 0 ≤ x.2.1) : pickL [x] = [(x.1, x.2.1)] := by
  have e : sortT [x] = [x] := by unfold sortT; simp
  unfold pickL
  rw [e]
  have e2 : scanT [x] = [(x.1, x.2.1)] := by
    unfold scanT
    simp only [List.foldl_cons, List.foldl_nil]
    unfold stepT
    rw [if_pos]
    · rfl
    · rw [ok_iff]; exact ⟨h.1, h.2, by simp, by simp⟩
  rw [e2]
  simp [sortB, putB, putK]
/-- a column that has another name -/
theorem renamed_named (ha : List ByteArray) (k : Nat) (s name : ByteArray) (hk : ha[k]? = some s) (hna : ha.Nodup) (hnb : (ha.set k name).Nodup) (hne : s ≠ name) (p : Int × Int) : p ∈ namedL ha (ha.set k name) ↔ ∃ i : Nat, i < ha.length ∧ i ≠ k ∧ p = ((i : Int), (i : Int)) := by
  have hkl := (List.getElem?_eq_some_iff.1 hk).1
  have hnot : name ∉ ha := fun hm => by
    obtain ⟨j, hj⟩ := List.mem_iff_getElem?.1 hm
    have hjl := (List.getElem?_eq_some_iff.1 hj).1
    have hjk : j ≠ k := fun e => by subst e; rw [hk] at hj; cases hj; exact hne rfl
    have h1 : (ha.set k name)[k]? = some name := by simp [hkl]
    have h2 : (ha.set k name)[j]? = some name := by rw [List.getElem?_set_ne (Ne.symm hjk)]; exact hj
    have := (List.getElem?_inj (by simpa using hkl) hnb).1 (by rw [h1, h2] : (ha.set k name)[k]? = (ha.set k name)[j]?)
    exact hjk this.symm
  obtain ⟨p1, p2⟩ := p
  rw [named_mem]
  constructor
  · rintro ⟨i, t, rfl, hi, hf, h0⟩
    have hil : i < ha.length := by simpa using (List.getElem?_eq_some_iff.1 hi).1
    by_cases e : i = k
    · subst e
      rw [List.getElem?_set_self hil] at hi
      cases hi
      obtain ⟨j, _, hj⟩ := find_there ha name (by omega)
      exact absurd (List.mem_of_getElem? hj) hnot
    · rw [List.getElem?_set_ne (Ne.symm e)] at hi
      rw [find_is ha hna i t hi] at hf
      exact ⟨i, hil, e, by rw [hf]⟩
  · rintro ⟨i, hil, e, e2⟩
    simp only [Prod.mk.injEq] at e2
    obtain ⟨rfl, rfl⟩ := e2
    obtain ⟨t, ht⟩ : ∃ t, ha[i]? = some t := ⟨_, List.getElem?_eq_getElem hil⟩
    exact ⟨i, t, rfl, by rw [List.getElem?_set_ne (Ne.symm e)]; exact ht, find_is ha hna i t ht, by omega⟩
theorem out_one (S : List Int) (n k : Nat) (hk : k < n) (h : ∀ z : Int, 0 ≤ z → z < (n : Int) → (z ∈ S ↔ z ≠ (k : Int))) : outOf S n = [(k : Int)] := by
  have hp : (outOf S n).Pairwise (· < ·) := by
    unfold outOf upTo
    refine List.Pairwise.filter _ ?_
    rw [List.pairwise_map]
    exact List.pairwise_lt_range.imp fun h => Int.ofNat_lt.2 h
  have hm : ∀ z, z ∈ outOf S n ↔ z = (k : Int) := fun z => by
    rw [out_mem]
    constructor
    · rintro ⟨⟨h0, h1⟩, h2⟩
      rw [h z h0 h1] at h2
      exact Classical.not_not.1 h2
    · rintro rfl
      refine ⟨⟨by omega, by omega⟩, ?_⟩
      rw [h _ (by omega) (by omega)]; simp
  generalize outOf S n = L at hp hm
  match L with
  | [] => have := (hm k).2 rfl; simp at this
  | [x] => rw [(hm x).1 List.mem_cons_self]
  | x :: y :: L =>
    have h1 := (hm x).1 List.mem_cons_self
    have h2 := (hm y).1 (List.mem_cons_of_mem _ List.mem_cons_self)
    have := (List.pairwise_cons.1 hp).1 y List.mem_cons_self
    omega
theorem renamed_align (rs : List (List ByteArray)) (ha : List ByteArray) (k : Nat) (s name : ByteArray) (hk : ha[k]? = some s) (hna : ha.Nodup) (hnb : (ha.set k name).Nodup) (hne : s ≠ name) (rename : Bool) :
    (rename = true → 0 < rs.length → alignL rs rs ha (ha.set k name) rename = diagL ha.length) ∧ ((rename = false ∨ rs.length = 0) → (alignL rs rs ha (ha.set k name) rename).length = ha.length - 1) := by
  have hkl := (List.getElem?_eq_some_iff.1 hk).1
  have hmem := renamed_named ha k s name hk hna hnb hne
  have hA : freeA ha (namedL ha (ha.set k name)) = [(k : Int)] := by
    unfold freeA
    refine out_one _ _ k hkl fun z h0 h1 => ?_
    rw [List.mem_map]
    constructor
    · rintro ⟨p, hp, rfl⟩
      obtain ⟨i, hi, hik, rfl⟩ := (hmem p).1 hp
      simp only; omega
    · intro hz
      obtain ⟨i, rfl⟩ := Int.eq_ofNat_of_zero_le h0
      exact ⟨((i : Int), (i : Int)), (hmem _).2 ⟨i, by omega, by omega, rfl⟩, rfl⟩
  have hB : freeB (ha.set k name) (namedL ha (ha.set k name)) = [(k : Int)] := by
    unfold freeB
    rw [List.length_set]
    refine out_one _ _ k hkl fun z h0 h1 => ?_
    rw [List.mem_map]
    constructor
    · rintro ⟨p, hp, rfl⟩
      obtain ⟨i, hi, hik, rfl⟩ := (hmem p).1 hp
      simp only; omega
    · intro hz
      obtain ⟨i, rfl⟩ := Int.eq_ofNat_of_zero_le h0
      exact ⟨((i : Int), (i : Int)), (hmem _).2 ⟨i, by omega, by omega, rfl⟩, rfl⟩
  have hsc : scoreC rs rs ha (ha.set k name) k k = rs.length := by
    unfold scoreC columnT
    rw [List.length_set, if_pos ⟨by omega, by omega⟩, over_self]
    unfold bytesOf; rw [List.length_map, colL_len]
  have hch : choicesA rs rs ha (ha.set k name) = if 0 < rs.length then [((k : Int), (k : Int), (rs.length : Int))] else [] := by
    unfold choicesA choicesOf
    rw [hA, hB]
    simp only [List.flatMap_cons, List.flatMap_nil, List.append_nil, choiceRow, List.filterMap_cons, List.filterMap_nil, choiceO]
    rw [hsc]
    unfold mayC
    by_cases h : 0 < rs.length
    · rw [if_pos h, if_pos (by simp; omega)]
    · rw [if_neg h, if_neg (by simp; omega)]
  have hlen : (namedL ha (ha.set k name)).length = ha.length - 1 := by
    have h1 := out_count ((namedL ha (ha.set k name)).map Prod.fst) ha.length (named_fst ha (ha.set k name) hnb) (fun x hx => by
      obtain ⟨p, hp, rfl⟩ := List.mem_map.1 hx
      obtain ⟨i, hi, -, rfl⟩ := (hmem p).1 hp
      exact ⟨by simp only; omega, by simp only; omega⟩)
    unfold freeA at hA
    rw [hA, List.length_map] at h1
    simp at h1; omega
  constructor
  · rintro rfl h0
    refine riseB_unique _ _ (align_rise _ _ _ _ _) (diag_rise _) fun p => ?_
    rw [align_mem, hch, if_pos h0, pick_one _ ⟨Int.natCast_nonneg _, Int.natCast_nonneg _⟩, hmem, diag_mem]
    constructor
    · rintro (⟨i, hi, -, rfl⟩ | ⟨-, h⟩)
      · exact ⟨i, hi, rfl⟩
      · simp only [List.mem_singleton] at h
        exact ⟨k, hkl, h⟩
    · rintro ⟨i, hi, rfl⟩
      by_cases e : i = k
      · subst e; exact .inr ⟨rfl, by simp⟩
      · exact .inl ⟨i, hi, e, rfl⟩
  · intro h
    rw [align_len, hlen]
    rcases h with rfl | h
    · simp
    · have h2 : choicesA rs rs ha (ha.set k name) = [] := by rw [hch]; exact if_neg (by omega)
      rw [h2, pick_nil]; simp
end Go.Proofs.YtigijgcldgbokaaGreat
