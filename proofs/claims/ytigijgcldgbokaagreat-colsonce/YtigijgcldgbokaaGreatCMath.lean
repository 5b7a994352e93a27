/-
  Which columns of two tables are the same: mathematics.
  Conditions: none.
-/
import Derived.Test.YtigijgcldgbokaaGreatTRest
import Derived.Test.YtigijgcldgbokaaGreatTTwice
import Derived.Test.YtigijgcldgbokaaGreatPkA
import Derived.Test.YtigijgcldgbokaaGreatPkB
import Derived.Test.YtigijgcldgbokaaGreatBMath
namespace Go.Proofs.YtigijgcldgbokaaGreat
set_option linter.unusedVariables false

/-- the pair of a column of b, if its name is in a's head -/
def namedO (ha hb : List ByteArray) (q : Nat) : Option (Int × Int) := match hb[q]? with | some s => if 0 ≤ findL ha s then some (findL ha s, (q : Int)) else none | none => none
/-- the first k of them -/
def namedK (ha hb : List ByteArray) (k : Nat) : PL := (List.range k).filterMap (namedO ha hb)
def namedL (ha hb : List ByteArray) : PL := namedK ha hb hb.length
theorem named_next (ha hb : List ByteArray) (k : Nat) (s : ByteArray) (hs : hb[k]? = some s) : namedK ha hb (k + 1) = if 0 ≤ findL ha s then namedK ha hb k ++ [(findL ha s, (k : Int))] else namedK ha hb k := by
  unfold namedK
  rw [List.range_succ, List.filterMap_append]
  have e : namedO ha hb k = if 0 ≤ findL ha s then some (findL ha s, (k : Int)) else none := by unfold namedO; rw [hs]
  by_cases h : 0 ≤ findL ha s
  · rw [if_pos h] at e ⊢; simp [e]
  · rw [if_neg h] at e ⊢; simp [e]
theorem named_le (ha hb : List ByteArray) (k : Nat) : (namedK ha hb k).length ≤ k := by
  unfold namedK; exact Nat.le_trans (List.length_filterMap_le _ _) (by simp)
theorem named_mem (ha hb : List ByteArray) (p q : Int) : (p, q) ∈ namedL ha hb ↔ ∃ (k : Nat) (s : ByteArray), q = k ∧ hb[k]? = some s ∧ findL ha s = p ∧ 0 ≤ p := by
  unfold namedL namedK
  rw [List.mem_filterMap]
  constructor
  · rintro ⟨k, hk, h⟩
    unfold namedO at h
    split at h
    · rename_i s hs
      split at h
      · rename_i h0
        simp only [Option.some.injEq, Prod.mk.injEq] at h
        obtain ⟨rfl, rfl⟩ := h
        exact ⟨k, s, rfl, hs, rfl, h0⟩
      · cases h
    · cases h
  · rintro ⟨k, s, rfl, hs, rfl, h0⟩
    refine ⟨k, List.mem_range.2 (List.getElem?_eq_some_iff.1 hs).1, ?_⟩
    unfold namedO
    rw [hs]
    simp only
    rw [if_pos h0]
theorem named_rise (ha hb : List ByteArray) (k : Nat) : (namedK ha hb k).Pairwise fun p q => p.2 < q.2 := by
  unfold namedK
  rw [List.pairwise_filterMap]
  refine List.pairwise_lt_range.imp fun {a b} hab p hp q hq => ?_
  have e : ∀ (k : Nat) p, namedO ha hb k = some p → p.2 = k := fun k p h => by
    unfold namedO at h
    split at h
    · split at h
      · simp only [Option.some.injEq] at h; rw [← h]
      · cases h
    · cases h
  rw [e a p hp, e b q hq]; omega
/-- what is found is there, and it is the first one -/
theorem find_there (hd : List ByteArray) (s : ByteArray) (h : 0 ≤ findL hd s) : ∃ k : Nat, findL hd s = k ∧ hd[k]? = some s := by
  unfold findL firstAt at h ⊢
  cases hf : hd.findIdx? (fun c => decide (c.data.toList = s.data.toList)) with
  | none => rw [hf] at h; simp at h
  | some i =>
    obtain ⟨hi, h1, _⟩ := List.findIdx?_eq_some_iff_getElem.1 hf
    refine ⟨i, rfl, ?_⟩
    rw [List.getElem?_eq_getElem hi]
    exact congrArg some (ba_eq (of_decide_eq_true h1))
theorem find_none (hd : List ByteArray) (s : ByteArray) (h : s ∈ hd) : 0 ≤ findL hd s := by
  unfold findL firstAt
  cases hf : hd.findIdx? (fun c => decide (c.data.toList = s.data.toList)) with
  | none =>
    have := List.findIdx?_eq_none_iff.1 hf s h
    simp at this
  | some i => simp
theorem nodup_of_dup (hd : List ByteArray) (h : dupL hd = false) : hd.Nodup := by
  unfold dupL at h
  have h2 : (bytesOf hd).Nodup := by
    by_cases h3 : (bytesOf hd).Nodup
    · exact h3
    · rw [decide_eq_true h3] at h; cases h
  unfold bytesOf at h2
  rw [List.Nodup, List.pairwise_map] at h2
  exact h2.imp fun {a b} hab e => hab (by rw [e])
theorem find_is (hd : List ByteArray) (hn : hd.Nodup) (k : Nat) (s : ByteArray) (hk : hd[k]? = some s) : findL hd s = k := by
  obtain ⟨j, hj, hjs⟩ := find_there hd s (find_none hd s (List.mem_of_getElem? hk))
  rw [hj]
  have hkl := (List.getElem?_eq_some_iff.1 hk).1
  have := (List.getElem?_inj hkl hn).1 (by rw [hk, hjs] : hd[k]? = hd[j]?)
  rw [this]
/-- a choice of two columns -/
def scoreC (ra rb : List (List ByteArray)) (ha hb : List ByteArray) (p q : Int) : Nat := overL (bytesOf (columnT ha ra p)) (bytesOf (columnT hb rb q))
def mayC (ra rb : List (List ByteArray)) (n : Nat) : Bool := decide (ra.length < 2 * n) && decide (rb.length < 2 * n)
def choiceO (ra rb : List (List ByteArray)) (ha hb : List ByteArray) (p q : Int) : Option T3 := if mayC ra rb (scoreC ra rb ha hb p q) then some (p, q, (scoreC ra rb ha hb p q : Int)) else none
/-- the choices of one column of a -/
def choiceRow (ra rb : List (List ByteArray)) (ha hb : List ByteArray) (p : Int) (qs : List Int) : TL := qs.filterMap (choiceO ra rb ha hb p)
def choicesOf (ra rb : List (List ByteArray)) (ha hb : List ByteArray) (ps qs : List Int) : TL := ps.flatMap fun p => choiceRow ra rb ha hb p qs
def freeA (ha : List ByteArray) (l : PL) : List Int := outOf (l.map Prod.fst) ha.length
def freeB (hb : List ByteArray) (l : PL) : List Int := outOf (l.map Prod.snd) hb.length
def choicesA (ra rb : List (List ByteArray)) (ha hb : List ByteArray) : TL := choicesOf ra rb ha hb (freeA ha (namedL ha hb)) (freeB hb (namedL ha hb))
/-- the columns that are the same -/
def alignL (ra rb : List (List ByteArray)) (ha hb : List ByteArray) (rename : Bool) : PL := if rename then (pickL (choicesA ra rb ha hb)).foldl putB (namedL ha hb) else namedL ha hb

theorem out_mem (S : List Int) (n : Nat) (z : Int) : z ∈ outOf S n ↔ (0 ≤ z ∧ z < (n : Int)) ∧ z ∉ S := by
  unfold outOf
  rw [List.mem_filter, upTo_mem]
  simp
theorem choices_mem (ra rb : List (List ByteArray)) (ha hb : List ByteArray) (ps qs : List Int) (c : T3) : c ∈ choicesOf ra rb ha hb ps qs ↔ c.1 ∈ ps ∧ c.2.1 ∈ qs ∧ mayC ra rb (scoreC ra rb ha hb c.1 c.2.1) = true ∧ c.2.2 = (scoreC ra rb ha hb c.1 c.2.1 : Int) := by
  unfold choicesOf choiceRow choiceO
  rw [List.mem_flatMap]
  constructor
  · rintro ⟨p, hp, h⟩
    rw [List.mem_filterMap] at h
    obtain ⟨q, hq, h⟩ := h
    split at h
    · rename_i hm
      simp only [Option.some.injEq] at h
      subst h
      exact ⟨hp, hq, hm, rfl⟩
    · cases h
  · rintro ⟨h1, h2, h3, h4⟩
    refine ⟨c.1, h1, ?_⟩
    rw [List.mem_filterMap]
    refine ⟨c.2.1, h2, ?_⟩
    rw [if_pos h3, ← h4]
theorem putB_perm (l : PL) (p : Int × Int) : (putB l p).Perm (p :: l) := by
  unfold putB
  refine List.perm_middle.trans ?_
  rw [List.take_append_drop]
theorem puts_perm : ∀ (m l : PL), (m.foldl putB l).Perm (l ++ m)
  | [], l => by simp
  | p :: m, l => by
    rw [List.foldl_cons]
    refine (puts_perm m (putB l p)).trans ?_
    refine ((putB_perm l p).append_right m).trans ?_
    exact (List.perm_middle).symm
/-- rising Bs, once more -/
def RiseB (l : PL) : Prop := l.Pairwise fun p q => p.2 < q.2
theorem puts_rise : ∀ (m l : PL), RiseB l → (∀ p ∈ m, ∀ q ∈ l, q.2 ≠ p.2) → (m.map Prod.snd).Nodup → RiseB (m.foldl putB l)
  | [], l, h, _, _ => h
  | p :: m, l, h, hd, hn => by
    rw [List.foldl_cons]
    rw [List.map_cons, List.nodup_cons] at hn
    have hs : Sorted l := h.imp fun h => by omega
    refine puts_rise m _ ?_ (fun r hr q hq => ?_) hn.2
    · have hp := putK_ahead p l hs
      unfold RiseB putB
      rw [List.pairwise_append, List.pairwise_cons]
      refine ⟨h.sublist (List.take_sublist _ _), ⟨fun q hq => hp.2 q hq, h.sublist (List.drop_sublist _ _)⟩, fun a ha b hb => ?_⟩
      have h1 := hp.1 a ha
      have h2 := hd p List.mem_cons_self a (List.mem_of_mem_take ha)
      rcases List.mem_cons.1 hb with rfl | hb
      · omega
      · have := hp.2 b hb; omega
    · rcases List.mem_cons.1 ((putB_perm l p).mem_iff.1 hq) with rfl | hq
      · intro e
        exact hn.1 (List.mem_map.2 ⟨r, hr, e.symm⟩)
      · exact hd r (List.mem_cons_of_mem _ hr) q hq
/-- what is in none of the named pairs: no such name -/
theorem free_a (ha hb : List ByteArray) (hna : ha.Nodup) (p : Int) (h : p ∈ freeA ha (namedL ha hb)) : ∃ (k : Nat) (s : ByteArray), p = k ∧ ha[k]? = some s ∧ s ∉ hb := by
  unfold freeA at h
  obtain ⟨⟨h0, h1⟩, h2⟩ := (out_mem _ _ _).1 h
  obtain ⟨k, rfl⟩ := Int.eq_ofNat_of_zero_le h0
  obtain ⟨s, hs⟩ : ∃ s, ha[k]? = some s := ⟨_, List.getElem?_eq_getElem (by omega)⟩
  refine ⟨k, s, rfl, hs, fun hm => h2 ?_⟩
  obtain ⟨q, hq⟩ := List.mem_iff_getElem?.1 hm
  exact List.mem_map.2 ⟨((k : Int), (q : Int)), (named_mem ha hb _ _).2 ⟨q, s, rfl, hq, find_is ha hna k s hs, by omega⟩, rfl⟩
theorem free_b (ha hb : List ByteArray) (q : Int) (h : q ∈ freeB hb (namedL ha hb)) : ∃ (k : Nat) (s : ByteArray), q = k ∧ hb[k]? = some s ∧ s ∉ ha := by
  unfold freeB at h
  obtain ⟨⟨h0, h1⟩, h2⟩ := (out_mem _ _ _).1 h
  obtain ⟨k, rfl⟩ := Int.eq_ofNat_of_zero_le h0
  obtain ⟨s, hs⟩ : ∃ s, hb[k]? = some s := ⟨_, List.getElem?_eq_getElem (by omega)⟩
  refine ⟨k, s, rfl, hs, fun hm => h2 ?_⟩
  exact List.mem_map.2 ⟨(findL ha s, (k : Int)), (named_mem ha hb _ _).2 ⟨k, s, rfl, hs, rfl, find_none ha s hm⟩, rfl⟩
/-- what is picked -/
theorem picked (ra rb : List (List ByteArray)) (ha hb : List ByteArray) (p q : Int) (h : (p, q) ∈ pickL (choicesA ra rb ha hb)) : p ∈ freeA ha (namedL ha hb) ∧ q ∈ freeB hb (namedL ha hb) := by
  obtain ⟨c, hc, h1, h2⟩ := (pick_taken (choicesA ra rb ha hb)).choice (p, q) h
  obtain ⟨k1, k2, -, -⟩ := (choices_mem ra rb ha hb _ _ c).1 hc
  dsimp only at h1 h2
  rw [h1] at k1; rw [h2] at k2
  exact ⟨k1, k2⟩
theorem align_mem (ra rb : List (List ByteArray)) (ha hb : List ByteArray) (rename : Bool) (p : Int × Int) : p ∈ alignL ra rb ha hb rename ↔ p ∈ namedL ha hb ∨ (rename = true ∧ p ∈ pickL (choicesA ra rb ha hb)) := by
  unfold alignL
  cases rename with
  | false => simp
  | true => rw [if_pos rfl, (puts_perm _ _).mem_iff, List.mem_append]; simp
theorem align_len (ra rb : List (List ByteArray)) (ha hb : List ByteArray) (rename : Bool) : (alignL ra rb ha hb rename).length = (namedL ha hb).length + if rename then (pickL (choicesA ra rb ha hb)).length else 0 := by
  unfold alignL
  cases rename with
  | false => simp
  | true => rw [if_pos rfl, (puts_perm _ _).length_eq, List.length_append]; simp
theorem align_rise (ra rb : List (List ByteArray)) (ha hb : List ByteArray) (rename : Bool) : RiseB (alignL ra rb ha hb rename) := by
  unfold alignL
  cases rename with
  | false => exact named_rise ha hb _
  | true =>
    rw [if_pos rfl]
    refine puts_rise _ _ (named_rise ha hb _) (fun p hp q hq e => ?_) (pick_taken _).snd
    have := (picked ra rb ha hb p.1 p.2 hp).2
    unfold freeB at this
    exact ((out_mem _ _ _).1 this).2 (List.mem_map.2 ⟨q, hq, e⟩)
theorem named_fst (ha hb : List ByteArray) (hnb : hb.Nodup) : ((namedL ha hb).map Prod.fst).Nodup := by
  rw [List.Nodup, List.pairwise_map]
  refine (named_rise ha hb hb.length).imp_of_mem fun {p q} hp hq hlt e => ?_
  obtain ⟨i, s, e1, h1, f1, z1⟩ := (named_mem ha hb p.1 p.2).1 hp
  obtain ⟨j, t, e2, h2, f2, z2⟩ := (named_mem ha hb q.1 q.2).1 hq
  obtain ⟨k, k1, k2⟩ := find_there ha s (by omega)
  obtain ⟨m, m1, m2⟩ := find_there ha t (by omega)
  have : k = m := by omega
  subst this
  rw [k2] at m2
  cases m2
  have hil := (List.getElem?_eq_some_iff.1 h1).1
  have := (List.getElem?_inj hil hnb).1 (by rw [h1, h2] : hb[i]? = hb[j]?)
  omega
theorem align_fst (ra rb : List (List ByteArray)) (ha hb : List ByteArray) (hnb : hb.Nodup) (rename : Bool) : ((alignL ra rb ha hb rename).map Prod.fst).Nodup := by
  unfold alignL
  cases rename with
  | false => exact named_fst ha hb hnb
  | true =>
    rw [if_pos rfl]
    refine ((puts_perm _ _).map Prod.fst).nodup_iff.2 ?_
    rw [List.map_append, List.nodup_append]
    refine ⟨named_fst ha hb hnb, (pick_taken _).fst, fun a ha1 b hb1 e => ?_⟩
    subst e
    obtain ⟨p, hp, rfl⟩ := List.mem_map.1 hb1
    have := (picked ra rb ha hb p.1 p.2 hp).1
    unfold freeA at this
    exact ((out_mem _ _ _).1 this).2 ha1
/-- each pair: the same name, or a name of which neither is in the other head -/
theorem align_pair (ra rb : List (List ByteArray)) (ha hb : List ByteArray) (hna : ha.Nodup) (rename : Bool) (p q : Int) (h : (p, q) ∈ alignL ra rb ha hb rename) :
    ∃ (i j : Nat) (s t : ByteArray), p = i ∧ q = j ∧ ha[i]? = some s ∧ hb[j]? = some t ∧ (s = t ∨ (rename = true ∧ findL hb s < 0 ∧ findL ha t < 0)) := by
  rcases (align_mem ra rb ha hb rename (p, q)).1 h with h | ⟨hr, h⟩
  · obtain ⟨k, s, rfl, hk, hf, h0⟩ := (named_mem ha hb p q).1 h
    obtain ⟨i, hi, his⟩ := find_there ha s (by omega)
    exact ⟨i, k, s, s, by omega, rfl, his, hk, .inl rfl⟩
  · obtain ⟨h1, h2⟩ := picked ra rb ha hb p q h
    obtain ⟨i, s, rfl, hi, hs⟩ := free_a ha hb hna p h1
    obtain ⟨j, t, rfl, hj, ht⟩ := free_b ha hb q h2
    refine ⟨i, j, s, t, rfl, rfl, hi, hj, .inr ⟨hr, ?_, ?_⟩⟩
    · rcases Int.lt_or_le (findL hb s) 0 with h | h
      · exact h
      · obtain ⟨k, _, hk⟩ := find_there hb s h
        exact absurd (List.mem_of_getElem? hk) hs
    · rcases Int.lt_or_le (findL ha t) 0 with h | h
      · exact h
      · obtain ⟨k, _, hk⟩ := find_there ha t h
        exact absurd (List.mem_of_getElem? hk) ht
end Go.Proofs.YtigijgcldgbokaaGreat
