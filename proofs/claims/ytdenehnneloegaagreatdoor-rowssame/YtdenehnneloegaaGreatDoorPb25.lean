/-
  Texts of these rows' proofs, laid one behind the other: CMath, CRef2, CRef3, CSpec, CMath2, CWorks, CFew.
  Conditions: those of each theorem.
-/
import Derived.Test.YtdenehnneloegaaGreatDoorPb3
import Derived.Test.YtdenehnneloegaaGreatDoorPb2
import Derived.Test.YtdenehnneloegaaGreatDoorPb6
import Derived.Test.YtdenehnneloegaaGreatDoorPb5
import Derived.Test.YtdenehnneloegaaGreatDoorPb23
import Derived.Test.YtdenehnneloegaaGreatDoorPb22
import Derived.Deep.OwnRows
import Derived.Deep.RegionHeld3
import Derived.WalkKit
import Derived.WalkMore
import Derived.IntWalk
import Derived.WalkArith
import Derived.OwnWalk
import Derived.Lib.Hide
import Derived.Test.YtdenehnneloegaaGreatDoorProg
import Derived.Laws.AppendOwn
import Derived.Laws.AppendOwnNone
import Derived.Deep.QuietTactic
import Derived.BigQuiet
import Derived.Lib.QuietBelow
import Derived.Deep.RegionWith
import Derived.Deep.CutRange
import Derived.Deep.Onto
import Derived.Test.YtdenehnneloegaaGreatDoorPb7
import Derived.Deep.Cut
import Derived.StillTailTactics
import Derived.Test.YtdenehnneloegaaGreatDoorPb4
namespace Go.Proofs.YtdenehnneloegaaGreatDoor
set_option linter.unusedVariables false
/-- the pair of a column of b, if its name is in a's head -/
def namedO (ha hb : List ByteArray) (q : Nat) : Option (Int × Int) := match hb[q]? with | some s => if 0 ≤ findL ha s then some (findL ha s, (q : Int)) else none | none => none
/-- the first k of them -/
def namedK (ha hb : List ByteArray) (k : Nat) : PL := (List.range k).filterMap (namedO ha hb)
def namedL (ha hb : List ByteArray) : PL := namedK ha hb hb.length
theorem named_next (ha hb : List ByteArray) (k : Nat) (s : ByteArray) (hs : hb[k]? = some s) : namedK ha hb (k + 1) = if 0 ≤ findL ha s then namedK ha hb k ++ [(findL ha s, (k : Int))] else namedK ha hb k := by
  unfold namedK
  rw [List.range_succ, List.filterMap_append]
  have e : namedO ha hb k = if 0 ≤ findL ha s then some (findL ha s, (k : Int)) else none := by unfold namedO; rw [hs]
  by_cases h : 0 ≤ findL ha s
  · rw [if_pos h] at e ⊢; simp [e]
  · rw [if_neg h] at e ⊢; simp [e]
theorem named_le (ha hb : List ByteArray) (k : Nat) : (namedK ha hb k).length ≤ k := by
  unfold namedK; exact Nat.le_trans (List.length_filterMap_le _ _) (by simp)
theorem named_mem (ha hb : List ByteArray) (p q : Int) : (p, q) ∈ namedL ha hb ↔ ∃ (k : Nat) (s : ByteArray), q = k ∧ hb[k]? = some s ∧ findL ha s = p ∧ 0 ≤ p := by
  unfold namedL namedK
  rw [List.mem_filterMap]
  constructor
  · rintro ⟨k, hk, h⟩
    unfold namedO at h
    split at h
    · rename_i s hs
      split at h
      · rename_i h0
        simp only [Option.some.injEq, Prod.mk.injEq] at h
        obtain ⟨rfl, rfl⟩ := h
        exact ⟨k, s, rfl, hs, rfl, h0⟩
      · cases h
    · cases h
  · rintro ⟨k, s, rfl, hs, rfl, h0⟩
    refine ⟨k, List.mem_range.2 (List.getElem?_eq_some_iff.1 hs).1, ?_⟩
    unfold namedO
    rw [hs]
    simp only
    rw [if_pos h0]
theorem named_rise (ha hb : List ByteArray) (k : Nat) : (namedK ha hb k).Pairwise fun p q => p.2 < q.2 := by
  unfold namedK
  rw [List.pairwise_filterMap]
  refine List.pairwise_lt_range.imp fun {a b} hab p hp q hq => ?_
  have e : ∀ (k : Nat) p, namedO ha hb k = some p → p.2 = k := fun k p h => by
    unfold namedO at h
    split at h
    · split at h
      · simp only [Option.some.injEq] at h; rw [← h]
      · cases h
    · cases h
  rw [e a p hp, e b q hq]; omega
/-- what is found is there, and it is the first one -/
theorem find_there (hd : List ByteArray) (s : ByteArray) (h : 0 ≤ findL hd s) : ∃ k : Nat, findL hd s = k ∧ hd[k]? = some s := by
  unfold findL firstAt at h ⊢
  cases hf : hd.findIdx? (fun c => decide (c.data.toList = s.data.toList)) with
  | none => rw [hf] at h; simp at h
  | some i =>
    obtain ⟨hi, h1, _⟩ := List.findIdx?_eq_some_iff_getElem.1 hf
    refine ⟨i, rfl, ?_⟩
    rw [List.getElem?_eq_getElem hi]
    exact congrArg some (ba_eq (of_decide_eq_true h1))
theorem find_none (hd : List ByteArray) (s : ByteArray) (h : s ∈ hd) : 0 ≤ findL hd s := by
  unfold findL firstAt
  cases hf : hd.findIdx? (fun c => decide (c.data.toList = s.data.toList)) with
  | none =>
    have := List.findIdx?_eq_none_iff.1 hf s h
    simp at this
  | some i => simp
theorem nodup_of_dup (hd : List ByteArray) (h : dupL hd = false) : hd.Nodup := by
  unfold dupL at h
  have h2 : (bytesOf hd).Nodup := by
    by_cases h3 : (bytesOf hd).Nodup
    · exact h3
    · rw [decide_eq_true h3] at h; cases h
  unfold bytesOf at h2
  rw [List.Nodup, List.pairwise_map] at h2
  exact h2.imp fun {a b} hab e => hab (by rw [e])
theorem find_is (hd : List ByteArray) (hn : hd.Nodup) (k : Nat) (s : ByteArray) (hk : hd[k]? = some s) : findL hd s = k := by
  obtain ⟨j, hj, hjs⟩ := find_there hd s (find_none hd s (List.mem_of_getElem? hk))
  rw [hj]
  have hkl := (List.getElem?_eq_some_iff.1 hk).1
  have := (List.getElem?_inj hkl hn).1 (by rw [hk, hjs] : hd[k]? = hd[j]?)
  rw [this]
/-- a choice of two columns -/
def scoreC (ra rb : List (List ByteArray)) (ha hb : List ByteArray) (p q : Int) : Nat := overL (bytesOf (columnT ha ra p)) (bytesOf (columnT hb rb q))
def mayC (ra rb : List (List ByteArray)) (n : Nat) : Bool := decide (ra.length < 2 * n) && decide (rb.length < 2 * n)
def choiceO (ra rb : List (List ByteArray)) (ha hb : List ByteArray) (p q : Int) : Option T3 := if mayC ra rb (scoreC ra rb ha hb p q) then some (p, q, (scoreC ra rb ha hb p q : Int)) else none
/-- the choices of one column of a -/
def choiceRow (ra rb : List (List ByteArray)) (ha hb : List ByteArray) (p : Int) (qs : List Int) : TL := qs.filterMap (choiceO ra rb ha hb p)
def choicesOf (ra rb : List (List ByteArray)) (ha hb : List ByteArray) (ps qs : List Int) : TL := ps.flatMap fun p => choiceRow ra rb ha hb p qs
def freeA (ha : List ByteArray) (l : PL) : List Int := outOf (l.map Prod.fst) ha.length
def freeB (hb : List ByteArray) (l : PL) : List Int := outOf (l.map Prod.snd) hb.length
def choicesA (ra rb : List (List ByteArray)) (ha hb : List ByteArray) : TL := choicesOf ra rb ha hb (freeA ha (namedL ha hb)) (freeB hb (namedL ha hb))
/-- the columns that are the same -/
def alignL (ra rb : List (List ByteArray)) (ha hb : List ByteArray) (rename : Bool) : PL := if rename then (pickL (choicesA ra rb ha hb)).foldl putB (namedL ha hb) else namedL ha hb
theorem out_mem (S : List Int) (n : Nat) (z : Int) : z ∈ outOf S n ↔ (0 ≤ z ∧ z < (n : Int)) ∧ z ∉ S := by
  unfold outOf
  rw [List.mem_filter, upTo_mem]
  simp
theorem choices_mem (ra rb : List (List ByteArray)) (ha hb : List ByteArray) (ps qs : List Int) (c : T3) : c ∈ choicesOf ra rb ha hb ps qs ↔ c.1 ∈ ps ∧ c.2.1 ∈ qs ∧ mayC ra rb (scoreC ra rb ha hb c.1 c.2.1) = true ∧ c.2.2 = (scoreC ra rb ha hb c.1 c.2.1 : Int) := by
  unfold choicesOf choiceRow choiceO
  rw [List.mem_flatMap]
  constructor
  · rintro ⟨p, hp, h⟩
    rw [List.mem_filterMap] at h
    obtain ⟨q, hq, h⟩ := h
    split at h
    · rename_i hm
      simp only [Option.some.injEq] at h
      subst h
      exact ⟨hp, hq, hm, rfl⟩
    · cases h
  · rintro ⟨h1, h2, h3, h4⟩
    refine ⟨c.1, h1, ?_⟩
    rw [List.mem_filterMap]
    refine ⟨c.2.1, h2, ?_⟩
    rw [if_pos h3, ← h4]
theorem putB_perm (l : PL) (p : Int × Int) : (putB l p).Perm (p :: l) := by
  unfold putB
  refine List.perm_middle.trans ?_
  rw [List.take_append_drop]
theorem puts_perm : ∀ (m l : PL), (m.foldl putB l).Perm (l ++ m)
  | [], l => by simp
  | p :: m, l => by
    rw [List.foldl_cons]
    refine (puts_perm m (putB l p)).trans ?_
    refine ((putB_perm l p).append_right m).trans ?_
    exact (List.perm_middle).symm
/-- rising Bs, once more -/
def RiseB (l : PL) : Prop := l.Pairwise fun p q => p.2 < q.2
theorem puts_rise : ∀ (m l : PL), RiseB l → (∀ p ∈ m, ∀ q ∈ l, q.2 ≠ p.2) → (m.map Prod.snd).Nodup → RiseB (m.foldl putB l)
  | [], l, h, _, _ => h
  | p :: m, l, h, hd, hn => by
    rw [List.foldl_cons]
    rw [List.map_cons, List.nodup_cons] at hn
    have hs : Sorted l := h.imp fun h => by omega
    refine puts_rise m _ ?_ (fun r hr q hq => ?_) hn.2
    · have hp := putK_ahead p l hs
      unfold RiseB putB
      rw [List.pairwise_append, List.pairwise_cons]
      refine ⟨h.sublist (List.take_sublist _ _), ⟨fun q hq => hp.2 q hq, h.sublist (List.drop_sublist _ _)⟩, fun a ha b hb => ?_⟩
      have h1 := hp.1 a ha
      have h2 := hd p List.mem_cons_self a (List.mem_of_mem_take ha)
      rcases List.mem_cons.1 hb with rfl | hb
      · omega
      · have := hp.2 b hb; omega
    · rcases List.mem_cons.1 ((putB_perm l p).mem_iff.1 hq) with rfl | hq
      · intro e
        exact hn.1 (List.mem_map.2 ⟨r, hr, e.symm⟩)
      · exact hd r (List.mem_cons_of_mem _ hr) q hq
/-- what is in none of the named pairs: no such name -/
theorem free_a (ha hb : List ByteArray) (hna : ha.Nodup) (p : Int) (h : p ∈ freeA ha (namedL ha hb)) : ∃ (k : Nat) (s : ByteArray), p = k ∧ ha[k]? = some s ∧ s ∉ hb := by
  unfold freeA at h
  obtain ⟨⟨h0, h1⟩, h2⟩ := (out_mem _ _ _).1 h
  obtain ⟨k, rfl⟩ := Int.eq_ofNat_of_zero_le h0
  obtain ⟨s, hs⟩ : ∃ s, ha[k]? = some s := ⟨_, List.getElem?_eq_getElem (by omega)⟩
  refine ⟨k, s, rfl, hs, fun hm => h2 ?_⟩
  obtain ⟨q, hq⟩ := List.mem_iff_getElem?.1 hm
  exact List.mem_map.2 ⟨((k : Int), (q : Int)), (named_mem ha hb _ _).2 ⟨q, s, rfl, hq, find_is ha hna k s hs, by omega⟩, rfl⟩
theorem free_b (ha hb : List ByteArray) (q : Int) (h : q ∈ freeB hb (namedL ha hb)) : ∃ (k : Nat) (s : ByteArray), q = k ∧ hb[k]? = some s ∧ s ∉ ha := by
  unfold freeB at h
  obtain ⟨⟨h0, h1⟩, h2⟩ := (out_mem _ _ _).1 h
  obtain ⟨k, rfl⟩ := Int.eq_ofNat_of_zero_le h0
  obtain ⟨s, hs⟩ : ∃ s, hb[k]? = some s := ⟨_, List.getElem?_eq_getElem (by omega)⟩
  refine ⟨k, s, rfl, hs, fun hm => h2 ?_⟩
  exact List.mem_map.2 ⟨(findL ha s, (k : Int)), (named_mem ha hb _ _).2 ⟨k, s, rfl, hs, rfl, find_none ha s hm⟩, rfl⟩
/-- what is picked -/
theorem picked (ra rb : List (List ByteArray)) (ha hb : List ByteArray) (p q : Int) (h : (p, q) ∈ pickL (choicesA ra rb ha hb)) : p ∈ freeA ha (namedL ha hb) ∧ q ∈ freeB hb (namedL ha hb) := by
  obtain ⟨c, hc, h1, h2⟩ := (pick_taken (choicesA ra rb ha hb)).choice (p, q) h
  obtain ⟨k1, k2, -, -⟩ := (choices_mem ra rb ha hb _ _ c).1 hc
  dsimp only at h1 h2
  rw [h1] at k1; rw [h2] at k2
  exact ⟨k1, k2⟩
theorem align_mem (ra rb : List (List ByteArray)) (ha hb : List ByteArray) (rename : Bool) (p : Int × Int) : p ∈ alignL ra rb ha hb rename ↔ p ∈ namedL ha hb ∨ (rename = true ∧ p ∈ pickL (choicesA ra rb ha hb)) := by
  unfold alignL
  cases rename with
  | false => simp
  | true => rw [if_pos rfl, (puts_perm _ _).mem_iff, List.mem_append]; simp
theorem align_len (ra rb : List (List ByteArray)) (ha hb : List ByteArray) (rename : Bool) : (alignL ra rb ha hb rename).length = (namedL ha hb).length + if rename then (pickL (choicesA ra rb ha hb)).length else 0 := by
  unfold alignL
  cases rename with
  | false => simp
  | true => rw [if_pos rfl, (puts_perm _ _).length_eq, List.length_append]; simp
theorem align_rise (ra rb : List (List ByteArray)) (ha hb : List ByteArray) (rename : Bool) : RiseB (alignL ra rb ha hb rename) := by
  unfold alignL
  cases rename with
  | false => exact named_rise ha hb _
  | true =>
    rw [if_pos rfl]
    refine puts_rise _ _ (named_rise ha hb _) (fun p hp q hq e => ?_) (pick_taken _).snd
    have := (picked ra rb ha hb p.1 p.2 hp).2
    unfold freeB at this
    exact ((out_mem _ _ _).1 this).2 (List.mem_map.2 ⟨q, hq, e⟩)
theorem named_fst (ha hb : List ByteArray) (hnb : hb.Nodup) : ((namedL ha hb).map Prod.fst).Nodup := by
  rw [List.Nodup, List.pairwise_map]
  refine (named_rise ha hb hb.length).imp_of_mem fun {p q} hp hq hlt e => ?_
  obtain ⟨i, s, e1, h1, f1, z1⟩ := (named_mem ha hb p.1 p.2).1 hp
  obtain ⟨j, t, e2, h2, f2, z2⟩ := (named_mem ha hb q.1 q.2).1 hq
  obtain ⟨k, k1, k2⟩ := find_there ha s (by omega)
  obtain ⟨m, m1, m2⟩ := find_there ha t (by omega)
  have : k = m := by omega
  subst this
  rw [k2] at m2
  cases m2
  have hil := (List.getElem?_eq_some_iff.1 h1).1
  have := (List.getElem?_inj hil hnb).1 (by rw [h1, h2] : hb[i]? = hb[j]?)
  omega
theorem align_fst (ra rb : List (List ByteArray)) (ha hb : List ByteArray) (hnb : hb.Nodup) (rename : Bool) : ((alignL ra rb ha hb rename).map Prod.fst).Nodup := by
  unfold alignL
  cases rename with
  | false => exact named_fst ha hb hnb
  | true =>
    rw [if_pos rfl]
    refine ((puts_perm _ _).map Prod.fst).nodup_iff.2 ?_
    rw [List.map_append, List.nodup_append]
    refine ⟨named_fst ha hb hnb, (pick_taken _).fst, fun a ha1 b hb1 e => ?_⟩
    subst e
    obtain ⟨p, hp, rfl⟩ := List.mem_map.1 hb1
    have := (picked ra rb ha hb p.1 p.2 hp).1
    unfold freeA at this
    exact ((out_mem _ _ _).1 this).2 ha1
/-- each pair: the same name, or a name of which neither is in the other head -/
theorem align_pair (ra rb : List (List ByteArray)) (ha hb : List ByteArray) (hna : ha.Nodup) (rename : Bool) (p q : Int) (h : (p, q) ∈ alignL ra rb ha hb rename) :
    ∃ (i j : Nat) (s t : ByteArray), p = i ∧ q = j ∧ ha[i]? = some s ∧ hb[j]? = some t ∧ (s = t ∨ (rename = true ∧ findL hb s < 0 ∧ findL ha t < 0)) := by
  rcases (align_mem ra rb ha hb rename (p, q)).1 h with h | ⟨hr, h⟩
  · obtain ⟨k, s, rfl, hk, hf, h0⟩ := (named_mem ha hb p q).1 h
    obtain ⟨i, hi, his⟩ := find_there ha s (by omega)
    exact ⟨i, k, s, s, by omega, rfl, his, hk, .inl rfl⟩
  · obtain ⟨h1, h2⟩ := picked ra rb ha hb p q h
    obtain ⟨i, s, rfl, hi, hs⟩ := free_a ha hb hna p h1
    obtain ⟨j, t, rfl, hj, ht⟩ := free_b ha hb q h2
    refine ⟨i, j, s, t, rfl, rfl, hi, hj, .inr ⟨hr, ?_, ?_⟩⟩
    · rcases Int.lt_or_le (findL hb s) 0 with h | h
      · exact h
      · obtain ⟨k, _, hk⟩ := find_there hb s h
        exact absurd (List.mem_of_getElem? hk) hs
    · rcases Int.lt_or_le (findL ha t) 0 with h | h
      · exact h
      · obtain ⟨k, _, hk⟩ := find_there ha t h
        exact absurd (List.mem_of_getElem? hk) ht
end Go.Proofs.YtdenehnneloegaaGreatDoor
namespace Go.Proofs.YtdenehnneloegaaGreatDoor
open Go.RowKit Go.Shelf Go.Deep
set_option linter.unusedVariables false
theorem row_le (ra rb : List (List ByteArray)) (ha hb : List ByteArray) (p : Int) (qs : List Int) : (choiceRow ra rb ha hb p qs).length ≤ qs.length := List.length_filterMap_le _ _
theorem choices_le (ra rb : List (List ByteArray)) (ha hb : List ByteArray) (qs : List Int) : ∀ ps : List Int, (choicesOf ra rb ha hb ps qs).length ≤ ps.length * qs.length
  | [] => by simp [choicesOf]
  | p :: ps => by
    have h1 := choices_le ra rb ha hb qs ps
    have h2 := row_le ra rb ha hb p qs
    unfold choicesOf at h1 ⊢
    rw [List.flatMap_cons, List.length_append, List.length_cons, Nat.succ_mul]
    omega
end Go.Proofs.YtdenehnneloegaaGreatDoor
namespace Go.Proofs.YtdenehnneloegaaGreatDoor
open Go.RowKit Go.Shelf Go.Deep
set_option linter.unusedVariables false
/-- what is wrong with two tables -/
def alignE (ha : List ByteArray) (ra : List (List ByteArray)) (hb : List ByteArray) (rb : List (List ByteArray)) : Int := if checkI ha ra ≠ 0 then checkI ha ra else checkI hb rb
/-- the pairs that come back -/
def alignR (ha : List ByteArray) (ra : List (List ByteArray)) (hb : List ByteArray) (rb : List (List ByteArray)) (rename : Bool) : PL := if alignE ha ra hb rb = 0 then alignL ra rb ha hb rename else []
def AlignOut (E : Int) (L : PL) (w : World) (e : Ending) (w' : World) : Prop := ∃ ao cap, e = .returned (.tuple #[.slice ao L.length cap, .int .i64 E]) ∧ PairsAt w' ao L ∧ (ao = none → cap = 0) ∧ L.length ≤ cap ∧ Below w.heap.size w w'
theorem align_good (ha : List ByteArray) (ra : List (List ByteArray)) (hb : List ByteArray) (rb : List (List ByteArray)) (rename : Bool) (h0 : checkI ha ra = 0) (h : checkI hb rb = 0) : alignE ha ra hb rb = 0 ∧ alignR ha ra hb rb rename = alignL ra rb ha hb rename := by
  have e : alignE ha ra hb rb = 0 := by unfold alignE; rw [if_neg (by simp [h0])]; exact h
  exact ⟨e, by unfold alignR; rw [e, if_pos rfl]⟩
theorem choicesA_le (ra rb : List (List ByteArray)) (ha hb : List ByteArray) (hn : ha.length ≤ 1024) (hn2 : hb.length ≤ 1024) : (choicesA ra rb ha hb).length ≤ 1048576 := by
  have h1 := choices_le ra rb ha hb (freeB hb (namedL ha hb)) (freeA ha (namedL ha hb))
  have h2 : (freeA ha (namedL ha hb)).length * (freeB hb (namedL ha hb)).length ≤ 1024 * 1024 := Nat.mul_le_mul (Nat.le_trans (outOf_le _ _) hn) (Nat.le_trans (outOf_le _ _) hn2)
  unfold choicesA; omega
end Go.Proofs.YtdenehnneloegaaGreatDoor
namespace Go.Proofs.YtdenehnneloegaaGreatDoor
open Go.RowKit Go.Shelf
set_option linter.unusedVariables false
/-- a table that is small, as it lies -/
structure TabIn (w : World) (ho : Option Addr) (hc : Nat) (hd : List ByteArray) (ro : Option Addr) (rc : Nat) (rs : List (List ByteArray)) : Prop where
  hl : hd.length ≤ 60
  rl : rs.length ≤ 400
  el : ∀ r ∈ rs, r.length ≤ 60
  sum : sumT (allT hd rs) ≤ 100000
  row : StrRow w ho hd
  rows : RowsAt w ro rs
  hcap : hd.length ≤ hc
  rcap : rs.length ≤ rc
  hnil : ho = none → hc = 0
  rnil : ro = none → rc = 0
theorem TabIn.kept {w w' : World} {ho : Option Addr} {hc : Nat} {hd : List ByteArray} {ro : Option Addr} {rc : Nat} {rs : List (List ByteArray)} (h : TabIn w ho hc hd ro rc rs) (hB : Below w.heap.size w w') : TabIn w' ho hc hd ro rc rs :=
  ⟨h.hl, h.rl, h.el, h.sum, h.row.kept hB, h.rows.kept hB, h.hcap, h.rcap, h.hnil, h.rnil⟩
theorem TabIn.size {w : World} {ho : Option Addr} {hc : Nat} {hd : List ByteArray} {ro : Option Addr} {rc : Nat} {rs : List (List ByteArray)} (h : TabIn w ho hc hd ro rc rs) : ∀ c ∈ allT hd rs, c.size ≤ 100000 := fun c hc => by
  obtain ⟨a, b, e⟩ := List.append_of_mem hc
  have := h.sum
  rw [e] at this; simp [sumT] at this; omega
theorem TabIn.two {w : World} {ho : Option Addr} {hc : Nat} {hd : List ByteArray} {ro : Option Addr} {rc : Nat} {rs : List (List ByteArray)} (h : TabIn w ho hc hd ro rc rs) {o : Obj} : TabIn (w.alloc o) ho hc hd ro rc rs := h.kept (one_below _ _)
/-- the answers of cols.Named and cols.Align -/
def NamedOK : Prop := ∀ (ho : Option Addr) (hc : Nat) (ha : List ByteArray) (ro : Option Addr) (rc : Nat) (ra : List (List ByteArray)) (bo : Option Addr) (bc : Nat) (hb : List ByteArray) (so : Option Addr) (sc : Nat) (rb : List (List ByteArray)) (w : World),
  TabIn w ho hc ha ro rc ra → TabIn w bo bc hb so sc rb →
    Calls Tryz.prog 20 #[.agg #[.slice ho ha.length hc, .slice ro ra.length rc], .agg #[.slice bo hb.length bc, .slice so rb.length sc]] w (PairsOut (namedL ha hb) w)
def AlignOK : Prop := ∀ (ho : Option Addr) (hc : Nat) (ha : List ByteArray) (ro : Option Addr) (rc : Nat) (ra : List (List ByteArray)) (bo : Option Addr) (bc : Nat) (hb : List ByteArray) (so : Option Addr) (sc : Nat) (rb : List (List ByteArray)) (rename : Bool) (w : World),
  TabIn w ho hc ha ro rc ra → TabIn w bo bc hb so sc rb →
    Calls Tryz.prog 26 #[.agg #[.slice ho ha.length hc, .slice ro ra.length rc], .agg #[.slice bo hb.length bc, .slice so rb.length sc], .bool rename] w (AlignOut (alignE ha ra hb rb) (alignR ha ra hb rb rename) w)
end Go.Proofs.YtdenehnneloegaaGreatDoor
namespace Go.Proofs.YtdenehnneloegaaGreatDoor
set_option linter.unusedVariables false
theorem riseB_unique : ∀ (A B : PL), RiseB A → RiseB B → (∀ x, x ∈ A ↔ x ∈ B) → A = B
  | [], [], _, _, _ => rfl
  | [], b :: B, _, _, h => by have := (h b).2 List.mem_cons_self; simp at this
  | a :: A, [], _, _, h => by have := (h a).1 List.mem_cons_self; simp at this
  | a :: A, b :: B, hA, hB, h => by
    have hA2 := List.pairwise_cons.1 hA
    have hB2 := List.pairwise_cons.1 hB
    have e : a = b := by
      rcases List.mem_cons.1 ((h a).1 List.mem_cons_self) with e | h1
      · exact e
      · rcases List.mem_cons.1 ((h b).2 List.mem_cons_self) with e | h2
        · exact e.symm
        · have := hB2.1 a h1; have := hA2.1 b h2; omega
    subst e
    congr 1
    refine riseB_unique A B hA2.2 hB2.2 fun x => ?_
    constructor
    · intro hx
      rcases List.mem_cons.1 ((h x).1 (List.mem_cons_of_mem _ hx)) with e | h1
      · have := hA2.1 x hx; rw [e] at this; omega
      · exact h1
    · intro hx
      rcases List.mem_cons.1 ((h x).2 (List.mem_cons_of_mem _ hx)) with e | h1
      · have := hB2.1 x hx; rw [e] at this; omega
      · exact h1
/-- each column with itself -/
def diagL (n : Nat) : PL := (List.range n).map fun (i : Nat) => ((i : Int), (i : Int))
theorem diag_len (n : Nat) : (diagL n).length = n := by simp [diagL]
theorem diag_at (n i : Nat) (h : i < n) : (diagL n)[i]? = some ((i : Int), (i : Int)) := by simp [diagL, h]
theorem diag_mem (n : Nat) (p : Int × Int) : p ∈ diagL n ↔ ∃ i : Nat, i < n ∧ p = ((i : Int), (i : Int)) := by
  unfold diagL
  rw [List.mem_map]
  exact ⟨fun ⟨i, hi, e⟩ => ⟨i, List.mem_range.1 hi, e.symm⟩, fun ⟨i, hi, e⟩ => ⟨i, List.mem_range.2 hi, e.symm⟩⟩
theorem diag_rise (n : Nat) : RiseB (diagL n) := by
  unfold RiseB diagL
  rw [List.pairwise_map]
  exact List.pairwise_lt_range.imp fun h => by simp only; omega
theorem pick_nil : pickL [] = [] := by unfold pickL sortT; simp [scanT, sortB]
theorem choices_nil (ra rb : List (List ByteArray)) (ha hb : List ByteArray) (h : freeA ha (namedL ha hb) = []) : choicesA ra rb ha hb = [] := by
  unfold choicesA choicesOf; rw [h]; rfl
theorem align_named (ra rb : List (List ByteArray)) (ha hb : List ByteArray) (rename : Bool) (h : freeA ha (namedL ha hb) = []) : alignL ra rb ha hb rename = namedL ha hb := by
  unfold alignL
  cases rename with
  | false => rfl
  | true => rw [if_pos rfl, choices_nil ra rb ha hb h, pick_nil]; rfl
theorem free_none (ha hb : List ByteArray) (hna : ha.Nodup) (h : ∀ s ∈ ha, s ∈ hb) : freeA ha (namedL ha hb) = [] := by
  apply List.eq_nil_iff_forall_not_mem.2
  intro p hp
  obtain ⟨k, s, rfl, hk, hs⟩ := free_a ha hb hna p hp
  exact hs (h s (List.mem_of_getElem? hk))
theorem same_align (ra rb : List (List ByteArray)) (ha : List ByteArray) (hna : ha.Nodup) (rename : Bool) : alignL ra rb ha ha rename = diagL ha.length := by
  rw [align_named ra rb ha ha rename (free_none ha ha hna fun s h => h)]
  refine riseB_unique _ _ (named_rise ha ha _) (diag_rise _) fun p => ?_
  obtain ⟨p1, p2⟩ := p
  rw [named_mem, diag_mem]
  constructor
  · rintro ⟨k, s, rfl, hk, hf, h0⟩
    rw [find_is ha hna k s hk] at hf
    exact ⟨k, (List.getElem?_eq_some_iff.1 hk).1, by rw [hf]⟩
  · rintro ⟨i, hi, e⟩
    simp only [Prod.mk.injEq] at e
    obtain ⟨rfl, rfl⟩ := e
    obtain ⟨s, hs⟩ : ∃ s, ha[i]? = some s := ⟨_, List.getElem?_eq_getElem hi⟩
    exact ⟨i, s, rfl, hs, find_is ha hna i s hs, by omega⟩
end Go.Proofs.YtdenehnneloegaaGreatDoor
namespace Go.Proofs.YtdenehnneloegaaGreatDoor
open Go.RowKit Go.Shelf
set_option linter.unusedVariables false
/-- a table of two columns and two rows, laid out -/
structure ExC (B : Nat) (h : List ByteArray) (rs : List (List ByteArray)) (W : World) : Prop where
  lies : ∃ (ho : Option Addr) (ro : Option Addr), W.heap[B]? = some (.cells #[.slice ho 2 2, .slice ro 2 2] 25 (0, 0)) ∧ StrRow W ho h ∧ RowsAt W ro rs ∧ ho ≠ none ∧ ro ≠ none
theorem ExC.kept {B : Nat} {h : List ByteArray} {rs : List (List ByteArray)} {W V : World} (x : ExC B h rs W) (k : Below W.heap.size W V) : ExC B h rs V := by
  obtain ⟨ho, ro, h1, h2, h3, h4⟩ := x.lies
  exact ⟨ho, ro, (k.block _ (lt_of_heap h1)).trans h1, h2.kept k, h3.kept k, h4⟩
abbrev litRowC (a b : ByteArray) : Obj := .cells #[.string a, .string b] 9
theorem row_litC (W : World) (a b : ByteArray) : StrRow (W.alloc (litRowC a b)) (some ⟨W.heap.size, 0, none⟩) [a, b] := new_row W [a, b] 9
theorem lit_tC (w V : World) (a b c d e f : ByteArray) (hV : V = (((((w.alloc (litRowC a b)).alloc (litRowC c d)).alloc (litRowC e f)).alloc (.cells #[.slice (some ⟨w.heap.size + 1, 0, none⟩) 2 2, .slice (some ⟨w.heap.size + 1 + 1, 0, none⟩) 2 2] 22)).alloc (.cells #[.slice (some ⟨w.heap.size, 0, none⟩) 2 2, .slice (some ⟨w.heap.size + 1 + 1 + 1, 0, none⟩) 2 2] 25))) :
    ExC (w.heap.size + 1 + 1 + 1 + 1) [a, b] [[c, d], [e, f]] V ∧ Below w.heap.size w V := by
  obtain ⟨W1, h1⟩ : ∃ W1, W1 = w.alloc (litRowC a b) := ⟨_, rfl⟩
  obtain ⟨W2, h2⟩ : ∃ W2, W2 = W1.alloc (litRowC c d) := ⟨_, rfl⟩
  obtain ⟨W3, h3⟩ : ∃ W3, W3 = W2.alloc (litRowC e f) := ⟨_, rfl⟩
  obtain ⟨W4, h4⟩ : ∃ W4, W4 = W3.alloc (.cells #[.slice (some ⟨w.heap.size + 1, 0, none⟩) 2 2, .slice (some ⟨w.heap.size + 1 + 1, 0, none⟩) 2 2] 22) := ⟨_, rfl⟩
  rw [← h1, ← h2, ← h3, ← h4] at hV
  have s1 : W1.heap.size = w.heap.size + 1 := by rw [h1]; simp
  have s2 : W2.heap.size = w.heap.size + 1 + 1 := by rw [h2, World.size_alloc, s1]
  have s3 : W3.heap.size = w.heap.size + 1 + 1 + 1 := by rw [h3, World.size_alloc, s2]
  have s4 : W4.heap.size = w.heap.size + 1 + 1 + 1 + 1 := by rw [h4, World.size_alloc, s3]
  have b1 : Below w.heap.size w W1 := by rw [h1]; exact one_below _ _
  have b2 : Below W1.heap.size W1 W2 := by rw [h2]; exact one_below _ _
  have b3 : Below W2.heap.size W2 W3 := by rw [h3]; exact one_below _ _
  have b4 : Below W3.heap.size W3 W4 := by rw [h4]; exact one_below _ _
  have b5 : Below W4.heap.size W4 V := by rw [hV]; exact one_below _ _
  have r1 : StrRow W1 (some ⟨w.heap.size, 0, none⟩) [a, b] := by rw [h1]; exact row_litC w a b
  have r2 : StrRow W2 (some ⟨w.heap.size + 1, 0, none⟩) [c, d] := by rw [h2, ← s1]; exact row_litC W1 c d
  have r3 : StrRow W3 (some ⟨w.heap.size + 1 + 1, 0, none⟩) [e, f] := by rw [h3, ← s2]; exact row_litC W2 e f
  have rr : RowsAt W4 (some ⟨w.heap.size + 1 + 1 + 1, 0, none⟩) [[c, d], [e, f]] := by
    rw [h4, ← s3]; exact rows_two W3 _ _ [c, d] [e, f] ⟨2, Nat.le_refl _, fun e => by cases e⟩ ⟨2, Nat.le_refl _, fun e => by cases e⟩ _ (r2.kept b3) r3
  refine ⟨⟨_, _, by rw [hV, ← s4]; exact World.alloc_heap_new _ _, (((r1.kept b2).kept b3).kept b4).kept b5, rr.kept b5, by simp, by simp⟩, below_up (below_up (below_up (below_up b1 b2) b3) b4) b5⟩
theorem lit_pairsC (w : World) (l : PL) (T : TypeId) : PairsAt (w.alloc (.cells (cellsP l).toArray T)) (some ⟨w.heap.size, 0, none⟩) l := by
  refine .inr ⟨w.heap.size, 0, rfl, by simp, fun i p hp => ?_⟩
  obtain ⟨c1, c2⟩ := cellsP_at l i p hp
  have h := World.alloc_heap_new w (.cells (cellsP l).toArray T)
  constructor
  · rw [Lib.cell_of_heap h]; simpa using c1
  · rw [Lib.cell_of_heap h]; simpa using c2
end Go.Proofs.YtdenehnneloegaaGreatDoor
namespace Go.Proofs.YtdenehnneloegaaGreatDoor
open Go.RowKit Go.Shelf
set_option linter.unusedVariables false
theorem tabIn_of {w V : World} {ho : Option Addr} {hc : Nat} {hd : List ByteArray} {ro : Option Addr} {rc : Nat} {rs : List (List ByteArray)} (hA : StrArg w ho hc hd) (hB : RowsArg w ro rc rs) (hf : fewT hd rs) (hk : Below w.heap.size w V) : TabIn V ho hc hd ro rc rs :=
  ⟨hf.2.1, by have := hf.1.1; omega, hf.1.2.1, by have := hf.2.2; omega, hA.row.kept hk, hB.rows.kept hk, hA.cap, hB.cap, hA.nil, hB.nil⟩
theorem few_in {w V : World} {ho : Option Addr} {hc : Nat} {hd : List ByteArray} {ro : Option Addr} {rc : Nat} {rs : List (List ByteArray)} (hA : StrArg w ho hc hd) (hB : RowsArg w ro rc rs) (hk : Below w.heap.size w V) :
    Calls Tryz.prog 27 #[.agg #[.slice ho hd.length hc, .slice ro rs.length rc]] V fun e w' => ∃ b, e = .returned (.bool b) ∧ (b = true → fewT hd rs) ∧ Below V.heap.size V w' :=
  rfew_any ho hc hd ro rc rs V hA.len hB.len hB.each hA.size (hA.row.kept hk) (hB.rows.kept hk)
theorem tcheck_in {V : World} {ho : Option Addr} {hc : Nat} {hd : List ByteArray} {ro : Option Addr} {rc : Nat} {rs : List (List ByteArray)} (h : TabIn V ho hc hd ro rc rs) :
    Calls Tryz.prog 21 #[.agg #[.slice ho hd.length hc, .slice ro rs.length rc]] V fun e w' => e = .returned (.int .i64 (checkI hd rs)) ∧ Below V.heap.size V w' :=
  check_any ho hc hd ro rc rs V (by have := h.hl; omega) (by have := h.rl; omega) (fun r hr => by have := h.el r hr; omega) h.row h.rows (fun c hc => by
    have := h.size c (List.mem_append_left _ hc); unfold maxLen; omega) (by have := h.sum; omega)
/-- two tables, boxed -/
structure BoxedC (w W : World) (ho : Option Addr) (hn hc : Nat) (ro : Option Addr) (rn rc : Nat) (bo : Option Addr) (bn bc : Nat) (so : Option Addr) (sn sc : Nat) : Prop where
  start : Below w.heap.size w W
  cell : ∀ V, Below W.heap.size W V → (V.cell? ⟨w.heap.size, 0, none⟩ = some (.slice ho hn hc) ∧ V.cell? ⟨w.heap.size, 1, none⟩ = some (.slice ro rn rc)) ∧ V.cell? ⟨w.heap.size + 1, 0, none⟩ = some (.slice bo bn bc) ∧ V.cell? ⟨w.heap.size + 1, 1, none⟩ = some (.slice so sn sc)
theorem boxedC (w : World) (ho : Option Addr) (hn hc : Nat) (ro : Option Addr) (rn rc : Nat) (bo : Option Addr) (bn bc : Nat) (so : Option Addr) (sn sc : Nat) : BoxedC w ((w.alloc (TabO ho hn hc ro rn rc)).alloc (TabO bo bn bc so sn sc)) ho hn hc ro rn rc bo bn bc so sn sc := by
  have hN := two_new w (TabO ho hn hc ro rn rc) (TabO bo bn bc so sn sc)
  exact ⟨two_below _ _ _, fun V hV => ⟨tabs ((hV.block _ (lt_of_heap hN.2.1)).trans hN.2.1), tabs ((hV.block _ (lt_of_heap hN.2.2)).trans hN.2.2)⟩⟩
/-- one table, boxed -/
structure BoxC (w W : World) (ho : Option Addr) (hn hc : Nat) (ro : Option Addr) (rn rc : Nat) : Prop where
  start : Below w.heap.size w W
  cell : ∀ V, Below W.heap.size W V → V.cell? ⟨w.heap.size, 0, none⟩ = some (.slice ho hn hc) ∧ V.cell? ⟨w.heap.size, 1, none⟩ = some (.slice ro rn rc)
theorem boxC (w : World) (ho : Option Addr) (hn hc : Nat) (ro : Option Addr) (rn rc : Nat) : BoxC w (w.alloc (TabO ho hn hc ro rn rc)) ho hn hc ro rn rc := by
  have hN := World.alloc_heap_new w (TabO ho hn hc ro rn rc)
  exact ⟨one_below _ _, fun V hV => tabs ((hV.block _ (lt_of_heap hN)).trans hN)⟩
theorem alignE_self (hd : List ByteArray) (rs : List (List ByteArray)) : alignE hd rs hd rs = checkI hd rs := by
  unfold alignE; split <;> rfl
theorem check_dup {hd : List ByteArray} {rs : List (List ByteArray)} (h : checkI hd rs = 0) : dupL hd = false := by
  cases e : dupL hd with
  | false => rfl
  | true =>
    exfalso
    unfold checkI at h
    rw [e] at h
    split at h
    · cases h
    · split at h
      · cases h
      · simp at h
theorem alignR_self (hd : List ByteArray) (rs : List (List ByteArray)) (rename : Bool) (h : checkI hd rs = 0) : alignR hd rs hd rs rename = diagL hd.length := by
  rw [(align_good hd rs hd rs rename h h).2]
  exact same_align rs rs hd (nodup_of_dup hd (check_dup h)) rename
end Go.Proofs.YtdenehnneloegaaGreatDoor
