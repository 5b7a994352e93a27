/-
  A list of tables as its cells: read out of memory, and made anew by appending.
  Conditions: none.
-/
import Derived.Deep.OwnRows
import Derived.Deep.SlicePairs
import Derived.WalkKit
import Derived.WalkMore
import Derived.OwnWalk
import Derived.Lib.Hide
import Derived.Lib.SmallJoins
import Derived.Test.YtmomjhnbhckhpaaDoorProg
import Derived.Test.YtmomjhnbhckhpaaDoorKCands
namespace Go.Proofs.YtmomjhnbhckhpaaDoor
open Go.RowKit Go.Shelf Go.Deep Go.Lib
set_option linter.unusedVariables false

/-- a table's two slices -/
def TabV (w : World) (t : Tab) (v : Value × Value) : Prop := ∃ (ho : Option Addr) (hc : Nat) (ro : Option Addr) (rc : Nat), v = (.slice ho t.1.length hc, .slice ro t.2.length rc) ∧ StrRow w ho t.1 ∧ RowsAt w ro t.2
theorem TabV.kept {w w' : World} {t : Tab} {v : Value × Value} (h : TabV w t v) (hB : Below w.heap.size w w') : TabV w' t v := by
  obtain ⟨ho, hc, ro, rc, h1, h2, h3⟩ := h
  exact ⟨ho, hc, ro, rc, h1, h2.kept hB, h3.kept hB⟩
def flatT (vs : List (Value × Value)) : List Value := vs.flatMap fun v => [v.1, v.2]
theorem flat_len (vs : List (Value × Value)) : (flatT vs).length = vs.length * 2 := by
  induction vs with
  | nil => rfl
  | cons a l ih => show (flatT l).length + 2 = _; rw [ih, List.length_cons]; omega
theorem flat_app (l m : List (Value × Value)) : flatT (l ++ m) = flatT l ++ flatT m := by simp [flatT]
theorem flat_two : ∀ (l : List (Value × Value)) (k : Nat) (v : Value × Value), l[k]? = some v → (flatT l)[k * 2]? = some v.1 ∧ (flatT l)[k * 2 + 1]? = some v.2
  | a :: l, 0, c, h => by
    simp at h; subst h; exact ⟨rfl, rfl⟩
  | a :: l, k + 1, c, h => by
    have h1 := flat_two l k c (by simpa using h)
    have e : flatT (a :: l) = a.1 :: a.2 :: flatT l := rfl
    rw [e, show (k + 1) * 2 = k * 2 + 1 + 1 by omega, List.getElem?_cons_succ, List.getElem?_cons_succ]
    exact ⟨h1.1, by rw [List.getElem?_cons_succ, List.getElem?_cons_succ]; exact h1.2⟩
  | [], k, c, h => by simp at h
theorem flat_at : ∀ (l : List (Value × Value)) (j : Nat) (u : Value), (flatT l)[j]? = some u → ∃ i v, l[i]? = some v ∧ (j = i * 2 ∧ u = v.1 ∨ j = i * 2 + 1 ∧ u = v.2)
  | [], j, u, h => by simp [flatT] at h
  | a :: l, 0, u, h => ⟨0, a, rfl, .inl ⟨rfl, by have : (flatT (a :: l))[0]? = some a.1 := rfl; rw [this] at h; exact (Option.some.inj h).symm⟩⟩
  | a :: l, 1, u, h => ⟨0, a, rfl, .inr ⟨rfl, by have : (flatT (a :: l))[1]? = some a.2 := rfl; rw [this] at h; exact (Option.some.inj h).symm⟩⟩
  | a :: l, j + 2, u, h => by
    obtain ⟨i, v, h1, h2⟩ := flat_at l j u h
    exact ⟨i + 1, v, by simpa using h1, by rcases h2 with ⟨e1, e2⟩ | ⟨e1, e2⟩; exact .inl ⟨by omega, e2⟩; exact .inr ⟨by omega, e2⟩⟩
def FitV (w : World) (ts : List Tab) (vs : List (Value × Value)) : Prop := vs.length = ts.length ∧ (∀ (i : Nat) t v, ts[i]? = some t → vs[i]? = some v → TabV w t v) ∧ ∀ u ∈ flatT vs, u.oneCell' = true
theorem FitV.kept {w w' : World} {ts : List Tab} {vs : List (Value × Value)} (h : FitV w ts vs) (hB : Below w.heap.size w w') : FitV w' ts vs := ⟨h.1, fun i t v h1 h2 => (h.2.1 i t v h1 h2).kept hB, h.2.2⟩
def SrcT (w : World) (ao : Option Addr) (cap n : Nat) (L : List Value) : Prop := (ao = none → n = 0 ∧ cap = 0) ∧ ∀ ad, ao = some ad → ∀ (j : Nat) u, L[j]? = some u → w.cell? (ad.add j) = some u
theorem SrcT.kept {w w' : World} {ao : Option Addr} {cap n : Nat} {L : List Value} (h : SrcT w ao cap n L) (hl : ∀ ad, ao = some ad → L ≠ [] → ad.block < w.heap.size) (hB : Below w.heap.size w w') : SrcT w' ao cap n L := by
  refine ⟨h.1, fun ad e j u hu => ?_⟩
  have hne : L ≠ [] := by intro e; rw [e] at hu; simp at hu
  exact (hB.cell (p := ad.add j) (by rw [add_block]; exact hl ad e hne)).trans (h.2 ad e j u hu)
theorem tabs_vals {w : World} {lo : Option Addr} {lc : Nat} {ts : List Tab} (h : TabsAt w lo ts) (hn : lo = none → lc = 0) : ∃ vs, FitV w ts vs ∧ SrcT w lo lc ts.length (flatT vs) ∧ ∀ ad, lo = some ad → flatT vs ≠ [] → ad.block < w.heap.size := by
  rcases h with rfl | ⟨b, o, rfl, hb, hcell⟩
  · exact ⟨[], ⟨rfl, (fun i t v h => by simp at h), (fun u hu => by simp [flatT] at hu)⟩, ⟨fun e => ⟨rfl, hn e⟩, fun ad e j u hu => by simp [flatT] at hu⟩, fun ad e h => absurd rfl h⟩
  · have each : ∀ i, i < ts.length → ∃ v : Value × Value, w.cell? ⟨b, o + i * 2, none⟩ = some v.1 ∧ w.cell? ⟨b, o + i * 2 + 1, none⟩ = some v.2 ∧ (∀ t, ts[i]? = some t → TabV w t v) ∧ v.1.oneCell' = true ∧ v.2.oneCell' = true := fun i hi => by
      obtain ⟨ho, hc, ro, rc, q1, q2, q3, q4⟩ := hcell i ts[i] (List.getElem?_eq_getElem hi)
      exact ⟨(_, _), q1, q2, (fun t ht => by rw [List.getElem?_eq_getElem hi] at ht; cases ht; exact ⟨ho, hc, ro, rc, rfl, q3, q4⟩), rfl, rfl⟩
    obtain ⟨q, hq⟩ := choose_lt each
    have hat : ∀ (i : Nat) p, ((List.range ts.length).map q)[i]? = some p → i < ts.length ∧ p = q i := fun i p hp => by
      rw [List.getElem?_map] at hp
      obtain ⟨j, hj, rfl⟩ := Option.map_eq_some_iff.1 hp
      obtain ⟨hi, hij⟩ := List.getElem?_eq_some_iff.1 hj
      simp only [List.length_range] at hi
      rw [List.getElem_range] at hij
      subst hij
      exact ⟨hi, rfl⟩
    refine ⟨(List.range ts.length).map q, ⟨by simp, fun i t v ht hv => ?_, fun u hu => ?_⟩, ⟨(fun e => by cases e), fun ad e j u hu => ?_⟩, fun ad e _ => by cases e; exact hb⟩
    · obtain ⟨hi, rfl⟩ := hat i v hv
      exact (hq i hi).2.2.1 t ht
    · unfold flatT at hu
      rw [List.mem_flatMap] at hu
      obtain ⟨v, hv, hu⟩ := hu
      obtain ⟨i, hiv⟩ := List.mem_iff_getElem?.1 hv
      obtain ⟨hi, rfl⟩ := hat i v hiv
      simp only [List.mem_cons, List.not_mem_nil, or_false] at hu
      rcases hu with rfl | rfl
      · exact (hq i hi).2.2.2.1
      · exact (hq i hi).2.2.2.2
    · cases e
      obtain ⟨i, v, hv, hh⟩ := flat_at _ j u hu
      obtain ⟨hi, rfl⟩ := hat i v hv
      have ea : ∀ j, (⟨b, o, none⟩ : Addr).add j = ⟨b, o + j, none⟩ := fun j => by simp [Addr.add]
      rw [ea]
      rcases hh with ⟨rfl, rfl⟩ | ⟨rfl, rfl⟩
      · exact (hq i hi).1
      · exact (hq i hi).2.1
theorem tabs_of_own {w : World} {base : Nat} {e : TypeId} {ao : Option Addr} {n cap : Nat} {ts : List Tab} {vs : List (Value × Value)} {L : List Value} (h : w.ownsRow base e 2 (.slice ao n cap) n L) (hL : L = flatT vs) (hn : ts.length = n) (hV : FitV w ts vs) : TabsAt w ao ts := by
  subst hL
  rcases h.2 with ⟨hv, h0⟩ | ⟨g, c, cur, hv, hb, hg, _⟩
  · exact .inl (List.eq_nil_of_length_eq_zero (by omega))
  · cases hv
    refine .inr ⟨g, 0, rfl, lt_of_heap hg, fun i t ht => ?_⟩
    have hi : i < ts.length := (List.getElem?_eq_some_iff.1 ht).1
    obtain ⟨v, hv⟩ : ∃ v, vs[i]? = some v := ⟨_, List.getElem?_eq_getElem (by rw [hV.1]; exact hi)⟩
    obtain ⟨q1, q2⟩ := flat_two vs i v hv
    obtain ⟨ho, hc, ro, rc, rfl, h2, h3⟩ := hV.2.1 i t v ht hv
    have c1 := h.cellAt (i * 2) (by omega)
    have c2 := h.cellAt (i * 2 + 1) (by omega)
    rw [q1] at c1
    rw [q2] at c2
    rw [Nat.zero_add]
    exact ⟨ho, hc, ro, rc, c1, c2, h2, h3⟩
theorem fit_snoc {w : World} {ts : List Tab} {vs : List (Value × Value)} {t : Tab} {v : Value × Value} (h : FitV w ts vs) (k : TabV w t v) : FitV w (ts ++ [t]) (vs ++ [v]) := by
  refine ⟨by simp [h.1], fun i t' v' ht hv => ?_, fun u hu => ?_⟩
  · rw [List.getElem?_append] at ht hv
    rw [h.1] at hv
    split at ht
    · rename_i hi
      rw [if_pos hi] at hv
      exact h.2.1 i t' v' ht hv
    · rename_i hi
      rw [if_neg hi] at hv
      match hz : i - ts.length, ht, hv with
      | 0, ht, hv => simp at ht hv; subst ht hv; exact k
      | m + 1, ht, hv => simp at ht
  · rw [flat_app, List.mem_append] at hu
    rcases hu with hu | hu
    · exact h.2.2 u hu
    · obtain ⟨ho, hc, ro, rc, rfl, _, _⟩ := k
      simp [flatT] at hu
      rcases hu with rfl | rfl <;> rfl
end Go.Proofs.YtmomjhnbhckhpaaDoor
