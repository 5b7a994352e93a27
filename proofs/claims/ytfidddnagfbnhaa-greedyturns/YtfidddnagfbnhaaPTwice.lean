/-
  Whether two pairs have the same A, or the same B: what the program answers, by maps of those that it has seen.
  Conditions: lists of at most 2^40 pairs of Go integers.
-/
import Derived.Maps.Own
import Derived.Maps.OwnOps
import Derived.Maps.Views
import Derived.StillTailTactics
import Derived.Deep.RegionWith
import Derived.Deep.Cut
import Derived.Deep.RegionHeld3
import Derived.Test.YtfidddnagfbnhaaProg
import Derived.Test.YtfidddnagfbnhaaPSame
namespace Go.Proofs.Ytfidddnagfbnhaa
open Go.RowKit Go.Shelf Go.Maps
set_option linter.unusedVariables false

/-- numbers that a Go integer holds -/
def okP (l : PL) : Prop := ∀ p ∈ l, (Lit.int .i64 p.1).wf = true ∧ (Lit.int .i64 p.2).wf = true
/-- the map of the first k numbers -/
def seenK (xs : List Int) : Nat → DataW Unit
  | 0 => .map []
  | k + 1 => match xs[k]? with
    | some c => (seenK xs k).put (.int .i64 c) (.lit (.bool true))
    | none => seenK xs k
theorem seenK_map (xs : List Int) (k : Nat) : IsMap (seenK xs k) := by
  induction k with
  | zero => exact isMap_empty
  | succ k ih =>
    unfold seenK
    split
    · exact ih.put _ _
    · exact ih
theorem seenK_next (xs : List Int) (k : Nat) (c : Int) (h : xs[k]? = some c) : seenK xs (k + 1) = (seenK xs k).put (.int .i64 c) (.lit (.bool true)) := by
  rw [seenK, h]
theorem seenK_at (xs : List Int) (k : Nat) (l : Int) : (seenK xs k).atKey (.int .i64 l) (.lit (.bool false)) = .lit (.bool (decide (l ∈ xs.take k))) := by
  induction k with
  | zero => simp [seenK]; rfl
  | succ k ih =>
    cases h : xs[k]? with
    | none =>
      have hk : xs.length ≤ k := List.getElem?_eq_none_iff.1 h
      have e1 : seenK xs (k + 1) = seenK xs k := by rw [seenK, h]
      have e2 : xs.take (k + 1) = xs.take k := by rw [List.take_of_length_le (by omega), List.take_of_length_le hk]
      rw [e1, e2]; exact ih
    | some c =>
      obtain ⟨hk, e⟩ := List.getElem?_eq_some_iff.1 h
      have e2 : xs.take (k + 1) = xs.take k ++ [c] := by rw [List.take_succ_eq_append_getElem hk, e]
      rw [seenK_next xs k c h, e2]
      by_cases hl : l = c
      · rw [hl, atKey_put_same (seenK_map xs k) (by first | exact trivial | constructor | simp [WideAt.IsKeyLit])]; simp
      · rw [atKey_put_other (fun e => hl (by injection e)), ih]; simp [hl]
/-- two pairs have the same A, or the same B -/
def twiceL (l : PL) : Bool := decide (¬ ((l.map Prod.fst).Nodup ∧ (l.map Prod.snd).Nodup))
theorem twice_no (l : PL) (h : ((l.take l.length).map Prod.fst).Nodup) (h' : ((l.take l.length).map Prod.snd).Nodup) : twiceL l = false := by
  rw [List.take_length] at h h'; simp [twiceL, h, h']
theorem nodup_no {α : Type} (xs : List α) (k : Nat) (c : α) (hc : xs[k]? = some c) (h : c ∈ xs.take k) : ¬ xs.Nodup := by
  obtain ⟨hk, e⟩ := List.getElem?_eq_some_iff.1 hc
  intro hn
  rw [← List.take_append_drop k xs, List.nodup_append] at hn
  exact hn.2.2 c h c (by rw [List.drop_eq_getElem_cons hk, e]; simp) rfl
theorem twice_yes (l : PL) (k : Nat) (p : Int × Int) (hp : l[k]? = some p) (h : p.1 ∈ (l.map Prod.fst).take k ∨ p.2 ∈ (l.map Prod.snd).take k) : twiceL l = true := by
  refine decide_eq_true (fun hn => ?_)
  rcases h with h | h
  · exact nodup_no _ k p.1 (by rw [List.getElem?_map, hp]; rfl) h hn.1
  · exact nodup_no _ k p.2 (by rw [List.getElem?_map, hp]; rfl) h hn.2
theorem nodup_next {α : Type} (xs : List α) (k : Nat) (c : α) (hc : xs[k]? = some c) (hn : (xs.take k).Nodup) (h : c ∉ xs.take k) : (xs.take (k + 1)).Nodup := by
  obtain ⟨hk, e⟩ := List.getElem?_eq_some_iff.1 hc
  rw [List.take_succ_eq_append_getElem hk, e, List.nodup_append]
  exact ⟨hn, by simp, fun a ha b hb => by simp at hb; subst hb; exact fun e => h (by rw [← e]; exact ha)⟩
theorem plainElem_bool_inv {H : Type} {P : Program} {e : TypeId} (he : P.underlying e = some .bool) {v : Value} {z : DataW H × List MemPlace} (h : plainElem P e v = some z) : ∃ a, v = .bool a ∧ z = (.lit (.bool a), []) := by
  unfold plainElem at h
  rw [he] at h
  split at h
  · cases h; exact ⟨_, rfl, rfl⟩
  · rename_i h1; cases h1
  · rename_i h1; cases h1
  · cases h
theorem lookup_bool {H : Type} {P : Program} {w : World} {k t e : TypeId} {b n : Nat} {D : DataW H} (h : w.ownsMap P k (plainElem P e) b n D) (K : Keyed P k) (ht : P.underlying t = some (.map k e)) (he : P.underlying e = some .bool) (hz : (zeroValue e).run P w = .ok (.bool false) w)
    {key : Value} {kl : Lit} (hkey : keyOf P k key = some kl) : ∃ c, (Instr.lookup t (.map (some b)) key false).run P w = .ok (.bool c) w ∧ D.atKey kl (.lit (.bool false)) = .lit (.bool c) := by
  obtain ⟨v, ps, hrun, hv⟩ := h.lookup K ht hz (plainElem_bool he false) hkey
  obtain ⟨c, rfl, hc⟩ := plainElem_bool_inv he hv
  simp only [Prod.mk.injEq] at hc
  exact ⟨c, hrun, hc.1⟩
/-- what a look into the map of those that were seen tells -/
theorem seen_look {w : World} {b k : Nat} {xs : List Int} (h : w.ownsMap Try.prog 3 (plainElem Try.prog 4) b k (seenK xs k)) (x : Int) (hx : (Lit.int .i64 x).wf = true) :
    (Instr.lookup 54 (.map (some b)) (.int .i64 x) false).run Try.prog w = .ok (.bool (decide (x ∈ xs.take k))) w := by
  obtain ⟨c, hrun, hat⟩ := lookup_bool h (int_keyed Try.underlying3) Try.underlying54 Try.underlying4 (Try.zeroValue4 _) (keyOf_int_mk Try.underlying3 hx)
  rw [seenK_at] at hat
  have : decide (x ∈ xs.take k) = c := by injection hat with h1; injection h1
  rw [this]; exact hrun

end Go.Proofs.Ytfidddnagfbnhaa
