/-
  What edits undo, and what they leave: cells that are set, columns that are chosen, columns and rows that are put in.
  Conditions: none.
-/
import Derived.WalkKit
import Derived.Lib.Hide
import Derived.Test.YtpbnggnbjboafaaProg
import Derived.Test.YtpbnggnbjboafaaEMath
namespace Go.Proofs.Ytpbnggnbjboafaa
open Go.RowKit Go.Shelf
set_option linter.unusedVariables false

/-- EditSets -/
theorem sets_is {hd h : List ByteArray} {rs r : List (List ByteArray)} {i k : Int} {c : ByteArray} (e : turnR (fun xs => .ok xs) (fun rs => turL rs i (fun r => setL r k c)) hd rs = .ok (h, r)) :
    h = hd ∧ tiT hd r ∧ cellL r i k = c ∧ (∀ p q, ¬ (p = i ∧ q = k) → cellL r p q = cellL rs p q) ∧ (cellL rs i k).size ≤ 10000 ∧
    turnR (fun xs => .ok xs) (fun rs' => turL rs' i (fun r' => setL r' k (cellL rs i k))) hd r = .ok (hd, rs) := by
  obtain ⟨h0, h1, h2, h3⟩ := turn_is e
  injection h1 with h1
  subst h1
  obtain ⟨a1, a2, x, y, hx, hy, rfl⟩ := tur_mem h2
  obtain ⟨b1, b2, b3, _⟩ := set_mem hy
  obtain ⟨I, rfl⟩ := Int.eq_ofNat_of_zero_le a1
  obtain ⟨K, rfl⟩ := Int.eq_ofNat_of_zero_le b1
  rw [Int.toNat_natCast] at hx
  have hI : I < rs.length := by omega
  have hK : K < x.length := by omega
  have hyy : y = x.set K c := by
    unfold setL at hy
    rw [if_pos ⟨b1, b2⟩, Int.toNat_natCast] at hy
    injection hy with hy
    exact hy.symm
  have hyl : y.length = x.length := b3
  have hold : cellL rs I K = x[K] := cellL_at rs I K x _ hx (List.getElem?_eq_getElem hK)
  have hr : (rs.set I y)[I]? = some y := by rw [List.getElem?_set_self hI]
  have hyk : y[K]? = some c := by rw [hyy, List.getElem?_set_self hK]
  rw [Int.toNat_natCast] at h3 ⊢
  have hxe : rs[I] = x := by obtain ⟨_, e⟩ := List.getElem?_eq_some_iff.1 hx; exact e
  refine ⟨rfl, check_ti h3, cellL_at _ I K y c hr hyk, fun p q hne => ?_, ?_, ?_⟩
  · unfold cellL
    split
    · rename_i hh
      obtain ⟨p, rfl⟩ := Int.eq_ofNat_of_zero_le hh.1
      obtain ⟨q, rfl⟩ := Int.eq_ofNat_of_zero_le hh.2
      rw [Int.toNat_natCast, Int.toNat_natCast]
      by_cases hp : p = I
      · subst hp
        rw [hr, hx]
        have hq : q ≠ K := fun e => hne ⟨rfl, by rw [e]⟩
        show (y[q]?).getD _ = (x[q]?).getD _
        rw [hyy, List.getElem?_set_ne (fun e => hq e.symm)]
      · rw [List.getElem?_set_ne (fun e => hp e.symm)]
    · rfl
  · rw [hold]
    have := (check_parts.1 h0).2.2.2.2.2.2.1 x (List.mem_of_getElem? hx) x[K] (List.getElem_mem hK)
    omega
  · refine turn_mk h3 rfl ?_ h0
    unfold turL
    rw [if_pos ⟨by omega, by rw [List.length_set]; omega⟩, Int.toNat_natCast, hr]
    show emap _ (setL y K (cellL rs I K)) = _
    unfold setL
    rw [if_pos ⟨by omega, by omega⟩, Int.toNat_natCast, hold]
    show Except.ok ((rs.set I y).set I (y.set K x[K])) = Except.ok rs
    congr 1
    rw [hyy, List.set_set, List.set_set, List.set_getElem_self, ← hxe, List.set_getElem_self]
theorem sets_ne {hd : List ByteArray} {rs : List (List ByteArray)} {i k : Int} {c : ByteArray} {x : Int} (e : turnR (fun xs => .ok xs) (fun rs => turL rs i (fun r => setL r k c)) hd rs = .error x) : x ≠ 0 :=
  turn_ne ok_ne (fun y h => by
    unfold turL at h
    split at h
    · split at h
      · rename_i z _
        simp only at h
        cases hz : setL z k c with
        | error u => rw [hz] at h; simp only [emap] at h; injection h with h; subst h; exact set_ne _ hz
        | ok u => rw [hz] at h; cases h
      · injection h with h; subst h; decide
    · injection h with h; subst h; decide) e

/-- EditProject -/
theorem pick_of {α : Type} {l : List α} {ps : List Int} (h : ∀ p ∈ ps, 0 ≤ p ∧ p < (l.length : Int)) : pickL l ps = .ok (ps.filterMap fun p => l[p.toNat]?) := by
  unfold pickL
  rw [if_pos (List.all_eq_true.2 fun p hp => by simp [inB, h p hp])]
theorem pick_val {α : Type} {l o : List α} {ps : List Int} (h : pickL l ps = .ok o) : o = ps.filterMap fun p => l[p.toNat]? := by
  unfold pickL at h
  split at h
  · injection h with h; exact h.symm
  · cases h
theorem pick_out {α : Type} {l : List α} {ps : List Int} {k : Nat} {p : Int} (h : ps[k]? = some p) (hp : ¬ (0 ≤ p ∧ p < (l.length : Int))) : pickL l ps = .error 11 := pick_no l ps k p h hp
/-- what is chosen out of what was chosen -/
theorem pick_pick {α : Type} {l o : List α} {cols more through : List Int} (h : pickL l cols = .ok o) (hm : ∀ p ∈ more, 0 ≤ p ∧ p < (cols.length : Int)) (ht : through = more.filterMap fun p => cols[p.toNat]?) : pickL o more = pickL l through := by
  obtain ⟨h1, h2, _⟩ := pick_mem h
  have hv := pick_val h
  have hc : ∀ p ∈ through, 0 ≤ p ∧ p < (l.length : Int) := fun p hp => by
    rw [ht] at hp
    obtain ⟨q, _, hq⟩ := List.mem_filterMap.1 hp
    exact h1 p (List.mem_of_getElem? hq)
  rw [pick_of (fun p hp => by rw [h2]; exact hm p hp), pick_of hc, ht, List.filterMap_filterMap]
  congr 1
  obtain ⟨ys, e1, e2, e3⟩ := pick_yes l cols (fun k p hp => h1 p (List.mem_of_getElem? hp))
  rw [h] at e1
  injection e1 with e1
  subst e1
  refine filterMap_same more fun p hp => ?_
  obtain ⟨hp0, hp1⟩ := hm p hp
  have hl : p.toNat < cols.length := by omega
  rw [List.getElem?_eq_getElem hl]
  exact e3 p.toNat _ (List.getElem?_eq_getElem hl)
where
  filterMap_same {β γ : Type} (l : List β) {f g : β → Option γ} (h : ∀ x ∈ l, f x = g x) : l.filterMap f = l.filterMap g := by
    induction l with
    | nil => rfl
    | cons x l ih => rw [List.filterMap_cons, List.filterMap_cons, h x List.mem_cons_self, ih (fun y hy => h y (List.mem_cons_of_mem _ hy))]
theorem each_comp {f g h : List ByteArray → Except Int (List ByteArray)} : ∀ {l o : List (List ByteArray)} {k : Nat}, (∀ x ∈ l, ∀ y, f x = .ok y → g y = h x) → eachL (fun _ r => f r) k l = .ok o → eachL (fun _ r => g r) k o = eachL (fun _ r => h r) k l := by
  intro l
  induction l with
  | nil => intro o k _ e; simp only [eachL] at e; injection e with e; subst e; rfl
  | cons x l ih =>
    intro o k hh e
    simp only [eachL] at e
    cases hx : f x with
    | error y => rw [hx] at e; cases e
    | ok y =>
      rw [hx] at e
      simp only at e
      cases hl : eachL (fun _ r => f r) (k + 1) l with
      | error z => rw [hl] at e; cases e
      | ok t =>
        rw [hl] at e
        simp only [emap] at e
        injection e with e
        subst e
        simp only [eachL]
        rw [hh x List.mem_cons_self y hx, ih (fun z hz => hh z (List.mem_cons_of_mem _ hz)) hl]
theorem project_through {hd h : List ByteArray} {rs r : List (List ByteArray)} {cols more through : List Int} (e : turnR (colsH (fun xs => pickL xs cols)) (colsR (fun xs => pickL xs cols)) hd rs = .ok (h, r)) :
    tiT h r ∧ h.length = cols.length ∧ r.length = rs.length ∧
    (∀ (k : Nat) p, more[k]? = some p → ¬ (0 ≤ p ∧ p < (cols.length : Int)) → turnR (colsH (fun xs => pickL xs more)) (colsR (fun xs => pickL xs more)) h r = .error 11) ∧
    ((∀ p ∈ more, 0 ≤ p ∧ p < (cols.length : Int)) → through = more.filterMap (fun p => cols[p.toNat]?) → turnR (colsH (fun xs => pickL xs more)) (colsR (fun xs => pickL xs more)) h r = turnR (colsH (fun xs => pickL xs through)) (colsR (fun xs => pickL xs through)) hd rs) := by
  obtain ⟨h0, h1, h2, h3⟩ := turn_is e
  have hp := (colsH_is h1).1
  refine ⟨check_ti h3, (pick_mem hp).2.1, (each_ok h2).1, fun k p hk hn => ?_, fun hm ht => ?_⟩
  · refine turn_head h3 (colsH_err (pick_out hk ?_))
    rw [(pick_mem hp).2.1]; exact hn
  · have e1 : colsH (fun xs => pickL xs more) h = colsH (fun xs => pickL xs through) hd := by unfold colsH; simp only [pick_pick hp hm ht]
    have e2 : colsR (fun xs => pickL xs more) r = colsR (fun xs => pickL xs through) rs := each_comp (fun x _ y hxy => pick_pick hxy hm ht) h2
    unfold turnR
    rw [if_pos h3, if_pos h0, e1, e2]

/-- EditBack -/
theorem back_cols {hd h cells : List ByteArray} {rs r : List (List ByteArray)} {k : Int} {nm : ByteArray} (e : turnR (fun xs => insL xs k nm) (addR k cells) hd rs = .ok (h, r)) :
    tiT h r ∧ turnR (colsH (fun xs => delL xs k)) (colsR (fun xs => delL xs k)) h r = .ok (hd, rs) ∧ findL h nm = k := by
  obtain ⟨h0, h1, h2, h3⟩ := turn_is e
  obtain ⟨d1, d2⟩ := ins_at h1
  refine ⟨check_ti h3, turn_mk h3 ?_ ?_ h0, ?_⟩
  · rw [colsH_ok d1, if_pos (check_head h0)]
  · unfold addR at h2
    split at h2
    · refine each_back (g := fun _ r => delL r k) (fun i x y _ hy => ?_) h2
      unfold addF at hy
      split at hy
      · exact (ins_at hy).1
      · cases hy
    · cases h2
  · obtain ⟨i1, i2, i3, _⟩ := ins_mem h1
    obtain ⟨j, rfl⟩ := Int.eq_ofNat_of_zero_le i1
    rw [Int.toNat_natCast] at d2
    have hnd := (check_parts.1 h3).2.2.1
    obtain ⟨hi, rfl⟩ := List.getElem?_eq_some_iff.1 d2
    refine firstAt_some _ h j h[j] d2 (by simp) fun i c hij hc => ?_
    obtain ⟨hj', rfl⟩ := List.getElem?_eq_some_iff.1 hc
    refine decide_eq_false fun e => ?_
    exact List.pairwise_iff_getElem.1 hnd i j (by simpa [bytesOf] using hj') (by simpa [bytesOf] using hi) hij (by simp [bytesOf, e])
theorem add_ne {k : Int} {cells : List ByteArray} {rs : List (List ByteArray)} : ∀ e, addR k cells rs = .error e → e ≠ 0 := fun e h => by
  unfold addR at h
  split at h
  · refine each_ne (fun i x y hy => ?_) rs 0 e h
    unfold addF at hy
    split at hy
    · exact ins_ne _ hy
    · injection hy with hy; subst hy; decide
  · injection h with h; subst h; decide
theorem back_rows {hd h x : List ByteArray} {rs r : List (List ByteArray)} {k : Int} (e : turnR (fun xs => .ok xs) (fun rs => insL rs k x) hd rs = .ok (h, r)) :
    h = hd ∧ tiT hd r ∧ turnR (fun xs => .ok xs) (fun rs => delL rs k) hd r = .ok (hd, rs) := by
  obtain ⟨h0, h1, h2, h3⟩ := turn_is e
  obtain ⟨b1, b2⟩ := rows_back (g := fun rs => delL rs k) (fun h => (ins_at h).1) e
  subst b1
  exact ⟨rfl, check_ti h3, b2⟩
end Go.Proofs.Ytpbnggnbjboafaa
