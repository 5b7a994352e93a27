/-
  The first place of each column, as the program maps it; the parts of a row's key: mathematics.
  Conditions: lists of at most 2^30 columns that Go integers hold.
-/
import Derived.Maps.Own
import Derived.Maps.OwnOps
import Derived.Maps.OwnSet
import Derived.Maps.Views
import Derived.IntWalk
import Derived.WalkArith
import Derived.OwnWalk
import Derived.Deep.Cut
import Derived.Test.YtmomjhnbhckhpaaDoorProg
import Derived.Test.YtmomjhnbhckhpaaDoorTRest
import Derived.Test.YtmomjhnbhckhpaaDoorPBase
import Derived.Test.YtmomjhnbhckhpaaDoorIMath
namespace Go.Proofs.YtmomjhnbhckhpaaDoor
open Go.RowKit Go.Shelf Go.Maps
set_option linter.unusedVariables false

theorem ownsMap_below {H : Type} {P : Program} {k : TypeId} {R : Value → Option (DataW H × List MemPlace)} {b n : Nat} {D : DataW H} {w w' : World} (h : w.ownsMap P k R b n D) (hB : Below w.heap.size w w') : w'.ownsMap P k R b n D :=
  h.kept (row := none) ⟨hB.os, hB.tape, hB.output, hB.size, fun k hk _ => hB.block k hk⟩ (by simp)
theorem keyI (x : Int) : WideAt.IsKeyLit (.int .i64 x) := by first | exact trivial | constructor | simp [WideAt.IsKeyLit]
/-- the A of the first pair that has a B -/
def firstB (l : PL) (z : Int) : Option Int := (l.find? (fun p => p.2 == z)).map Prod.fst
theorem firstB_snoc (l : PL) (p : Int × Int) (z : Int) : firstB (l ++ [p]) z = (firstB l z).or (if p.2 = z then some p.1 else none) := by
  unfold firstB
  rw [List.find?_append]
  cases h : l.find? (fun p => p.2 == z) with
  | some q => rfl
  | none =>
    by_cases e : p.2 = z
    · simp [e]
    · simp [e]
structure FirstIs (D : DataW Unit) (l : PL) : Prop where
  map : IsMap D
  look : ∀ z, D.atKey (.int .i64 z) (.lit (.int .i64 0)) = .lit (.int .i64 ((firstB l z).getD 0))
  here : ∀ z, has D (.int .i64 z) = (firstB l z).isSome
theorem FirstIs.empty : FirstIs (.map []) [] := ⟨isMap_empty, fun z => rfl, fun z => rfl⟩
theorem FirstIs.put {D : DataW Unit} {l : PL} (h : FirstIs D l) (p : Int × Int) (hno : firstB l p.2 = none) : FirstIs (D.put (.int .i64 p.2) (.lit (.int .i64 p.1))) (l ++ [p]) := by
  refine ⟨h.map.put _ _, fun z => ?_, fun z => ?_⟩
  · rw [firstB_snoc]
    by_cases e : p.2 = z
    · subst e
      rw [atKey_put_same h.map (keyI _), hno]; simp
    · rw [atKey_put_other (fun e' => e (by injection e' with _ e2; exact e2.symm)), h.look]; simp [e]
  · rw [firstB_snoc]
    by_cases e : p.2 = z
    · subst e
      rw [has_put_same h.map (keyI _), hno]; simp
    · rw [has_put_other (fun e' => e (by injection e' with _ e2; exact e2.symm)), h.here]; simp [e]
theorem FirstIs.skip {D : DataW Unit} {l : PL} (h : FirstIs D l) (p : Int × Int) (a : Int) (hyes : firstB l p.2 = some a) : FirstIs D (l ++ [p]) := by
  have key : ∀ z, firstB (l ++ [p]) z = firstB l z := fun z => by
    rw [firstB_snoc]
    by_cases e : p.2 = z
    · subst e; rw [hyes]; rfl
    · simp [e]
  exact ⟨h.map, fun z => by rw [key]; exact h.look z, fun z => by rw [key]; exact h.here z⟩
set_option maxRecDepth 100000 in
theorem first_look {w : World} {b k : Nat} {D : DataW Unit} {l : PL} (h : w.ownsMap Tryd.prog 3 (plainElem Tryd.prog 3) b k D) (hS : FirstIs D l) (x : Int) (hx : (Lit.int .i64 x).wf = true) :
    (Instr.lookup 80 (.map (some b)) (.int .i64 x) true).run Tryd.prog w = .ok (.tuple #[.int .i64 ((firstB l x).getD 0), .bool (firstB l x).isSome]) w := by
  obtain ⟨v, ps, hrun, hv⟩ := h.look_ok (int_keyed Tryd.underlying3) Tryd.underlying80 (z := .int .i64 0) (Tryd.zeroValue3 _) (plainElem_int Tryd.underlying3 (by decide)) (keyOf_int_mk Tryd.underlying3 hx)
  obtain ⟨c, rfl, hc, _⟩ := plainElem_int_inv Tryd.underlying3 hv
  simp only [Prod.mk.injEq] at hc
  rw [hS.look] at hc
  have e : (firstB l x).getD 0 = c := by have := hc.1; injection this with h1; injection h1
  rw [hS.here] at hrun
  rw [e]; exact hrun
/-- the columns, each behind its place -/
def colsP (cols : List Int) : List (Int × Int) := cols.zipIdx.map fun p => ((p.2 : Int), p.1)
theorem colsP_len (cols : List Int) : (colsP cols).length = cols.length := by simp [colsP]
theorem colsP_at (cols : List Int) (i : Nat) : (colsP cols)[i]? = cols[i]?.map fun c => ((i : Int), c) := by
  unfold colsP
  rw [List.getElem?_map, List.getElem?_zipIdx]
  cases cols[i]? <;> simp
theorem first_place (cols : List Int) (c a : Int) (h : firstB (colsP cols) c = some a) : ∃ i : Nat, a = i ∧ cols[i]? = some c ∧ ∀ j : Nat, j < i → cols[j]? ≠ some c := by
  unfold firstB at h
  obtain ⟨p, hp, e⟩ := Option.map_eq_some_iff.1 h
  rw [List.find?_eq_some_iff_getElem] at hp
  obtain ⟨h1, i, hi, h2, h3⟩ := hp
  have h4 := colsP_at cols i
  rw [List.getElem?_eq_getElem hi, h2] at h4
  have hil : i < cols.length := by rw [← colsP_len]; exact hi
  rw [List.getElem?_eq_getElem hil] at h4
  simp only [Option.map_some, Option.some.injEq] at h4
  rw [h4] at e h1
  simp only [beq_iff_eq] at h1
  refine ⟨i, e.symm, by rw [List.getElem?_eq_getElem hil, h1], fun j hj hc => ?_⟩
  have h5 := h3 j hj
  have h6 := colsP_at cols j
  rw [List.getElem?_eq_getElem (by omega), hc] at h6
  simp only [Option.map_some, Option.some.injEq] at h6
  rw [h6] at h5
  simp at h5
theorem first_here (cols : List Int) (c : Int) (i : Nat) (h : cols[i]? = some c) : ∃ j : Nat, firstB (colsP cols) c = some (j : Int) ∧ j ≤ i ∧ cols[j]? = some c := by
  cases hf : firstB (colsP cols) c with
  | none =>
    unfold firstB at hf
    rw [Option.map_eq_none_iff, List.find?_eq_none] at hf
    have hm : ((i : Int), c) ∈ colsP cols := List.mem_of_getElem? (by rw [colsP_at, h]; rfl)
    exact absurd (hf _ hm) (by simp)
  | some a =>
    obtain ⟨j, rfl, h1, h2⟩ := first_place cols c a hf
    refine ⟨j, rfl, ?_, h1⟩
    rcases Nat.lt_or_ge i j with h3 | h3
    · exact absurd h (h2 i h3)
    · exact h3
/-- the text at a place of a key -/
def placeC (rs : List (List ByteArray)) (cols : List Int) (row : Int) (i : Nat) : ByteArray := cellL rs row (cols.getD i 0)
/-- is a place the first one of its column? -/
def isFirst (cols : List Int) (i : Nat) : Bool := decide (firstB (colsP cols) (cols.getD i 0) = some (i : Int))
/-- the places of a row's parts -/
def spotsL (rs : List (List ByteArray)) (cols : List Int) (row : Int) : List Nat := (List.range cols.length).filter fun i => isFirst cols i && decide (placeC rs cols row i ≠ ByteArray.empty)
def partsL (rs : List (List ByteArray)) (cols : List Int) (row : Int) : List Part := partsFrom (isFirst cols) (placeC rs cols row) 0 cols.length
theorem parts_filter (first : Nat → Bool) (cell : Nat → ByteArray) : ∀ n i, partsFrom first cell i n = ((List.range' i n).filter fun j => first j && decide (cell j ≠ ByteArray.empty)).map fun j => (j, cell j)
  | 0, i => rfl
  | n + 1, i => by
    have ih := parts_filter first cell n (i + 1)
    rw [List.range'_succ, List.filter_cons]
    unfold partsFrom
    by_cases h1 : first i = true
    · by_cases h2 : cell i = ByteArray.empty
      · rw [if_neg (by simp [h2]), if_neg (by simp [h2])]; exact ih
      · rw [if_pos ⟨h1, h2⟩, if_pos (by simp [h1, h2]), ih]; rfl
    · rw [if_neg (by simp [h1]), if_neg (by simp [h1])]; exact ih
theorem parts_spots (rs : List (List ByteArray)) (cols : List Int) (row : Int) : partsL rs cols row = (spotsL rs cols row).map fun i => (i, placeC rs cols row i) := by
  unfold partsL spotsL
  rw [parts_filter, List.range_eq_range']
theorem key_places (rs : List (List ByteArray)) (cols : List Int) (row : Int) : cols.map (cellL rs row) = (List.range' 0 cols.length).map (placeC rs cols row) := by
  apply List.ext_getElem?
  intro i
  by_cases h : i < cols.length
  · simp [h, placeC, List.getD_eq_getElem?_getD]
  · simp [h]
/-- parts stand as the keys do -/
theorem parts_cmp (rs : List (List ByteArray)) (cols : List Int) (a b : Int) : lexH partC (partsL rs cols a) (partsL rs cols b) = keyC (cols.map (cellL rs a)) (cols.map (cellL rs b)) := by
  rw [key_places, key_places]
  refine parts_key (isFirst cols) (placeC rs cols a) (placeC rs cols b) cols.length (fun i hi hf => ?_) cols.length 0 (by omega) (fun j hj => by omega)
  have hc : cols[i]? = some (cols.getD i 0) := by simp [hi, List.getD_eq_getElem?_getD]
  obtain ⟨j, h1, h2, h3⟩ := first_here cols _ i hc
  have hne : j ≠ i := fun e => by
    unfold isFirst at hf
    have := of_decide_eq_false hf
    exact this (by rw [h1, e])
  have e : cols.getD j 0 = cols.getD i 0 := by rw [List.getD_eq_getElem?_getD, h3]; rfl
  exact ⟨j, by omega, by unfold placeC; rw [e], by unfold placeC; rw [e]⟩
/-- the place of a column's part, if it has one -/
def spotO (rs : List (List ByteArray)) (cols : List Int) (row : Int) (c : Nat) : Option Nat := match firstB (colsP cols) c with | some a => if cellL rs row c = ByteArray.empty then none else some a.toNat | none => none
/-- the places, in order of the row's columns -/
def foundL (rs : List (List ByteArray)) (cols : List Int) (row : Int) (k : Nat) : List Nat := (List.range k).filterMap (spotO rs cols row)
theorem spot_is (rs : List (List ByteArray)) (cols : List Int) (row : Int) (c i : Nat) (h : spotO rs cols row c = some i) : firstB (colsP cols) c = some (i : Int) ∧ cellL rs row c ≠ ByteArray.empty ∧ cols[i]? = some (c : Int) := by
  unfold spotO at h
  split at h
  · rename_i a ha
    split at h
    · cases h
    · rename_i hc
      obtain ⟨j, rfl, h1, h2⟩ := first_place cols _ _ ha
      simp at h; subst h
      exact ⟨ha, hc, h1⟩
  · cases h
theorem rise_unique : ∀ (A B : List Nat), A.Pairwise (· < ·) → B.Pairwise (· < ·) → (∀ x, x ∈ A ↔ x ∈ B) → A = B
  | [], [], _, _, _ => rfl
  | [], b :: B, _, _, h => by have := (h b).2 List.mem_cons_self; simp at this
  | a :: A, [], _, _, h => by have := (h a).1 List.mem_cons_self; simp at this
  | a :: A, b :: B, hA, hB, h => by
    have hA2 := List.pairwise_cons.1 hA
    have hB2 := List.pairwise_cons.1 hB
    have e : a = b := by
      rcases List.mem_cons.1 ((h a).1 List.mem_cons_self) with e | h1
      · exact e
      · rcases List.mem_cons.1 ((h b).2 List.mem_cons_self) with e | h2
        · exact e.symm
        · have := hB2.1 a h1; have := hA2.1 b h2; omega
    subst e
    congr 1
    refine rise_unique A B hA2.2 hB2.2 fun x => ?_
    constructor
    · intro hx
      rcases List.mem_cons.1 ((h x).1 (List.mem_cons_of_mem _ hx)) with e | h1
      · have := hA2.1 x hx; omega
      · exact h1
    · intro hx
      rcases List.mem_cons.1 ((h x).2 (List.mem_cons_of_mem _ hx)) with e | h1
      · have := hB2.1 x hx; omega
      · exact h1
theorem cell_inside (rs : List (List ByteArray)) (row : Nat) (r : List ByteArray) (hr : rs[row]? = some r) (c : Int) (h : cellL rs row c ≠ ByteArray.empty) : 0 ≤ c ∧ c.toNat < r.length := by
  unfold cellL at h
  split at h
  · rename_i hh
    refine ⟨hh.2, ?_⟩
    rcases Nat.lt_or_ge c.toNat r.length with h1 | h1
    · exact h1
    · exfalso
      apply h
      simp [hr, List.getElem?_eq_none h1]; rfl
  · exact absurd rfl h
theorem found_sorted (rs : List (List ByteArray)) (cols : List Int) (row : Nat) (r : List ByteArray) (hr : rs[row]? = some r) : ((foundL rs cols row r.length).mergeSort fun x y => decide (x ≤ y)) = spotsL rs cols row := by
  have hnd : (foundL rs cols row r.length).Nodup := by
    unfold foundL
    rw [List.Nodup, List.pairwise_filterMap]
    refine List.Pairwise.imp_of_mem (R := fun a b => a < b) (fun {a b} _ _ hab i hi j hj e => ?_) List.pairwise_lt_range
    subst e
    have h1 := (spot_is rs cols row a _ hi).2.2
    have h2 := (spot_is rs cols row b _ hj).2.2
    rw [h1] at h2
    simp at h2; omega
  have hs := List.pairwise_mergeSort (le := fun x y : Nat => decide (x ≤ y)) (by intro a b c h k; simp at h k ⊢; omega) (by intro a b; simp; omega) (foundL rs cols row r.length)
  have hp := List.mergeSort_perm (foundL rs cols row r.length) fun x y => decide (x ≤ y)
  refine rise_unique _ _ ?_ (List.pairwise_lt_range.filter _) fun x => ?_
  · have hn2 := hp.nodup_iff.2 hnd
    refine (hs.and hn2).imp fun {a b} h => ?_
    have := of_decide_eq_true h.1
    have := h.2
    omega
  · rw [hp.mem_iff]
    unfold foundL spotsL
    rw [List.mem_filterMap, List.mem_filter, List.mem_range]
    constructor
    · rintro ⟨c, hc, h⟩
      obtain ⟨h1, h2, h3⟩ := spot_is rs cols row c x h
      have hx := (List.getElem?_eq_some_iff.1 h3).1
      have e : cols.getD x 0 = (c : Int) := by rw [List.getD_eq_getElem?_getD, h3]; rfl
      refine ⟨hx, ?_⟩
      rw [Bool.and_eq_true]
      unfold isFirst placeC
      rw [e]
      exact ⟨decide_eq_true h1, decide_eq_true h2⟩
    · rintro ⟨hx, h⟩
      rw [Bool.and_eq_true] at h
      have h1 := of_decide_eq_true h.1
      have h2 := of_decide_eq_true h.2
      unfold placeC at h2
      obtain ⟨h3, h4⟩ := cell_inside rs row r hr _ h2
      obtain ⟨c, hc⟩ := Int.eq_ofNat_of_zero_le h3
      rw [hc] at h1 h2 h4
      refine ⟨c, List.mem_range.2 (by simpa using h4), ?_⟩
      unfold spotO
      rw [show ((c : Nat) : Int) = Int.ofNat c from rfl] at *
      rw [h1]
      simp only
      rw [if_neg h2]; rfl
theorem take_colsP (cols : List Int) (k : Nat) (c : Int) (hc : cols[k]? = some c) : (colsP cols).take (k + 1) = (colsP cols).take k ++ [((k : Int), c)] := by
  have h : (colsP cols)[k]? = some ((k : Int), c) := by rw [colsP_at, hc]; rfl
  obtain ⟨h1, e⟩ := List.getElem?_eq_some_iff.1 h
  rw [List.take_succ_eq_append_getElem h1, e]
theorem run_makeMap_hintI (n : Int) (w : World) : (Instr.makeMap 80 (some (.int .i64 n))).run Tryd.prog w = .ok (.map (some w.heap.size)) (w.alloc (.map #[] 0)) := by
  simp [Instr.makeMap, run_underlying Tryd.underlying80, asInt, newObj, go_sem]
  rfl
/-- the map of the first places -/
def FirstsC (cols : List Int) (w : World) (e : Ending) (w' : World) : Prop := ∃ B D, e = .returned (.map (some B)) ∧ w.heap.size ≤ B ∧ w'.ownsMap Tryd.prog 3 (plainElem Tryd.prog 3) B cols.length D ∧ FirstIs D (colsP cols) ∧ Below w.heap.size w w'

set_option maxRecDepth 100000 in
set_option maxHeartbeats 2000000 in
theorem firstsC_any (ao : Option Addr) (ca : Nat) (cols : List Int) (w : World) (hn : cols.length ≤ 1073741824) (hx : ∀ c ∈ cols, (Lit.int .i64 c).wf = true) (hR : IntsAt w ao cols) :
    Calls Tryd.prog 52 #[.slice ao cols.length ca] w (FirstsC cols w) := by
  have HRo := Lib.hid hR
  have HXo := Lib.hid hx
  have hmm := run_makeMap_hintI
  clear hR hx
  go_enter Tryd.func52, Tryd.ntmps52
  go_wp2_with fail
  have HO : Hid ((w.alloc (.map #[] 0)).ownsMap Tryd.prog 3 (plainElem Tryd.prog 3) w.heap.size 0 (.map [] : DataW Unit)) := Lib.hid (World.ownsMap_made w _ _ _)
  have HB : Hid (Below w.heap.size w (w.alloc (.map #[] 0))) := Lib.hid ((Below.refl _ w).alloc (Nat.le_refl _) _)
  go_loopw [13] (fun i wr => ∃ (k : Nat) (D : DataW Unit), k ≤ cols.length ∧ i = .int .i64 k ∧ Hid (Below w.heap.size w wr) ∧ Hid (wr.ownsMap Tryd.prog 3 (plainElem Tryd.prog 3) w.heap.size k D) ∧ Hid (FirstIs D ((colsP cols).take k))) (fun i _ => cols.length - (intOf i).toNat)
  case atStart => exact ⟨0, _, Nat.zero_le _, rfl, HB, HO, Lib.hid FirstIs.empty⟩
  case round =>
    obtain ⟨k, D, hk, rfl, HB, HO, HD⟩ := hrel
    by_cases hlt : k < cols.length
    · obtain ⟨x, hx⟩ : ∃ x, cols[k]? = some x := ⟨_, List.getElem?_eq_getElem hlt⟩
      rcases (HRo.out.kept HB.out) with h0 | ⟨A, rfl, hA, hcell⟩
      · rw [h0] at hx; simp at hx
      have hc1 := hcell k _ hx
      have HW := Lib.hid (HXo.out _ (List.mem_of_getElem? hx))
      have HTk := Lib.hid (take_colsP cols k x hx)
      have hlook := first_look HO.out HD.out x HW.out
      have HP := Lib.hid (fun h => HD.out.put ((k : Int), x) h)
      have HSk := Lib.hid (fun a h => HD.out.skip ((k : Int), x) a h)
      have hwk : (Lit.int .i64 (k : Int)).wf = true := Go.WalkArith.wf_i64 (n := (k : Int)) (by omega)
      clear hcell hx
      dsimp only at HP HSk
      generalize firstB ((colsP cols).take k) x = fx at hlook HP HSk
      cases fx with
      | none =>
        have HD2 := Lib.hid (HP.out rfl)
        have hkm : k < maxLen := by unfold maxLen; omega
        have HK := Lib.hid (keyOf_int_mk (P := Tryd.prog) Tryd.underlying3 HW.out)
        have HE := Lib.hid (plainElem_int (H := Unit) (P := Tryd.prog) Tryd.underlying3 hwk)
        go_wp2_with (at_mapUpdate; refine wpList_mapUpdate_own _ rfl _ _ _ 80 rfl 3 3 (int_keyed Tryd.underlying3) Tryd.underlying80 _ w.heap.size k D rfl HO.out hkm _ _ (.int .i64 x) rfl rfl HK.out (.lit (.int .i64 (k : Int))) [] HE.out ?_; intro w3 ho hg)
        have HO3 := Lib.hid ho
        have HB3 := Lib.hid (HB.out.grown hg HB.out.size (fun k h => by cases h; exact Nat.le_refl _))
        have HD3 : Hid (FirstIs _ ((colsP cols).take (k + 1))) := Lib.hid (by rw [HTk.out]; exact HD2.out)
        clear ho hg hlook
        go_wp2_with fail
        go_roundw
        case rel => exact ⟨k + 1, _, by omega, by go_num, HB3, HO3, HD3⟩
        case measure => simp [intOf]; omega
      | some a =>
        have HD3 : Hid (FirstIs D ((colsP cols).take (k + 1))) := Lib.hid (by rw [HTk.out]; exact HSk.out a rfl)
        have HO3 := Lib.hid (HO.out.mono (Nat.le_succ k))
        go_wp2_with fail
        go_roundw
        case rel => exact ⟨k + 1, _, by omega, by go_num, HB, HO3, HD3⟩
        case measure => simp [intOf]; omega
    · obtain rfl : k = cols.length := by omega
      have HE : Hid (FirstsC cols w (.returned (.map (some w.heap.size))) wr) := Lib.hid ⟨_, D, rfl, Nat.le_refl _, HO.out, by have := HD.out; rwa [List.take_of_length_le (by rw [colsP_len]; exact Nat.le_refl _)] at this, HB.out⟩
      clear HO HD
      go_wp2_with fail
      go_ret
      exact HE.out
end Go.Proofs.YtmomjhnbhckhpaaDoor
