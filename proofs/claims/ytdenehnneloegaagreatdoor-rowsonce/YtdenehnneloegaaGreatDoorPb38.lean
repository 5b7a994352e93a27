/-
  Texts of these rows' proofs, laid one behind the other: RwMath, RwMath2, RwRef1, RwRef2, RwRef3, RwRef4, RwSpec, RwFew.
  Conditions: those of each theorem.
-/
import Derived.Test.YtdenehnneloegaaGreatDoorPb15
import Derived.Test.YtdenehnneloegaaGreatDoorPb8
import Derived.Test.YtdenehnneloegaaGreatDoorPb25
import Derived.Test.YtdenehnneloegaaGreatDoorPb29
import Derived.Deep.OwnRows
import Derived.Deep.RegionHeld3
import Derived.WalkKit
import Derived.WalkMore
import Derived.IntWalk
import Derived.WalkArith
import Derived.OwnWalk
import Derived.Lib.Hide
import Derived.Test.YtdenehnneloegaaGreatDoorProg
import Derived.Test.YtdenehnneloegaaGreatDoorPb7
import Derived.Test.YtdenehnneloegaaGreatDoorPb21
import Derived.Deep.AppendLies
import Derived.Deep.Cut
import Derived.Test.YtdenehnneloegaaGreatDoorPb6
import Derived.Deep.QuietTactic
import Derived.Deep.RegionWith
import Derived.BigQuiet
import Derived.Lib.SmallJoins
import Derived.Deep.SlicePairs
import Derived.Test.YtdenehnneloegaaGreatDoorPb20
import Derived.Deep.Onto
import Derived.RegionTactic
import Derived.Test.YtdenehnneloegaaGreatDoorPb10
import Derived.Laws.AppendOwn
import Derived.Laws.AppendOwnNone
import Derived.Lib.QuietBelow
import Derived.Deep.CutRange
import Derived.Test.YtdenehnneloegaaGreatDoorPb16
namespace Go.Proofs.YtdenehnneloegaaGreatDoor
set_option linter.unusedVariables false
/-- a row's cells at columns -/
def keyAt (rs : List (List ByteArray)) (cols : List Int) (i : Int) : List ByteArray := cols.map (cellL rs i)
theorem keyAt_len (rs : List (List ByteArray)) (cols : List Int) (i : Int) : (keyAt rs cols i).length = cols.length := by simp [keyAt]
/-- the pair of a row of b, if a has a row of that key -/
def byKeyO (ra rb : List (List ByteArray)) (ps qs : List Int) (k : Nat) : Option (Int × Int) := ((List.range ra.length).find? fun (i : Nat) => decide (keyAt ra ps i = keyAt rb qs k)).map fun (i : Nat) => ((i : Int), (k : Int))
def byKeyK (ra rb : List (List ByteArray)) (ps qs : List Int) (n : Nat) : PL := (List.range n).filterMap (byKeyO ra rb ps qs)
def byKeyL (ra rb : List (List ByteArray)) (ps qs : List Int) : PL := byKeyK ra rb ps qs rb.length
theorem byKey_next (ra rb : List (List ByteArray)) (ps qs : List Int) (k : Nat) : byKeyK ra rb ps qs (k + 1) = byKeyK ra rb ps qs k ++ (byKeyO ra rb ps qs k).toList := by
  unfold byKeyK
  rw [List.range_succ, List.filterMap_append]
  congr 1
theorem byKeyO_some {ra rb : List (List ByteArray)} {ps qs : List Int} {k : Nat} {p : Int × Int} (h : byKeyO ra rb ps qs k = some p) : ∃ i : Nat, p = ((i : Int), (k : Int)) ∧ i < ra.length ∧ keyAt ra ps i = keyAt rb qs k := by
  unfold byKeyO at h
  rw [Option.map_eq_some_iff] at h
  obtain ⟨i, hi, rfl⟩ := h
  have h1 := List.find?_some hi
  have h2 := List.mem_of_find?_eq_some hi
  exact ⟨i, rfl, List.mem_range.1 h2, of_decide_eq_true h1⟩
theorem byKeyO_is {ra rb : List (List ByteArray)} {ps qs : List Int} {i k : Nat} (hu : apartRows ra ps = true) (hi : i < ra.length) (h : keyAt ra ps i = keyAt rb qs k) : byKeyO ra rb ps qs k = some ((i : Int), (k : Int)) := by
  cases hf : byKeyO ra rb ps qs k with
  | none =>
    unfold byKeyO at hf
    rw [Option.map_eq_none_iff, List.find?_eq_none] at hf
    have := hf i (List.mem_range.2 hi)
    simp [h] at this
  | some p =>
    obtain ⟨j, rfl, hj, e⟩ := byKeyO_some hf
    rw [← h] at e
    rcases Nat.lt_trichotomy i j with hl | rfl | hl
    · exact absurd e.symm ((apart_iff ra ps).1 hu i j hl hj)
    · rfl
    · exact absurd e ((apart_iff ra ps).1 hu j i hl hi)
theorem byKey_mem {ra rb : List (List ByteArray)} {ps qs : List Int} (hu : apartRows ra ps = true) (i k : Nat) (hi : i < ra.length) (hk : k < rb.length) : ((i : Int), (k : Int)) ∈ byKeyL ra rb ps qs ↔ keyAt ra ps i = keyAt rb qs k := by
  unfold byKeyL byKeyK
  rw [List.mem_filterMap]
  constructor
  · rintro ⟨q, hq, h⟩
    obtain ⟨j, e, hj, h2⟩ := byKeyO_some h
    simp only [Prod.mk.injEq] at e
    have e1 : i = j := by omega
    have e2 : k = q := by omega
    subst e1 e2; exact h2
  · intro h
    exact ⟨k, List.mem_range.2 hk, byKeyO_is hu hi h⟩
theorem byKey_rise (ra rb : List (List ByteArray)) (ps qs : List Int) : RiseB (byKeyL ra rb ps qs) := by
  unfold RiseB byKeyL byKeyK
  rw [List.pairwise_filterMap]
  refine List.pairwise_lt_range.imp fun {a b} hab p hp q hq => ?_
  obtain ⟨i, rfl, _, _⟩ := byKeyO_some hp
  obtain ⟨j, rfl, _, _⟩ := byKeyO_some hq
  simp only; omega
theorem byKey_in {ra rb : List (List ByteArray)} {ps qs : List Int} {p : Int × Int} (h : p ∈ byKeyL ra rb ps qs) : ∃ i k : Nat, p = ((i : Int), (k : Int)) ∧ i < ra.length ∧ k < rb.length ∧ keyAt ra ps i = keyAt rb qs k := by
  unfold byKeyL byKeyK at h
  rw [List.mem_filterMap] at h
  obtain ⟨k, hk, h⟩ := h
  obtain ⟨i, rfl, hi, e⟩ := byKeyO_some h
  exact ⟨i, k, rfl, hi, List.mem_range.1 hk, e⟩
theorem byKey_fst {ra rb : List (List ByteArray)} {ps qs : List Int} (hu : apartRows rb qs = true) : ((byKeyL ra rb ps qs).map Prod.fst).Nodup := by
  rw [List.Nodup, List.pairwise_map]
  refine (byKey_rise ra rb ps qs).imp_of_mem fun {p q} hp hq hlt e => ?_
  obtain ⟨i, k, rfl, hi, hk, h1⟩ := byKey_in hp
  obtain ⟨j, m, rfl, hj, hm, h2⟩ := byKey_in hq
  simp only at hlt e
  have : i = j := by omega
  subst this
  have hkm : k < m := by omega
  exact (apart_iff rb qs).1 hu k m hkm hm (h1.symm.trans h2)
/-- of a table with itself -/
theorem byKey_self {rs : List (List ByteArray)} {ps : List Int} (hu : apartRows rs ps = true) : byKeyL rs rs ps ps = diagL rs.length := by
  refine riseB_unique _ _ (byKey_rise _ _ _ _) (diag_rise _) fun p => ?_
  rw [diag_mem]
  constructor
  · intro h
    obtain ⟨i, k, rfl, hi, hk, e⟩ := byKey_in h
    have : i = k := by
      rcases Nat.lt_trichotomy i k with hl | h | hl
      · exact absurd e ((apart_iff rs ps).1 hu i k hl hk)
      · exact h
      · exact absurd e.symm ((apart_iff rs ps).1 hu k i hl hi)
    subst this
    exact ⟨i, hi, rfl⟩
  · rintro ⟨i, hi, rfl⟩
    exact (byKey_mem hu i i hi hi).2 rfl
/-- rows that are alike -/
def lookA (ra : List (List ByteArray)) (cols : PL) : List (List ByteArray) := (List.range ra.length).map fun (i : Nat) => keyAt ra (cols.map Prod.fst) i
def lookB (rb : List (List ByteArray)) (cols : PL) : List (List ByteArray) := (List.range rb.length).map fun (k : Nat) => keyAt rb (cols.map Prod.snd) k
def lookC (ra rb : List (List ByteArray)) (cols : PL) : PL := wayC 0 0 (lookA ra cols) (lookB rb cols)
/-- at how many columns two rows have the same cells -/
def comN (ra rb : List (List ByteArray)) (cols : PL) (i k : Int) : Nat := (cols.filter fun c => decide (cellL ra i c.1 = cellL rb k c.2)).length
def pickO (ra rb : List (List ByteArray)) (cols : PL) (i k : Int) : Option T3 := if cols.length < 2 * comN ra rb cols i k then some (i, k, (comN ra rb cols i k : Int)) else none
def pickRow (ra rb : List (List ByteArray)) (cols : PL) (i : Int) (ks : List Int) : TL := ks.filterMap (pickO ra rb cols i)
def pickAll (ra rb : List (List ByteArray)) (cols : PL) (is ks : List Int) : TL := is.flatMap fun i => pickRow ra rb cols i ks
def restL (ra rb : List (List ByteArray)) (cols : PL) : TL := pickAll ra rb cols (outOf ((lookC ra rb cols).map Prod.fst) ra.length) (outOf ((lookC ra rb cols).map Prod.snd) rb.length)
def byLookL (ra rb : List (List ByteArray)) (cols : PL) : PL := (pickL (restL ra rb cols)).foldl putB (lookC ra rb cols)
theorem lookA_len (ra : List (List ByteArray)) (cols : PL) : (lookA ra cols).length = ra.length := by simp [lookA]
theorem lookB_len (rb : List (List ByteArray)) (cols : PL) : (lookB rb cols).length = rb.length := by simp [lookB]
theorem look_in {ra rb : List (List ByteArray)} {cols : PL} {p : Int × Int} (h : p ∈ lookC ra rb cols) : ∃ i k : Nat, p = ((i : Int), (k : Int)) ∧ i < ra.length ∧ k < rb.length ∧ keyAt ra (cols.map Prod.fst) i = keyAt rb (cols.map Prod.snd) k := by
  obtain ⟨s, t, x, rfl, -, -, h1, h2⟩ := way_both_in _ _ p h
  have a1 := (List.getElem?_eq_some_iff.1 h1).1
  have a2 := (List.getElem?_eq_some_iff.1 h2).1
  rw [lookA_len] at a1
  rw [lookB_len] at a2
  refine ⟨s, t, rfl, a1, a2, ?_⟩
  simp only [lookA, List.getElem?_map, List.getElem?_range a1, Option.map_some, Option.some.injEq] at h1
  simp only [lookB, List.getElem?_map, List.getElem?_range a2, Option.map_some, Option.some.injEq] at h2
  rw [h1, h2]
theorem look_ahead (ra rb : List (List ByteArray)) (cols : PL) : (lookC ra rb cols).Pairwise Ahead := (way_in 0 0 _ _).2
theorem look_rise (ra rb : List (List ByteArray)) (cols : PL) : RiseB (lookC ra rb cols) := (look_ahead ra rb cols).imp fun h => h.2
theorem look_fst (ra rb : List (List ByteArray)) (cols : PL) : ((lookC ra rb cols).map Prod.fst).Nodup := by
  rw [List.Nodup, List.pairwise_map]
  exact (look_ahead ra rb cols).imp fun h e => by have := h.1; omega
theorem pick_mem2 (ra rb : List (List ByteArray)) (cols : PL) (is ks : List Int) (c : T3) : c ∈ pickAll ra rb cols is ks ↔ c.1 ∈ is ∧ c.2.1 ∈ ks ∧ cols.length < 2 * comN ra rb cols c.1 c.2.1 ∧ c.2.2 = (comN ra rb cols c.1 c.2.1 : Int) := by
  unfold pickAll pickRow pickO
  rw [List.mem_flatMap]
  constructor
  · rintro ⟨p, hp, h⟩
    rw [List.mem_filterMap] at h
    obtain ⟨q, hq, h⟩ := h
    split at h
    · rename_i hm
      simp only [Option.some.injEq] at h
      subst h
      exact ⟨hp, hq, hm, rfl⟩
    · cases h
  · rintro ⟨h1, h2, h3, h4⟩
    refine ⟨c.1, h1, ?_⟩
    rw [List.mem_filterMap]
    refine ⟨c.2.1, h2, ?_⟩
    rw [if_pos h3, ← h4]
theorem rest_picked {ra rb : List (List ByteArray)} {cols : PL} {p : Int × Int} (h : p ∈ pickL (restL ra rb cols)) : p.1 ∈ outOf ((lookC ra rb cols).map Prod.fst) ra.length ∧ p.2 ∈ outOf ((lookC ra rb cols).map Prod.snd) rb.length := by
  obtain ⟨c, hc, h1, h2⟩ := (pick_taken (restL ra rb cols)).choice p h
  obtain ⟨k1, k2, -, -⟩ := (pick_mem2 ra rb cols _ _ c).1 hc
  rw [h1] at k1; rw [h2] at k2
  exact ⟨k1, k2⟩
theorem byLook_mem (ra rb : List (List ByteArray)) (cols : PL) (p : Int × Int) : p ∈ byLookL ra rb cols ↔ p ∈ lookC ra rb cols ∨ p ∈ pickL (restL ra rb cols) := by
  unfold byLookL
  rw [(puts_perm _ _).mem_iff, List.mem_append]
theorem byLook_in {ra rb : List (List ByteArray)} {cols : PL} {p : Int × Int} (h : p ∈ byLookL ra rb cols) : ∃ i k : Nat, p = ((i : Int), (k : Int)) ∧ i < ra.length ∧ k < rb.length := by
  rcases (byLook_mem ra rb cols p).1 h with h | h
  · obtain ⟨i, k, e, h1, h2, -⟩ := look_in h
    exact ⟨i, k, e, h1, h2⟩
  · obtain ⟨h1, h2⟩ := rest_picked h
    obtain ⟨⟨a1, a2⟩, -⟩ := (out_mem _ _ _).1 h1
    obtain ⟨⟨b1, b2⟩, -⟩ := (out_mem _ _ _).1 h2
    obtain ⟨i, hi⟩ := Int.eq_ofNat_of_zero_le a1
    obtain ⟨k, hk⟩ := Int.eq_ofNat_of_zero_le b1
    exact ⟨i, k, Prod.ext hi hk, by omega, by omega⟩
theorem byLook_rise (ra rb : List (List ByteArray)) (cols : PL) : RiseB (byLookL ra rb cols) := by
  unfold byLookL
  refine puts_rise _ _ (look_rise ra rb cols) (fun p hp q hq e => ?_) (pick_taken _).snd
  exact ((out_mem _ _ _).1 (rest_picked hp).2).2 (List.mem_map.2 ⟨q, hq, e⟩)
theorem byLook_fst (ra rb : List (List ByteArray)) (cols : PL) : ((byLookL ra rb cols).map Prod.fst).Nodup := by
  unfold byLookL
  refine ((puts_perm _ _).map Prod.fst).nodup_iff.2 ?_
  rw [List.map_append, List.nodup_append]
  refine ⟨look_fst ra rb cols, (pick_taken _).fst, fun a ha1 b hb1 e => ?_⟩
  subst e
  obtain ⟨p, hp, rfl⟩ := List.mem_map.1 hb1
  exact ((out_mem _ _ _).1 (rest_picked hp).1).2 ha1
/-- pairs of places that rise: nothing is wrong -/
theorem pairs_good {l : PL} {na nb : Nat} (h60 : na ≤ 60) (h61 : nb ≤ 60) (hi : ∀ p ∈ l, ∃ i k : Nat, p = ((i : Int), (k : Int)) ∧ i < na ∧ k < nb) (hf : (l.map Prod.fst).Nodup) (hr : RiseB l) : okP l ∧ checkP l na nb = 0 := by
  refine ⟨fun p hp => ?_, checkP5 (by omega) ?_ ?_ (rises_of l hr)⟩
  · obtain ⟨i, k, rfl, h1, h2⟩ := hi p hp
    exact ⟨wf_small i (by omega), wf_small k (by omega)⟩
  · rw [List.any_eq_false]
    intro p hp
    obtain ⟨i, k, rfl, h1, h2⟩ := hi p hp
    simp only [badP, Bool.or_eq_true, decide_eq_true_eq]
    omega
  · refine twice_no _ ?_ ?_
    · rw [List.take_length]; exact hf
    · rw [List.take_length, List.Nodup, List.pairwise_map]
      exact hr.imp fun h e => by omega
/-- two rows that have more than half of their cells in common: one is in a pair -/
theorem byLook_left {ra rb : List (List ByteArray)} {cols : PL} (i k : Nat) (hi : i < ra.length) (hk : k < rb.length) (h : cols.length < 2 * comN ra rb cols i k) : ∃ p ∈ byLookL ra rb cols, p.1 = i ∨ p.2 = k := by
  by_cases h1 : (i : Int) ∈ (lookC ra rb cols).map Prod.fst
  · obtain ⟨p, hp, e⟩ := List.mem_map.1 h1
    exact ⟨p, (byLook_mem ra rb cols p).2 (.inl hp), .inl e⟩
  by_cases h2 : (k : Int) ∈ (lookC ra rb cols).map Prod.snd
  · obtain ⟨p, hp, e⟩ := List.mem_map.1 h2
    exact ⟨p, (byLook_mem ra rb cols p).2 (.inl hp), .inr e⟩
  have hc : ((i : Int), (k : Int), (comN ra rb cols i k : Int)) ∈ restL ra rb cols := (pick_mem2 ra rb cols _ _ _).2 ⟨(out_mem _ _ _).2 ⟨⟨Int.natCast_nonneg _, Int.ofNat_lt.2 hi⟩, h1⟩, (out_mem _ _ _).2 ⟨⟨Int.natCast_nonneg _, Int.ofNat_lt.2 hk⟩, h2⟩, h, rfl⟩
  rcases (pick_taken (restL ra rb cols)).best _ hc (by simp) (by simp) with h3 | ⟨d, -, h3, h4, -⟩
  · exact ⟨_, (byLook_mem ra rb cols _).2 (.inr h3), .inl rfl⟩
  · exact ⟨_, (byLook_mem ra rb cols _).2 (.inr h3), h4⟩
/-- of a table with itself, by columns that are paired with themselves -/
theorem byLook_self (rs : List (List ByteArray)) (n : Nat) : byLookL rs rs (diagL n) = diagL rs.length := by
  have e1 : (diagL n).map Prod.fst = (diagL n).map Prod.snd := by simp [diagL]
  have eAB : lookB rs (diagL n) = lookA rs (diagL n) := by unfold lookB lookA; rw [e1]
  have eL : lookC rs rs (diagL n) = diagL rs.length := by
    unfold lookC
    rw [eAB]
    refine List.ext_getElem? fun i => ?_
    by_cases hi : i < rs.length
    · rw [way_self 0 _ i (by rw [lookA_len]; exact hi), diag_at _ i hi]; simp
    · have h1 : (diagL rs.length)[i]? = none := List.getElem?_eq_none (by rw [diag_len]; omega)
      rw [h1]
      exact List.getElem?_eq_none (by rw [wayC_len, lcs_self, lookA_len]; omega)
  have eN : restL rs rs (diagL n) = [] := by
    unfold restL
    have : outOf ((lookC rs rs (diagL n)).map Prod.fst) rs.length = [] := by
      apply List.eq_nil_iff_forall_not_mem.2
      intro z hz
      obtain ⟨⟨h1, h2⟩, h3⟩ := (out_mem _ _ _).1 hz
      obtain ⟨i, rfl⟩ := Int.eq_ofNat_of_zero_le h1
      apply h3
      rw [eL]
      exact List.mem_map.2 ⟨((i : Int), (i : Int)), (diag_mem _ _).2 ⟨i, by omega, rfl⟩, rfl⟩
    rw [this]; rfl
  unfold byLookL
  rw [eN, pick_nil, eL]; rfl
end Go.Proofs.YtdenehnneloegaaGreatDoor
namespace Go.Proofs.YtdenehnneloegaaGreatDoor
set_option linter.unusedVariables false
/-- rows alike are told by whatever stands for them -/
theorem look_texts {β : Type} [DecidableEq β] (ra rb : List (List ByteArray)) (cols : PL) (f : List ByteArray → β) (hf : ∀ x ∈ lookA ra cols, ∀ y ∈ lookB rb cols, f x = f y → x = y) : wayC 0 0 ((lookA ra cols).map f) ((lookB rb cols).map f) = lookC ra rb cols := way_map f 0 0 _ _ hf
/-- has a list of columns the pairs of all names' columns? -/
def pairedB (ha hb : List ByteArray) (cols : PL) (names : List ByteArray) : Bool := names.all fun s => decide ((findL ha s, findL hb s) ∈ cols)
/-- the answers, by whether names are usable -/
def byKeyU (u : Bool) (ha : List ByteArray) (ra : List (List ByteArray)) (hb : List ByteArray) (rb : List (List ByteArray)) (names : List ByteArray) : PL := if u then byKeyL ra rb (names.map (findL ha)) (names.map (findL hb)) else []
def byLookU (ha : List ByteArray) (ra : List (List ByteArray)) (hb : List ByteArray) (rb : List (List ByteArray)) (cols : PL) : PL := if cols.length = 0 ∨ checkP cols ha.length hb.length ≠ 0 then [] else byLookL ra rb cols
def rowsE (ha : List ByteArray) (ra : List (List ByteArray)) (hb : List ByteArray) (rb : List (List ByteArray)) (cols : PL) : Int := if alignE ha ra hb rb ≠ 0 then alignE ha ra hb rb else checkP cols ha.length hb.length
def rowsL (u : Bool) (ha : List ByteArray) (ra : List (List ByteArray)) (hb : List ByteArray) (rb : List (List ByteArray)) (cols : PL) (names : List ByteArray) : PL :=
  if rowsE ha ra hb rb cols ≠ 0 then [] else if u && pairedB ha hb cols names then byKeyU u ha ra hb rb names else byLookU ha ra hb rb cols
/-- what is told of usable names -/
structure UseOf (ha : List ByteArray) (ra : List (List ByteArray)) (hb : List ByteArray) (rb : List (List ByteArray)) (names : List ByteArray) : Prop where
  a : ∀ s ∈ names, 0 ≤ findL ha s
  b : ∀ s ∈ names, 0 ≤ findL hb s
  ua : apartRows ra (names.map (findL ha)) = true
  ub : apartRows rb (names.map (findL hb)) = true
theorem uniq_apart {n : Nat} {rs : List (List ByteArray)} {cols : List Int} (h : uniqL n rs cols = true) : apartRows rs cols = true := by
  unfold uniqL at h; rw [Bool.and_eq_true] at h; exact h.2
theorem rowsE_mk {ha : List ByteArray} {ra : List (List ByteArray)} {hb : List ByteArray} {rb : List (List ByteArray)} {cols : PL} (h1 : checkI ha ra = 0) (h2 : checkI hb rb = 0) (h3 : checkP cols ha.length hb.length = 0) : rowsE ha ra hb rb cols = 0 := by
  unfold rowsE
  have e : alignE ha ra hb rb = 0 := by unfold alignE; rw [if_neg (by simp [h1])]; exact h2
  rw [if_neg (by simp [e]), h3]
/-- pairs of rows: nothing is wrong with them -/
theorem byKeyU_good {u : Bool} {ha : List ByteArray} {ra : List (List ByteArray)} {hb : List ByteArray} {rb : List (List ByteArray)} {names : List ByteArray} (hu : u = true → UseOf ha ra hb rb names) (h1 : ra.length ≤ 60) (h2 : rb.length ≤ 60) :
    okP (byKeyU u ha ra hb rb names) ∧ checkP (byKeyU u ha ra hb rb names) ra.length rb.length = 0 := by
  unfold byKeyU
  split
  · rename_i e
    refine pairs_good h1 h2 (fun p hp => ?_) (byKey_fst (hu e).ub) (byKey_rise _ _ _ _)
    obtain ⟨i, k, e2, h3, h4, -⟩ := byKey_in hp
    exact ⟨i, k, e2, h3, h4⟩
  · exact pairs_good h1 h2 (fun p hp => by cases hp) (by simp) List.Pairwise.nil
theorem byLookU_good (ha : List ByteArray) (ra : List (List ByteArray)) (hb : List ByteArray) (rb : List (List ByteArray)) (cols : PL) (h1 : ra.length ≤ 60) (h2 : rb.length ≤ 60) :
    okP (byLookU ha ra hb rb cols) ∧ checkP (byLookU ha ra hb rb cols) ra.length rb.length = 0 := by
  unfold byLookU
  split
  · exact pairs_good h1 h2 (fun p hp => by cases hp) (by simp) List.Pairwise.nil
  · exact pairs_good h1 h2 (fun p hp => byLook_in hp) (byLook_fst _ _ _) (byLook_rise _ _ _)
theorem rows_good {u : Bool} {ha : List ByteArray} {ra : List (List ByteArray)} {hb : List ByteArray} {rb : List (List ByteArray)} {cols : PL} {names : List ByteArray} (hu : u = true → UseOf ha ra hb rb names) (h1 : ra.length ≤ 60) (h2 : rb.length ≤ 60) :
    okP (rowsL u ha ra hb rb cols names) ∧ checkP (rowsL u ha ra hb rb cols names) ra.length rb.length = 0 := by
  unfold rowsL
  split
  · exact pairs_good h1 h2 (fun p hp => by cases hp) (by simp) List.Pairwise.nil
  · split
    · exact byKeyU_good hu h1 h2
    · exact byLookU_good ha ra hb rb cols h1 h2
theorem rows_bad {u : Bool} {ha : List ByteArray} {ra : List (List ByteArray)} {hb : List ByteArray} {rb : List (List ByteArray)} {cols : PL} {names : List ByteArray} (h : rowsE ha ra hb rb cols ≠ 0) : rowsL u ha ra hb rb cols names = [] := if_pos h
/-- the columns of the same name: of usable names all are paired -/
theorem paired_named {ha hb : List ByteArray} {names : List ByteArray} (ha0 : ∀ s ∈ names, 0 ≤ findL ha s) (hb0 : ∀ s ∈ names, 0 ≤ findL hb s) : pairedB ha hb (namedL ha hb) names = true := by
  unfold pairedB
  rw [List.all_eq_true]
  intro s hs
  obtain ⟨k, h1, h2⟩ := find_there hb s (hb0 s hs)
  exact decide_eq_true ((named_mem ha hb _ _).2 ⟨k, s, h1, h2, rfl, ha0 s hs⟩)
theorem named_check {ha : List ByteArray} {ra : List (List ByteArray)} {hb : List ByteArray} {rb : List (List ByteArray)} (h1 : checkI ha ra = 0) (h2 : checkI hb rb = 0) (h60 : ha.length ≤ 60) (h61 : hb.length ≤ 60) : checkP (namedL ha hb) ha.length hb.length = 0 := by
  have h := (once_facts (rename := false) (align_good ha ra hb rb false h1 h2).1 h60 h61).2.2.1
  rw [(align_good ha ra hb rb false h1 h2).2] at h
  exact h
theorem rows_keyed {ha : List ByteArray} {ra : List (List ByteArray)} {hb : List ByteArray} {rb : List (List ByteArray)} {names : List ByteArray} (hu : UseOf ha ra hb rb names) (he : rowsE ha ra hb rb (namedL ha hb) = 0) (i k : Nat) (hi : i < ra.length) (hk : k < rb.length) :
    ((i : Int), (k : Int)) ∈ rowsL true ha ra hb rb (namedL ha hb) names ↔ keyAt ra (names.map (findL ha)) i = keyAt rb (names.map (findL hb)) k := by
  unfold rowsL
  rw [if_neg (by simp [he]), paired_named hu.a hu.b]
  simp only [Bool.and_self, if_true]
  unfold byKeyU
  rw [if_pos rfl]
  exact byKey_mem hu.ua i k hi hk
/-- of a table with itself -/
theorem rows_self {u : Bool} {hd : List ByteArray} {rs : List (List ByteArray)} {names : List ByteArray} (hu : u = true → UseOf hd rs hd rs names) (h0 : checkI hd rs = 0) (h60 : hd.length ≤ 60) (hne : hd.length ≠ 0) :
    rowsE hd rs hd rs (diagL hd.length) = 0 ∧ rowsL u hd rs hd rs (diagL hd.length) names = diagL rs.length := by
  have hc : checkP (diagL hd.length) hd.length hd.length = 0 := (pairs_good h60 h60 (fun p hp => by
    obtain ⟨i, hi, rfl⟩ := (diag_mem _ _).1 hp
    exact ⟨i, i, rfl, hi, hi⟩) (by
      rw [List.Nodup, List.pairwise_map]
      unfold diagL
      rw [List.pairwise_map]
      exact List.pairwise_lt_range.imp fun h => by simp only; omega) (diag_rise _)).2
  have he := rowsE_mk (cols := diagL hd.length) h0 h0 hc
  refine ⟨he, ?_⟩
  unfold rowsL
  rw [if_neg (by simp [he])]
  split
  · rename_i h
    rw [Bool.and_eq_true] at h
    unfold byKeyU
    rw [if_pos h.1]
    exact byKey_self (hu h.1).ua
  · unfold byLookU
    rw [if_neg (by rw [diag_len, hc]; omega)]
    exact byLook_self rs hd.length
/-- how far rows have cells in common, column by column -/
theorem com_next (ra rb : List (List ByteArray)) (cols : PL) (i k : Int) (n : Nat) (c : Int × Int) (h : cols[n]? = some c) : comN ra rb (cols.take (n + 1)) i k = comN ra rb (cols.take n) i k + if cellL ra i c.1 = cellL rb k c.2 then 1 else 0 := by
  obtain ⟨hk, e⟩ := List.getElem?_eq_some_iff.1 h
  unfold comN
  rw [List.take_succ_eq_append_getElem hk, e, List.filter_append, List.length_append]
  congr 1
  by_cases he : cellL ra i c.1 = cellL rb k c.2
  · simp [he]
  · simp [he]
theorem com_le (ra rb : List (List ByteArray)) (cols : PL) (i k : Int) : comN ra rb cols i k ≤ cols.length := List.length_filter_le _ _
end Go.Proofs.YtdenehnneloegaaGreatDoor
namespace Go.Proofs.YtdenehnneloegaaGreatDoor
open Go.RowKit Go.Shelf Go.Deep
set_option linter.unusedVariables false
theorem ba_iff (a b : ByteArray) : (a.toList == b.toList) = decide (a = b) := by
  rw [str_beq]
  by_cases h : a = b
  · subst h; simp
  · rw [decide_eq_false h]
    exact decide_eq_false (fun e => h (ba_eq e))
end Go.Proofs.YtdenehnneloegaaGreatDoor
namespace Go.Proofs.YtdenehnneloegaaGreatDoor
open Go.RowKit Go.Shelf Go.Deep
set_option linter.unusedVariables false
/-- two tables in a list -/
abbrev TwoO (ho : Option Addr) (n1 hc : Nat) (ro : Option Addr) (m1 rc : Nat) (bo : Option Addr) (n2 bc : Nat) (so : Option Addr) (m2 sc : Nat) : Obj := .cells #[.slice ho n1 hc, .slice ro m1 rc, .slice bo n2 bc, .slice so m2 sc] 25
theorem tabs_two {W : World} {ho ro bo so : Option Addr} {hc rc bc sc : Nat} {ha hb : List ByteArray} {ra rb : List (List ByteArray)} (h1 : StrRow W ho ha) (h2 : RowsAt W ro ra) (h3 : StrRow W bo hb) (h4 : RowsAt W so rb) :
    TabsAt (W.alloc (TwoO ho ha.length hc ro ra.length rc bo hb.length bc so rb.length sc)) (some ⟨W.heap.size, 0, none⟩) [(ha, ra), (hb, rb)] := by
  refine .inr ⟨_, _, rfl, by simp, fun i t' ht => ?_⟩
  have hbx := World.alloc_heap_new W (TwoO ho ha.length hc ro ra.length rc bo hb.length bc so rb.length sc)
  match i, ht with
  | 0, ht =>
    cases ht
    exact ⟨ho, hc, ro, rc, (Lib.cell_of_heap hbx 0).trans rfl, (Lib.cell_of_heap hbx 1).trans rfl, h1.kept (one_below _ _), h2.kept (one_below _ _)⟩
  | 1, ht =>
    cases ht
    exact ⟨bo, bc, so, sc, (Lib.cell_of_heap hbx 2).trans rfl, (Lib.cell_of_heap hbx 3).trans rfl, h3.kept (one_below _ _), h4.kept (one_below _ _)⟩
/-- what usable names tell -/
def useAB (ha : List ByteArray) (ra : List (List ByteArray)) (hb : List ByteArray) (rb : List (List ByteArray)) (names : List ByteArray) : Bool := usableC [(ha, ra), (hb, rb)] names
theorem use_of {ha : List ByteArray} {ra : List (List ByteArray)} {hb : List ByteArray} {rb : List (List ByteArray)} {names : List ByteArray} (h : useAB ha ra hb rb names = true) : UseOf ha ra hb rb names := by
  obtain ⟨-, -, hT⟩ := (usable_iff _ _).1 h
  obtain ⟨a1, a2⟩ := hT (ha, ra) (by simp)
  obtain ⟨b1, b2⟩ := hT (hb, rb) (by simp)
  exact ⟨a1, b1, uniq_apart a2, uniq_apart b2⟩
theorem use_in {ha : List ByteArray} {ra : List (List ByteArray)} {hb : List ByteArray} {rb : List (List ByteArray)} {names : List ByteArray} (h : useAB ha ra hb rb names = true) : inAll ha names = true ∧ inAll hb names = true := by
  have u := use_of h
  unfold inAll
  rw [List.all_eq_true, List.all_eq_true]
  exact ⟨fun s hs => decide_eq_true (u.a s hs), fun s hs => decide_eq_true (u.b s hs)⟩
end Go.Proofs.YtdenehnneloegaaGreatDoor
namespace Go.Proofs.YtdenehnneloegaaGreatDoor
open Go.RowKit Go.Shelf Go.Deep
set_option linter.unusedVariables false
theorem take_one {α : Type} (l : List α) (k : Nat) (x : α) (h : l[k]? = some x) : l.take (k + 1) = l.take k ++ [x] := by
  obtain ⟨hk, e⟩ := List.getElem?_eq_some_iff.1 h
  rw [List.take_succ_eq_append_getElem hk, e]
end Go.Proofs.YtdenehnneloegaaGreatDoor
namespace Go.Proofs.YtdenehnneloegaaGreatDoor
open Go.RowKit Go.Shelf Go.Deep
set_option linter.unusedVariables false
/-- the choices of the first i rows of a, and of the next one with the first k -/
def upPick (ra rb : List (List ByteArray)) (cols : PL) (is ks : List Int) (i k : Nat) : TL := pickAll ra rb cols (is.take i) ks ++ pickRow ra rb cols (is.getD i 0) (ks.take k)
theorem upPick_next (ra rb : List (List ByteArray)) (cols : PL) (is ks : List Int) (i k : Nat) (p q : Int) (hp : is[i]? = some p) (hq : ks[k]? = some q) :
    upPick ra rb cols is ks i (k + 1) = if cols.length < 2 * comN ra rb cols p q then upPick ra rb cols is ks i k ++ [(p, q, (comN ra rb cols p q : Int))] else upPick ra rb cols is ks i k := by
  obtain ⟨hk, e⟩ := List.getElem?_eq_some_iff.1 hq
  unfold upPick pickRow
  rw [List.getD_eq_getElem?_getD, hp, List.take_succ_eq_append_getElem hk, e, List.filterMap_append]
  simp only [Option.getD_some, List.filterMap_cons, List.filterMap_nil]
  unfold pickO
  by_cases h : cols.length < 2 * comN ra rb cols p q
  · rw [if_pos h, if_pos h]; simp
  · rw [if_neg h, if_neg h]; simp
theorem upPick_row (ra rb : List (List ByteArray)) (cols : PL) (is ks : List Int) (i : Nat) (h : i < is.length) : upPick ra rb cols is ks i ks.length = upPick ra rb cols is ks (i + 1) 0 := by
  unfold upPick pickAll
  rw [List.take_length, List.take_succ_eq_append_getElem h, List.flatMap_append, List.getD_eq_getElem?_getD, List.getElem?_eq_getElem h]
  simp only [Option.getD_some, List.flatMap_cons, List.flatMap_nil, List.append_nil, List.take_zero]
  simp [pickRow]
theorem upPick_zero (ra rb : List (List ByteArray)) (cols : PL) (is ks : List Int) : upPick ra rb cols is ks 0 0 = [] := by simp [upPick, pickAll, pickRow]
theorem upPick_all (ra rb : List (List ByteArray)) (cols : PL) (is ks : List Int) : upPick ra rb cols is ks is.length 0 = pickAll ra rb cols is ks := by simp [upPick, pickRow]
theorem pickAll_le (ra rb : List (List ByteArray)) (cols : PL) (ks : List Int) : ∀ is : List Int, (pickAll ra rb cols is ks).length ≤ is.length * ks.length
  | [] => by simp [pickAll]
  | p :: is => by
    have h1 := pickAll_le ra rb cols ks is
    have h2 : (pickRow ra rb cols p ks).length ≤ ks.length := List.length_filterMap_le _ _
    unfold pickAll at h1 ⊢
    rw [List.flatMap_cons, List.length_append, List.length_cons, Nat.succ_mul]
    omega
theorem restL_le (ra rb : List (List ByteArray)) (cols : PL) (h1 : ra.length ≤ 1024) (h2 : rb.length ≤ 1024) : (restL ra rb cols).length ≤ 1048576 := by
  unfold restL
  have a := pickAll_le ra rb cols (outOf ((lookC ra rb cols).map Prod.snd) rb.length) (outOf ((lookC ra rb cols).map Prod.fst) ra.length)
  have b := Nat.mul_le_mul (outOf_le ((lookC ra rb cols).map Prod.fst) ra.length) (outOf_le ((lookC ra rb cols).map Prod.snd) rb.length)
  have c : ra.length * rb.length ≤ 1024 * 1024 := Nat.mul_le_mul h1 h2
  omega
theorem lookC_le (ra rb : List (List ByteArray)) (cols : PL) : (lookC ra rb cols).length ≤ ra.length := by
  unfold lookC
  rw [wayC_len]
  have := (lcs_le (lookA ra cols) (lookB rb cols)).1
  rw [lookA_len] at this; exact this
end Go.Proofs.YtdenehnneloegaaGreatDoor
namespace Go.Proofs.YtdenehnneloegaaGreatDoor
open Go.RowKit Go.Shelf
set_option linter.unusedVariables false
/-- a table of a few rows and columns, as it lies -/
structure TabR (w : World) (ho : Option Addr) (hc : Nat) (hd : List ByteArray) (ro : Option Addr) (rc : Nat) (rs : List (List ByteArray)) : Prop where
  tab : TabIn w ho hc hd ro rc rs
  r25 : rs.length ≤ 25
  h12 : hd.length ≤ 12
theorem TabR.kept {w w' : World} {ho : Option Addr} {hc : Nat} {hd : List ByteArray} {ro : Option Addr} {rc : Nat} {rs : List (List ByteArray)} (h : TabR w ho hc hd ro rc rs) (hB : Below w.heap.size w w') : TabR w' ho hc hd ro rc rs := ⟨h.tab.kept hB, h.r25, h.h12⟩
/-- names, and pairs of columns, as they lie -/
structure NamesIn (w : World) (no : Option Addr) (nc : Nat) (names : List ByteArray) : Prop where
  len : names.length ≤ 8
  size : ∀ c ∈ names, c.size ≤ 140737488351232
  row : StrRow w no names
  cap : names.length ≤ nc
  nil : no = none → nc = 0
theorem NamesIn.kept {w w' : World} {no : Option Addr} {nc : Nat} {names : List ByteArray} (h : NamesIn w no nc names) (hB : Below w.heap.size w w') : NamesIn w' no nc names := ⟨h.len, h.size, h.row.kept hB, h.cap, h.nil⟩
structure PairsIn (w : World) (lo : Option Addr) (lc : Nat) (l : PL) : Prop where
  len : l.length ≤ 20
  ok : okP l
  pairs : PairsAt w lo l
  cap : l.length ≤ lc
  nil : lo = none → lc = 0
theorem PairsIn.kept {w w' : World} {lo : Option Addr} {lc : Nat} {l : PL} (h : PairsIn w lo lc l) (hB : Below w.heap.size w w') : PairsIn w' lo lc l := ⟨h.len, h.ok, h.pairs.kept hB, h.cap, h.nil⟩
/-- the answers of rows.ByKey, rows.ByLook and rows.Align -/
def ByKeyOK : Prop := ∀ (ho : Option Addr) (hc : Nat) (ha : List ByteArray) (ro : Option Addr) (rc : Nat) (ra : List (List ByteArray)) (bo : Option Addr) (bc : Nat) (hb : List ByteArray) (so : Option Addr) (sc : Nat) (rb : List (List ByteArray)) (no : Option Addr) (nc : Nat) (names : List ByteArray) (w : World),
  TabR w ho hc ha ro rc ra → TabR w bo bc hb so sc rb → NamesIn w no nc names → Pow w →
    Calls Tryz.prog 14 #[.agg #[.slice ho ha.length hc, .slice ro ra.length rc], .agg #[.slice bo hb.length bc, .slice so rb.length sc], .slice no names.length nc] w (PairsOut (byKeyU (useAB ha ra hb rb names) ha ra hb rb names) w)
def ByLookOK : Prop := ∀ (ho : Option Addr) (hc : Nat) (ha : List ByteArray) (ro : Option Addr) (rc : Nat) (ra : List (List ByteArray)) (bo : Option Addr) (bc : Nat) (hb : List ByteArray) (so : Option Addr) (sc : Nat) (rb : List (List ByteArray)) (lo : Option Addr) (lc : Nat) (l : PL) (w : World),
  TabR w ho hc ha ro rc ra → TabR w bo bc hb so sc rb → PairsIn w lo lc l → Pow w →
    Calls Tryz.prog 16 #[.agg #[.slice ho ha.length hc, .slice ro ra.length rc], .agg #[.slice bo hb.length bc, .slice so rb.length sc], .slice lo l.length lc] w (PairsOut (byLookU ha ra hb rb l) w)
def RowsOK : Prop := ∀ (ho : Option Addr) (hc : Nat) (ha : List ByteArray) (ro : Option Addr) (rc : Nat) (ra : List (List ByteArray)) (bo : Option Addr) (bc : Nat) (hb : List ByteArray) (so : Option Addr) (sc : Nat) (rb : List (List ByteArray)) (lo : Option Addr) (lc : Nat) (l : PL) (no : Option Addr) (nc : Nat) (names : List ByteArray) (w : World),
  TabR w ho hc ha ro rc ra → TabR w bo bc hb so sc rb → PairsIn w lo lc l → NamesIn w no nc names → Pow w →
    Calls Tryz.prog 11 #[.agg #[.slice ho ha.length hc, .slice ro ra.length rc], .agg #[.slice bo hb.length bc, .slice so rb.length sc], .slice lo l.length lc, .slice no names.length nc] w (AlignOut (rowsE ha ra hb rb l) (rowsL (useAB ha ra hb rb names) ha ra hb rb l names) w)
end Go.Proofs.YtdenehnneloegaaGreatDoor
namespace Go.Proofs.YtdenehnneloegaaGreatDoor
open Go.RowKit Go.Shelf
set_option linter.unusedVariables false
/-- of a few rows and columns -/
def few14 (ha : List ByteArray) (ra : List (List ByteArray)) (hb : List ByteArray) (rb : List (List ByteArray)) : Prop := (fewT ha ra ∧ fewT hb rb) ∧ (ra.length ≤ 25 ∧ rb.length ≤ 25) ∧ ha.length ≤ 12 ∧ hb.length ≤ 12
theorem tabR_of {w V : World} {ho : Option Addr} {hc : Nat} {ha : List ByteArray} {ro : Option Addr} {rc : Nat} {ra : List (List ByteArray)} {bo : Option Addr} {bc : Nat} {hb : List ByteArray} {so : Option Addr} {sc : Nat} {rb : List (List ByteArray)}
    (hA : StrArg w ho hc ha) (hB : RowsArg w ro rc ra) (hC : StrArg w bo bc hb) (hD : RowsArg w so sc rb) (hf : few14 ha ra hb rb) (hk : Below w.heap.size w V) : TabR V ho hc ha ro rc ra ∧ TabR V bo bc hb so sc rb :=
  ⟨⟨tabIn_of hA hB hf.1.1 hk, hf.2.1.1, hf.2.2.1⟩, ⟨tabIn_of hC hD hf.1.2 hk, hf.2.1.2, hf.2.2.2⟩⟩
set_option maxRecDepth 100000 in
set_option maxHeartbeats 4000000 in
theorem few14_any {w : World} {ho : Option Addr} {hc : Nat} {ha : List ByteArray} {ro : Option Addr} {rc : Nat} {ra : List (List ByteArray)} {bo : Option Addr} {bc : Nat} {hb : List ByteArray} {so : Option Addr} {sc : Nat} {rb : List (List ByteArray)}
    (hA : StrArg w ho hc ha) (hB : RowsArg w ro rc ra) (hC : StrArg w bo bc hb) (hD : RowsArg w so sc rb) (v : World) (hv : Below w.heap.size w v) :
    Calls Tryz.prog 10 #[.agg #[.slice ho ha.length hc, .slice ro ra.length rc], .agg #[.slice bo hb.length bc, .slice so rb.length sc]] v fun e w' => ∃ b, e = .returned (.bool b) ∧ (b = true → few14 ha ra hb rb) ∧ Below v.heap.size v w' := by
  obtain ⟨W, HW⟩ : ∃ W, Hid (W = (v.alloc (TabO ho ha.length hc ro ra.length rc)).alloc (TabO bo hb.length bc so rb.length sc)) := ⟨_, Lib.hid rfl⟩
  have box : Hid (BoxedC v W ho ha.length hc ro ra.length rc bo hb.length bc so rb.length sc) := Lib.hid (by rw [HW.out]; exact boxedC _ _ _ _ _ _ _ _ _ _ _ _ _)
  have B0 := Lib.hid box.out.start
  have F1 := Lib.hid (fun V (h : Below v.heap.size v V) => few_in hA hB (below_up hv h))
  have F2 := Lib.hid (fun V (h : Below v.heap.size v V) => few_in hC hD (below_up hv h))
  have hn1 : ra.length ≤ 9223372036854775807 := by have := hB.len; unfold maxLen at this; omega
  have hn2 : rb.length ≤ 9223372036854775807 := by have := hD.len; unfold maxLen at this; omega
  have hn3 : ha.length ≤ 9223372036854775807 := by have := hA.len; unfold maxLen at this; omega
  have hn4 : hb.length ≤ 9223372036854775807 := by have := hC.len; unfold maxLen at this; omega
  obtain ⟨Q, HQ⟩ : ∃ Q : Prop, Hid (Q ↔ few14 ha ra hb rb) := ⟨_, Lib.hid Iff.rfl⟩
  have HFin : Hid (fewT ha ra → fewT hb rb → ra.length ≤ 25 → rb.length ≤ 25 → ha.length ≤ 12 → hb.length ≤ 12 → Q) := Lib.hid (fun a b c d e f => HQ.out.2 ⟨⟨a, b⟩, ⟨c, d⟩, e, f⟩)
  clear hA hB hC hD hv
  obtain ⟨⟨k0, k1⟩, k2, k3⟩ := box.out.cell W (Below.refl _ _)
  have D1 := Lib.hid (F1.out W B0.out)
  suffices h : Calls Tryz.prog 10 #[.agg #[.slice ho ha.length hc, .slice ro ra.length rc], .agg #[.slice bo hb.length bc, .slice so rb.length sc]] v fun e w' => ∃ b, e = .returned (.bool b) ∧ (b = true → Q) ∧ Below v.heap.size v w' by
    refine h.mono ?_; rintro e w' ⟨b, h1, h2, h3⟩; exact ⟨b, h1, fun h => HQ.out.1 (h2 h), h3⟩
  clear HQ F1
  go_enter Tryz.func10, Tryz.ntmps10
  go_upto_region 1 with fail
  rw [show (v.alloc (TabO ho ha.length hc ro ra.length rc)).alloc (TabO bo hb.length bc so rb.length sc) = W from HW.out.symm]
  go_wp2_with fail
  refine D1.out.mono ?_; rintro e w1 ⟨b, rfl, hf, b1⟩
  have B1 := Lib.hid b1
  have D2 := Lib.hid (F2.out w1 (below_up B0.out b1))
  obtain ⟨⟨k0, k1⟩, k2, k3⟩ := box.out.cell w1 b1
  have HFa := Lib.hid hf
  clear b1 hf F2 D1
  cases b with
  | false =>
    clear HFin HFa D2
    go_wp2_with fail
    go_ret
    exact ⟨false, rfl, fun h => by simp at h, below_up B0.out B1.out⟩
  | true =>
    have HFin := Lib.hid (HFin.out (HFa.out rfl))
    clear HFa
    go_wp2_with fail
    refine D2.out.mono ?_; rintro e w2 ⟨b, rfl, hf, b2⟩
    have B2 := Lib.hid (below_up B1.out b2)
    have HFa := Lib.hid hf
    clear b2 hf D2 k0 k1 k2 k3 B1
    obtain ⟨⟨k0, k1⟩, k2, k3⟩ := box.out.cell w2 B2.out
    cases b with
    | false =>
      clear HFin HFa
      go_wp2_with fail
      go_ret
      exact ⟨false, rfl, fun h => by simp at h, below_up B0.out B2.out⟩
    | true =>
      have HFin := Lib.hid (HFin.out (HFa.out rfl))
      clear HFa
      by_cases h1 : ra.length ≤ 25
      · have HFin := Lib.hid (HFin.out h1)
        by_cases h2 : rb.length ≤ 25
        · have HFin := Lib.hid (HFin.out h2)
          by_cases h3 : ha.length ≤ 12
          · have HFin := Lib.hid (HFin.out h3)
            by_cases h4 : hb.length ≤ 12
            · have HFin := Lib.hid (HFin.out h4)
              have e1 : decide ((ra.length : Int) ≤ 25) = true := decide_eq_true (by omega)
              have e2 : decide ((rb.length : Int) ≤ 25) = true := decide_eq_true (by omega)
              have e3 : decide ((ha.length : Int) ≤ 12) = true := decide_eq_true (by omega)
              have e4 : decide ((hb.length : Int) ≤ 12) = true := decide_eq_true (by omega)
              go_wp2_with fail
              go_ret
              exact ⟨_, rfl, fun _ => HFin.out, below_up B0.out B2.out⟩
            · have e1 : decide ((ra.length : Int) ≤ 25) = true := decide_eq_true (by omega)
              have e2 : decide ((rb.length : Int) ≤ 25) = true := decide_eq_true (by omega)
              have e3 : decide ((ha.length : Int) ≤ 12) = true := decide_eq_true (by omega)
              have e4 : decide ((hb.length : Int) ≤ 12) = false := decide_eq_false (by omega)
              go_wp2_with fail
              go_ret
              exact ⟨false, rfl, fun h => by simp at h, below_up B0.out B2.out⟩
          · have e1 : decide ((ra.length : Int) ≤ 25) = true := decide_eq_true (by omega)
            have e2 : decide ((rb.length : Int) ≤ 25) = true := decide_eq_true (by omega)
            have e3 : decide ((ha.length : Int) ≤ 12) = false := decide_eq_false (by omega)
            go_wp2_with fail
            go_ret
            exact ⟨false, rfl, fun h => by simp at h, below_up B0.out B2.out⟩
        · have e1 : decide ((ra.length : Int) ≤ 25) = true := decide_eq_true (by omega)
          have e2 : decide ((rb.length : Int) ≤ 25) = false := decide_eq_false (by omega)
          go_wp2_with fail
          go_ret
          exact ⟨false, rfl, fun h => by simp at h, below_up B0.out B2.out⟩
      · have e1 : decide ((ra.length : Int) ≤ 25) = false := decide_eq_false (by omega)
        go_wp2_with fail
        go_ret
        exact ⟨false, rfl, fun h => by simp at h, below_up B0.out B2.out⟩
end Go.Proofs.YtdenehnneloegaaGreatDoor
