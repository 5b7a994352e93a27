/-
  Pairs through pairs: the program's answer.
  Conditions: lists of at most 2^30 pairs of Go integers.
-/
import Derived.Maps.Own
import Derived.Maps.OwnOps
import Derived.Maps.OwnSet
import Derived.Maps.Views
import Derived.IntWalk
import Derived.WalkArith
import Derived.OwnWalk
import Derived.Deep.Cut
import Derived.Deep.Onto
import Derived.Test.YtpejdnmfagjfhaaProg
import Derived.Test.YtpejdnmfagjfhaaPRest
namespace Go.Proofs.Ytpejdnmfagjfhaa
open Go.RowKit Go.Shelf Go.Maps
set_option linter.unusedVariables false

/-- the A of the first pair that has a B -/
def firstB (l : PL) (z : Int) : Option Int := (l.find? (fun p => p.2 == z)).map Prod.fst
theorem firstB_snoc (l : PL) (p : Int × Int) (z : Int) : firstB (l ++ [p]) z = (firstB l z).or (if p.2 = z then some p.1 else none) := by
  unfold firstB
  rw [List.find?_append]
  cases h : l.find? (fun p => p.2 == z) with
  | some q => rfl
  | none =>
    by_cases e : p.2 = z
    · simp [e]
    · simp [e]
structure FirstIs (D : DataW Unit) (l : PL) : Prop where
  map : IsMap D
  look : ∀ z, D.atKey (.int .i64 z) (.lit (.int .i64 0)) = .lit (.int .i64 ((firstB l z).getD 0))
  here : ∀ z, has D (.int .i64 z) = (firstB l z).isSome
theorem FirstIs.empty : FirstIs (.map []) [] := ⟨isMap_empty, fun z => rfl, fun z => rfl⟩
theorem FirstIs.put {D : DataW Unit} {l : PL} (h : FirstIs D l) (p : Int × Int) (hno : firstB l p.2 = none) : FirstIs (D.put (.int .i64 p.2) (.lit (.int .i64 p.1))) (l ++ [p]) := by
  refine ⟨h.map.put _ _, fun z => ?_, fun z => ?_⟩
  · rw [firstB_snoc]
    by_cases e : p.2 = z
    · subst e
      rw [atKey_put_same h.map (keyI _), hno]; simp
    · rw [atKey_put_other (fun e' => e (by injection e' with _ e2; exact e2.symm)), h.look]; simp [e]
  · rw [firstB_snoc]
    by_cases e : p.2 = z
    · subst e
      rw [has_put_same h.map (keyI _), hno]; simp
    · rw [has_put_other (fun e' => e (by injection e' with _ e2; exact e2.symm)), h.here]; simp [e]
theorem FirstIs.skip {D : DataW Unit} {l : PL} (h : FirstIs D l) (p : Int × Int) (a : Int) (hyes : firstB l p.2 = some a) : FirstIs D (l ++ [p]) := by
  have key : ∀ z, firstB (l ++ [p]) z = firstB l z := fun z => by
    rw [firstB_snoc]
    by_cases e : p.2 = z
    · subst e; rw [hyes]; rfl
    · simp [e]
  exact ⟨h.map, fun z => by rw [key]; exact h.look z, fun z => by rw [key]; exact h.here z⟩
theorem first_look {w : World} {b k : Nat} {D : DataW Unit} {l : PL} (h : w.ownsMap Try.prog 3 (plainElem Try.prog 3) b k D) (hS : FirstIs D l) (x : Int) (hx : (Lit.int .i64 x).wf = true) :
    (Instr.lookup 48 (.map (some b)) (.int .i64 x) true).run Try.prog w = .ok (.tuple #[.int .i64 ((firstB l x).getD 0), .bool (firstB l x).isSome]) w := by
  obtain ⟨v, ps, hrun, hv⟩ := h.look_ok (int_keyed Try.underlying3) Try.underlying48 (z := .int .i64 0) (Try.zeroValue3 _) (plainElem_int Try.underlying3 (by decide)) (keyOf_int_mk Try.underlying3 hx)
  obtain ⟨c, rfl, hc, _⟩ := plainElem_int_inv Try.underlying3 hv
  simp only [Prod.mk.injEq] at hc
  rw [hS.look] at hc
  have e : (firstB l x).getD 0 = c := by have := hc.1; injection this with h1; injection h1
  rw [hS.here] at hrun
  rw [e]; exact hrun
/-- pairs through pairs -/
def throughL (x y : PL) : PL := y.filterMap (fun p => (firstB x p.1).map (fun a => (a, p.2)))
theorem through_some (x y : PL) (k : Nat) (p : Int × Int) (a : Int) (hp : y[k]? = some p) (ha : firstB x p.1 = some a) : throughL x (y.take (k + 1)) = throughL x (y.take k) ++ [(a, p.2)] := by
  obtain ⟨hk, e⟩ := List.getElem?_eq_some_iff.1 hp
  unfold throughL
  rw [List.take_succ_eq_append_getElem hk, e, List.filterMap_append]
  simp [ha]
theorem through_none (x y : PL) (k : Nat) (p : Int × Int) (hp : y[k]? = some p) (ha : firstB x p.1 = none) : throughL x (y.take (k + 1)) = throughL x (y.take k) := by
  obtain ⟨hk, e⟩ := List.getElem?_eq_some_iff.1 hp
  unfold throughL
  rw [List.take_succ_eq_append_getElem hk, e, List.filterMap_append]
  simp [ha]
theorem through_len (x y : PL) : (throughL x y).length ≤ y.length := List.length_filterMap_le _ _
theorem through_le (x y : PL) (k : Nat) : (throughL x (y.take k)).length ≤ k := Nat.le_trans (through_len x _) (List.length_take_le _ _)
/-- pairs that come back -/
def PairsOut (l : PL) (w : World) (e : Ending) (w' : World) : Prop := ∃ ao cap, e = .returned (.slice ao l.length cap) ∧ PairsAt w' ao l ∧ (ao = none → cap = 0) ∧ l.length ≤ cap ∧ Below w.heap.size w w'
/-- a slice of pairs that grows -/
def OwnL (w : World) (base : Nat) (v : Value) (l : PL) : Prop := w.ownsRow base 37 2 v l.length (cellsP l)
theorem OwnL.pairsAt {w : World} {base : Nat} {v : Value} {l : PL} (h : OwnL w base v l) : ∃ ao cap, v = .slice ao l.length cap ∧ PairsAt w ao l ∧ (ao = none → cap = 0) ∧ l.length ≤ cap := by
  rcases h.2 with ⟨rfl, h0⟩ | ⟨g, cap, cur, rfl, h1, h2, h3, h4, h5, h6⟩
  · have hl : l = [] := List.eq_nil_of_length_eq_zero h0
    subst hl
    exact ⟨none, 0, rfl, .inl rfl, fun _ => rfl, Nat.le_refl _⟩
  · refine ⟨_, cap, rfl, .inr ⟨g, 0, rfl, (World.ownsRow.lt h g rfl).2, fun i p hp => ?_⟩, (fun e => by cases e), h3⟩
    obtain ⟨c1, c2⟩ := cellsP_at l i p hp
    have k1 := World.ownsRow.cells h rfl (i * 2) _ c1
    have k2 := World.ownsRow.cells h rfl (i * 2 + 1) _ c2
    have e : ∀ j, (⟨g, 0, none⟩ : Addr).add j = ⟨g, 0 + j, none⟩ := fun j => by unfold Addr.add; split <;> simp_all
    rw [e] at k1 k2
    exact ⟨k1, by rw [Nat.add_assoc]; exact k2⟩
theorem OwnL.end_ {w w' : World} {v : Value} {l : PL} (h : OwnL w' w.heap.size v l) (hB : Below w.heap.size w w') : PairsOut l w (.returned v) w' := by
  obtain ⟨ao, cap, rfl, h1, h2, h3⟩ := h.pairsAt
  exact ⟨ao, cap, rfl, h1, h2, h3, hB⟩
theorem lit_cellP (w : World) (a b : Value) (T : TypeId) : ∀ (j : Nat) u, [a, b][j]? = some u → (w.alloc (.cells #[a, b] T)).cell? ((⟨w.heap.size, 0, none⟩ : Addr).add j) = some u := fun j u hj => by
  rw [cell_row (World.alloc_heap_new w _)]
  match j, hj with
  | 0, hj => simp at hj; subst hj; rfl
  | 1, hj => simp at hj; subst hj; rfl

set_option maxRecDepth 100000 in
set_option maxHeartbeats 2000000 in
theorem through_any (ao bo : Option Addr) (ca cb : Nat) (xs ys : PL) (w : World) (hn : xs.length ≤ 1073741824) (hm : ys.length ≤ 1073741824) (hx : okP xs) (hy : okP ys) (hR : PairsAt w ao xs) (hS : PairsAt w bo ys) :
    Calls Try.prog 17 #[.slice ao xs.length ca, .slice bo ys.length cb] w (PairsOut (throughL xs ys) w) := by
  have hinfo : (Try.prog.info? 37).map (fun i => (i.zero, i.size, i.bytes)) = some (some (.agg #[.int .i64 0, .int .i64 0]), 2, 16) := by kernel_rfl
  obtain ⟨i0, hi, hz0, hz1, hz2⟩ := info_parts2 hinfo
  have HI := Lib.hid hi
  have HRo := Lib.hid hR
  have HSo := Lib.hid hS
  have HXo := Lib.hid hx
  have HYo := Lib.hid hy
  have hmm := @run_makeMap Try.prog
  clear hi hinfo hR hS hx hy
  obtain ⟨O, HQ⟩ : ∃ O : Nat → PL, Hid (O = fun k => throughL xs (ys.take k)) := ⟨_, Lib.hid rfl⟩
  rw [show throughL xs ys = O ys.length from by rw [HQ.out]; simp]
  go_enter Try.func17, Try.ntmps17
  go_wp2_with fail
  have HO : Hid ((w.alloc (.map #[] 0)).ownsMap Try.prog 3 (plainElem Try.prog 3) w.heap.size 0 (.map [] : DataW Unit)) := Lib.hid (World.ownsMap_made w _ _ _)
  have HB : Hid (Below w.heap.size w (w.alloc (.map #[] 0))) := Lib.hid ((Below.refl _ w).alloc (Nat.le_refl _) _)
  go_loopw [18] (fun i wr => ∃ (k : Nat) (D : DataW Unit), k ≤ xs.length ∧ i = .int .i64 k ∧ Hid (Below w.heap.size w wr) ∧ Hid (wr.ownsMap Try.prog 3 (plainElem Try.prog 3) w.heap.size k D) ∧ Hid (FirstIs D (xs.take k))) (fun i _ => xs.length - (intOf i).toNat)
  case atStart => exact ⟨0, _, Nat.zero_le _, rfl, HB, HO, Lib.hid FirstIs.empty⟩
  case round =>
    obtain ⟨k, D, hk, rfl, HB, HO, HD⟩ := hrel
    by_cases hlt : k < xs.length
    · obtain ⟨⟨x1, x2⟩, hx⟩ : ∃ x, xs[k]? = some x := ⟨_, List.getElem?_eq_getElem hlt⟩
      rcases (HRo.out.kept HB.out) with h0 | ⟨b, o, rfl, hA, hcell⟩
      · rw [h0] at hlt; simp at hlt
      obtain ⟨hc1, hc2⟩ := hcell k _ hx
      dsimp only at hc1 hc2
      have HW := Lib.hid (HXo.out _ (List.mem_of_getElem? hx))
      obtain ⟨V, HV⟩ : ∃ V, Hid (V = wr.alloc (.cells #[.int .i64 x1, .int .i64 x2] 37)) := ⟨_, Lib.hid rfl⟩
      have hVh : V.heap[wr.heap.size]? = some (.cells #[.int .i64 x1, .int .i64 x2] 37 (0, 0)) := by rw [HV.out]; exact World.alloc_heap_new _ _
      have v0 : V.cell? ⟨wr.heap.size, 0, none⟩ = some (.int .i64 x1) := (Lib.cell_of_heap hVh 0).trans rfl
      have v1 : V.cell? ⟨wr.heap.size, 1, none⟩ = some (.int .i64 x2) := (Lib.cell_of_heap hVh 1).trans rfl
      have hbV : Below wr.heap.size wr V := by rw [HV.out]; exact (Below.refl _ wr).alloc (Nat.le_refl _) _
      have HVO := Lib.hid (ownsMap_below HO.out hbV)
      have HVB := Lib.hid (below_up HB.out hbV)
      have HTk : Hid (xs.take (k + 1) = xs.take k ++ [(x1, x2)]) := Lib.hid (by
        obtain ⟨h1, e⟩ := List.getElem?_eq_some_iff.1 hx
        rw [List.take_succ_eq_append_getElem h1, e])
      have hlook := first_look HVO.out HD.out x2 HW.out.2
      have HP := Lib.hid (fun h => HD.out.put (x1, x2) h)
      have HSk := Lib.hid (fun a h => HD.out.skip (x1, x2) a h)
      clear hcell hx hbV hVh HO HB
      dsimp only at HP HSk
      generalize firstB (xs.take k) x2 = fx at hlook HP HSk
      cases fx with
      | none =>
        have HD2 := Lib.hid (HP.out rfl)
        have hkm : k < maxLen := by unfold maxLen; omega
        have HK := Lib.hid (keyOf_int_mk (P := Try.prog) Try.underlying3 HW.out.2)
        have HE := Lib.hid (plainElem_int (H := Unit) (P := Try.prog) Try.underlying3 HW.out.1)
        go_upto_region 5 with fail
        rw [← HV.out]
        go_wp2_with (at_mapUpdate; refine wpList_mapUpdate_own _ rfl _ _ _ 48 rfl 3 3 (int_keyed Try.underlying3) Try.underlying48 _ w.heap.size k D rfl HVO.out hkm _ _ (.int .i64 x2) rfl rfl HK.out (.lit (.int .i64 x1)) [] HE.out ?_; intro w3 ho hg)
        have HO3 := Lib.hid ho
        have HB3 := Lib.hid (HVB.out.grown hg HVB.out.size (fun k h => by cases h; exact Nat.le_refl _))
        have HD3 : Hid (FirstIs _ (xs.take (k + 1))) := Lib.hid (by rw [HTk.out]; exact HD2.out)
        clear ho hg hlook v0 v1
        go_wp2_with fail
        go_roundw
        case rel => exact ⟨k + 1, _, by omega, by go_num, HB3, HO3, HD3⟩
        case measure => simp [intOf]; omega
      | some a =>
        have HD3 : Hid (FirstIs D (xs.take (k + 1))) := Lib.hid (by rw [HTk.out]; exact HSk.out a rfl)
        have HO3 := Lib.hid (HVO.out.mono (Nat.le_succ k))
        go_upto_region 5 with fail
        rw [← HV.out]
        go_wp2_with fail
        go_roundw
        case rel => exact ⟨k + 1, _, by omega, by go_num, HVB, HO3, HD3⟩
        case measure => simp [intOf]; omega
    · obtain rfl : k = xs.length := by omega
      rw [List.take_length] at HD
      have HNs : Hid (∀ (k : Nat) p a, ys[k]? = some p → firstB xs p.1 = some a → O (k + 1) = O k ++ [(a, p.2)]) := Lib.hid (fun k p a hp ha => by rw [HQ.out]; exact through_some xs ys k p a hp ha)
      have HNn : Hid (∀ (k : Nat) p, ys[k]? = some p → firstB xs p.1 = none → O (k + 1) = O k) := Lib.hid (fun k p hp ha => by rw [HQ.out]; exact through_none xs ys k p hp ha)
      have HLe : Hid (∀ k, (O k).length ≤ k) := Lib.hid (fun k => by rw [HQ.out]; exact through_le xs ys k)
      have HZ : Hid (O 0 = []) := Lib.hid (by rw [HQ.out]; rfl)
      have HT : Hid (OwnL wr (w.heap.size + 1) (.slice none 0 0) (O 0)) := Lib.hid (by rw [HZ.out]; exact World.ownsRow_nil _ _ _ _)
      have hL0 : (O 0).length = 0 := by rw [HZ.out]; rfl
      clear hlt
      go_wp2_with fail
      obtain ⟨wo, rfl⟩ : ∃ wo : World, wo = wr := ⟨_, rfl⟩
      go_loopw [10, 39] (fun v i wr => ∃ (k q cp : Nat) (go : Option Addr), k ≤ ys.length ∧ i = .int .i64 k ∧ v = .slice go q cp ∧ Hid (q = (O k).length) ∧ Hid (Below w.heap.size w wr) ∧ Hid (wr.ownsMap Try.prog 3 (plainElem Try.prog 3) w.heap.size xs.length D) ∧ Hid (OwnL wr (w.heap.size + 1) (.slice go q cp) (O k))) (fun _ i _ => ys.length - (intOf i).toNat)
      case atStart => exact ⟨0, 0, 0, none, Nat.zero_le _, rfl, rfl, Lib.hid hL0.symm, HB, HO, HT⟩
      case round =>
        obtain ⟨k, q, cp, go, hk, rfl, rfl, HQ2, HB, HO, HT⟩ := hrel
        by_cases hlt : k < ys.length
        · obtain ⟨⟨y1, y2⟩, hy⟩ : ∃ y, ys[k]? = some y := ⟨_, List.getElem?_eq_getElem hlt⟩
          rcases (HSo.out.kept HB.out) with h0 | ⟨b, o, rfl, hA, hcell⟩
          · rw [h0] at hlt; simp at hlt
          obtain ⟨hc1, hc2⟩ := hcell k _ hy
          dsimp only at hc1 hc2
          have HW := Lib.hid (HYo.out _ (List.mem_of_getElem? hy))
          obtain ⟨V, HV⟩ : ∃ V, Hid (V = wr.alloc (.cells #[.int .i64 y1, .int .i64 y2] 37)) := ⟨_, Lib.hid rfl⟩
          have hVh : V.heap[wr.heap.size]? = some (.cells #[.int .i64 y1, .int .i64 y2] 37 (0, 0)) := by rw [HV.out]; exact World.alloc_heap_new _ _
          have v0 : V.cell? ⟨wr.heap.size, 0, none⟩ = some (.int .i64 y1) := (Lib.cell_of_heap hVh 0).trans rfl
          have v1 : V.cell? ⟨wr.heap.size, 1, none⟩ = some (.int .i64 y2) := (Lib.cell_of_heap hVh 1).trans rfl
          have hbV : Below wr.heap.size wr V := by rw [HV.out]; exact (Below.refl _ wr).alloc (Nat.le_refl _) _
          have HVO := Lib.hid (ownsMap_below HO.out hbV)
          have HVB := Lib.hid (below_up HB.out hbV)
          have HTO : Hid (wr.ownsRow (w.heap.size + 1) 37 2 (.slice go q cp) q (cellsP (O k))) := Lib.hid (by have := HT.out; unfold OwnL at this; rw [← HQ2.out] at this; exact this)
          have HVT := Lib.hid (ownsRow_below HTO.out hbV)
          have hlook := first_look HVO.out HD.out y1 HW.out.1
          have HS1 := Lib.hid (fun a h => HNs.out k _ a hy h)
          have HS2 := Lib.hid (fun h => HNn.out k _ hy h)
          have hws : w.heap.size + 1 ≤ V.heap.size := HVO.out.lt
          clear hcell hy hbV hVh HO HB HTO
          dsimp only at HS1 HS2
          generalize firstB xs y1 = fx at hlook HS1 HS2
          cases fx with
          | none =>
            have hstep := HS2.out rfl
            have HT2 : Hid (OwnL V (w.heap.size + 1) (.slice go q cp) (O (k + 1))) := Lib.hid (by unfold OwnL; rw [hstep, ← HQ2.out]; exact HVT.out)
            have HQ3 : Hid (q = (O (k + 1)).length) := Lib.hid (by rw [hstep]; exact HQ2.out)
            clear hstep HS1 HS2
            go_upto_region 13 with fail
            rw [← HV.out]
            go_wp2_with fail
            go_roundw
            case rel => exact ⟨k + 1, q, cp, go, by omega, by go_num, rfl, HQ3, HVB, HVO, HT2⟩
            case measure => simp [intOf]; omega
          | some a =>
            have hq : q ≤ k := by rw [HQ2.out]; exact HLe.out k
            have HST := Lib.hid (HS1.out a rfl)
            have HT1 := Lib.hid (HVT.out.alloc (.cells #[Value.int .i64 a, Value.int .i64 y2] 37))
            have hbs : w.heap.size + 1 ≤ (V.alloc (.cells #[Value.int .i64 a, Value.int .i64 y2] 37)).heap.size := by simp; omega
            clear HS1 HS2
            go_upto_region 13 with fail
            rw [← HV.out]
            go_wp2_with (at_builtin; refine wpList_append_own _ rfl _ _ 22 rfl (w.heap.size + 1) 37 i0 (.agg #[.int .i64 0, .int .i64 0]) 2 16 Try.underlying22 HI.out hz0 hz1 hz2 rfl (by decide) _ _ _ rfl HT1.out ⟨V.heap.size, 0, none⟩ 1 1 [Value.int .i64 a, Value.int .i64 y2] rfl rfl (lit_cellP V _ _ _) (fun u hu => by simp at hu; rcases hu with rfl | rfl <;> rfl) (by unfold maxLen; omega) (by omega) hbs ?_)
            intro v' w3 hown' hgrow _
            obtain ⟨g, gc, rfl⟩ := ownsRow_succ hown'
            have HO3 : Hid (w3.ownsMap Try.prog 3 (plainElem Try.prog 3) w.heap.size xs.length D) := Lib.hid ((HVO.out.alloc _).kept hgrow (fun e => by have := (HVT.out.lt _ e.symm).1; omega))
            have HB3 := Lib.hid ((HVB.out.alloc HVB.out.size (.cells #[Value.int .i64 a, Value.int .i64 y2] 37)).grown hgrow (by simp; omega) (fun j h => by have := (HVT.out.lt j h).1; omega))
            have HQ3 : Hid (q + 1 = (O (k + 1)).length) := Lib.hid (by rw [HST.out, List.length_append, ← HQ2.out]; rfl)
            have HT3 : Hid (OwnL w3 (w.heap.size + 1) (.slice (some ⟨g, 0, none⟩) (q + 1) gc) (O (k + 1))) := Lib.hid (by unfold OwnL; rw [← HQ3.out, HST.out, cellsP_app]; exact hown')
            clear hown' hgrow hbs hlook v0 v1
            go_wp2_with fail
            go_roundw
            case rel => exact ⟨k + 1, q + 1, gc, _, by omega, by go_num, rfl, HQ3, HB3, HO3, HT3⟩
            case measure => simp [intOf]; omega
        · obtain rfl : k = ys.length := by omega
          have HE := Lib.hid (OwnL.end_ (show OwnL wr w.heap.size _ _ from World.ownsRow.mono HT.out (Nat.le_succ _)) HB.out)
          clear HT HO
          go_wp2_with fail
          go_ret
          exact HE.out
end Go.Proofs.Ytpejdnmfagjfhaa
