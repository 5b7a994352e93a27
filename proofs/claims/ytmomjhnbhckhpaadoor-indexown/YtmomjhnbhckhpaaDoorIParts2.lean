/-
  The parts of a row's key, as the program makes them: the whole.
  Conditions: at most 2^40 rows, each of at most 2^40 cells of at most 2^48 bytes; at most 2^30 columns that Go integers hold.
-/
import Derived.Maps.Own
import Derived.Maps.OwnOps
import Derived.Maps.Views
import Derived.WalkKit
import Derived.WalkMore
import Derived.IntWalk
import Derived.WalkArith
import Derived.OwnWalk
import Derived.Lib.Hide
import Derived.Lib.SmallJoins
import Derived.Laws.OwnMore
import Derived.Deep.Cut
import Derived.Test.YtmomjhnbhckhpaaDoorProg
import Derived.Test.YtmomjhnbhckhpaaDoorIParts
namespace Go.Proofs.YtmomjhnbhckhpaaDoor
open Go.RowKit Go.Shelf Go.Maps
set_option linter.unusedVariables false

theorem found_none (rs : List (List ByteArray)) (cols : List Int) (row : Int) (k : Nat) (h : spotO rs cols row k = none) : foundL rs cols row (k + 1) = foundL rs cols row k := by
  unfold foundL; rw [List.range_succ, List.filterMap_append]; simp [h]
theorem found_some (rs : List (List ByteArray)) (cols : List Int) (row : Int) (k i : Nat) (h : spotO rs cols row k = some i) : foundL rs cols row (k + 1) = foundL rs cols row k ++ [i] := by
  unfold foundL; rw [List.range_succ, List.filterMap_append]; simp [h]
theorem found_le (rs : List (List ByteArray)) (cols : List Int) (row : Int) (k : Nat) : (foundL rs cols row k).length ≤ k := by
  unfold foundL; exact Nat.le_trans (List.length_filterMap_le _ _) (by simp)
theorem found_len (rs : List (List ByteArray)) (cols : List Int) (row : Nat) (r : List ByteArray) (hr : rs[row]? = some r) : (foundL rs cols row r.length).length = (partsL rs cols row).length := by
  rw [parts_spots, List.length_map, ← found_sorted rs cols row r hr, List.length_mergeSort]
theorem OwnN.above {w : World} {base : Nat} {c : Nat → ByteArray} {go : Option Addr} {q cp : Nat} {l : List Nat} (h : OwnN w base c (.slice go q cp) l) : ∀ A, go = some A → base ≤ A.block := fun A e => by
  unfold OwnN at h
  rcases h.2 with ⟨h1, _⟩ | ⟨g, cap, cur, h1, h2, _⟩
  · simp only [Value.slice.injEq] at h1; rw [h1.1] at e; cases e
  · simp only [Value.slice.injEq] at h1; rw [h1.1] at e; cases e; exact h2
theorem OwnN.there {w : World} {base : Nat} {c : Nat → ByteArray} {go : Option Addr} {q cp : Nat} {l : List Nat} (h : OwnN w base c (.slice go q cp) l) (hq : q ≠ 0) : ∃ g, go = some ⟨g, 0, none⟩ := by
  unfold OwnN at h
  rcases h.2 with ⟨h1, _⟩ | ⟨g, cap, cur, h1, h2, _⟩
  · simp only [Value.slice.injEq] at h1; exact absurd h1.2.1 hq
  · simp only [Value.slice.injEq] at h1; exact ⟨g, h1.1⟩
theorem OwnN.come {w : World} {base : Nat} {c : Nat → ByteArray} {ao : Option Addr} {q cp : Nat} {l : List Nat} (h : OwnN w base c (.slice ao q cp) l) : PartsAt w ao (l.map fun i => (i, c i)) := by
  obtain ⟨ao', cap, e1, e2, e3⟩ := h.partsAt
  simp only [Value.slice.injEq] at e1
  rw [e1.1]; exact e2
/-- parts that come back -/
def PartsOut (L : List Part) (w : World) (e : Ending) (w' : World) : Prop := ∃ po pc, e = .returned (.slice po L.length pc) ∧ PartsAt w' po L ∧ (∀ A, po = some A → w.heap.size ≤ A.block) ∧ Below w.heap.size w w'

set_option maxRecDepth 100000 in
set_option maxHeartbeats 800000 in
theorem partsOf_any (ho : Option Addr) (m hc : Nat) (ro : Option Addr) (rc : Nat) (rs : List (List ByteArray)) (row : Nat) (r : List ByteArray) (hr : rs[row]? = some r) (B n : Nat) (D : DataW Unit) (cols : List Int) (w : World) (hcl : cols.length ≤ 1073741824)
    (hn2 : rs.length ≤ 1099511627776) (hx : ∀ r ∈ rs, r.length ≤ 1099511627776 ∧ ∀ c ∈ r, c.size ≤ 281474976710656) (hR : RowsAt w ro rs) (hM : w.ownsMap Tryd.prog 3 (plainElem Tryd.prog 3) B n D) (hD : FirstIs D (colsP cols)) :
    Calls Tryd.prog 53 #[.agg #[.slice ho m hc, .slice ro rs.length rc], .int .i64 row, .map (some B)] w (PartsOut (partsL rs cols row) w) := by
  have hinfo : (Tryd.prog.info? 48).map (fun i => (i.zero, i.size, i.bytes)) = some (some (.agg #[.int .i64 0, .string ⟨#[]⟩]), 2, 24) := by kernel_rfl
  obtain ⟨i0, hi, hz0, hz1, hz2⟩ := info_parts2 hinfo
  have HI := Lib.hid hi
  have HRo := Lib.hid hR
  have hrl : row < rs.length := (List.getElem?_eq_some_iff.1 hr).1
  have HRW := Lib.hid hr
  have HRl : r.length ≤ 1099511627776 := (hx r (List.mem_of_getElem? hr)).1
  have CC := Lib.hid (fun W (k : Nat) (h : Below w.heap.size w W) => tcell_any ho m hc ro rc rs (row : Int) (k : Int) W hn2 hx (hR.kept h))
  have HNew := Lib.hid (World.alloc_heap_new w (TabO ho m hc ro rs.length rc))
  have HB0 := Lib.hid (one_below w (TabO ho m hc ro rs.length rc))
  have HM0 := Lib.hid (ownsMap_below hM HB0.out)
  have HD := Lib.hid hD
  obtain ⟨O, HQ⟩ : ∃ O : Nat → List Nat, Hid (O = foundL rs cols row) := ⟨_, Lib.hid rfl⟩
  obtain ⟨cl, HCl⟩ : ∃ cl : Nat → ByteArray, Hid (cl = placeC rs cols row) := ⟨_, Lib.hid rfl⟩
  have HFin : Hid (((O r.length).mergeSort fun x y => decide (x ≤ y)).map (fun i => (i, cl i)) = partsL rs cols row) := Lib.hid (by rw [HQ.out, HCl.out, found_sorted rs cols row r hr, ← parts_spots])
  have HFl : Hid ((O r.length).length = (partsL rs cols row).length) := Lib.hid (by rw [HQ.out]; exact found_len rs cols row r hr)
  generalize partsL rs cols row = L at HFin HFl ⊢
  clear hi hinfo hR hr hx hM hD
  go_enter Tryd.func53, Tryd.ntmps53
  go_upto_region 2 with fail
  obtain ⟨W0, HW0⟩ : ∃ W, Hid (W = w.alloc (TabO ho m hc ro rs.length rc)) := ⟨_, Lib.hid rfl⟩
  rw [show w.alloc (TabO ho m hc ro rs.length rc) = W0 from HW0.out.symm] at HB0 HNew HM0
  try rw [← HW0.out]
  obtain ⟨c0, c1⟩ := tabs HNew.out
  rcases (HRo.out.kept HB0.out) with h0 | ⟨A, rfl, hA, hcell⟩
  · rw [h0] at hrl; simp at hrl
  obtain ⟨xo, xc, hcr, hxr⟩ := hcell row r HRW.out
  clear hcell hxr
  have HW1 : Hid (w.heap.size + 1 = W0.heap.size) := Lib.hid (by rw [HW0.out]; simp)
  have HT : Hid (OwnN W0 (w.heap.size + 1) cl (.slice none 0 0) (O 0)) := Lib.hid (by rw [show O 0 = [] from by rw [HQ.out]; rfl]; exact World.ownsRow_nil _ _ _ _)
  have hL0 : (O 0).length = 0 := by rw [HQ.out]; rfl
  have HH : Hid (∀ V, Below w.heap.size w V → w.heap.size + 1 ≤ V.heap.size → True) := Lib.hid (fun _ _ _ => trivial)
  go_wp2_with fail
  clear c0 c1 hcr
  go_loopw [7, 18] (fun v i wr => ∃ (k q cp : Nat) (go : Option Addr), k ≤ r.length ∧ i = .int .i64 k ∧ v = .slice go q cp ∧ Hid (q = (O k).length) ∧ Hid (Below W0.heap.size W0 wr) ∧ Hid (wr.ownsMap Tryd.prog 3 (plainElem Tryd.prog 3) B n D) ∧ Hid (OwnN wr (w.heap.size + 1) cl (.slice go q cp) (O k))) (fun _ i _ => r.length - (intOf i).toNat)
  case atStart => exact ⟨0, 0, 0, none, Nat.zero_le _, rfl, rfl, Lib.hid hL0.symm, Lib.hid (Below.refl _ _), HM0, HT⟩
  case round =>
    obtain ⟨k, q, cp, go, hk, rfl, rfl, HQ2, HB, HO, HT⟩ := hrel
    by_cases hlt : k < r.length
    · have hwk : (Lit.int .i64 (k : Int)).wf = true := Go.WalkArith.wf_i64 (n := (k : Int)) (by omega)
      have hlook := first_look HO.out HD.out (k : Int) hwk
      have C1 := Lib.hid (CC.out wr k (below_up HB0.out HB.out))
      obtain ⟨c0, c1⟩ := tabs ((HB.out.block _ (lt_of_heap HNew.out)).trans HNew.out)
      have HS : Hid (spotO rs cols row k = match firstB (colsP cols) k with | some a => if cellL rs row k = ByteArray.empty then none else some a.toNat | none => none) := Lib.hid rfl
      have HN0 : Hid (spotO rs cols row k = none → O (k + 1) = O k) := Lib.hid (fun h => by rw [HQ.out]; exact found_none rs cols row k h)
      have HN1 : Hid (∀ i, spotO rs cols row k = some i → O (k + 1) = O k ++ [i] ∧ firstB (colsP cols) k = some (i : Int) ∧ cl i = cellL rs row k ∧ i < 1073741824) := Lib.hid (fun i h => by
        obtain ⟨h1, h2, h3⟩ := spot_is rs cols row k i h
        refine ⟨by rw [HQ.out]; exact found_some rs cols row k i h, h1, ?_, ?_⟩
        · rw [HCl.out]; unfold placeC; rw [List.getD_eq_getElem?_getD, h3]; rfl
        · have := (List.getElem?_eq_some_iff.1 h3).1; omega)
      have HLe : Hid ((O k).length ≤ k) := Lib.hid (by rw [HQ.out]; exact found_le rs cols row k)
      generalize spotO rs cols row k = sp at HS HN0 HN1
      generalize firstB (colsP cols) k = fx at hlook HS HN1
      generalize cellL rs row k = x at C1 HS HN1
      cases fx with
      | none =>
        have hs : sp = none := HS.out
        have HT2 : Hid (OwnN wr (w.heap.size + 1) cl (.slice go q cp) (O (k + 1))) := Lib.hid (by rw [HN0.out hs]; exact HT.out)
        have HQ3 : Hid (q = (O (k + 1)).length) := Lib.hid (by rw [HN0.out hs]; exact HQ2.out)
        clear hs HS HN0 HN1 C1 c0 c1
        go_wp2_with fail
        go_roundw
        case rel => exact ⟨k + 1, q, cp, go, by omega, by go_num, rfl, HQ3, HB, HO, HT2⟩
        case measure => simp [intOf]; omega
      | some a =>
        by_cases hxe : x = ByteArray.empty
        · have hs : sp = none := by rw [HS.out]; simp only; rw [if_pos hxe]
          have HT2 : Hid (OwnN wr (w.heap.size + 1) cl (.slice go q cp) (O (k + 1))) := Lib.hid (by rw [HN0.out hs]; exact HT.out)
          have HQ3 : Hid (q = (O (k + 1)).length) := Lib.hid (by rw [HN0.out hs]; exact HQ2.out)
          have hbe : x.toList.isEmpty = true := by rw [ba_toList, hxe]; rfl
          clear hs HS HN0 HN1 hxe
          go_wp2_with fail
          refine C1.out.mono ?_; rintro e w2 ⟨rfl, b2⟩
          have HB2 := Lib.hid (below_up HB.out b2)
          have HO2 := Lib.hid (ownsMap_below HO.out b2)
          have HT3 : Hid (OwnN w2 (w.heap.size + 1) cl (.slice go q cp) (O (k + 1))) := Lib.hid (ownsRow_below HT2.out b2)
          clear b2 c0 c1 HT2
          go_wp2_with fail
          go_roundw
          case rel => exact ⟨k + 1, q, cp, go, by omega, by go_num, rfl, HQ3, HB2, HO2, HT3⟩
          case measure => simp [intOf]; omega
        · have hs : sp = some a.toNat := by rw [HS.out]; simp only; rw [if_neg hxe]
          obtain ⟨h1, h2, h3, h4⟩ := HN1.out _ hs
          obtain ⟨i, hi⟩ : ∃ i, i = a.toNat := ⟨_, rfl⟩
          rw [← hi] at h1 h2 h3 h4
          simp only [Option.some.injEq] at h2
          subst h2
          have HST := Lib.hid h1
          have HX3 := Lib.hid h3
          have hne : x.toList.isEmpty = false := by
            cases h : x.toList.isEmpty with
            | false => rfl
            | true =>
              exfalso
              apply hxe
              have h6 : x.data.toList = [] := by rw [← ba_toList]; exact List.isEmpty_iff.1 h
              cases x; simp at h6; subst h6; rfl
          clear hs HS HN0 HN1 hxe h1 h3 hi
          go_wp2_with fail
          refine C1.out.mono ?_; rintro e w2 ⟨rfl, b2⟩
          have HB2 := Lib.hid (below_up HB.out b2)
          have HO2 := Lib.hid (ownsMap_below HO.out b2)
          have HT0 : Hid (w2.ownsRow (w.heap.size + 1) 48 2 (.slice go q cp) q (cellsN cl (O k))) := Lib.hid (by have := HT.out; unfold OwnN at this; rw [← HQ2.out] at this; exact ownsRow_below this b2)
          have HT1 := Lib.hid (HT0.out.alloc (.cells #[Value.int .i64 (i : Int), Value.string x] 48))
          have hbs : w.heap.size + 1 ≤ (w2.alloc (.cells #[Value.int .i64 (i : Int), Value.string x] 48)).heap.size := by have := HB2.out.size; have := HW1.out; simp; omega
          have hq : q ≤ k := by rw [HQ2.out]; exact HLe.out
          clear b2 c0 c1
          go_wp2_with (at_builtin; refine wpList_append_own _ rfl _ _ 49 rfl (w.heap.size + 1) 48 i0 (.agg #[.int .i64 0, .string ⟨#[]⟩]) 2 24 Tryd.underlying49 HI.out hz0 hz1 hz2 rfl (by decide) _ _ _ rfl HT1.out ⟨w2.heap.size, 0, none⟩ 1 1 [Value.int .i64 (i : Int), Value.string x] rfl rfl (lit_cellQ w2 _ _ _) (fun u hu => by simp at hu; rcases hu with rfl | rfl <;> rfl) (by unfold maxLen; omega) (by omega) hbs ?_)
          intro v' w3 hown' hgrow _
          obtain ⟨g, gc, rfl⟩ := ownsRow_succ hown'
          have HO3 : Hid (w3.ownsMap Tryd.prog 3 (plainElem Tryd.prog 3) B n D) := Lib.hid ((HO2.out.alloc _).kept hgrow (fun e => by have := (HT0.out.lt _ e.symm).1; have := HM0.out.lt; have := HW1.out; omega))
          have HB3 := Lib.hid ((HB2.out.alloc HB2.out.size (.cells #[Value.int .i64 (i : Int), Value.string x] 48)).grown hgrow (by have := HB2.out.size; have := HW1.out; simp; omega) (fun j h => by have := (HT0.out.lt j h).1; have := HW1.out; omega))
          have HQ3 : Hid (q + 1 = (O (k + 1)).length) := Lib.hid (by rw [HST.out, List.length_append, ← HQ2.out]; rfl)
          have HT3 : Hid (OwnN w3 (w.heap.size + 1) cl (.slice (some ⟨g, 0, none⟩) (q + 1) gc) (O (k + 1))) := Lib.hid (by
            have e : cellsN cl [i] = [Value.int .i64 (i : Int), Value.string x] := by rw [cellsN_cons, HX3.out]; rfl
            unfold OwnN; rw [← HQ3.out, HST.out, cellsN_app, e]; exact hown')
          clear hown' hgrow hbs hlook HT0 HT1
          go_wp2_with fail
          go_roundw
          case rel => exact ⟨k + 1, q + 1, gc, _, by omega, by go_num, rfl, HQ3, HB3, HO3, HT3⟩
          case measure => simp [intOf]; omega
    · obtain rfl : k = r.length := by omega
      have HQL : Hid (q = L.length) := Lib.hid (by rw [HQ2.out, HFl.out])
      by_cases hq0 : q = 0
      · have hnil : Hid (L = []) := Lib.hid (List.eq_nil_of_length_eq_zero (by have := HQL.out; omega))
        subst hq0
        have CN := Lib.hid (fun W => AnyF.slices_SortFunc_none { laysF with } go cp (.func (.func 70) #[] #[]) W)
        have HE : Hid (PartsOut L w (.returned (.slice go 0 cp)) wr) := Lib.hid ⟨go, cp, by rw [← HQL.out], by rw [hnil.out]; exact .inl rfl, (fun A' e => Nat.le_of_succ_le (HT.out.above A' e)), below_up HB0.out HB.out⟩
        clear HQL HFin HFl
        go_wp2_with fail
        refine (CN.out _).mono ?_; rintro e w2 ⟨rfl, rfl⟩
        go_wp2_with fail
        go_ret
        exact HE.out
      · obtain ⟨g, rfl⟩ := HT.out.there hq0
        have CS := Lib.hid (psort_any cl (w.heap.size + 1) g q cp (O r.length) wr (by have := found_le rs cols row r.length; rw [← HQ.out, ← HQ2.out] at this; omega) HQ2.out.symm HT.out)
        have hgl : w.heap.size + 1 ≤ g := HT.out.above _ rfl
        go_wp2_with fail
        refine CS.out.mono ?_; rintro e w2 ⟨rfl, h1, h2⟩
        have HE : Hid (PartsOut L w (.returned (.slice (some ⟨g, 0, none⟩) q cp)) w2) := Lib.hid ⟨_, cp, by rw [HQL.out], by rw [← HFin.out]; exact h1.come, fun A' e => by cases e; exact Nat.le_of_succ_le hgl, (below_up HB0.out HB.out).grown h2 (by have := HB.out.size; have := HW1.out; omega) (fun j h => by cases h; omega)⟩
        clear h1 h2
        go_wp2_with fail
        go_ret
        exact HE.out
end Go.Proofs.YtmomjhnbhckhpaaDoor
