/-
  Texts of these rows' proofs, laid one behind the other: IParts2, IZ, IKeys.
  Conditions: those of each theorem.
-/
import Derived.Maps.Own
import Derived.Maps.OwnOps
import Derived.Maps.Views
import Derived.WalkKit
import Derived.WalkMore
import Derived.IntWalk
import Derived.WalkArith
import Derived.OwnWalk
import Derived.Lib.Hide
import Derived.Lib.SmallJoins
import Derived.Laws.OwnMore
import Derived.Deep.Cut
import Derived.Test.YtdenehnneloegaaGreatDoorProg
import Derived.Test.YtdenehnneloegaaGreatDoorPb31
import Derived.RegionTactic
import Derived.BigRegion
import Derived.StillTailTactics
import Derived.BigQuiet
import Derived.Deep.QuietTactic
import Derived.Deep.CutRange
import Derived.Test.YtdenehnneloegaaGreatDoorPb5
namespace Go.Proofs.YtdenehnneloegaaGreatDoor
open Go.RowKit Go.Shelf Go.Maps
set_option linter.unusedVariables false
theorem found_none (rs : List (List ByteArray)) (cols : List Int) (row : Int) (k : Nat) (h : spotO rs cols row k = none) : foundL rs cols row (k + 1) = foundL rs cols row k := by
  unfold foundL; rw [List.range_succ, List.filterMap_append]; simp [h]
theorem found_some (rs : List (List ByteArray)) (cols : List Int) (row : Int) (k i : Nat) (h : spotO rs cols row k = some i) : foundL rs cols row (k + 1) = foundL rs cols row k ++ [i] := by
  unfold foundL; rw [List.range_succ, List.filterMap_append]; simp [h]
theorem found_le (rs : List (List ByteArray)) (cols : List Int) (row : Int) (k : Nat) : (foundL rs cols row k).length ≤ k := by
  unfold foundL; exact Nat.le_trans (List.length_filterMap_le _ _) (by simp)
theorem found_len (rs : List (List ByteArray)) (cols : List Int) (row : Nat) (r : List ByteArray) (hr : rs[row]? = some r) : (foundL rs cols row r.length).length = (partsL rs cols row).length := by
  rw [parts_spots, List.length_map, ← found_sorted rs cols row r hr, List.length_mergeSort]
theorem OwnN.above {w : World} {base : Nat} {c : Nat → ByteArray} {go : Option Addr} {q cp : Nat} {l : List Nat} (h : OwnN w base c (.slice go q cp) l) : ∀ A, go = some A → base ≤ A.block := fun A e => by
  unfold OwnN at h
  rcases h.2 with ⟨h1, _⟩ | ⟨g, cap, cur, h1, h2, _⟩
  · simp only [Value.slice.injEq] at h1; rw [h1.1] at e; cases e
  · simp only [Value.slice.injEq] at h1; rw [h1.1] at e; cases e; exact h2
theorem OwnN.there {w : World} {base : Nat} {c : Nat → ByteArray} {go : Option Addr} {q cp : Nat} {l : List Nat} (h : OwnN w base c (.slice go q cp) l) (hq : q ≠ 0) : ∃ g, go = some ⟨g, 0, none⟩ := by
  unfold OwnN at h
  rcases h.2 with ⟨h1, _⟩ | ⟨g, cap, cur, h1, h2, _⟩
  · simp only [Value.slice.injEq] at h1; exact absurd h1.2.1 hq
  · simp only [Value.slice.injEq] at h1; exact ⟨g, h1.1⟩
theorem OwnN.come {w : World} {base : Nat} {c : Nat → ByteArray} {ao : Option Addr} {q cp : Nat} {l : List Nat} (h : OwnN w base c (.slice ao q cp) l) : PartsAt w ao (l.map fun i => (i, c i)) := by
  obtain ⟨ao', cap, e1, e2, e3⟩ := h.partsAt
  simp only [Value.slice.injEq] at e1
  rw [e1.1]; exact e2
/-- parts that come back -/
def PartsOutI (L : List Part) (w : World) (e : Ending) (w' : World) : Prop := ∃ po pc, e = .returned (.slice po L.length pc) ∧ PartsAt w' po L ∧ (∀ A, po = some A → w.heap.size ≤ A.block) ∧ Below w.heap.size w w'
set_option maxRecDepth 100000 in
set_option maxHeartbeats 800000 in
theorem partsOf_any (ho : Option Addr) (m hc : Nat) (ro : Option Addr) (rc : Nat) (rs : List (List ByteArray)) (row : Nat) (r : List ByteArray) (hr : rs[row]? = some r) (B n : Nat) (D : DataW Unit) (cols : List Int) (w : World) (hcl : cols.length ≤ 1073741824)
    (hn2 : rs.length ≤ 1099511627776) (hx : ∀ r ∈ rs, r.length ≤ 1099511627776 ∧ ∀ c ∈ r, c.size ≤ 281474976710656) (hR : RowsAt w ro rs) (hM : w.ownsMap Tryz.prog 3 (plainElem Tryz.prog 3) B n D) (hD : FirstIsI D (colsP cols)) :
    Calls Tryz.prog 133 #[.agg #[.slice ho m hc, .slice ro rs.length rc], .int .i64 row, .map (some B)] w (PartsOutI (partsL rs cols row) w) := by
  have hinfo : (Tryz.prog.info? 116).map (fun i => (i.zero, i.size, i.bytes)) = some (some (.agg #[.int .i64 0, .string ⟨#[]⟩]), 2, 24) := by kernel_rfl
  obtain ⟨i0, hi, hz0, hz1, hz2⟩ := info_parts2 hinfo
  have HI := Lib.hid hi
  have HRo := Lib.hid hR
  have hrl : row < rs.length := (List.getElem?_eq_some_iff.1 hr).1
  have HRW := Lib.hid hr
  have HRl : r.length ≤ 1099511627776 := (hx r (List.mem_of_getElem? hr)).1
  have CC := Lib.hid (fun W (k : Nat) (h : Below w.heap.size w W) => tcell_any ho m hc ro rc rs (row : Int) (k : Int) W hn2 hx (hR.kept h))
  have HNew := Lib.hid (World.alloc_heap_new w (TabO ho m hc ro rs.length rc))
  have HB0 := Lib.hid (one_below w (TabO ho m hc ro rs.length rc))
  have HM0 := Lib.hid (ownsMapI_below hM HB0.out)
  have HD := Lib.hid hD
  obtain ⟨O, HQ⟩ : ∃ O : Nat → List Nat, Hid (O = foundL rs cols row) := ⟨_, Lib.hid rfl⟩
  obtain ⟨cl, HCl⟩ : ∃ cl : Nat → ByteArray, Hid (cl = placeC rs cols row) := ⟨_, Lib.hid rfl⟩
  have HFin : Hid (((O r.length).mergeSort fun x y => decide (x ≤ y)).map (fun i => (i, cl i)) = partsL rs cols row) := Lib.hid (by rw [HQ.out, HCl.out, found_sorted rs cols row r hr, ← parts_spots])
  have HFl : Hid ((O r.length).length = (partsL rs cols row).length) := Lib.hid (by rw [HQ.out]; exact found_len rs cols row r hr)
  generalize partsL rs cols row = L at HFin HFl ⊢
  clear hi hinfo hR hr hx hM hD
  go_enter Tryz.func133, Tryz.ntmps133
  go_upto_region 2 with fail
  obtain ⟨W0, HW0⟩ : ∃ W, Hid (W = w.alloc (TabO ho m hc ro rs.length rc)) := ⟨_, Lib.hid rfl⟩
  rw [show w.alloc (TabO ho m hc ro rs.length rc) = W0 from HW0.out.symm] at HB0 HNew HM0
  try rw [← HW0.out]
  obtain ⟨c0, c1⟩ := tabs HNew.out
  rcases (HRo.out.kept HB0.out) with h0 | ⟨A, rfl, hA, hcell⟩
  · rw [h0] at hrl; simp at hrl
  obtain ⟨xo, xc, hcr, hxr⟩ := hcell row r HRW.out
  clear hcell hxr
  have HW1 : Hid (w.heap.size + 1 = W0.heap.size) := Lib.hid (by rw [HW0.out]; simp)
  have HT : Hid (OwnN W0 (w.heap.size + 1) cl (.slice none 0 0) (O 0)) := Lib.hid (by rw [show O 0 = [] from by rw [HQ.out]; rfl]; exact World.ownsRow_nil _ _ _ _)
  have hL0 : (O 0).length = 0 := by rw [HQ.out]; rfl
  have HH : Hid (∀ V, Below w.heap.size w V → w.heap.size + 1 ≤ V.heap.size → True) := Lib.hid (fun _ _ _ => trivial)
  go_wp2_with fail
  clear c0 c1 hcr
  go_loopw [7, 18] (fun v i wr => ∃ (k q cp : Nat) (go : Option Addr), k ≤ r.length ∧ i = .int .i64 k ∧ v = .slice go q cp ∧ Hid (q = (O k).length) ∧ Hid (Below W0.heap.size W0 wr) ∧ Hid (wr.ownsMap Tryz.prog 3 (plainElem Tryz.prog 3) B n D) ∧ Hid (OwnN wr (w.heap.size + 1) cl (.slice go q cp) (O k))) (fun _ i _ => r.length - (intOf i).toNat)
  case atStart => exact ⟨0, 0, 0, none, Nat.zero_le _, rfl, rfl, Lib.hid hL0.symm, Lib.hid (Below.refl _ _), HM0, HT⟩
  case round =>
    obtain ⟨k, q, cp, go, hk, rfl, rfl, HQ2, HB, HO, HT⟩ := hrel
    by_cases hlt : k < r.length
    · have hwk : (Lit.int .i64 (k : Int)).wf = true := Go.WalkArith.wf_i64 (n := (k : Int)) (by omega)
      have hlook := first_lookI HO.out HD.out (k : Int) hwk
      have C1 := Lib.hid (CC.out wr k (below_up HB0.out HB.out))
      obtain ⟨c0, c1⟩ := tabs ((HB.out.block _ (lt_of_heap HNew.out)).trans HNew.out)
      have HS : Hid (spotO rs cols row k = match firstBI (colsP cols) k with | some a => if cellL rs row k = ByteArray.empty then none else some a.toNat | none => none) := Lib.hid rfl
      have HN0 : Hid (spotO rs cols row k = none → O (k + 1) = O k) := Lib.hid (fun h => by rw [HQ.out]; exact found_none rs cols row k h)
      have HN1 : Hid (∀ i, spotO rs cols row k = some i → O (k + 1) = O k ++ [i] ∧ firstBI (colsP cols) k = some (i : Int) ∧ cl i = cellL rs row k ∧ i < 1073741824) := Lib.hid (fun i h => by
        obtain ⟨h1, h2, h3⟩ := spot_is rs cols row k i h
        refine ⟨by rw [HQ.out]; exact found_some rs cols row k i h, h1, ?_, ?_⟩
        · rw [HCl.out]; unfold placeC; rw [List.getD_eq_getElem?_getD, h3]; rfl
        · have := (List.getElem?_eq_some_iff.1 h3).1; omega)
      have HLe : Hid ((O k).length ≤ k) := Lib.hid (by rw [HQ.out]; exact found_le rs cols row k)
      generalize spotO rs cols row k = sp at HS HN0 HN1
      generalize firstBI (colsP cols) k = fx at hlook HS HN1
      generalize cellL rs row k = x at C1 HS HN1
      cases fx with
      | none =>
        have hs : sp = none := HS.out
        have HT2 : Hid (OwnN wr (w.heap.size + 1) cl (.slice go q cp) (O (k + 1))) := Lib.hid (by rw [HN0.out hs]; exact HT.out)
        have HQ3 : Hid (q = (O (k + 1)).length) := Lib.hid (by rw [HN0.out hs]; exact HQ2.out)
        clear hs HS HN0 HN1 C1 c0 c1
        go_wp2_with fail
        go_roundw
        case rel => exact ⟨k + 1, q, cp, go, by omega, by go_num, rfl, HQ3, HB, HO, HT2⟩
        case measure => simp [intOf]; omega
      | some a =>
        by_cases hxe : x = ByteArray.empty
        · have hs : sp = none := by rw [HS.out]; simp only; rw [if_pos hxe]
          have HT2 : Hid (OwnN wr (w.heap.size + 1) cl (.slice go q cp) (O (k + 1))) := Lib.hid (by rw [HN0.out hs]; exact HT.out)
          have HQ3 : Hid (q = (O (k + 1)).length) := Lib.hid (by rw [HN0.out hs]; exact HQ2.out)
          have hbe : x.toList.isEmpty = true := by rw [ba_toList, hxe]; rfl
          clear hs HS HN0 HN1 hxe
          go_wp2_with fail
          refine C1.out.mono ?_; rintro e w2 ⟨rfl, b2⟩
          have HB2 := Lib.hid (below_up HB.out b2)
          have HO2 := Lib.hid (ownsMapI_below HO.out b2)
          have HT3 : Hid (OwnN w2 (w.heap.size + 1) cl (.slice go q cp) (O (k + 1))) := Lib.hid (ownsRow_below HT2.out b2)
          clear b2 c0 c1 HT2
          go_wp2_with fail
          go_roundw
          case rel => exact ⟨k + 1, q, cp, go, by omega, by go_num, rfl, HQ3, HB2, HO2, HT3⟩
          case measure => simp [intOf]; omega
        · have hs : sp = some a.toNat := by rw [HS.out]; simp only; rw [if_neg hxe]
          obtain ⟨h1, h2, h3, h4⟩ := HN1.out _ hs
          obtain ⟨i, hi⟩ : ∃ i, i = a.toNat := ⟨_, rfl⟩
          rw [← hi] at h1 h2 h3 h4
          simp only [Option.some.injEq] at h2
          subst h2
          have HST := Lib.hid h1
          have HX3 := Lib.hid h3
          have hne : x.toList.isEmpty = false := by
            cases h : x.toList.isEmpty with
            | false => rfl
            | true =>
              exfalso
              apply hxe
              have h6 : x.data.toList = [] := by rw [← ba_toList]; exact List.isEmpty_iff.1 h
              cases x; simp at h6; subst h6; rfl
          clear hs HS HN0 HN1 hxe h1 h3 hi
          go_wp2_with fail
          refine C1.out.mono ?_; rintro e w2 ⟨rfl, b2⟩
          have HB2 := Lib.hid (below_up HB.out b2)
          have HO2 := Lib.hid (ownsMapI_below HO.out b2)
          have HT0 : Hid (w2.ownsRow (w.heap.size + 1) 116 2 (.slice go q cp) q (cellsN cl (O k))) := Lib.hid (by have := HT.out; unfold OwnN at this; rw [← HQ2.out] at this; exact ownsRow_below this b2)
          have HT1 := Lib.hid (HT0.out.alloc (.cells #[Value.int .i64 (i : Int), Value.string x] 116))
          have hbs : w.heap.size + 1 ≤ (w2.alloc (.cells #[Value.int .i64 (i : Int), Value.string x] 116)).heap.size := by have := HB2.out.size; have := HW1.out; simp; omega
          have hq : q ≤ k := by rw [HQ2.out]; exact HLe.out
          clear b2 c0 c1
          go_wp2_with (at_builtin; refine wpList_append_own _ rfl _ _ 117 rfl (w.heap.size + 1) 116 i0 (.agg #[.int .i64 0, .string ⟨#[]⟩]) 2 24 Tryz.underlying117 HI.out hz0 hz1 hz2 rfl (by decide) _ _ _ rfl HT1.out ⟨w2.heap.size, 0, none⟩ 1 1 [Value.int .i64 (i : Int), Value.string x] rfl rfl (lit_cellQ w2 _ _ _) (fun u hu => by simp at hu; rcases hu with rfl | rfl <;> rfl) (by unfold maxLen; omega) (by omega) hbs ?_)
          intro v' w3 hown' hgrow _
          obtain ⟨g, gc, rfl⟩ := ownsRow_succ hown'
          have HO3 : Hid (w3.ownsMap Tryz.prog 3 (plainElem Tryz.prog 3) B n D) := Lib.hid ((HO2.out.alloc _).kept hgrow (fun e => by have := (HT0.out.lt _ e.symm).1; have := HM0.out.lt; have := HW1.out; omega))
          have HB3 := Lib.hid ((HB2.out.alloc HB2.out.size (.cells #[Value.int .i64 (i : Int), Value.string x] 116)).grown hgrow (by have := HB2.out.size; have := HW1.out; simp; omega) (fun j h => by have := (HT0.out.lt j h).1; have := HW1.out; omega))
          have HQ3 : Hid (q + 1 = (O (k + 1)).length) := Lib.hid (by rw [HST.out, List.length_append, ← HQ2.out]; rfl)
          have HT3 : Hid (OwnN w3 (w.heap.size + 1) cl (.slice (some ⟨g, 0, none⟩) (q + 1) gc) (O (k + 1))) := Lib.hid (by
            have e : cellsN cl [i] = [Value.int .i64 (i : Int), Value.string x] := by rw [cellsN_cons, HX3.out]; rfl
            unfold OwnN; rw [← HQ3.out, HST.out, cellsN_app, e]; exact hown')
          clear hown' hgrow hbs hlook HT0 HT1
          go_wp2_with fail
          go_roundw
          case rel => exact ⟨k + 1, q + 1, gc, _, by omega, by go_num, rfl, HQ3, HB3, HO3, HT3⟩
          case measure => simp [intOf]; omega
    · obtain rfl : k = r.length := by omega
      have HQL : Hid (q = L.length) := Lib.hid (by rw [HQ2.out, HFl.out])
      by_cases hq0 : q = 0
      · have hnil : Hid (L = []) := Lib.hid (List.eq_nil_of_length_eq_zero (by have := HQL.out; omega))
        subst hq0
        have CN := Lib.hid (fun W => AnyF.slices_SortFunc_none { laysFi with } go cp (.func (.func 185) #[] #[]) W)
        have HE : Hid (PartsOutI L w (.returned (.slice go 0 cp)) wr) := Lib.hid ⟨go, cp, by rw [← HQL.out], by rw [hnil.out]; exact .inl rfl, (fun A' e => Nat.le_of_succ_le (HT.out.above A' e)), below_up HB0.out HB.out⟩
        clear HQL HFin HFl
        go_wp2_with fail
        refine (CN.out _).mono ?_; rintro e w2 ⟨rfl, rfl⟩
        go_wp2_with fail
        go_ret
        exact HE.out
      · obtain ⟨g, rfl⟩ := HT.out.there hq0
        have CS := Lib.hid (psort_any cl (w.heap.size + 1) g q cp (O r.length) wr (by have := found_le rs cols row r.length; rw [← HQ.out, ← HQ2.out] at this; omega) HQ2.out.symm HT.out)
        have hgl : w.heap.size + 1 ≤ g := HT.out.above _ rfl
        go_wp2_with fail
        refine CS.out.mono ?_; rintro e w2 ⟨rfl, h1, h2⟩
        have HE : Hid (PartsOutI L w (.returned (.slice (some ⟨g, 0, none⟩) q cp)) w2) := Lib.hid ⟨_, cp, by rw [HQL.out], by rw [← HFin.out]; exact h1.come, fun A' e => by cases e; exact Nat.le_of_succ_le hgl, (below_up HB0.out HB.out).grown h2 (by have := HB.out.size; have := HW1.out; omega) (fun j h => by cases h; omega)⟩
        clear h1 h2
        go_wp2_with fail
        go_ret
        exact HE.out
end Go.Proofs.YtdenehnneloegaaGreatDoor
namespace Go.Proofs.YtdenehnneloegaaGreatDoor
open Go.RowKit Go.Shelf
set_option linter.unusedVariables false
/-- the cells of numbers -/
def cellsZ (l : PL) : List Value := l.map fun p => .int .i64 p.1
theorem cellsZ_set (l : PL) (k : Nat) (a b : Int) : (cellsZ l).set k (.int .i64 a) = cellsZ (l.set k (a, b)) := by
  unfold cellsZ; rw [List.map_set]
/-- a slice of numbers that the code owns -/
structure OwnZ (w0 : World) (Kg : Int × Int → Prop) (w : World) (base g n : Nat) (l : PL) : Prop where
  len : l.length = n
  own : w.ownsRow base 3 1 (.slice (some ⟨g, 0, none⟩) n n) n (cellsZ l)
  good : ∀ p ∈ l, Kg p
  grown : w0.grownBy w (some g)
/-- the comparison of two numbers is told by their ranks, in every world in which all but block g is as it was -/
def CmpOK (w0 : World) (g : Nat) (Kg : Int × Int → Prop) (G : FuncId) (cap0 : Value) : Prop := ∀ a b c d, Kg (a, b) → Kg (c, d) → ∀ W, w0.grownBy W (some g) →
  Calls Tryz.prog G #[.int .i64 a, .int .i64 c, cap0] W fun e w' => e = .returned (.int .i64 (cmpI b d)) ∧ Below W.heap.size W w'
theorem OwnZ.lt {w0 : World} {Kg : Int × Int → Prop} {w : World} {base g n : Nat} {l : PL} (h : OwnZ w0 Kg w base g n l) : base ≤ g ∧ g < w.heap.size := h.own.lt g rfl
theorem OwnZ.kept {w0 : World} {Kg : Int × Int → Prop} {w w' : World} {base g n : Nat} {l : PL} (h : OwnZ w0 Kg w base g n l) (hB : Below w.heap.size w w') : OwnZ w0 Kg w' base g n l := ⟨h.len, ownsRowP_below h.own hB, h.good, grown_trans h.grown (grown_below hB)⟩
theorem OwnZ.at {w0 : World} {Kg : Int × Int → Prop} {w : World} {base g n : Nat} {l : PL} (h : OwnZ w0 Kg w base g n l) (k : Nat) (p : Int × Int) (hp : l[k]? = some p) : Kg p := h.good p (List.mem_of_getElem? hp)
theorem OwnZ.cell {w0 : World} {Kg : Int × Int → Prop} {w : World} {base g n : Nat} {l : PL} (h : OwnZ w0 Kg w base g n l) (k : Nat) (p : Int × Int) (hp : l[k]? = some p) : w.cell? ⟨g, k, none⟩ = some (.int .i64 p.1) := by
  obtain ⟨hk, _⟩ := List.getElem?_eq_some_iff.1 hp
  have hl := h.len
  have h1 : (cellsZ l)[k]? = some (.int .i64 p.1) := by unfold cellsZ; rw [List.getElem?_map, hp]; rfl
  exact (h.own.cellAt k (by omega)).trans h1
theorem OwnZ.frozen {w0 : World} {Kg : Int × Int → Prop} {w : World} {base g n : Nat} {l : PL} (h : OwnZ w0 Kg w base g n l) (k : Nat) : w.frozen? ⟨g, k, none⟩ = false := h.own.frozenAt k
theorem OwnZ.store {w0 : World} {Kg : Int × Int → Prop} {w : World} {base g n : Nat} {l : PL} (h : OwnZ w0 Kg w base g n l) (k : Nat) (a b : Int) (hk : Kg (a, b)) : OwnZ w0 Kg (w.setCell ⟨g, k, none⟩ (.int .i64 a)) base g n (l.set k (a, b)) := by
  refine ⟨by simp [h.len], ?_, fun p hp => ?_, grown_trans h.grown (grown_set w g k _)⟩
  · rw [← cellsZ_set l k a b]
    exact (h.own.stored k (.int .i64 a)).1
  · rcases List.mem_or_eq_of_mem_set hp with h1 | rfl
    · exact h.good p h1
    · exact hk
theorem OwnZ.swap {w0 : World} {Kg : Int × Int → Prop} {w : World} {base g n : Nat} {l : PL} (h : OwnZ w0 Kg w base g n l) (i j : Nat) (a b c d : Int) (hi : i < n) (hj : j < n) (h1 : Kg (a, b)) (h2 : Kg (c, d)) :
    OwnZ w0 Kg ((w.setCell ⟨g, i, none⟩ (.int .i64 a)).setCell ⟨g, j, none⟩ (.int .i64 c)) base g n ((l.set i (a, b)).set j (c, d)) :=
  (h.store i a b h1).store j c d h2
theorem grown_swapZ (w : World) (g i j : Nat) (a c : Value) : w.grownBy ((w.setCell ⟨g, i, none⟩ a).setCell ⟨g, j, none⟩ c) (some g) :=
  grown_trans (grown_set w g _ a) (grown_set _ g _ c)
end Go.Proofs.YtdenehnneloegaaGreatDoor
namespace Go.Proofs.YtdenehnneloegaaGreatDoor
open Go.RowKit Go.Shelf Go.Maps
set_option linter.unusedVariables false
theorem parts_few (rs : List (List ByteArray)) (cols : List Int) (row : Int) : (partsL rs cols row).length ≤ cols.length := by
  rw [parts_spots, List.length_map]
  unfold spotsL
  exact Nat.le_trans (List.length_filter_le _ _) (by simp)
/-- the keys of all rows, as parts -/
def keysL (rs : List (List ByteArray)) (cols : List Int) : List (List Part) := (List.range rs.length).map fun (i : Nat) => partsL rs cols (i : Int)
theorem keysL_len (rs : List (List ByteArray)) (cols : List Int) : (keysL rs cols).length = rs.length := by simp [keysL]
theorem keysL_at (rs : List (List ByteArray)) (cols : List Int) (i : Nat) (h : i < rs.length) : (keysL rs cols)[i]? = some (partsL rs cols (i : Int)) := by simp [keysL, h]
def KeysAt (w : World) (ko : Option Addr) (Ls : List (List Part)) : Prop := Ls = [] ∨ ∃ A, ko = some A ∧ A.block < w.heap.size ∧ ∀ (i : Nat) L, Ls[i]? = some L → ∃ po pc, w.cell? (A.add i) = some (.slice po L.length pc) ∧ PartsAt w po L
theorem KeysAt.kept {w w' : World} {ko : Option Addr} {Ls : List (List Part)} (h : KeysAt w ko Ls) (hB : Below w.heap.size w w') : KeysAt w' ko Ls := by
  rcases h with h | ⟨A, h1, h2, h3⟩
  · exact .inl h
  · refine .inr ⟨A, h1, Nat.lt_of_lt_of_le h2 hB.size, fun i L hL => ?_⟩
    obtain ⟨po, pc, h4, h5⟩ := h3 i L hL
    exact ⟨po, pc, (hB.cell (p := A.add i) (by rw [add_block]; exact h2)).trans h4, h5.kept hB⟩
/-- a list of parts as a value, behind block g -/
def PartV (w : World) (g : Nat) (L : List Part) (v : Value) : Prop := ∃ po pc, v = .slice po L.length pc ∧ PartsAt w po L ∧ ∀ A, po = some A → g < A.block
theorem PartV.kept {w w' : World} {g : Nat} {L : List Part} {v : Value} (h : PartV w g L v) (hB : Below w.heap.size w w') : PartV w' g L v := by
  obtain ⟨po, pc, h1, h2, h3⟩ := h
  exact ⟨po, pc, h1, h2.kept hB, h3⟩
theorem PartV.put {w : World} {g : Nat} {L : List Part} {v : Value} (h : PartV w g L v) (k : Nat) (u : Value) : PartV (w.setCell ⟨g, k, none⟩ u) g L v := by
  obtain ⟨po, pc, h1, h2, h3⟩ := h
  refine ⟨po, pc, h1, ?_, h3⟩
  rcases h2 with h2 | ⟨b, o, h4, h5, h6⟩
  · exact .inl h2
  · have hne : g < b := h3 _ h4
    have key : ∀ j, (w.setCell ⟨g, k, none⟩ u).cell? ⟨b, j, none⟩ = w.cell? ⟨b, j, none⟩ := fun j => World.cell?_of_block (a := ⟨b, j, none⟩) (heap_setCell_other w ⟨g, k, none⟩ b u (by show b ≠ g; omega))
    refine .inr ⟨b, o, h4, by simpa using h5, fun i p hp => ?_⟩
    rw [key, key]; exact h6 i p hp
/-- values of which the first k are there -/
def madeV (vs : List Value) (n : Nat) : List Value := vs ++ List.replicate (n - vs.length) (.slice none 0 0)
theorem madeV_next (vs : List Value) (n : Nat) (v : Value) (h : vs.length < n) : (madeV vs n).set vs.length v = madeV (vs ++ [v]) n := by
  unfold madeV
  rw [List.set_append_right _ _ (Nat.le_refl _), Nat.sub_self, List.length_append]
  obtain ⟨m, hm⟩ : ∃ m, n - vs.length = m + 1 := ⟨n - vs.length - 1, by omega⟩
  rw [hm, show n - (vs.length + [v].length) = m from by simp; omega, List.replicate_succ]
  simp
theorem madeV_zero (n : Nat) : madeV [] n = List.replicate n (.slice none 0 0) := by simp [madeV]
theorem madeV_all (vs : List Value) (n : Nat) (h : vs.length = n) : madeV vs n = vs := by simp [madeV, h]
theorem madeV_len (vs : List Value) (n : Nat) (h : vs.length ≤ n) : (madeV vs n).length = n := by simp [madeV]; omega
set_option maxRecDepth 100000 in
set_option maxHeartbeats 1000000 in
theorem keysOf_any (ho : Option Addr) (m hc : Nat) (ro : Option Addr) (rc : Nat) (rs : List (List ByteArray)) (co : Option Addr) (cc : Nat) (cols : List Int) (w : World) (hcl : cols.length ≤ 1073741824) (hn : rs.length ≤ 1073741824)
    (hx : ∀ r ∈ rs, r.length ≤ 1099511627776 ∧ ∀ c ∈ r, c.size ≤ 281474976710656) (hwf : ∀ c ∈ cols, (Lit.int .i64 c).wf = true) (hR : RowsAt w ro rs) (hI : IntsAt w co cols) :
    Calls Tryz.prog 83 #[.agg #[.slice ho m hc, .slice ro rs.length rc], .slice co cols.length cc] w fun e w' => ∃ ko, e = .returned (.slice ko rs.length rs.length) ∧ KeysAt w' ko (keysL rs cols) ∧ Below w.heap.size w w' := by
  have hinfo : (Tryz.prog.info? 117).map (fun i => (i.zero, i.size, i.bytes)) = some (some (.slice none 0 0), 1, 24) := by kernel_rfl
  obtain ⟨i0, hi, hz0, hz1, hz2⟩ := info_parts2 hinfo
  have HI := Lib.hid hi
  have hm : rs.length ≤ maxLen := by unfold maxLen; omega
  have HNew := Lib.hid (World.alloc_heap_new w (TabO ho m hc ro rs.length rc))
  have HB0 := Lib.hid (one_below w (TabO ho m hc ro rs.length rc))
  have CF := Lib.hid (firstsC_any co cc cols (w.alloc (TabO ho m hc ro rs.length rc)) hcl hwf (hI.kept HB0.out))
  have CP := Lib.hid (fun (row : Nat) (r : List ByteArray) (hr : rs[row]? = some r) (B n : Nat) (D : DataW Unit) V (h : Below w.heap.size w V) h1 h2 => partsOf_any ho m hc ro rc rs row r hr B n D cols V hcl (by omega) hx (hR.kept h) h1 h2)
  have HKl := Lib.hid (keysL_at rs cols)
  have HKn := Lib.hid (keysL_len rs cols)
  clear hi hinfo hR hI hx hwf
  generalize keysL rs cols = Ls at HKl HKn ⊢
  go_enter Tryz.func83, Tryz.ntmps83
  go_wp2_with fail
  refine CF.out.mono ?_
  rintro e w1 ⟨B, D, rfl, hB0, hM, hD, b1⟩
  have B1 := Lib.hid (below_up HB0.out b1)
  have HM := Lib.hid hM
  have HD := Lib.hid hD
  obtain ⟨c0, c1⟩ := tabs ((b1.block _ (by simp)).trans HNew.out)
  have HX1 := Lib.hid ((b1.block _ (by simp)).trans HNew.out)
  clear b1 hM hD hB0 CF HNew HB0
  go_wp2_with (at_make; refine wpList_make_full _ rfl _ _ 111 rfl w1.heap.size 117 i0 (.slice none 0 0) 1 Tryz.underlying111 HI.out hz0 hz1 .i64 .i64 (rs.length : Int) (rs.length : Int) rs.length rfl rfl rfl rfl (by rw [hz2]; omega) hm (Nat.le_refl _) ?_; intro w2 hown hgrow)
  have HB2 : Hid (Below w1.heap.size w1 w2) := Lib.hid ((Below.refl _ w1).grown hgrow (Nat.le_refl _) (fun k h => by cases h))
  have HO : Hid (w2.ownsRow w1.heap.size 117 1 (.slice (some ⟨w1.heap.size, 0, none⟩) rs.length rs.length) rs.length (madeV [] rs.length)) := Lib.hid (by
    rw [madeV_zero]; rw [Nat.mul_one] at hown; rw [← toList_madeCells_one]; exact hown)
  have HM2 := Lib.hid (ownsMapI_below HM.out HB2.out)
  have HBl := Lib.hid HM.out.lt
  obtain ⟨g, hg⟩ : ∃ g, g = w1.heap.size := ⟨_, rfl⟩
  rw [← hg] at HO HBl ⊢
  have HG := Lib.hid hg
  clear hown hgrow c0 c1 hg
  go_wp2_with fail
  go_loopw [16] (fun i wr => ∃ (k : Nat) (vs : List Value), k ≤ rs.length ∧ i = .int .i64 k ∧ Hid (vs.length = k) ∧ Hid (Below w1.heap.size w1 wr) ∧ Hid (wr.ownsRow g 117 1 (.slice (some ⟨g, 0, none⟩) rs.length rs.length) rs.length (madeV vs rs.length)) ∧ Hid (∀ (i : Nat) v L, vs[i]? = some v → Ls[i]? = some L → PartV wr g L v) ∧ Hid (wr.ownsMap Tryz.prog 3 (plainElem Tryz.prog 3) B cols.length D)) (fun i _ => rs.length - (intOf i).toNat)
  case atStart => exact ⟨0, [], Nat.zero_le _, rfl, Lib.hid rfl, HB2, HO, Lib.hid (fun i v L h => by simp at h), HM2⟩
  case round =>
    obtain ⟨k, vs, hk, rfl, HVl, HB, HO, HP, HM⟩ := hrel
    by_cases hlt : k < rs.length
    · obtain ⟨r, hr⟩ : ∃ r, rs[k]? = some r := ⟨_, List.getElem?_eq_getElem hlt⟩
      have C1 := Lib.hid (CP.out k r hr B cols.length D wr (below_up B1.out HB.out) HM.out HD.out)
      have HL := Lib.hid (HKl.out k hlt)
      obtain ⟨c0, c1⟩ := tabs ((HB.out.block _ (lt_of_heap HX1.out)).trans HX1.out)
      clear hr
      generalize partsL rs cols (k : Int) = L at C1 HL
      go_wp2_with fail
      refine C1.out.mono ?_; rintro e w3 ⟨po, pc, rfl, hpa, hpb, b3⟩
      have hgs : g < wr.heap.size := (HO.out.lt g rfl).2
      have HV : Hid (PartV w3 g L (.slice po L.length pc)) := Lib.hid ⟨po, pc, rfl, hpa, fun A e => Nat.lt_of_lt_of_le hgs (hpb A e)⟩
      have HB3 := Lib.hid (below_up HB.out b3)
      have HO3 := Lib.hid (ownsRow_below HO.out b3)
      have HM3 := Lib.hid (ownsMapI_below HM.out b3)
      have HP3 : Hid (∀ (i : Nat) v L, vs[i]? = some v → Ls[i]? = some L → PartV w3 g L v) := Lib.hid (fun i v L h1 h2 => (HP.out i v L h1 h2).kept b3)
      have HLl : Hid (L.length = L.length) := Lib.hid rfl
      clear hpa hpb b3 c0 c1 hgs
      have hml : (madeV vs rs.length).length = rs.length := madeV_len vs _ (by rw [HVl.out]; omega)
      have hcell : w3.cell? ⟨g, k, none⟩ = some ((madeV vs rs.length)[k]'(by omega)) := by
        rw [HO3.out.cellAt k (by omega), List.getElem?_eq_getElem]
      have hfr : w3.frozen? ⟨g, k, none⟩ = false := HO3.out.frozenAt k
      generalize (madeV vs rs.length)[k]'(by omega) = old at hcell
      obtain ⟨v, hv⟩ : ∃ v, v = Value.slice po L.length pc := ⟨_, rfl⟩
      have HO4 := Lib.hid (HO3.out.stored k v).1
      rw [show (madeV vs rs.length).set k v = madeV (vs ++ [v]) rs.length from by have := madeV_next vs rs.length v (by rw [HVl.out]; omega); rwa [HVl.out] at this] at HO4
      have HB4 := Lib.hid (HB3.out.setCell (p := ⟨g, k, none⟩) (by rw [HG.out]; exact Nat.le_refl _) v)
      have HM4 : Hid ((w3.setCell ⟨g, k, none⟩ v).ownsMap Tryz.prog 3 (plainElem Tryz.prog 3) B cols.length D) := Lib.hid (HM3.out.kept (grown_set w3 g k v) (fun e => by have := HBl.out; simp at e; omega))
      have HP4 : Hid (∀ (i : Nat) u L, (vs ++ [v])[i]? = some u → Ls[i]? = some L → PartV (w3.setCell ⟨g, k, none⟩ v) g L u) := Lib.hid (fun i u L' h1 h2 => by
        rw [List.getElem?_append] at h1
        split at h1
        · exact (HP3.out i u L' h1 h2).put k v
        · rename_i hge
          have hle : i < (vs ++ [v]).length := by
            have := (List.getElem?_eq_some_iff.1 h1).1
            simp at this ⊢; omega
          have hik : i = k := by rw [HVl.out] at hge; simp at hle; rw [HVl.out] at hle; omega
          subst hik
          rw [HVl.out, Nat.sub_self] at h1
          simp at h1; subst h1
          rw [HL.out] at h2; cases h2
          rw [← hv] at HV
          exact HV.out.put _ _)
      have HVl4 : Hid ((vs ++ [v]).length = k + 1) := Lib.hid (by simp [HVl.out])
      subst hv
      clear hml HP HP3 HO HO3 HM HM3 HB HB3 HVl
      go_wp2_with fail
      go_roundw
      case rel => exact ⟨k + 1, _, by omega, by go_num, HVl4, HB4, HO4, HP4, HM4⟩
      case measure => simp [intOf]; omega
    · obtain rfl : k = rs.length := by omega
      have HE : Hid (KeysAt wr (some ⟨g, 0, none⟩) Ls) := Lib.hid (by
        refine .inr ⟨⟨g, 0, none⟩, rfl, (HO.out.lt g rfl).2, fun i L hL => ?_⟩
        have hi : i < rs.length := by rw [← HKn.out]; exact (List.getElem?_eq_some_iff.1 hL).1
        obtain ⟨v, hv⟩ : ∃ v, vs[i]? = some v := ⟨_, List.getElem?_eq_getElem (by rw [HVl.out]; exact hi)⟩
        obtain ⟨po, pc, rfl, h2, h3⟩ := HP.out i v L hv hL
        refine ⟨po, pc, ?_, h2⟩
        have e : (⟨g, 0, none⟩ : Addr).add i = ⟨g, i, none⟩ := by unfold Addr.add; split <;> simp_all
        rw [e, HO.out.cellAt i (by rw [Nat.mul_one]; exact hi), madeV_all vs _ HVl.out]; exact hv)
      clear HO HP
      go_wp2_with fail
      go_ret
      exact ⟨_, rfl, HE.out, below_up B1.out HB.out⟩
end Go.Proofs.YtdenehnneloegaaGreatDoor
