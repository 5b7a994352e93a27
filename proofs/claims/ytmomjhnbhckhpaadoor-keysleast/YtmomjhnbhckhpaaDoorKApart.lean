/-
  Whether a choice of candidates tells the rows of each table apart, and its names: what the program answers.
  Conditions: at most 2^30 tables, each with at most 2^40 names and rows and cells of at most 2^20 bytes; choices of at most 2^20 candidates.
-/
import Derived.WalkKit
import Derived.WalkMore
import Derived.IntWalk
import Derived.WalkArith
import Derived.OwnWalk
import Derived.Lib.Hide
import Derived.Test.YtmomjhnbhckhpaaDoorProg
import Derived.Test.YtmomjhnbhckhpaaDoorKCands
namespace Go.Proofs.YtmomjhnbhckhpaaDoor
open Go.RowKit Go.Shelf Go.Maps
set_option linter.unusedVariables false

/-- the columns of a choice in a table -/
def colsOf (ch : List Cand) (i : Nat) : List Int := ch.map fun c => c.2.getD i 0
/-- are the rows of each table told apart? -/
def apartC (ts : List Tab) (ch : List Cand) : Bool := (List.range ts.length).all fun i => match ts[i]? with | some t => uniqL t.1.length t.2 (colsOf ch i) | none => true
theorem apartC_no {ts : List Tab} {ch : List Cand} {i : Nat} {t : Tab} (ht : ts[i]? = some t) (h : uniqL t.1.length t.2 (colsOf ch i) = false) : apartC ts ch = false := by
  unfold apartC
  rw [List.all_eq_false]
  exact ⟨i, List.mem_range.2 (List.getElem?_eq_some_iff.1 ht).1, by rw [ht]; simpa using h⟩
theorem apartC_yes {ts : List Tab} {ch : List Cand} (h : ∀ i t, ts[i]? = some t → uniqL t.1.length t.2 (colsOf ch i) = true) : apartC ts ch = true := by
  unfold apartC
  rw [List.all_eq_true]
  intro i hi
  rw [List.mem_range] at hi
  rw [List.getElem?_eq_getElem hi]
  exact h i _ (List.getElem?_eq_getElem hi)
/-- tables that are small enough -/
def TabsOk (ts : List Tab) : Prop := ∀ t ∈ ts, t.1.length ≤ 1099511627776 ∧ t.2.length ≤ 1099511627776 ∧ SmallK t.2
def CandsOk (ts : List Tab) (ch : List Cand) : Prop := ∀ c ∈ ch, c.2.length = ts.length ∧ ∀ x ∈ c.2, (Lit.int .i64 x).wf = true

set_option maxRecDepth 100000 in
set_option maxHeartbeats 8000000 in
theorem apart_any (lo : Option Addr) (lc : Nat) (ts : List Tab) (co : Option Addr) (cc : Nat) (ch : List Cand) (w : World) (hts : ts.length ≤ 1073741824) (hcl : ch.length ≤ 1048576) (hT : TabsOk ts) (hC : CandsOk ts ch) (hL : TabsAt w lo ts) (hR : CandsAt w co ch) (hpow : Pow w) :
    Calls Tryd.prog 39 #[.slice lo ts.length lc, .slice co ch.length cc] w fun e w' => e = .returned (.bool (apartC ts ch)) ∧ Below w.heap.size w w' := by
  have HTo := Lib.hid hT
  have HCo := Lib.hid hC
  have HLo := Lib.hid hL
  have HRo := Lib.hid hR
  have HP := Lib.hid hpow
  have HNo := Lib.hid (fun i t h k => @apartC_no ts ch i t h k)
  have HYs := Lib.hid (fun h => @apartC_yes ts ch h)
  have hmk := make_ints ch.length (by omega) w
  obtain ⟨F, hF⟩ : ∃ F, F = apartC ts ch := ⟨_, rfl⟩
  rw [← hF] at HNo HYs ⊢
  obtain ⟨U, HU⟩ : ∃ U, Hid (U = w.alloc (.cells (cellsI (List.replicate ch.length 0)) 3)) := ⟨_, Lib.hid rfl⟩
  have HB0 : Hid (Below w.heap.size w U) := Lib.hid (by rw [HU.out]; exact one_below w _)
  have HX0 : Hid (∃ X : List Int, X.length = ch.length ∧ U.heap[w.heap.size]? = some (.cells (cellsI X) 3 (0, 0))) := Lib.hid ⟨List.replicate ch.length 0, by simp, by rw [HU.out]; exact World.alloc_heap_new _ _⟩
  clear hT hC hL hR hpow hF
  go_enter Tryd.func39, Tryd.ntmps39
  go_wp2_with fail
  rw [← HU.out]
  go_loopw [15] (fun j wr => ∃ k : Nat, k ≤ ts.length ∧ j = .int .i64 k ∧ Hid (Below w.heap.size w wr) ∧ Hid (∃ X : List Int, X.length = ch.length ∧ wr.heap[w.heap.size]? = some (.cells (cellsI X) 3 (0, 0))) ∧ Hid (∀ i t, i < k → ts[i]? = some t → uniqL t.1.length t.2 (colsOf ch i) = true)) (fun j _ => ts.length - (intOf j).toNat)
  case atStart => exact ⟨0, Nat.zero_le _, rfl, HB0, HX0, Lib.hid (fun i t h => by omega)⟩
  case round =>
    obtain ⟨k, hk, rfl, HB, HX, HA⟩ := hrel
    clear HB0 HX0 hmk
    by_cases hlt : k < ts.length
    · obtain ⟨t, ht⟩ : ∃ t, ts[k]? = some t := ⟨_, List.getElem?_eq_getElem hlt⟩
      have HTk := Lib.hid ht
      rcases HLo.out with h0 | ⟨tb, tof, rfl, hA, hcell⟩
      · rw [h0] at hlt; simp at hlt
      obtain ⟨ho, hc, ro, rc, c1, c2, -, hrows⟩ := hcell k t ht
      replace c1 := (HB.out.cell (p := ⟨tb, _, none⟩) hA).trans c1
      replace c2 := (HB.out.cell (p := ⟨tb, _, none⟩) hA).trans c2
      obtain ⟨t1, t2, t3⟩ := HTo.out t (List.mem_of_getElem? ht)
      have HT1 := Lib.hid t1
      have HT2 := Lib.hid t2
      have HT3 := Lib.hid t3
      obtain ⟨V, HV⟩ : ∃ V, Hid (V = wr.alloc (.cells #[.slice ho t.1.length hc, .slice ro t.2.length rc] 25)) := ⟨_, Lib.hid rfl⟩
      have hbV : Below wr.heap.size wr V := by rw [HV.out]; exact one_below wr _
      have hVh : V.heap[wr.heap.size]? = some (.cells #[.slice ho t.1.length hc, .slice ro t.2.length rc] 25 (0, 0)) := by rw [HV.out]; exact World.alloc_heap_new _ _
      have HVh := Lib.hid hVh
      have HBV := Lib.hid (below_up HB.out hbV)
      have HRW := Lib.hid hrows
      have HlV := Lib.hid (lt_of_heap hVh)
      have HXV : Hid (∃ X : List Int, X.length = ch.length ∧ X.take 0 = (colsOf ch k).take 0 ∧ V.heap[w.heap.size]? = some (.cells (cellsI X) 3 (0, 0))) := Lib.hid (by
        obtain ⟨X, h1, h2⟩ := HX.out
        exact ⟨X, h1, by simp, (hbV.block _ (lt_of_heap h2)).trans h2⟩)
      have hws : w.heap.size ≤ wr.heap.size := HB.out.size
      have HWlt := Lib.hid (show w.heap.size < wr.heap.size from by obtain ⟨X, h1, h2⟩ := HX.out; exact lt_of_heap h2)
      clear hcell hrows t1 t2 t3 hbV hVh ht HB HX
      go_upto_region 5 with fail
      rw [← HV.out]
      go_wp2_with fail
      obtain ⟨wo, rfl⟩ : ∃ wo : World, wo = wr := ⟨_, rfl⟩
      go_loopw [22] (fun j wr => ∃ q : Nat, q ≤ ch.length ∧ j = .int .i64 q ∧ Hid (Below w.heap.size w wr) ∧ Hid (wr.heap[wo.heap.size]? = some (.cells #[.slice ho t.1.length hc, .slice ro t.2.length rc] 25 (0, 0))) ∧ Hid (∃ X : List Int, X.length = ch.length ∧ X.take q = (colsOf ch k).take q ∧ wr.heap[w.heap.size]? = some (.cells (cellsI X) 3 (0, 0)))) (fun j _ => ch.length - (intOf j).toNat)
      case atStart => exact ⟨0, Nat.zero_le _, rfl, HBV, HVh, HXV⟩
      case round =>
        obtain ⟨q, hq, rfl, HB, HT, HX⟩ := hrel
        clear HBV HVh HXV
        by_cases hlq : q < ch.length
        · obtain ⟨⟨nm, xs⟩, hcq⟩ : ∃ c, ch[q]? = some c := ⟨_, List.getElem?_eq_getElem hlq⟩
          obtain ⟨hxl, -⟩ := HCo.out _ (List.mem_of_getElem? hcq)
          dsimp only at hxl
          obtain ⟨y, hy⟩ : ∃ y, xs[k]? = some y := ⟨_, List.getElem?_eq_getElem (by omega)⟩
          have HFq : Hid ((colsOf ch k)[q]? = some y) := Lib.hid (by unfold colsOf; rw [List.getElem?_map, hcq]; simp [List.getD_eq_getElem?_getD, hy])
          have hkx : k < xs.length := by omega
          rcases (HRo.out.kept HB.out) with h0 | ⟨cb, cof, rfl, hcA, hccell⟩
          · rw [h0] at hlq; simp at hlq
          obtain ⟨n0, ao, ac, n1, hints⟩ := hccell q _ hcq
          dsimp only at n0 n1 hints
          rcases hints with h0 | ⟨A, rfl, hAA, hacell⟩
          · rw [h0] at hkx; simp at hkx
          have ny := hacell k y hy
          obtain ⟨W, HW⟩ : ∃ W, Hid (W = wr.alloc (.cells #[.string nm, .slice (some A) xs.length ac] 94)) := ⟨_, Lib.hid rfl⟩
          have hbW : Below wr.heap.size wr W := by rw [HW.out]; exact one_below wr _
          have hWh : W.heap[wr.heap.size]? = some (.cells #[.string nm, .slice (some A) xs.length ac] 94 (0, 0)) := by rw [HW.out]; exact World.alloc_heap_new _ _
          have w1 : W.cell? ⟨wr.heap.size, 1, none⟩ = some (.slice (some A) xs.length ac) := (Lib.cell_of_heap hWh 1).trans rfl
          have ny2 : W.cell? (A.add k) = some (.int .i64 y) := (hbW.cell (by rw [add_block]; exact hAA)).trans ny
          obtain ⟨X, hX1, hX2, hX3⟩ := HX.out
          have hX4 := (hbW.block _ (lt_of_heap hX3)).trans hX3
          have HX4 := Lib.hid hX4
          have hsz : q < (cellsI X).size := by unfold cellsI; rw [List.size_toArray, List.length_map, hX1]; exact hlq
          have kc : W.cell? ⟨w.heap.size, q, none⟩ = some (cellsI X)[q] := (Lib.cell_of_heap hX4 q).trans (Array.getElem?_eq_getElem hsz)
          have kf : W.frozen? ⟨w.heap.size, q, none⟩ = false := frozen_free hX4 q
          have HB' : Hid (Below w.heap.size w (W.setCell ⟨w.heap.size, q, none⟩ (.int .i64 y))) := Lib.hid ((below_up HB.out hbW).setCell (p := ⟨w.heap.size, q, none⟩) (Nat.le_refl _) _)
          have HT' : Hid ((W.setCell ⟨w.heap.size, q, none⟩ (.int .i64 y)).heap[wo.heap.size]? = some (.cells #[.slice ho t.1.length hc, .slice ro t.2.length rc] 25 (0, 0))) := Lib.hid (by
            rw [Go.Deep.blk_setCell_other _ _ _ _ (by have := HWlt.out; simp; omega)]
            exact (hbW.block _ (lt_of_heap HT.out)).trans HT.out)
          have HX' : Hid (∃ X : List Int, X.length = ch.length ∧ X.take (q + 1) = (colsOf ch k).take (q + 1) ∧ (W.setCell ⟨w.heap.size, q, none⟩ (.int .i64 y)).heap[w.heap.size]? = some (.cells (cellsI X) 3 (0, 0))) := Lib.hid ⟨X.set q y, by simpa using hX1, by
            rw [List.take_add_one, List.take_add_one, HFq.out, List.getElem?_set_self (by omega), List.take_set_of_le (Nat.le_refl _), hX2], by rw [heap_set _ hX4, cellsI_set]⟩
          obtain ⟨u, hu⟩ : ∃ u, u = (cellsI X)[q] := ⟨_, rfl⟩
          rw [← hu] at kc
          clear hccell hacell ny hbW hWh hX1 hX2 hX3 hX4 hsz hu hcq hy hxl HX HB HT
          go_upto_region 8 with fail
          rw [← HW.out]
          go_wp2_with fail
          go_roundw
          case rel => exact ⟨q + 1, by omega, by go_num, HB', HT', HX'⟩
          case measure => simp [intOf]; omega
        · have hqe : q = ch.length := by omega
          obtain ⟨X, hX1, hX2, hX3⟩ := HX.out
          have hlc : (colsOf ch k).length = ch.length := by simp [colsOf]
          have hXe : X = colsOf ch k := by rw [← List.take_length (l := X), hX1, ← hqe, hX2, hqe, ← hlc, List.take_length]
          subst hXe
          have hwf : ∀ c ∈ colsOf ch k, (Lit.int .i64 c).wf = true := fun c hc => by
            unfold colsOf at hc
            rw [List.mem_map] at hc
            obtain ⟨d, hd, rfl⟩ := hc
            obtain ⟨d1, d2⟩ := HCo.out d hd
            rw [List.getD_eq_getElem?_getD, List.getElem?_eq_getElem (by omega)]
            exact d2 _ (List.getElem_mem _)
          have CU := unique_any ho t.1.length hc ro rc t.2 (some ⟨w.heap.size, 0, none⟩) ch.length (colsOf ch k) wr HT1.out HT2.out HT3.out (by rw [hlc]; omega) hwf (HRW.out.kept HB.out) (ints_block hX3) (HP.out.kept HB.out)
          rw [hlc] at CU
          have CU := Lib.hid CU
          have t0 : wr.cell? ⟨wo.heap.size, 0, none⟩ = some (.slice ho t.1.length hc) := (Lib.cell_of_heap HT.out 0).trans rfl
          have t1 : wr.cell? ⟨wo.heap.size, 1, none⟩ = some (.slice ro t.2.length rc) := (Lib.cell_of_heap HT.out 1).trans rfl
          have HX3 := Lib.hid hX3
          clear hX1 hX2 hX3 hwf hlc HX HT
          cases hu : uniqL t.1.length t.2 (colsOf ch k) with
          | false =>
            rw [hu] at CU
            have E := Lib.hid (HNo.out k t HTk.out hu)
            clear hu hqe
            go_wp2_with fail
            refine CU.out.mono ?_
            rintro e w9 ⟨rfl, b9⟩
            have B9 := Lib.hid (below_up HB.out b9)
            clear b9 t0 t1
            go_wp2_with fail
            go_ret
            exact ⟨by rw [E.out]; rfl, B9.out⟩
          | true =>
            rw [hu] at CU
            have HA' : Hid (∀ i t, i < k + 1 → ts[i]? = some t → uniqL t.1.length t.2 (colsOf ch i) = true) := Lib.hid (fun i t' hi ht' => by
              by_cases h : i = k
              · subst h; rw [HTk.out] at ht'; cases ht'; exact hu
              · exact HA.out i t' (by omega) ht')
            clear hu hqe
            go_wp2_with fail
            refine CU.out.mono ?_
            rintro e w9 ⟨rfl, b9⟩
            have B9 := Lib.hid (below_up HB.out b9)
            have X9 : Hid (∃ X : List Int, X.length = ch.length ∧ w9.heap[w.heap.size]? = some (.cells (cellsI X) 3 (0, 0))) := Lib.hid ⟨colsOf ch k, by simp [colsOf], (b9.block _ (lt_of_heap HX3.out)).trans HX3.out⟩
            clear b9 t0 t1
            go_wp2_with fail
            go_roundw
            case rel => exact ⟨k + 1, by omega, by go_num, B9, X9, HA'⟩
            case measure => simp [intOf]; omega
    · have E := Lib.hid (HYs.out (fun i t ht => HA.out i t (by have := (List.getElem?_eq_some_iff.1 ht).1; omega) ht))
      go_wp2_with fail
      go_ret
      exact ⟨by rw [E.out]; rfl, HB.out⟩
end Go.Proofs.YtmomjhnbhckhpaaDoor
