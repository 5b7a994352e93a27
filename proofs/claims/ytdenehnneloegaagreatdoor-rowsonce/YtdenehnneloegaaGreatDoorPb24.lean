/-
  Texts of these rows' proofs, laid one behind the other: GSort, GList, GTaken, GKeys, GPick.
  Conditions: those of each theorem.
-/
import Derived.WalkKit
import Derived.WalkMore
import Derived.Lib.Hide
import Derived.Sort.OwnSorted
import Derived.Shelf.SlSortCmp.NoneTotal
import Derived.Test.YtdenehnneloegaaGreatDoorProg
import Derived.Test.YtdenehnneloegaaGreatDoorPb23
import Derived.OwnWalk
import Derived.Lib.SmallJoins
import Derived.Deep.Cut
import Derived.Maps.Own
import Derived.Maps.OwnOps
import Derived.Maps.OwnSet
import Derived.Maps.Views
import Derived.StillTailTactics
import Derived.Deep.RegionWith
import Derived.Deep.RegionHeld3
import Derived.Lib.SlKeysI
import Derived.Shelf.SlIterI.Nil
import Derived.Shelf.SortM.Plain
import Derived.Shelf.SortM.SortNone
import Derived.Test.YtdenehnneloegaaGreatDoorPb7
import Derived.Deep.Onto
namespace Go.Proofs.YtdenehnneloegaaGreatDoor
open Go.RowKit Go.Shelf Go.Sort
set_option linter.unusedVariables false
theorem ltOf_better : ltOf cmpT = betterT := by
  funext x y
  exact cmpT_neg x y
theorem swoT : SWO (ltOf cmpT) where
  irrefl x := by rw [ltOf_better]; exact better_irrefl x
  trans x y z h1 h2 := by rw [ltOf_better] at *; exact better_trans h1 h2
  ntrans x y z h1 h2 := by rw [ltOf_better] at *; exact better_ntrans h1 h2
theorem flat_cells (l : TL) : flatK encT 3 l.toArray = (cellsT l).toArray := by
  refine ext_get! (by simp [cellsT_length]) (fun t ht => ?_)
  have ht' : t < l.length * 3 := by simpa using ht
  rw [get_flatK _ _ _ t (by simpa using ht')]
  obtain ⟨c, hc⟩ : ∃ c, l[t / 3]? = some c := ⟨_, List.getElem?_eq_getElem (by omega)⟩
  have e1 : l.toArray[t / 3]! = c := by simp [Array.getElem!_eq_getD, Array.getD_eq_getD_getElem?, hc]
  obtain ⟨c1, c2, c3⟩ := cellsT_at l (t / 3) c hc
  have e2 : (cellsT l).toArray[t]! = ((cellsT l)[t]?).getD default := by simp [Array.getElem!_eq_getD, Array.getD_eq_getD_getElem?]
  rw [e1, e2]
  have hm : t % 3 = 0 ∨ t % 3 = 1 ∨ t % 3 = 2 := by omega
  rcases hm with e | e | e
  · rw [show t / 3 * 3 = t from by omega] at c1; rw [c1, e]; rfl
  · rw [show t / 3 * 3 + 1 = t from by omega] at c2; rw [c2, e]; rfl
  · rw [show t / 3 * 3 + 2 = t from by omega] at c3; rw [c3, e]; rfl
theorem OwnT.holds {w : World} {base : Nat} {T : TypeId} {g n : Nat} {l : TL} (h : OwnT w base T g n l) : HoldsK encT 3 w g 0 l.toArray := by
  unfold HoldsK
  rw [flat_cells]
  intro j hj
  have hj' : j < (cellsT l).length := by simpa using hj
  rw [Nat.zero_add]
  refine ⟨?_, h.own.frozenAt j⟩
  have := h.own.cellAt j (by rw [cellsT_length, h.len] at hj'; exact hj')
  rw [this]
  simp [List.getElem?_eq_getElem hj', Array.getElem!_eq_getD, Array.getD_eq_getD_getElem?]
theorem heap_sortedK {w : World} {g n : Nat} {os : Array Obj} {cur : Array Value} {e : TypeId} {fr : Nat × Nat} (F : Array Value) (hb : w.heap[g]? = some (.cells cur e fr)) :
    (grow (putRow id (Sort.ahead w n) g 0 F) os).heap[g]? = some (.cells (putCells id 0 F cur) e fr) := by
  have hg : g < w.heap.size := (Array.getElem?_eq_some_iff.1 hb).1
  rw [heap_grow_old _ _ (by simpa using hg)]
  simp [putRow, mapBlock, Sort.ahead, Array.getElem?_modify, hb, onCells]
theorem grownBy_sortedK {w : World} {g n : Nat} {os : Array Obj} (F : Array Value) : w.grownBy (grow (putRow id (Sort.ahead w n) g 0 F) os) (some g) := by
  refine ⟨rfl, rfl, rfl, by simp, fun k hk hne => ?_⟩
  rw [heap_grow_old _ _ (by simpa using hk)]
  have : g ≠ k := fun e => hne (by rw [e])
  simp [putRow, mapBlock, Sort.ahead, Array.getElem?_modify, this]
theorem take_putCellsK (cur F : Array Value) (h : F.size ≤ cur.size) : (putCells id 0 F cur).toList.take F.size = F.toList := by
  apply List.ext_getElem?
  intro j
  by_cases hj : j < F.size
  · rw [List.getElem?_take_of_lt hj, Array.getElem?_toList]
    simp [putCells, hj, show j < cur.size by omega]
  · rw [List.getElem?_take_eq_none (by omega), List.getElem?_eq_none (by simp; omega)]
theorem OwnT.sorted {w : World} {base : Nat} {T : TypeId} {g n k : Nat} {l m : TL} {os : Array Obj} (h : OwnT w base T g n l) (hm : m.length = n) : OwnT (sortWorldK encT 3 w g 0 k m.toArray os) base T g n m := by
  refine ⟨hm, ?_⟩
  unfold sortWorldK putRowK
  rw [flat_cells]
  rcases h.own.2 with ⟨h0, _⟩ | ⟨g', cap', cur, hv, hbase, hb, r1, r2, r3, r4⟩
  · cases h0
  · cases hv
    have hl : (cellsT m).length = n * 3 := by rw [cellsT_length, hm]
    refine ⟨hl, .inr ⟨g, n, _, rfl, hbase, heap_sortedK _ hb, r1, r2, by simp [putCells, r3], ?_⟩⟩
    have := take_putCellsK cur (cellsT m).toArray (by rw [r3]; simp [hl])
    rw [List.size_toArray, hl] at this
    exact this
theorem gsort_any (base g n : Nat) (l : TL) (w : World) (hn : n ≤ 1073741824) (hO : OwnT w base 191 g n l) :
    Calls Tryz.prog 153 #[.slice (some ⟨g, 0, none⟩) n n, .func (.func 154) #[] #[]] w fun e w' => e = .returned (.tuple #[]) ∧ OwnT w' base 191 g n (sortT l) ∧ w.grownBy w' (some g) := by
  have hl := hO.len
  have hc : CmpLays Tryz.prog 154 #[] encT 3 cmpT g 0 l.toArray.size w := fun m os dk _ x y => choice_any x y _
  have h := AnyQ.slices_SortFunc_total laysF 3 Tryz.isAgg191 Tryz.sizeOf191 encT (fun _ => rfl) (fun x v hv => by simp [encT] at hv; rcases hv with rfl | rfl | rfl <;> rfl) cmpT swoT 154 #[] g 0 n l.toArray w (enters_of Tryz.func154 (by kernel_rfl) rfl) hc hO.holds hO.lt.2 (by simp; omega) (fun x y h k => by rw [ltOf_better] at h k; exact better_either h k)
  rw [List.size_toArray, hl, ltOf_better] at h
  refine h.mono ?_
  rintro e w' ⟨rfl, k, os, rfl⟩
  have e : (l.mergeSort fun x y => !betterT y x) = sortT l := rfl
  rw [e]
  exact ⟨rfl, hO.sorted (by rw [sortT_len, hl]), by unfold sortWorldK putRowK; exact grownBy_sortedK _⟩
end Go.Proofs.YtdenehnneloegaaGreatDoor
namespace Go.Proofs.YtdenehnneloegaaGreatDoor
open Go.RowKit Go.Shelf
set_option linter.unusedVariables false
set_option maxRecDepth 100000 in
set_option maxHeartbeats 1000000 in
theorem glist_any (ao : Option Addr) (cap : Nat) (xs : TL) (w : World) (hn : xs.length ≤ 1073741824) (hR : TripAt w ao xs) :
    Calls Tryz.prog 152 #[.slice ao xs.length cap] w fun e w' => ∃ g, e = .returned (.slice (some ⟨g, 0, none⟩) xs.length xs.length) ∧ OwnT w' w.heap.size 191 g xs.length xs ∧ Below w.heap.size w w' := by
  have hinfo : (Tryz.prog.info? 191).map (fun i => (i.zero, i.size, i.bytes)) = some (some (.agg #[.int .i64 0, .int .i64 0, .int .i64 0]), 3, 24) := by kernel_rfl
  obtain ⟨i0, hi, hz0, hz1, hz2⟩ := info_parts3 hinfo
  have HI := Lib.hid hi
  have HRo := Lib.hid hR
  have hm : xs.length ≤ maxLen := by unfold maxLen; omega
  clear hi hinfo hR
  go_enter Tryz.func152, Tryz.ntmps152
  go_wp2_with (at_make; refine wpList_make_full _ rfl _ _ 188 rfl w.heap.size 191 i0 (.agg #[.int .i64 0, .int .i64 0, .int .i64 0]) 3 Tryz.underlying188 HI.out hz0 hz1 .i64 .i64 (xs.length : Int) (xs.length : Int) xs.length rfl rfl rfl rfl (by rw [hz2]; omega) hm (Nat.le_refl _) ?_; intro w1 ho hg)
  have HB : Hid (Below w.heap.size w w1) := Lib.hid ((Below.refl _ w).grown hg (Nat.le_refl _) (fun k h => by cases h))
  have HT : Hid (OwnT w1 w.heap.size 191 w.heap.size xs.length (copyT xs 0)) := Lib.hid ⟨copyT_len xs 0 (Nat.zero_le _), by rw [copyT_zero, ← cellsT_zero]; exact ho⟩
  clear ho hg
  go_wp2_with fail
  go_loopw [11] (fun i wr => ∃ (k : Nat), k ≤ xs.length ∧ i = .int .i64 k ∧ Hid (Below w.heap.size w wr) ∧ Hid (OwnT wr w.heap.size 191 w.heap.size xs.length (copyT xs k))) (fun i _ => xs.length - (intOf i).toNat)
  case atStart => exact ⟨0, Nat.zero_le _, rfl, HB, HT⟩
  case round =>
    obtain ⟨k, hk, rfl, HB, HT⟩ := hrel
    by_cases hlt : k < xs.length
    · obtain ⟨⟨x1, x2, x3⟩, hx⟩ : ∃ x, xs[k]? = some x := ⟨_, List.getElem?_eq_getElem hlt⟩
      rcases (HRo.out.kept HB.out) with h0 | ⟨b, o, rfl, hA, hcell⟩
      · rw [h0] at hlt; simp at hlt
      obtain ⟨hc1, hc2, hc3⟩ := hcell k _ hx
      dsimp only at hc1 hc2 hc3
      obtain ⟨V, HV⟩ : ∃ V, Hid (V = wr.alloc (.cells #[.int .i64 x1, .int .i64 x2, .int .i64 x3] 73)) := ⟨_, Lib.hid rfl⟩
      have hVh : V.heap[wr.heap.size]? = some (.cells #[.int .i64 x1, .int .i64 x2, .int .i64 x3] 73 (0, 0)) := by rw [HV.out]; exact World.alloc_heap_new _ _
      have v0 : V.cell? ⟨wr.heap.size, 0, none⟩ = some (.int .i64 x1) := (Lib.cell_of_heap hVh 0).trans rfl
      have v1 : V.cell? ⟨wr.heap.size, 1, none⟩ = some (.int .i64 x2) := (Lib.cell_of_heap hVh 1).trans rfl
      have v2 : V.cell? ⟨wr.heap.size, 2, none⟩ = some (.int .i64 x3) := (Lib.cell_of_heap hVh 2).trans rfl
      have hb0 : Below wr.heap.size wr V := by rw [HV.out]; exact (Below.refl _ wr).alloc (Nat.le_refl _) _
      have HT1 := HT.out.kept hb0
      obtain ⟨⟨y1, y2, y3⟩, hy⟩ : ∃ y, (copyT xs k)[k]? = some y := ⟨_, List.getElem?_eq_getElem (by rw [copyT_len xs k hk]; exact hlt)⟩
      obtain ⟨z0, z1, z2⟩ := HT1.cell k _ hy
      have f0 := HT1.frozen (k * 3)
      have f1 := HT1.frozen (k * 3 + 1)
      have f2 := HT1.frozen (k * 3 + 2)
      have T2 := HT1.store k x1 x2 x3 hlt
      rw [copyT_next xs k _ hx] at T2
      have HT2 := Lib.hid T2
      have HB2 := Lib.hid ((((below_up HB.out hb0).setCell (p := ⟨w.heap.size, k * 3, none⟩) (Nat.le_refl _) (.int .i64 x1)).setCell (p := ⟨w.heap.size, k * 3 + 1, none⟩) (Nat.le_refl _) (.int .i64 x2)).setCell (p := ⟨w.heap.size, k * 3 + 2, none⟩) (Nat.le_refl _) (.int .i64 x3))
      clear hcell hx hb0 hVh HT1 hy T2 HT HB
      go_upto_region 5 with fail
      rw [← HV.out]
      go_wp2_with fail
      go_roundw
      case rel => exact ⟨k + 1, by omega, by go_num, HB2, HT2⟩
      case measure => simp [intOf]; omega
    · obtain rfl : k = xs.length := by omega
      have T2 := HT.out
      rw [copyT_all] at T2
      have HT2 := Lib.hid T2
      clear T2 HT
      go_wp2_with fail
      go_ret
      exact ⟨w.heap.size, rfl, HT2.out, HB.out⟩
end Go.Proofs.YtdenehnneloegaaGreatDoor
namespace Go.Proofs.YtdenehnneloegaaGreatDoor
open Go.RowKit Go.Shelf Go.Maps
set_option linter.unusedVariables false
theorem firstB_none (tk : PL) (z : Int) : firstB tk z = none ↔ z ∉ tk.map Prod.snd := by
  unfold firstB
  rw [Option.map_eq_none_iff, List.find?_eq_none]
  constructor
  · intro h hm
    obtain ⟨p, hp, e⟩ := List.mem_map.1 hm
    exact h p hp (by simp [e])
  · intro h p hp e
    exact h (List.mem_map.2 ⟨p, hp, by simpa using e⟩)
theorem step_no (tk : PL) (c : T3) (h : okT tk c = false) : stepT tk c = tk := by simp [stepT, h]
theorem step_yes (tk : PL) (c : T3) (h : okT tk c = true) : stepT tk c = tk ++ [(c.1, c.2.1)] := by simp [stepT, h]
theorem ok_no (tk : PL) (c : T3) (h : c.1 < 0 ∨ c.2.1 < 0 ∨ c.1 ∈ tk.map Prod.fst ∨ c.2.1 ∈ tk.map Prod.snd) : okT tk c = false := by
  cases hc : okT tk c with
  | false => rfl
  | true =>
    obtain ⟨h1, h2, h3, h4⟩ := (ok_iff tk c).1 hc
    rcases h with h | h | h | h
    · omega
    · omega
    · exact absurd h h3
    · exact absurd h h4
theorem scan_next (S : TL) (k : Nat) (c : T3) (hc : S[k]? = some c) : scanT (S.take (k + 1)) = stepT (scanT (S.take k)) c := by
  obtain ⟨hk, e⟩ := List.getElem?_eq_some_iff.1 hc
  rw [List.take_succ_eq_append_getElem hk, e, scan_snoc]
theorem SetIs.more {D : DataW Unit} {L : List Int} (h : SetIs D L) (x : Int) (hx : x ∉ L) : SetIs (D.put (.int .i64 x) (.lit (.bool true))) (L ++ [x]) := by
  have := h.put x
  rwa [show addZ L x = L ++ [x] from by simp [addZ, hx]] at this
theorem OwnT.grown {w w' : World} {base : Nat} {T : TypeId} {g n : Nat} {l : TL} {r : Nat} (h : OwnT w base T g n l) (hg : w.grownBy w' (some r)) (hne : g ≠ r) : OwnT w' base T g n l :=
  ⟨h.len, h.own.kept hg (by simp [Value.ownBlock, hne])⟩
/-- the map of those that are taken: each B with its A -/
def TakOut (tk : PL) (n : Nat) (w : World) (e : Ending) (w' : World) : Prop := ∃ B D, e = .returned (.map (some B)) ∧ w.heap.size ≤ B ∧ w'.ownsMap Tryz.prog 3 (plainElem Tryz.prog 3) B n D ∧ FirstIs D tk ∧ Below w.heap.size w w'
set_option maxRecDepth 100000 in
set_option maxHeartbeats 2000000 in
theorem taken_any (ao : Option Addr) (cap : Nat) (xs : TL) (w : World) (hn : xs.length ≤ 1073741824) (hs : okT3 xs) (hR : TripAt w ao xs) :
    Calls Tryz.prog 100 #[.slice ao xs.length cap] w (TakOut (scanT (sortT xs)) xs.length w) := by
  have C1 := Lib.hid (glist_any ao cap xs w hn hR)
  have C2 := Lib.hid (fun base g V h => gsort_any base g xs.length xs V hn h)
  have HSo : Hid (okT3 (sortT xs)) := Lib.hid (fun c hc => hs c ((sortT_perm xs).mem_iff.1 hc))
  have hSl := sortT_len xs
  obtain ⟨S, HS⟩ : ∃ S, Hid (S = sortT xs) := ⟨_, Lib.hid rfl⟩
  rw [← HS.out] at C2 HSo hSl ⊢
  have HSl := Lib.hid hSl
  have hmm := @run_makeMap Tryz.prog
  clear hR hs hSl HS
  go_enter Tryz.func100, Tryz.ntmps100
  go_wp2_with fail
  go_step3
  go_wp2_with fail
  refine C1.out.mono ?_; rintro e w1 ⟨g, rfl, h1, h2⟩
  have HO := Lib.hid h1
  have HB1 := Lib.hid h2
  have hg1 := h1.lt
  clear h1 h2 C1
  go_wp2_with fail
  refine (C2.out _ _ _ HO.out).mono ?_; rintro e w2 ⟨rfl, h1, h2⟩
  have HO2 := Lib.hid h1
  have HB2 := Lib.hid (HB1.out.grown h2 HB1.out.size (fun k h => by cases h; exact hg1.1))
  have hg2 := h1.lt
  clear h1 h2 HO HB1 hg1 C2
  go_wp2_with fail
  obtain ⟨X, hX⟩ : ∃ X, X = w2.heap.size := ⟨_, rfl⟩
  have HA : Hid (((w2.alloc (.map #[] 0)).alloc (.map #[] 0)).ownsMap Tryz.prog 3 (plainElem Tryz.prog 3) X 0 (.map [] : DataW Unit)) := Lib.hid (by rw [hX]; exact (World.ownsMap_made w2 _ _ _).alloc _)
  have HP : Hid (((w2.alloc (.map #[] 0)).alloc (.map #[] 0)).ownsMap Tryz.prog 3 (plainElem Tryz.prog 4) (X + 1) 0 (.map [] : DataW Unit)) := Lib.hid (by have := World.ownsMap_made (H := Unit) (w2.alloc (.map #[] 0)) Tryz.prog 3 (plainElem Tryz.prog 4); rw [World.size_alloc, ← hX] at this; exact this)
  have hbm : Below w2.heap.size w2 ((w2.alloc (.map #[] 0)).alloc (.map #[] 0)) := two_below w2 _ _
  have HB : Hid (Below w.heap.size w ((w2.alloc (.map #[] 0)).alloc (.map #[] 0))) := Lib.hid (below_up HB2.out hbm)
  have HO : Hid (OwnT ((w2.alloc (.map #[] 0)).alloc (.map #[] 0)) w.heap.size 191 g xs.length S) := Lib.hid (HO2.out.kept hbm)
  have HX : Hid (w.heap.size ≤ g ∧ g < X) := Lib.hid ⟨hg2.1, by rw [hX]; exact hg2.2⟩
  rw [← hX]
  clear hX hbm hg2 HO2 HB2
  go_step3
  go_wp2_with fail
  go_loopw [18] (fun i wr => ∃ (k : Nat) (D E : DataW Unit), k ≤ xs.length ∧ i = .int .i64 k ∧ Hid (Below w.heap.size w wr) ∧ Hid (OwnT wr w.heap.size 191 g xs.length S) ∧ Hid (wr.ownsMap Tryz.prog 3 (plainElem Tryz.prog 3) X k D) ∧ Hid (wr.ownsMap Tryz.prog 3 (plainElem Tryz.prog 4) (X + 1) k E) ∧ Hid (FirstIs D (scanT (S.take k))) ∧ Hid (SetIs E ((scanT (S.take k)).map Prod.fst))) (fun i _ => xs.length - (intOf i).toNat)
  case atStart => exact ⟨0, _, _, Nat.zero_le _, rfl, HB, HO, HA, HP, Lib.hid FirstIs.empty, Lib.hid SetIs.empty⟩
  case round =>
    clear HB HO HA HP
    obtain ⟨k, D, E, hk, rfl, HB, HO, HA, HP, HD, HE⟩ := hrel
    by_cases hlt : k < xs.length
    · obtain ⟨⟨x1, x2, x3⟩, hx⟩ : ∃ x, S[k]? = some x := ⟨_, List.getElem?_eq_getElem (by rw [HSl.out]; exact hlt)⟩
      obtain ⟨hc1, hc2, hc3⟩ := HO.out.cell k _ hx
      have HW := Lib.hid (HSo.out _ (List.mem_of_getElem? hx))
      have HN := Lib.hid (scan_next S k _ hx)
      obtain ⟨tk, htk⟩ : ∃ tk, tk = scanT (S.take k) := ⟨_, rfl⟩
      rw [← htk] at HD HE HN
      dsimp only at hc1 hc2 hc3
      obtain ⟨V, HV⟩ : ∃ V, Hid (V = wr.alloc (.cells #[.int .i64 x1, .int .i64 x2, .int .i64 x3] 191)) := ⟨_, Lib.hid rfl⟩
      have hVh : V.heap[wr.heap.size]? = some (.cells #[.int .i64 x1, .int .i64 x2, .int .i64 x3] 191 (0, 0)) := by rw [HV.out]; exact World.alloc_heap_new _ _
      have v0 : V.cell? ⟨wr.heap.size, 0, none⟩ = some (.int .i64 x1) := (Lib.cell_of_heap hVh 0).trans rfl
      have v1 : V.cell? ⟨wr.heap.size, 1, none⟩ = some (.int .i64 x2) := (Lib.cell_of_heap hVh 1).trans rfl
      have v2 : V.cell? ⟨wr.heap.size, 2, none⟩ = some (.int .i64 x3) := (Lib.cell_of_heap hVh 2).trans rfl
      have hbV : Below wr.heap.size wr V := by rw [HV.out]; exact (Below.refl _ wr).alloc (Nat.le_refl _) _
      have HVA := Lib.hid (ownsMap_below HA.out hbV)
      have HVP := Lib.hid (ownsMap_below HP.out hbV)
      have HVO := Lib.hid (HO.out.kept hbV)
      have HVB := Lib.hid (below_up HB.out hbV)
      have HVlt := Lib.hid (lt_of_heap hVh)
      have HXr := Lib.hid (show X < wr.heap.size ∧ X + 1 < wr.heap.size from ⟨HA.out.lt, HP.out.lt⟩)
      have l1 := first_look HVA.out HD.out x2 HW.out.2.1
      have l2 := set_look HVP.out HE.out x1 HW.out.1
      have HVA1 := Lib.hid (HVA.out.mono (Nat.le_succ k))
      have HVP1 := Lib.hid (HVP.out.mono (Nat.le_succ k))
      have HSk : Hid (okT tk (x1, x2, x3) = false → FirstIs D (scanT (S.take (k + 1))) ∧ SetIs E ((scanT (S.take (k + 1))).map Prod.fst)) := Lib.hid (fun h => by rw [HN.out, step_no _ _ h]; exact ⟨HD.out, HE.out⟩)
      have HNo := Lib.hid (fun h => ok_no tk (x1, x2, x3) h)
      have HFn := Lib.hid (firstB_none tk x2)
      have HYe := Lib.hid (fun h1 h2 h3 h4 => step_yes tk (x1, x2, x3) ((ok_iff tk (x1, x2, x3)).2 ⟨h1, h2, h3, h4⟩))
      dsimp only at HNo HYe
      generalize firstB tk x2 = fx at l1 HFn
      clear hx hbV hVh HA HP HO HB htk
      by_cases h1 : x1 < 0
      · obtain ⟨k1, k2⟩ := HSk.out (HNo.out (.inl h1))
        have K1 := Lib.hid k1
        have K2 := Lib.hid k2
        clear k1 k2
        go_upto_region 7 with fail
        rw [← HV.out]
        go_wp2_with fail
        go_roundw
        case rel => exact ⟨k + 1, D, E, by omega, by go_num, HVB, HVO, HVA1, HVP1, K1, K2⟩
        case measure => simp [intOf]; omega
      by_cases h2 : x2 < 0
      · obtain ⟨k1, k2⟩ := HSk.out (HNo.out (.inr (.inl h2)))
        have K1 := Lib.hid k1
        have K2 := Lib.hid k2
        clear k1 k2
        go_upto_region 7 with fail
        rw [← HV.out]
        go_wp2_with fail
        go_roundw
        case rel => exact ⟨k + 1, D, E, by omega, by go_num, HVB, HVO, HVA1, HVP1, K1, K2⟩
        case measure => simp [intOf]; omega
      by_cases h3 : x1 ∈ tk.map Prod.fst
      · obtain ⟨k1, k2⟩ := HSk.out (HNo.out (.inr (.inr (.inl h3))))
        have K1 := Lib.hid k1
        have K2 := Lib.hid k2
        rw [decide_eq_true h3] at l2
        clear k1 k2 h3
        go_upto_region 7 with fail
        rw [← HV.out]
        go_wp2_with fail
        go_roundw
        case rel => exact ⟨k + 1, D, E, by omega, by go_num, HVB, HVO, HVA1, HVP1, K1, K2⟩
        case measure => simp [intOf]; omega
      rw [decide_eq_false h3] at l2
      cases fx with
      | some a =>
        obtain ⟨k1, k2⟩ := HSk.out (HNo.out (.inr (.inr (.inr (Classical.not_not.1 (fun h => by have := HFn.out.2 h; cases this))))))
        have K1 := Lib.hid k1
        have K2 := Lib.hid k2
        clear k1 k2 h3
        go_upto_region 7 with fail
        rw [← HV.out]
        go_wp2_with fail
        go_roundw
        case rel => exact ⟨k + 1, D, E, by omega, by go_num, HVB, HVO, HVA1, HVP1, K1, K2⟩
        case measure => simp [intOf]; omega
      | none =>
        have h4 := HFn.out.1 rfl
        have HSt := Lib.hid (HN.out.trans (HYe.out (by omega) (by omega) h3 h4))
        have HD2 : Hid (FirstIs (D.put (.int .i64 x2) (.lit (.int .i64 x1))) (scanT (S.take (k + 1)))) := Lib.hid (by rw [HSt.out]; exact HD.out.put (x1, x2) ((firstB_none tk x2).2 h4))
        have HE2 : Hid (SetIs (E.put (.int .i64 x1) (.lit (.bool true))) ((scanT (S.take (k + 1))).map Prod.fst)) := Lib.hid (by rw [HSt.out, List.map_append]; exact HE.out.more x1 h3)
        have hkm : k < maxLen := by unfold maxLen; omega
        obtain ⟨w1, r1, o1, g1⟩ := HVA.out.drew.update (int_keyed Tryz.underlying3) Tryz.underlying120 hkm (keyOf_int_mk Tryz.underlying3 HW.out.2.1) (plainElem_int Tryz.underlying3 HW.out.1)
        have p1 := HVP.out.drew.kept g1 (by simp)
        obtain ⟨w2, r2, o2, g2⟩ := p1.update (int_keyed Tryz.underlying3) Tryz.underlying152 hkm (keyOf_int_mk Tryz.underlying3 HW.out.1) (plainElem_bool Tryz.underlying4 true)
        have q2 := o1.kept g2 (by simp)
        have hX := HX.out
        have hXr := HXr.out
        have hVlt := HVlt.out
        have B1 : Below w.heap.size w w1 := (show Below w.heap.size w V.drew from bdn (n := 1) HVB.out).grown g1 HVB.out.size (fun k h => by cases h; omega)
        have B2 : Below w.heap.size w w2 := B1.grown g2 B1.size (fun k h => by cases h; omega)
        have T1 : OwnT w1 w.heap.size 191 g xs.length S := OwnT.grown (w := V.drew) (HVO.out.kept (show Below V.heap.size V V.drew from bdn (n := 1) (Below.refl _ V))) g1 (by omega)
        have T2 := T1.grown g2 (by omega)
        have c0 : w1.cell? ⟨wr.heap.size, 0, none⟩ = some (.int .i64 x1) := Go.Proofs.YtdenehnneloegaaGreatDoor.cell_grown (W := V.drew) v0 g1 (by simp; omega)
        have c1 : w1.cell? ⟨wr.heap.size, 1, none⟩ = some (.int .i64 x2) := Go.Proofs.YtdenehnneloegaaGreatDoor.cell_grown (W := V.drew) v1 g1 (by simp; omega)
        have d0 : w2.cell? ⟨wr.heap.size, 0, none⟩ = some (.int .i64 x1) := Go.Proofs.YtdenehnneloegaaGreatDoor.cell_grown c0 g2 (by simp; omega)
        have d1 : w2.cell? ⟨wr.heap.size, 1, none⟩ = some (.int .i64 x2) := Go.Proofs.YtdenehnneloegaaGreatDoor.cell_grown c1 g2 (by simp; omega)
        have HQ := Lib.hid q2
        have HR2 := Lib.hid o2
        have HB2 := Lib.hid B2
        have HT2 := Lib.hid T2
        clear h3 h4 HSt HD HE HN HNo HYe HFn HSk q2 o2 o1 p1 B1 B2 g1 g2 T1 T2 hX hXr hVlt HVA HVP HVA1 HVP1
        go_upto_region 7 with fail
        rw [← HV.out]
        go_upto_region 12 with fail
        go_region_held3 (fun W => W.cell? ⟨wr.heap.size, 0, none⟩ = some (.int .i64 x1) ∧ W.cell? ⟨wr.heap.size, 1, none⟩ = some (.int .i64 x2)) ((refine ⟨?_, ?_⟩ <;> first | assumption | go_keep)) (fail)
        go_wp2_with fail
        go_roundw
        case rel => exact ⟨k + 1, _, _, by omega, by go_num, HB2, HT2, HQ, HR2, HD2, HE2⟩
        case measure => simp [intOf]; omega
    · obtain rfl : k = xs.length := by omega
      have HZ : Hid (TakOut (scanT S) xs.length w (.returned (.map (some X))) wr) := Lib.hid ⟨X, D, rfl, by have := HX.out; omega, HA.out, by have := HD.out; rwa [List.take_of_length_le (by rw [HSl.out]; exact Nat.le_refl _)] at this, HB.out⟩
      clear HB HO HA HP HD HE
      go_wp2_with fail
      go_ret
      try rw [Exit.noGoto_ret]
      exact HZ.out
end Go.Proofs.YtdenehnneloegaaGreatDoor
namespace Go.Proofs.YtdenehnneloegaaGreatDoor
open Go.RowKit Go.Shelf Go.Maps Go.Sort
set_option linter.unusedVariables false
theorem sortsK (m : Nat) : AnyZI.SortsIn Tryz.prog laysS_ren Fence.wide m :=
  ⟨fun blk off cap ss W hH hblk hsz => callsIn_wide.2 (AnyM.slices_Sort_int laysOg blk off cap ss W hH hblk hsz),
   fun p cap W => callsIn_wide.2 (AnyM.slices_Sort_int_none laysOg p cap W)⟩
theorem gkeys_any (mb : Option Nat) (W : World) : Calls Tryz.prog 102 #[.map mb] W fun e w' => e = .returned (.func (.func 157) #[] #[.pointer (some ⟨W.heap.size, 0, none⟩)]) ∧ w' = W.alloc (.cells #[.map mb] 120) :=
  (callsIn_wide (n := 5)).1 (AnyZI.keys_in laysK Fence.wide 5 trivial rfl mb W)
theorem gsorted_any (b nn : Nat) (D0 : DataW Unit) (w : World) (hown : w.ownsMap Tryz.prog 3 (plainElem Tryz.prog 3) b nn D0) (hmax : nn ≤ 1099511627776) :
    Calls Tryz.prog 101 #[.func (.func 157) #[] #[.pointer (some ⟨w.heap.size, 0, none⟩)]] (w.alloc (.cells #[.map (some b)] 120)) fun e w' => ∃ (v : Value) (ss : List Int), e = .returned v ∧ ss.Perm (intKeys D0) ∧
      w'.ownsRow (w.heap.size + 1) 3 1 v ss.length ((ss.mergeSort (fun x y => decide (x ≤ y))).map (Value.int .i64)) ∧ Below (w.heap.size + 1) (w.alloc (.cells #[.map (some b)] 120)) w' := by
  have hbl := hown.lt
  have hsz := hown.size_le
  have hseq : SeqGives Fence.wide 2 Tryz.prog 157 #[.pointer (some ⟨w.heap.size, 0, none⟩)] encZ (fun ss => ss.Perm (intKeys D0)) (Maps.size D0) (w.alloc (.cells #[.map (some b)] 120)) :=
    AnyZI.keys_gives (ρ := laysK_ren) { laysK with } Fence.wide _ trivial rfl (by omega) w.heap.size b nn D0 _ (by simp) (by simp) (by
      obtain ⟨es, clock, hb, Ft, hs, hD⟩ := hown
      exact ⟨es, clock, (Below.heap_alloc _ _ b hbl).trans hb, Ft, hs, hD⟩)
  have cS := AnyZI.sorted_in laysS Fence.wide 5 trivial trivial trivial trivial rfl (by omega) (sortsK _) (enters_of Tryz.func156 (by kernel_rfl) rfl) 157 #[.pointer (some ⟨w.heap.size, 0, none⟩)] trivial (enters_of Tryz.func157 (by kernel_rfl) rfl) _ (Maps.size D0) (by unfold maxLen; omega) (by omega) _ hseq
  have hc := (callsIn_wide (n := 5)).1 cS
  refine hc.mono ?_
  rintro e w' ⟨v, ss, rfl, hS, hrow, -, hb⟩
  rw [World.size_alloc] at hrow hb
  exact ⟨v, ss, rfl, hS, hrow, hb⟩
set_option maxRecDepth 100000 in
theorem keys_perm {w : World} {b nn : Nat} {D : DataW Unit} {tk : PL} (hown : w.ownsMap Tryz.prog 3 (plainElem Tryz.prog 3) b nn D) (hF : FirstIs D tk) (hn : (tk.map Prod.snd).Nodup) : (tk.map Prod.snd).Perm (intKeys D) :=
  CollectedI.perm (D0 := D) (left := fun _ => false) ⟨hn, fun x => by
    rw [hF.here]
    cases h : firstB tk x with
    | none => have := (firstB_none tk x).1 h; simp [this]
    | some a =>
      have : x ∈ tk.map Prod.snd := Classical.not_not.1 (fun hx => by have := (firstB_none tk x).2 hx; rw [h] at this; cases this)
      simp only [Option.isSome_some, and_self, iff_true]; exact this⟩ hown (int_keyed Tryz.underlying3) Tryz.underlying3 (fun _ => rfl)
theorem first_of {l : PL} {p : Int × Int} (hn : (l.map Prod.snd).Nodup) (h : p ∈ l) : (firstB l p.2).getD 0 = p.1 := by
  rw [firstB_of (a := p.1) (z := p.2) hn h]; rfl
set_option maxRecDepth 100000 in
/-- what a look into the map tells -/
theorem first_at {w : World} {b k : Nat} {D : DataW Unit} {l : PL} (h : w.ownsMap Tryz.prog 3 (plainElem Tryz.prog 3) b k D) (hS : FirstIs D l) (x : Int) (hx : (Lit.int .i64 x).wf = true) :
    (Instr.lookup 120 (.map (some b)) (.int .i64 x) false).run Tryz.prog w = .ok (.int .i64 ((firstB l x).getD 0)) w := by
  obtain ⟨v, ps, hrun, hv⟩ := h.lookup (int_keyed Tryz.underlying3) Tryz.underlying120 (Tryz.zeroValue3 _) (plainElem_int Tryz.underlying3 (by decide)) (keyOf_int_mk Tryz.underlying3 hx)
  obtain ⟨c, rfl, hc, _⟩ := plainElem_int_inv Tryz.underlying3 hv
  simp only [Prod.mk.injEq] at hc
  rw [hS.look] at hc
  have : (firstB l x).getD 0 = c := by have := hc.1; injection this with h1; injection h1
  rw [this]; exact hrun
end Go.Proofs.YtdenehnneloegaaGreatDoor
namespace Go.Proofs.YtdenehnneloegaaGreatDoor
open Go.RowKit Go.Shelf Go.Maps
set_option linter.unusedVariables false
/-- numbers that lie elsewhere than in a block -/
def IntsOff (w : World) (g : Nat) (ao : Option Addr) (l : List Int) : Prop := l = [] ∨ ∃ A, ao = some A ∧ A.block < w.heap.size ∧ A.block ≠ g ∧ ∀ (i : Nat) x, l[i]? = some x → w.cell? (A.add i) = some (.int .i64 x)
theorem IntsOff.grown {w w' : World} {g : Nat} {ao : Option Addr} {l : List Int} (h : IntsOff w g ao l) (hg : w.grownBy w' (some g)) : IntsOff w' g ao l := by
  rcases h with h | ⟨A, h1, h2, h3, h4⟩
  · exact .inl h
  · obtain ⟨_, _, _, hsz, _⟩ := id hg
    refine .inr ⟨A, h1, Nat.lt_of_lt_of_le h2 hsz, h3, fun i x hx => Go.Proofs.YtdenehnneloegaaGreatDoor.cell_grown (h4 i x hx) hg ?_⟩
    rw [add_block]; exact fun e => h3 (Option.some.inj e)
theorem ints_off {w : World} {base g : Nat} {v : Value} {l : List Int} {n : Nat} (h : w.ownsRow base 3 1 v n (l.map (Value.int .i64))) (hn : l.length = n) (hg : g < base) : ∃ ao cap, v = .slice ao n cap ∧ IntsOff w g ao l := by
  rcases h.2 with ⟨rfl, h0⟩ | ⟨b, cap, cur, rfl, h1, h2, h3, h4, h5, h6⟩
  · have hl : l = [] := List.eq_nil_of_length_eq_zero (by omega)
    subst h0
    exact ⟨none, 0, rfl, .inl hl⟩
  · refine ⟨_, cap, rfl, .inr ⟨⟨b, 0, none⟩, rfl, (World.ownsRow.lt h b rfl).2, by dsimp only; omega, fun i x hx => ?_⟩⟩
    have := World.ownsRow.cells h rfl i (.int .i64 x) (by rw [List.getElem?_map, hx]; rfl)
    exact this
set_option maxRecDepth 100000 in
set_option maxHeartbeats 2000000 in
theorem pick_any (ao : Option Addr) (cap : Nat) (xs : TL) (w : World) (hn : xs.length ≤ 1073741824) (hs : okT3 xs) (hR : TripAt w ao xs) :
    Calls Tryz.prog 45 #[.slice ao xs.length cap] w (PairsOut (pickL xs) w) := by
  have hinfo : (Tryz.prog.info? 45).map (fun i => (i.zero, i.size, i.bytes)) = some (some (.agg #[.int .i64 0, .int .i64 0]), 2, 16) := by kernel_rfl
  obtain ⟨i0, hi, hz0, hz1, hz2⟩ := info_parts2 hinfo
  have HI := Lib.hid hi
  have C1 := Lib.hid (taken_any ao cap xs w hn hs hR)
  have CK := Lib.hid (fun mb W => gkeys_any mb W)
  have HNd : Hid (((scanT (sortT xs)).map Prod.snd).Nodup) := Lib.hid (taken_all xs).snd
  have HPk := Lib.hid (fun ss f hp hf => pick_keys xs ss f hp hf)
  have hlen : (scanT (sortT xs)).length ≤ xs.length := by have := scan_len (sortT xs); rwa [sortT_len] at this
  have HLen := Lib.hid hlen
  obtain ⟨tk, htk⟩ : ∃ tk, tk = scanT (sortT xs) := ⟨_, rfl⟩
  rw [← htk] at C1 HNd HPk HLen
  generalize pickL xs = R at HPk ⊢
  clear hi hinfo hs hR hlen htk
  go_enter Tryz.func45, Tryz.ntmps45
  go_wp2_with fail
  refine C1.out.mono ?_; rintro e w1 ⟨B, D, rfl, hB0, hM, hF, hb1⟩
  have hlen2 := hM.len Tryz.underlying120
  have hkp := keys_perm hM hF HNd.out
  have hszn := hM.size_le
  have hisz : Maps.size D = tk.length := by
    obtain ⟨es, hD, _⟩ := hM.entries (int_keyed Tryz.underlying3)
    have h1 := hkp.length_eq
    rw [List.length_map] at h1
    rw [h1, hD]
    simp [intKeys, Maps.size]
  have HBl := Lib.hid hM.lt
  have HM := Lib.hid hM
  have HF := Lib.hid hF
  have HB1 := Lib.hid hb1
  have HKp := Lib.hid hkp
  have HW1 : Hid (w.heap.size ≤ w1.heap.size) := Lib.hid hb1.size
  rw [hisz] at hlen2
  have HLt := Lib.hid hszn
  have hm : tk.length ≤ maxLen := by have := HLen.out; unfold maxLen; omega
  have htl : tk.length ≤ 1073741824 := by have := HLen.out; omega
  obtain ⟨g, hg0⟩ : ∃ g, g = w1.heap.size := ⟨_, rfl⟩
  clear hM hF hb1 hB0 hkp hszn hisz C1
  go_wp2_with (at_make; refine wpList_make_own _ rfl _ _ 26 rfl w1.heap.size 45 i0 (.agg #[.int .i64 0, .int .i64 0]) 2 Tryz.underlying26 HI.out hz0 hz1 .i64 .i64 (tk.length : Int) tk.length rfl rfl rfl (by rw [hz2]; omega) hm (Nat.le_refl _) ?_; intro w2 ho hg)
  have hb2 : Below w1.heap.size w1 w2 := (Below.refl _ w1).grown hg (Nat.le_refl _) (fun k h => by cases h)
  have HO := Lib.hid ho
  have HB2 := Lib.hid (below_up HB1.out hb2)
  have HM2 := Lib.hid (ownsMap_below HM.out hb2)
  have hgl := (ho.lt _ rfl).2
  rw [← hg0] at hgl HO HBl
  rw [← hg0]
  have hgw : w.heap.size ≤ g := by rw [hg0]; exact HB1.out.size
  have CS := Lib.hid (gsorted_any B xs.length D w2 HM2.out (by omega))
  clear ho hg hb2 HM HB1 hlen2 hg0
  go_wp2_with fail
  refine (CK.out _ _).mono ?_; rintro e w3 ⟨rfl, rfl⟩
  go_wp2_with fail
  refine CS.out.mono ?_; rintro e w4 ⟨v, ss, rfl, hp, hrow, hb4⟩
  have hb5 : Below w2.heap.size w2 w4 := ((Below.refl _ w2).alloc (Nat.le_refl _) _).trans (hb4.mono (by omega))
  have hp2 : ss.Perm (tk.map Prod.snd) := hp.trans HKp.out.symm
  have hsl : ss.length = tk.length := by have := hp2.length_eq; rwa [List.length_map] at this
  have hwf : ∀ x ∈ ss, (Lit.int .i64 x).wf = true := fun x hx => intKeys_wf HM2.out Tryz.underlying3 x (hp.mem_iff.1 hx)
  have hR : (ss.mergeSort (fun x y => decide (x ≤ y))).map (fun b => ((firstB tk b).getD 0, b)) = R := HPk.out ss _ hp2 (fun p hp => first_of HNd.out hp)
  have hLm : ∀ x ∈ ss.mergeSort (fun x y => decide (x ≤ y)), (Lit.int .i64 x).wf = true := fun x hx => hwf x ((List.mergeSort_perm ss _).mem_iff.1 hx)
  have hLl : (ss.mergeSort (fun x y => decide (x ≤ y))).length = tk.length := by rw [List.length_mergeSort, hsl]
  rw [hsl] at hrow
  obtain ⟨L, hL⟩ : ∃ L, L = ss.mergeSort (fun x y => decide (x ≤ y)) := ⟨_, rfl⟩
  rw [← hL] at hR hLm hLl hrow
  obtain ⟨lo, lc, rfl, hoff⟩ := ints_off hrow hLl (by omega : g < w2.heap.size + 1)
  have HOff := Lib.hid hoff
  have HLm := Lib.hid hLm
  have HLl := Lib.hid hLl
  have HM4 := Lib.hid (ownsMap_below HM2.out hb5)
  have HB4 := Lib.hid (below_up HB2.out hb5)
  have HO4 : Hid (w4.ownsRow g 45 2 (.slice (some ⟨g, 0, none⟩) 0 tk.length) 0 (cellsP (R.take 0))) := Lib.hid (by have := ownsRowP_below HO.out hb5; simpa [cellsP] using this)
  have HBg : Hid (B ≠ g) := Lib.hid (by have := HBl.out; omega)
  have HRl : Hid (R.length = tk.length) := Lib.hid (by rw [← hR, List.length_map, hLl])
  have HLt : Hid (∀ (k : Nat) b, L[k]? = some b → R.take (k + 1) = R.take k ++ [((firstB tk b).getD 0, b)]) := Lib.hid (fun k b h => by
    obtain ⟨h1, e⟩ := List.getElem?_eq_some_iff.1 h
    have h2 : R[k]? = some ((firstB tk b).getD 0, b) := by rw [← hR, List.getElem?_map, h]; rfl
    obtain ⟨h3, e3⟩ := List.getElem?_eq_some_iff.1 h2
    rw [List.take_succ_eq_append_getElem h3, e3])
  have hN9 : tk.length ≤ 1073741824 := htl
  obtain ⟨N, hN⟩ : ∃ N, N = tk.length := ⟨_, rfl⟩
  rw [← hN] at HO HO4 HLl HRl hN9 ⊢
  have HG4 : Hid (w4.grownBy w4 (some g)) := Lib.hid ⟨rfl, rfl, rfl, Nat.le_refl _, fun _ _ _ => rfl⟩
  clear hb5 hb4 hp2 hsl hwf hR hLm hLl hrow hL hoff hN htl hm hp HNd HPk CS CK HKp HLen HO HB2 HM2 HBl
  go_wp2_with fail
  go_loopw [4, 16] (fun v i wr => ∃ k : Nat, k ≤ N ∧ v = .slice (some ⟨g, 0, none⟩) k N ∧ i = .int .i64 k ∧ Hid (w4.grownBy wr (some g)) ∧ Hid (wr.ownsRow g 45 2 (.slice (some ⟨g, 0, none⟩) k N) k (cellsP (R.take k)))) (fun _ i _ => N - (intOf i).toNat)
  case atStart => exact ⟨0, Nat.zero_le _, rfl, rfl, HG4, HO4⟩
  case round =>
    obtain ⟨k, hk, rfl, rfl, HG, HO⟩ := hrel
    by_cases hlt : k < N
    · obtain ⟨b, hb⟩ : ∃ b, L[k]? = some b := ⟨_, List.getElem?_eq_getElem (by rw [HLl.out]; exact hlt)⟩
      rcases HOff.out.grown HG.out with h0 | ⟨A, rfl, hA, hAg, hcell⟩
      · rw [h0] at hb; simp at hb
      have hc := hcell k b hb
      have HMr := Lib.hid (HM4.out.kept HG.out (by have := HBg.out; simpa using this))
      have hlook := first_at HMr.out HF.out b (HLm.out b (List.mem_of_getElem? hb))
      have HSt := Lib.hid (HLt.out k b hb)
      generalize (firstB tk b).getD 0 = a at hlook HSt
      have HO1 := Lib.hid (HO.out.alloc (.cells #[Value.int .i64 a, Value.int .i64 b] 45))
      have hgw : w.heap.size ≤ g := hgw
      clear hcell hb
      go_wp2_with (at_builtin; refine wpList_append_fits _ rfl _ _ 26 rfl g 45 i0 2 Tryz.underlying26 HI.out hz1 g k N _ rfl HO1.out ⟨wr.heap.size, 0, none⟩ 1 1 [Value.int .i64 a, Value.int .i64 b] rfl rfl (lit_cellP wr _ _ _) (fun u hu => by simp at hu; rcases hu with rfl | rfl <;> rfl) (by omega) ?_)
      intro w3 hown' hgrow
      have HG3 := Lib.hid (grown_trans HG.out (grown_trans (grown_below ((Below.refl wr.heap.size wr).alloc (Nat.le_refl _) _)) hgrow))
      have HO3 : Hid (w3.ownsRow g 45 2 (.slice (some ⟨g, 0, none⟩) (k + 1) N) (k + 1) (cellsP (R.take (k + 1)))) := Lib.hid (by rw [HSt.out, cellsP_app]; exact hown')
      clear hown' hgrow hlook hc HO1
      go_wp2_with fail
      go_roundw
      case rel => exact ⟨k + 1, by omega, rfl, by go_num, HG3, HO3⟩
      case measure => simp [intOf]; omega
    · obtain rfl : k = N := by omega
      have HE : Hid (PairsOut R w (.returned (.slice (some ⟨g, 0, none⟩) k k)) wr) := Lib.hid (by
        have h1 := HO.out
        rw [List.take_of_length_le (by rw [HRl.out]; exact Nat.le_refl _)] at h1
        refine OwnL.end_ ?_ (HB4.out.grown HG.out HB4.out.size (fun j h => by cases h; exact hgw))
        unfold OwnL
        rw [HRl.out]
        exact World.ownsRow.mono h1 hgw)
      go_wp2_with fail
      go_ret
      exact HE.out
end Go.Proofs.YtdenehnneloegaaGreatDoor
