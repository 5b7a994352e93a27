/-
  How long a choice of rising As can be from each place on: what the program reckons, by halving.
  Conditions: lists of at most 2^38 pairs.
-/
import Derived.WalkKit
import Derived.WalkMore
import Derived.IntWalk
import Derived.WalkArith
import Derived.OwnWalk
import Derived.OneCell
import Derived.Lib.Hide
import Derived.Deep.Cut
import Derived.Deep.Onto
import Derived.BigQuiet
import Derived.Deep.QuietTactic
import Derived.Test.YtolcdhdmonaeaaaProg
import Derived.Test.YtolcdhdmonaeaaaPSearch
namespace Go.Proofs.Ytolcdhdmonaeaaa
open Go.RowKit Go.Shelf
set_option linter.unusedVariables false

theorem setBox {w : World} {B : Nat} {u v : Value} {T : TypeId} (h : w.heap[B]? = some (.cells #[u] T (0, 0))) : (w.setCell ⟨B, 0, none⟩ v).heap[B]? = some (.cells #[v] T (0, 0)) := by
  rw [heap_setCell_same w B 0 #[u] T v h]; rfl
/-- what is reckoned so far: from place s on -/
def rowK (l : List Int) (s : Nat) : List Int := List.replicate s 0 ++ (longs (l.drop s)).map (fun n : Nat => (n : Int))
theorem rowK_len (l : List Int) (s : Nat) (h : s ≤ l.length) : (rowK l s).length = l.length := by simp [rowK, longs_len]; omega
theorem rowK_next (l : List Int) (m i : Nat) (a : Int) (ha : l[m]? = some a) (hb : best a (l.drop (m + 1)) (longs (l.drop (m + 1))) = i) : (rowK l (m + 1)).set m ((i : Int) + 1) = rowK l m := by
  obtain ⟨hm, e⟩ := List.getElem?_eq_some_iff.1 ha
  unfold rowK
  rw [List.set_append_left _ _ (by simp), show l.drop m = a :: l.drop (m + 1) from by rw [List.drop_eq_getElem_cons hm, e]]
  simp only [longs, hb, List.map_cons]
  rw [List.replicate_succ', List.set_append_right _ _ (by simp)]
  simp
theorem rowK_zero (l : List Int) : rowK l 0 = (longs l).map (fun n : Nat => (n : Int)) := by simp [rowK]
theorem rowK_all (l : List Int) : rowK l l.length = List.replicate l.length 0 := by simp [rowK, longs]
theorem ints_zero (n : Nat) : (madeCells #[.int .i64 0] n).toList = (List.replicate n (0 : Int)).map (Value.int .i64) := by rw [toList_madeCells_one]; simp
theorem OwnI.ints {w : World} {base : Nat} {v : Value} {l : List Int} (h : OwnI w base v l) {ao : Option Addr} {n c : Nat} (hv : v = .slice ao n c) : IntsAt w ao l := by
  subst hv
  rcases h.2 with ⟨h1, h0⟩ | ⟨g, cap, cur, h1, _⟩
  · exact .inl (List.eq_nil_of_length_eq_zero h0)
  · cases h1
    exact .inr ⟨_, rfl, (World.ownsRow.lt h g rfl).2, fun i p hp => World.ownsRow.cells h rfl i _ (by rw [List.getElem?_map, hp]; rfl)⟩
theorem map_set_int (l : List Int) (i : Nat) (a : Int) : (l.map (Value.int .i64)).set i (.int .i64 a) = (l.set i a).map (Value.int .i64) := by rw [List.map_set]

set_option maxRecDepth 100000 in
set_option maxHeartbeats 2000000 in
theorem lengths_any (ao : Option Addr) (cap : Nat) (xs : PL) (w : World) (hn : xs.length ≤ 274877906944) (hR : PairsAt w ao xs) :
    Calls Try.prog 33 #[.slice ao xs.length cap] w fun e w' => ∃ g, e = .returned (.tuple #[.slice (some ⟨g, 0, none⟩) xs.length xs.length, .int .i64 (most (longs (xs.map Prod.fst)))]) ∧ IntsAt w' (some ⟨g, 0, none⟩) ((longs (xs.map Prod.fst)).map (fun n : Nat => (n : Int))) ∧ Below w.heap.size w w' := by
  have hinfo : (Try.prog.info? 3).map (fun i => (i.zero, i.size, i.bytes)) = some (some (.int .i64 0), 1, 8) := by kernel_rfl
  obtain ⟨i0, hi, hz0, hz1, hz2⟩ := info_parts2 hinfo
  have HI := Lib.hid hi
  have HRo := Lib.hid hR
  have hent := enters_of Try.func40 (by kernel_rfl) rfl
  have hmx : xs.length ≤ maxLen := by unfold maxLen; omega
  have hwl : IntKind.i64.wrap ((xs.length : Int) - 1) = (xs.length : Int) - 1 := IntWalk.i64_in _ (by omega)
  obtain ⟨al, HAs⟩ : ∃ al, Hid (al = xs.map Prod.fst) := ⟨_, Lib.hid rfl⟩
  have hal : al.length = xs.length := by rw [HAs.out]; simp
  have HAL := Lib.hid hal
  rw [← HAs.out]
  clear hi hinfo hR hal
  go_enter Try.func33, Try.ntmps33
  go_wp2_with (at_make; refine wpList_make_full _ rfl _ _ 30 rfl w.heap.size 3 i0 (.int .i64 0) 1 Try.underlying30 HI.out hz0 hz1 .i64 .i64 (xs.length : Int) (xs.length : Int) xs.length rfl rfl rfl rfl (by rw [hz2]; omega) hmx (Nat.le_refl _) ?_; intro w1 ho hg)
  have hg1 : w.heap.size < w1.heap.size := (ho.lt w.heap.size rfl).2
  have HB1 : Hid (Below w.heap.size w w1) := Lib.hid ((Below.refl _ w).grown hg (Nat.le_refl _) (fun k h => by cases h))
  have HL1 : Hid (w1.ownsRow w.heap.size 3 1 (.slice (some ⟨w.heap.size, 0, none⟩) xs.length xs.length) xs.length ((rowK al xs.length).map (Value.int .i64))) := Lib.hid (by rw [← HAL.out, rowK_all, ← ints_zero, HAL.out]; rw [Nat.mul_one] at ho; exact ho)
  clear ho hg
  go_upto_region 3 with fail
  obtain ⟨V, HV⟩ : ∃ V, Hid (V = w1.alloc (.cells #[.slice none 0 0] 30)) := ⟨_, Lib.hid rfl⟩
  have hb1 : Below w1.heap.size w1 V := by rw [HV.out]; exact (Below.refl _ w1).alloc (Nat.le_refl _) _
  have HVB := Lib.hid (below_up HB1.out hb1)
  have HVL := Lib.hid (ownsRow_below HL1.out hb1)
  obtain ⟨B, hBB⟩ : ∃ B, B = w1.heap.size := ⟨_, rfl⟩
  have HVX : Hid (V.heap[B]? = some (.cells #[.slice none 0 0] 30 (0, 0))) := Lib.hid (by rw [hBB, HV.out]; exact World.alloc_heap_new _ _)
  have hgB : w.heap.size < B := by rw [hBB]; exact hg1
  rw [← HV.out, ← hBB]
  clear hb1 HB1 HL1 hg1 hBB HV
  go_wp2_with fail
  clear hwl
  go_loopw [6] (fun i wr => ∃ (s : Nat) (ts : List Int) (mo : Option Addr) (mc : Nat), s ≤ xs.length ∧ ts.length ≤ xs.length ∧ i = .int .i64 ((s : Int) - 1) ∧ Hid (Below w.heap.size w wr) ∧ Hid (wr.ownsRow w.heap.size 3 1 (.slice (some ⟨w.heap.size, 0, none⟩) xs.length xs.length) xs.length ((rowK al s).map (Value.int .i64))) ∧ Hid (wr.heap[B]? = some (.cells #[.slice mo ts.length mc] 30 (0, 0))) ∧ Hid (OwnI wr (B + 1) (.slice mo ts.length mc) ts) ∧ Hid (Tops (al.drop s) ts)) (fun i _ => ((intOf i) + 1).toNat)
  case atStart => exact ⟨xs.length, [], none, 0, Nat.le_refl _, Nat.zero_le _, rfl, HVB, HVL, HVX, Lib.hid (World.ownsRow_nil _ _ _ _), Lib.hid (by rw [← HAL.out, List.drop_length]; exact Tops.nil)⟩
  case round =>
    obtain ⟨s, ts, mo, mc, hs, htl, rfl, HB, HL, HX, HM, HT⟩ := hrel
    clear HVB HVL HVX
    by_cases h0 : s = 0
    · subst h0
      obtain ⟨cX, _⟩ := cell_of_box_l HX.out
      have hlen := HT.out.len
      rw [List.drop_zero] at hlen
      have E : Hid (IntsAt wr (some ⟨w.heap.size, 0, none⟩) ((longs al).map (fun n : Nat => (n : Int)))) := Lib.hid (by
        have h := HL.out
        rw [rowK_zero] at h
        refine .inr ⟨_, rfl, (h.lt w.heap.size rfl).2, fun i p hp => h.cells rfl i _ (by rw [List.getElem?_map, hp]; rfl)⟩)
      have HLen := Lib.hid hlen
      clear hlen HT HM
      go_wp2_with fail
      go_quiet (fail)
      go_wp2_with fail
      have HEd : Hid (Below w.heap.size w (wr.drewN nq)) := Lib.hid (bdn HB.out)
      refine bodyPost_ret (v := .tuple #[.slice (some ⟨w.heap.size, 0, none⟩) xs.length xs.length, .int .i64 ts.length]) (by simp [results, Try.results33, go_sem]) rfl ?_
      exact ⟨w.heap.size, by rw [HLen.out], E.out, HEd.out⟩
    · obtain ⟨m, hm⟩ : ∃ m, s = m + 1 := ⟨s - 1, by omega⟩
      have hsub : (s : Int) - 1 = (m : Int) := by omega
      rw [hsub]
      obtain ⟨⟨x1, x2⟩, hx⟩ : ∃ x, xs[m]? = some x := ⟨_, List.getElem?_eq_getElem (by omega)⟩
      rcases (HRo.out.kept HB.out) with h0 | ⟨b, o, rfl, hA, hcell⟩
      · rw [h0] at hx; simp at hx
      obtain ⟨hc1, hc2⟩ := hcell m _ hx
      dsimp only at hc1 hc2
      have HA1 : Hid (al[m]? = some x1) := Lib.hid (by rw [HAs.out, List.getElem?_map, hx]; rfl)
      have hml : m < xs.length := by omega
      obtain ⟨V2, HV2⟩ : ∃ V2, Hid (V2 = wr.alloc (.cells #[.int .i64 x1] 3)) := ⟨_, Lib.hid rfl⟩
      have hVh : V2.heap[wr.heap.size]? = some (.cells #[.int .i64 x1] 3 (0, 0)) := by rw [HV2.out]; exact World.alloc_heap_new _ _
      obtain ⟨a0, _⟩ := cell_of_box_l hVh
      have hbV : Below wr.heap.size wr V2 := by rw [HV2.out]; exact (Below.refl _ wr).alloc (Nat.le_refl _) _
      have hBl : B < wr.heap.size := lt_of_heap HX.out
      have HX2 : Hid (V2.heap[B]? = some (.cells #[.slice mo ts.length mc] 30 (0, 0))) := Lib.hid ((hbV.block _ hBl).trans HX.out)
      obtain ⟨cX, _⟩ := cell_of_box_l HX2.out
      have HVB := Lib.hid (below_up HB.out hbV)
      have HVL := Lib.hid (ownsRow_below HL.out hbV)
      have HVM : Hid (OwnI V2 (B + 1) (.slice mo ts.length mc) ts) := Lib.hid (ownsRow_below HM.out hbV)
      have C := Lib.hid (search_any 40 (.pointer (some ⟨B, 0, none⟩)) (.pointer (some ⟨wr.heap.size, 0, none⟩)) (fun k => decide (ts.getD k 0 ≤ x1)) ts.length V2 (by omega) hent (fun k W hk hW =>
        lengths1_any B wr.heap.size ts k x1 mo mc W hk (by omega) (cell_of_box_l ((hW.block _ (lt_of_heap HX2.out)).trans HX2.out)).1 (cell_of_box_l ((hW.block _ (lt_of_heap hVh)).trans hVh)).1 ((OwnI.ints HVM.out rfl).kept hW)))
      have HVh := Lib.hid hVh
      have hwr2 : wr.heap.size < V2.heap.size := lt_of_heap hVh
      have HM1 := Lib.hid hm
      clear hcell hx hVh hbV HB HL HX HM h0 hm
      go_upto_region 7 with fail
      rw [← HV2.out]
      go_wp2_with fail
      refine C.out.mono ?_; rintro e w2 ⟨i, rfl, hi, hp1, hp2, b2⟩
      have G1 : Hid (i = 0 ∨ ∃ v, ts[i - 1]? = some v ∧ x1 < v) := Lib.hid (by
        rcases Nat.eq_zero_or_pos i with h | h
        · exact .inl h
        · rcases hp1 with h' | h'
          · omega
          · refine .inr ⟨_, List.getElem?_eq_getElem (by omega), ?_⟩
            have := of_decide_eq_false h'
            rw [List.getD_eq_getElem?_getD, List.getElem?_eq_getElem (show i - 1 < ts.length by omega)] at this
            simp at this; omega)
      have G2 : Hid (i = ts.length ∨ ∃ v, ts[i]? = some v ∧ v ≤ x1) := Lib.hid (by
        rcases Nat.lt_or_ge i ts.length with h | h
        · rcases hp2 with h' | h'
          · omega
          · refine .inr ⟨_, List.getElem?_eq_getElem h, ?_⟩
            have := of_decide_eq_true h'
            rw [List.getD_eq_getElem?_getD, List.getElem?_eq_getElem h] at this
            simpa using this
        · exact .inl (by omega))
      have HT2 := Lib.hid (HT.out.cons x1 i hi G1.out G2.out _ rfl)
      have HBst := Lib.hid (HT.out.found x1 i hi G1.out G2.out)
      have HRow : Hid ((rowK al s).set m ((i : Int) + 1) = rowK al m) := Lib.hid (by rw [HM1.out]; exact rowK_next al m i x1 HA1.out (by rw [← HM1.out]; exact HBst.out))
      have HDr : Hid (al.drop m = x1 :: al.drop s) := Lib.hid (by
        obtain ⟨h1, e⟩ := List.getElem?_eq_some_iff.1 HA1.out
        rw [HM1.out, List.drop_eq_getElem_cons h1, e])
      rw [← HDr.out] at HT2
      have HX3 : Hid (w2.heap[B]? = some (.cells #[.slice mo ts.length mc] 30 (0, 0))) := Lib.hid ((b2.block _ (lt_of_heap HX2.out)).trans HX2.out)
      obtain ⟨cX3, fX3⟩ := cell_of_box_l HX3.out
      obtain ⟨a3, _⟩ := cell_of_box_l ((b2.block _ (lt_of_heap HVh.out)).trans HVh.out)
      have HB3 := Lib.hid (below_up HVB.out b2)
      have HL3 := Lib.hid (ownsRow_below HVL.out b2)
      have HM3 : Hid (OwnI w2 (B + 1) (.slice mo ts.length mc) ts) := Lib.hid (ownsRow_below HVM.out b2)
      have hr3 : wr.heap.size < w2.heap.size := Nat.lt_of_lt_of_le hwr2 b2.size
      clear b2 hp1 hp2 cX a0 HVB HVL HVM HX2 HT
      have hwm : IntKind.i64.wrap ((m : Int) - 1) = (m : Int) - 1 := IntWalk.i64_in _ (by omega)
      have hsl : Hid (∀ W : World, W.ownsRow w.heap.size 3 1 (.slice (some ⟨w.heap.size, 0, none⟩) xs.length xs.length) xs.length ((rowK al s).map (Value.int .i64)) → W.cell? ⟨w.heap.size, m, none⟩ ≠ none ∧ W.frozen? ⟨w.heap.size, m, none⟩ = false ∧ (W.setCell ⟨w.heap.size, m, none⟩ (.int .i64 ((i : Int) + 1))).ownsRow w.heap.size 3 1 (.slice (some ⟨w.heap.size, 0, none⟩) xs.length xs.length) xs.length ((rowK al m).map (Value.int .i64))) := Lib.hid (fun W h => by
        refine ⟨?_, h.frozenAt m, ?_⟩
        · rw [h.cellAt m (by omega), List.getElem?_map, List.getElem?_eq_getElem (by rw [rowK_len al s (by rw [HAL.out]; exact hs), HAL.out]; exact hml)]; simp
        · rw [← HRow.out, ← map_set_int]; exact (h.stored m (.int .i64 ((i : Int) + 1))).1)
      rcases Nat.lt_or_ge i ts.length with hlt | hge
      · rw [if_pos hlt] at HT2
        obtain ⟨gm, mc2, hmo⟩ := Go.Joins.ownsRow_form HM3.out (by omega)
        cases hmo
        have hgm := (World.ownsRow.lt HM3.out gm rfl)
        have z0 := World.ownsRow.cellAt HM3.out i (by omega)
        rw [List.getElem?_map, List.getElem?_eq_getElem hlt] at z0
        have z1 := World.ownsRow.frozenAt HM3.out i
        obtain ⟨W3, HW3⟩ : ∃ W3, Hid (W3 = w2.setCell ⟨gm, i, none⟩ (.int .i64 x1)) := ⟨_, Lib.hid rfl⟩
        have L3 : W3.ownsRow w.heap.size 3 1 (.slice (some ⟨w.heap.size, 0, none⟩) xs.length xs.length) xs.length ((rowK al s).map (Value.int .i64)) := by rw [HW3.out]; exact ownsRow_setCell_other HL3.out (by simp [Value.ownBlock]; omega) _
        obtain ⟨y0, y1, L4⟩ := hsl.out W3 L3
        obtain ⟨old, y2⟩ := Option.ne_none_iff_exists'.1 y0
        have HL4 := Lib.hid L4
        have HX4 : Hid ((W3.setCell ⟨w.heap.size, m, none⟩ (.int .i64 ((i : Int) + 1))).heap[B]? = some (.cells #[.slice (some ⟨gm, 0, none⟩) (ts.set i x1).length mc] 30 (0, 0))) := Lib.hid (by
          rw [heap_setCell_other _ _ _ _ (by show B ≠ w.heap.size; omega), HW3.out, heap_setCell_other _ _ _ _ (by show B ≠ gm; omega), List.length_set]; exact HX3.out)
        have HM4 : Hid (OwnI (W3.setCell ⟨w.heap.size, m, none⟩ (.int .i64 ((i : Int) + 1))) (B + 1) (.slice (some ⟨gm, 0, none⟩) (ts.set i x1).length mc) (ts.set i x1)) := Lib.hid (by
          unfold OwnI
          rw [List.length_set, ← map_set_int]
          refine ownsRow_setCell_other ?_ (by simp [Value.ownBlock]; omega) _
          rw [HW3.out]
          exact (World.ownsRow.stored HM3.out i (.int .i64 x1)).1)
        have HB4 : Hid (Below w.heap.size w (W3.setCell ⟨w.heap.size, m, none⟩ (.int .i64 ((i : Int) + 1)))) := Lib.hid (by
          rw [HW3.out]
          exact (HB3.out.setCell (p := ⟨gm, i, none⟩) (by show w.heap.size ≤ gm; omega) _).setCell (p := ⟨w.heap.size, m, none⟩) (Nat.le_refl _) _)
        have htl2 : (ts.set i x1).length ≤ xs.length := by rw [List.length_set]; exact htl
        clear y0 L3 L4 hsl HL3 HM3 HX3
        go_upto_region 11 with fail
        rw [← HW3.out]
        go_wp2_with fail
        go_roundw
        case rel => exact ⟨m, ts.set i x1, _, mc, by omega, htl2, rfl, HB4, HL4, HX4, HM4, HT2⟩
        case measure => first | (simp [intOf]; done) | (simp [intOf]; omega)
      · rw [if_neg (by omega)] at HT2
        have hil : i = ts.length := by omega
        subst hil
        have HT1 := Lib.hid (World.ownsRow.alloc HM3.out (.cells #[Value.int .i64 x1] 3))
        have hBw : B < w2.heap.size := lt_of_heap HX3.out
        have hbs : B + 1 ≤ (w2.alloc (.cells #[Value.int .i64 x1] 3)).heap.size := by simp; omega
        have HTO := HM3
        have htl1 : ts.length + 1 ≤ xs.length := by
          have h1 := Tops.len HT2.out
          have h2 := most_longs_le (al.drop m)
          have h3 := HAL.out
          simp at h1 h2; omega
        go_wp2_with (at_builtin; refine wpList_append_own _ rfl _ _ 30 rfl (B + 1) 3 i0 (.int .i64 0) 1 8 Try.underlying30 HI.out hz0 hz1 hz2 rfl (by decide) _ _ _ rfl HT1.out ⟨w2.heap.size, 0, none⟩ 1 1 [Value.int .i64 x1] rfl rfl (lit_cellI w2 _) (fun u hu => by simp at hu; subst hu; rfl) (by unfold maxLen; omega) (by omega) hbs ?_)
        intro v' w3 hown' hgrow _
        obtain ⟨gm, gc, rfl⟩ := ownsRow_succ hown'
        have hgm := (World.ownsRow.lt hown' gm rfl)
        have hne : ∀ k, k ≤ B → some k ≠ (Value.slice mo ts.length mc).ownBlock := fun k hk e => by have := (World.ownsRow.lt HM3.out k e.symm).1; omega
        have X4 : w3.heap[B]? = some (.cells #[.slice mo ts.length mc] 30 (0, 0)) := by
          rw [hgrow.block B (by simp; omega) (hne B (Nat.le_refl _)), Below.heap_alloc _ _ _ hBw]; exact HX3.out
        obtain ⟨cX4, fX4⟩ := cell_of_box_l X4
        have L3 := (HL3.out.alloc (.cells #[Value.int .i64 x1] 3)).kept hgrow (.inr (hne w.heap.size (by omega)))
        have B4 := (HB3.out.alloc HB3.out.size (.cells #[Value.int .i64 x1] 3)).grown hgrow (by have := HB3.out.size; simp; omega) (fun j h => by have := (World.ownsRow.lt HM3.out j h).1; omega)
        obtain ⟨W4, HW4⟩ : ∃ W4, Hid (W4 = w3.setCell ⟨B, 0, none⟩ (.slice (some ⟨gm, 0, none⟩) (ts.length + 1) gc)) := ⟨_, Lib.hid rfl⟩
        have L4 : W4.ownsRow w.heap.size 3 1 (.slice (some ⟨w.heap.size, 0, none⟩) xs.length xs.length) xs.length ((rowK al s).map (Value.int .i64)) := by rw [HW4.out]; exact ownsRow_setCell_other L3 (by simp [Value.ownBlock]; omega) _
        obtain ⟨y0, y1, L5⟩ := hsl.out W4 L4
        obtain ⟨old, y2⟩ := Option.ne_none_iff_exists'.1 y0
        have HL5 := Lib.hid L5
        have HX5 : Hid ((W4.setCell ⟨w.heap.size, m, none⟩ (.int .i64 ((ts.length : Int) + 1))).heap[B]? = some (.cells #[.slice (some ⟨gm, 0, none⟩) (ts ++ [x1]).length gc] 30 (0, 0))) := Lib.hid (by
          rw [heap_setCell_other _ _ _ _ (by show B ≠ w.heap.size; omega), HW4.out, List.length_append]; exact setBox X4)
        have HM5 : Hid (OwnI (W4.setCell ⟨w.heap.size, m, none⟩ (.int .i64 ((ts.length : Int) + 1))) (B + 1) (.slice (some ⟨gm, 0, none⟩) (ts ++ [x1]).length gc) (ts ++ [x1])) := Lib.hid (by
          unfold OwnI
          rw [List.length_append, List.map_append]
          refine ownsRow_setCell_other ?_ (by simp [Value.ownBlock]; omega) _
          rw [HW4.out]
          exact ownsRow_setCell_other hown' (by simp [Value.ownBlock]; omega) _)
        have HB5 : Hid (Below w.heap.size w (W4.setCell ⟨w.heap.size, m, none⟩ (.int .i64 ((ts.length : Int) + 1)))) := Lib.hid (by
          rw [HW4.out]
          exact (B4.setCell (p := ⟨B, 0, none⟩) (by show w.heap.size ≤ B; omega) _).setCell (p := ⟨w.heap.size, m, none⟩) (Nat.le_refl _) _)
        have htl2 : (ts ++ [x1]).length ≤ xs.length := by rw [List.length_append]; exact htl1
        clear y0 L3 L4 L5 B4 hsl HL3 HM3 HX3 hown' hgrow X4 HTO HT1 hbs
        go_upto_region 11 with fail
        rw [← HW4.out]
        go_wp2_with fail
        go_roundw
        case rel => exact ⟨m, ts ++ [x1], _, gc, by omega, htl2, rfl, HB5, HL5, HX5, HM5, HT2⟩
        case measure => first | (simp [intOf]; done) | (simp [intOf]; omega)
end Go.Proofs.Ytolcdhdmonaeaaa
