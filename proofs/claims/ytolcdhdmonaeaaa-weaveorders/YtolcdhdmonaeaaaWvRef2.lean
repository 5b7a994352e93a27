/-
  Parts of weaving, as the document's reference has them: the As of what is still, all that have a B.
  Conditions: lists of at most 2^20 pairs of Go integers.
-/
import Derived.IntWalk
import Derived.WalkArith
import Derived.OwnWalk
import Derived.Deep.Cut
import Derived.Deep.Onto
import Derived.BigQuiet
import Derived.Deep.QuietTactic
import Derived.Test.YtolcdhdmonaeaaaProg
import Derived.Test.YtolcdhdmonaeaaaWvRef
import Derived.Test.YtolcdhdmonaeaaaWWeaveRises
namespace Go.Proofs.Ytolcdhdmonaeaaa
open Go.RowKit Go.Shelf
set_option linter.unusedVariables false

set_option maxRecDepth 100000 in
set_option maxHeartbeats 1000000 in
theorem rwstill_any (ao : Option Addr) (ca : Nat) (xs : PL) (w : World) (hn : xs.length ≤ 1048576) (hR : PairsAt w ao xs) :
    Calls Try.prog 22 #[.slice ao xs.length ca] w (IntsOut (stillA xs) w) := by
  have hinfo : (Try.prog.info? 3).map (fun i => (i.zero, i.size, i.bytes)) = some (some (.int .i64 0), 1, 8) := by kernel_rfl
  obtain ⟨i0, hi, hz0, hz1, hz2⟩ := info_parts2 hinfo
  have HI := Lib.hid hi
  have HR := Lib.hid hR
  have C := Lib.hid (rstill_any ao ca xs w (by omega) hR)
  have hsl : (stillL xs).length ≤ 1048576 := by
    have := pick_le (longs (xs.map Prod.fst)) 0 (most (longs (xs.map Prod.fst)))
    rw [longs_len, List.length_map] at this
    unfold stillL; omega
  have HSt := Lib.hid (still_at xs)
  obtain ⟨S, HS⟩ : ∃ S, Hid (S = stillA xs) := ⟨_, Lib.hid rfl⟩
  rw [← HS.out]
  have HSl : Hid (S.length = (stillL xs).length) := Lib.hid (by rw [HS.out]; unfold stillA atP; rw [List.length_map, List.length_map])
  have HNx : Hid (∀ (k : Nat) s, (stillL xs)[k]? = some s → ∃ (j : Nat) (x1 x2 : Int), s = (j : Int) ∧ xs[j]? = some (x1, x2) ∧ S.take (k + 1) = S.take k ++ [x1]) := Lib.hid (fun k s hs => by
    obtain ⟨j, ⟨x1, x2⟩, e, h1, h2⟩ := HSt.out k s hs
    refine ⟨j, x1, x2, e, h1, take_more S k x1 ?_⟩
    rw [HS.out]; unfold stillA; rw [List.getElem?_map, h2]; rfl)
  clear hR hi hinfo HSt HS
  generalize stillL xs = st at C hsl HSl HNx
  go_enter Try.func22, Try.ntmps22
  go_wp2_with fail
  refine C.out.mono ?_; rintro e W ⟨so, sc, rfl, i1, -, -, b1⟩
  have B := Lib.hid b1
  have I1 := Lib.hid i1
  have IX := Lib.hid (HR.out.kept b1)
  clear b1 i1 C HR
  have HT : Hid (W.ownsRow W.heap.size 3 1 (.slice none 0 0) 0 ((S.take 0).map (Value.int .i64))) := Lib.hid (World.ownsRow_nil _ _ _ _)
  go_wp2_with fail
  go_loopw [3, 5] (fun v i wr => ∃ (k cp : Nat) (go : Option Addr), k ≤ st.length ∧ i = .int .i64 k ∧ v = .slice go k cp ∧ Hid (Below W.heap.size W wr) ∧ Hid (wr.ownsRow W.heap.size 3 1 (.slice go k cp) k ((S.take k).map (Value.int .i64)))) (fun _ i _ => st.length - (intOf i).toNat)
  case atStart => exact ⟨0, 0, none, Nat.zero_le _, rfl, rfl, Lib.hid (Below.refl _ _), HT⟩
  case round =>
    clear HT
    obtain ⟨k, cp, go, hk, rfl, rfl, HB, HO⟩ := hrel
    by_cases hlt : k < st.length
    · obtain ⟨s, hs⟩ : ∃ s, st[k]? = some s := ⟨_, List.getElem?_eq_getElem hlt⟩
      obtain ⟨j, x1, x2, rfl, hj, hTk⟩ := HNx.out k s hs
      have hjl : j < xs.length := (List.getElem?_eq_some_iff.1 hj).1
      rcases (I1.out.kept HB.out) with h0 | ⟨A, rfl, hAs, hcs⟩
      · rw [h0] at hlt; simp at hlt
      have ck := hcs k _ hs
      rcases (IX.out.kept HB.out) with h0 | ⟨bX, oX, rfl, hAX, hcX⟩
      · rw [h0] at hjl; simp at hjl
      obtain ⟨c1, c2⟩ := hcX j _ hj
      dsimp only at c1 c2
      have HTk := Lib.hid hTk
      clear hcs hcX hs hj hTk hAs hAX
      have HO1 := Lib.hid (HO.out.alloc (.cells #[Value.int .i64 x1] 3))
      have hbs : W.heap.size ≤ (wr.alloc (.cells #[Value.int .i64 x1] 3)).heap.size := by have := HB.out.size; simp; omega
      go_wp2_with (at_builtin; refine wpList_append_own _ rfl _ _ 30 rfl W.heap.size 3 i0 (.int .i64 0) 1 8 Try.underlying30 HI.out hz0 hz1 hz2 rfl (by decide) _ _ _ rfl HO1.out ⟨wr.heap.size, 0, none⟩ 1 1 [Value.int .i64 x1] rfl rfl (lit_cellI wr _) (fun u hu => by simp at hu; subst hu; rfl) (by unfold maxLen; omega) (by omega) hbs ?_)
      intro v' w3 hown' hgrow _
      obtain ⟨g, gc, rfl⟩ := ownsRow_succ hown'
      have HB3 := Lib.hid (own_grownI HB.out HB.out.size HO.out hgrow)
      have HO3 : Hid (w3.ownsRow W.heap.size 3 1 (.slice (some ⟨g, 0, none⟩) (k + 1) gc) (k + 1) ((S.take (k + 1)).map (Value.int .i64))) := Lib.hid (by rw [HTk.out, List.map_append, List.map_take]; exact hown')
      clear hown' hgrow hbs HO1
      go_wp2_with fail
      go_roundw
      case rel => exact ⟨k + 1, gc, _, by omega, by go_num, rfl, HB3, HO3⟩
      case measure => simp [intOf]; omega
    · obtain rfl : k = st.length := by omega
      have HE : Hid (IntsOut S w (.returned (.slice go st.length cp)) wr) := Lib.hid (by
        have h := HO.out
        rw [← HSl.out, List.take_length] at h
        rw [← HSl.out]
        exact OwnI.end_ (World.ownsRow.mono h B.out.size) (below_up B.out HB.out))
      clear HO
      go_wp2_with fail
      go_ret
      exact HE.out

theorem box_two {W : World} {B : Nat} {x y : Value} {T : TypeId} (h : W.heap[B]? = some (.cells #[x, y] T (0, 0))) : W.cell? ⟨B, 0, none⟩ = some x ∧ W.cell? ⟨B, 1, none⟩ = some y ∧ W.frozen? ⟨B, 0, none⟩ = false ∧ W.frozen? ⟨B, 1, none⟩ = false :=
  ⟨(Lib.cell_of_heap h 0).trans rfl, (Lib.cell_of_heap h 1).trans rfl, by simp [World.frozen?, h], by simp [World.frozen?, h]⟩

set_option maxRecDepth 100000 in
set_option maxHeartbeats 1000000 in
theorem rbyB_any (ao : Option Addr) (ca : Nat) (xs : PL) (n : Nat) (w : World) (hn : xs.length ≤ 1048576) (hnb : n ≤ 1048576) (hR : PairsAt w ao xs) :
    Calls Try.prog 21 #[.slice ao xs.length ca, .int .i64 n] w fun e w' => ∃ v, e = .returned v ∧ w'.ownsRow w.heap.size 37 2 v n (cellsP (byBL xs n)) ∧ Below w.heap.size w w' := by
  have hinfo : (Try.prog.info? 37).map (fun i => (i.zero, i.size, i.bytes)) = some (some (.agg #[.int .i64 0, .int .i64 0]), 2, 16) := by kernel_rfl
  obtain ⟨i0, hi, hz0, hz1, hz2⟩ := info_parts2 hinfo
  have HI := Lib.hid hi
  have HR := Lib.hid hR
  have HBN := Lib.hid (by_next xs)
  have HZ : Hid (∀ b, byAt (xs.take 0) b = (-1, b)) := Lib.hid (fun b => rfl)
  have HLN : Hid (∀ k : Nat, byBL xs (k + 1) = byBL xs k ++ [byAt (xs.take xs.length) (k : Int)]) := Lib.hid (fun k => by unfold byBL; rw [upTo_next, List.map_append, List.take_length]; rfl)
  have HT : Hid (w.ownsRow w.heap.size 37 2 (.slice none 0 0) 0 (cellsP (byBL xs 0))) := Lib.hid (World.ownsRow_nil _ _ _ _)
  clear hi hinfo hR
  generalize byBL xs = L at HLN HT ⊢
  go_enter Try.func21, Try.ntmps21
  go_wp2_with fail
  go_loopw [5, 6] (fun v i wr => ∃ (k cp : Nat) (go : Option Addr), k ≤ n ∧ i = .int .i64 k ∧ v = .slice go k cp ∧ Hid (Below w.heap.size w wr) ∧ Hid (wr.ownsRow w.heap.size 37 2 (.slice go k cp) k (cellsP (L k)))) (fun _ i _ => n - (intOf i).toNat)
  case atStart => exact ⟨0, 0, none, Nat.zero_le _, rfl, rfl, Lib.hid (Below.refl _ _), HT⟩
  case round =>
    clear HT
    obtain ⟨k, cp, go, hk, rfl, rfl, HB, HO⟩ := hrel
    by_cases hlt : k < n
    · obtain ⟨wo, rfl⟩ : ∃ wo : World, wo = wr := ⟨_, rfl⟩
      obtain ⟨V, HV⟩ : ∃ V, Hid (V = wo.alloc (.cells #[.int .i64 (-1), .int .i64 (k : Int)] 37)) := ⟨_, Lib.hid rfl⟩
      have HVh : Hid (V.heap[wo.heap.size]? = some (.cells #[.int .i64 (byAt (xs.take 0) (k : Int)).1, .int .i64 (byAt (xs.take 0) (k : Int)).2] 37 (0, 0))) := Lib.hid (by rw [HV.out, HZ.out]; exact World.alloc_heap_new _ _)
      have HVB : Hid (Below wo.heap.size wo V) := Lib.hid (by rw [HV.out]; exact alloc_belowW _ _)
      go_upto_region 6 with fail
      rw [← HV.out]
      clear HV
      go_wp2_with fail
      go_loopw [8] (fun i wr => ∃ (j : Nat) (p : Int × Int), j ≤ xs.length ∧ i = .int .i64 j ∧ Hid (p = byAt (xs.take j) (k : Int)) ∧ Hid (Below wo.heap.size wo wr) ∧ Hid (wr.heap[wo.heap.size]? = some (.cells #[.int .i64 p.1, .int .i64 p.2] 37 (0, 0)))) (fun i _ => xs.length - (intOf i).toNat)
      case atStart => exact ⟨0, _, Nat.zero_le _, rfl, Lib.hid rfl, HVB, HVh⟩
      case round =>
        clear HVB HVh
        obtain ⟨j, ⟨p1, p2⟩, hj, rfl, HP, HB1, HX⟩ := hrel
        dsimp only at HX
        obtain ⟨z0, z1, f0, f1⟩ := box_two HX.out
        by_cases hjl : j < xs.length
        · obtain ⟨⟨x1, x2⟩, hx⟩ : ∃ x, xs[j]? = some x := ⟨_, List.getElem?_eq_getElem hjl⟩
          have HNX := Lib.hid (HBN.out j (k : Int) _ hx)
          dsimp only at HNX
          rcases (HR.out.kept (below_up HB.out HB1.out)) with h0 | ⟨b, o, rfl, hA, hcell⟩
          · rw [h0] at hjl; simp at hjl
          have hbs : b < wo.heap.size := by
            rcases HR.out with h0 | ⟨b', o', e, h2, _⟩
            · rw [h0] at hjl; simp at hjl
            · cases e; exact Nat.lt_of_lt_of_le h2 HB.out.size
          obtain ⟨c1, c2⟩ := hcell j _ hx
          dsimp only at c1 c2
          clear hcell hx hA
          by_cases he : x2 = (k : Int)
          · have hb : ((x2 == (k : Int)) = true) := by simp [he]
            have HP2 : Hid ((x1, x2) = byAt (xs.take (j + 1)) (k : Int)) := Lib.hid (by rw [HNX.out, if_pos he])
            have HX2 : Hid (((wr.setCell ⟨wo.heap.size, 0, none⟩ (.int .i64 x1)).setCell ⟨wo.heap.size, 1, none⟩ (.int .i64 x2)).heap[wo.heap.size]? = some (.cells #[.int .i64 x1, .int .i64 x2] 37 (0, 0))) := Lib.hid (heap_setCell_same _ wo.heap.size 1 _ _ _ (heap_setCell_same wr wo.heap.size 0 _ _ _ HX.out))
            have HB2 : Hid (Below wo.heap.size wo ((wr.setCell ⟨wo.heap.size, 0, none⟩ (.int .i64 x1)).setCell ⟨wo.heap.size, 1, none⟩ (.int .i64 x2))) := Lib.hid ((HB1.out.setCell (Nat.le_refl _) _).setCell (Nat.le_refl _) _)
            clear he
            go_wp2_with fail
            go_roundw
            case rel => exact ⟨j + 1, (x1, x2), by omega, by go_num, HP2, HB2, HX2⟩
            case measure => simp [intOf]; omega
          · have hb : ((x2 == (k : Int)) = false) := by simp [he]
            have HP2 : Hid ((p1, p2) = byAt (xs.take (j + 1)) (k : Int)) := Lib.hid (by rw [HNX.out, if_neg he]; exact HP.out)
            clear he
            go_wp2_with fail
            go_roundw
            case rel => exact ⟨j + 1, (p1, p2), by omega, by go_num, HP2, HB1, HX⟩
            case measure => simp [intOf]; omega
        · obtain rfl : j = xs.length := by omega
          have HLk : Hid (L (k + 1) = L k ++ [(p1, p2)]) := Lib.hid (by rw [HLN.out, ← HP.out])
          have HB2 := Lib.hid (below_up HB.out HB1.out)
          have HO0 := Lib.hid (ownsRow_below HO.out HB1.out)
          have HO1 := Lib.hid (HO0.out.alloc (.cells #[Value.int .i64 p1, Value.int .i64 p2] 37))
          have hbs : w.heap.size ≤ (wr.alloc (.cells #[Value.int .i64 p1, Value.int .i64 p2] 37)).heap.size := by have := HB2.out.size; simp; omega
          clear HO HLN HP
          go_wp2_with (at_builtin; refine wpList_append_own _ rfl _ _ 22 rfl w.heap.size 37 i0 (.agg #[.int .i64 0, .int .i64 0]) 2 16 Try.underlying22 HI.out hz0 hz1 hz2 rfl (by decide) _ _ _ rfl HO1.out ⟨wr.heap.size, 0, none⟩ 1 1 [Value.int .i64 p1, Value.int .i64 p2] rfl rfl (lit_cellP wr _ _ _) (fun u hu => by simp at hu; rcases hu with rfl | rfl <;> rfl) (by unfold maxLen; omega) (by omega) hbs ?_)
          intro v' w3 hown' hgrow _
          obtain ⟨g, gc, rfl⟩ := ownsRow_succ hown'
          have HB3 := Lib.hid (own_grownI HB2.out HB2.out.size HO0.out hgrow)
          have HO3 : Hid (w3.ownsRow w.heap.size 37 2 (.slice (some ⟨g, 0, none⟩) (k + 1) gc) (k + 1) (cellsP (L (k + 1)))) := Lib.hid (by rw [HLk.out, cellsP_app]; exact hown')
          clear hown' hgrow hbs HO1 HO0 z0 z1 f0 f1
          go_wp2_with fail
          go_roundw
          case rel => exact ⟨k + 1, gc, _, by omega, by go_num, rfl, HB3, HO3⟩
          case measure => simp [intOf]; omega
    · obtain rfl : k = n := by omega
      go_wp2_with fail
      go_ret
      exact ⟨_, rfl, HO.out, HB.out⟩
end Go.Proofs.Ytolcdhdmonaeaaa
