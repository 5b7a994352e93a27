/-
  Whether two pairs have the same A, or the same B: what the program answers, by maps of those that it has seen.
  Conditions: lists of at most 2^40 pairs of Go integers.
-/
import Derived.Maps.Own
import Derived.Maps.OwnOps
import Derived.Maps.Views
import Derived.StillTailTactics
import Derived.Deep.RegionWith
import Derived.Deep.Cut
import Derived.Deep.RegionHeld3
import Derived.Test.YtolcdhdmonaeaaaProg
import Derived.Test.YtolcdhdmonaeaaaPSame
namespace Go.Proofs.Ytolcdhdmonaeaaa
open Go.RowKit Go.Shelf Go.Maps
set_option linter.unusedVariables false

/-- numbers that a Go integer holds -/
def okP (l : PL) : Prop := ∀ p ∈ l, (Lit.int .i64 p.1).wf = true ∧ (Lit.int .i64 p.2).wf = true
/-- the map of the first k numbers -/
def seenK (xs : List Int) : Nat → DataW Unit
  | 0 => .map []
  | k + 1 => match xs[k]? with
    | some c => (seenK xs k).put (.int .i64 c) (.lit (.bool true))
    | none => seenK xs k
theorem seenK_map (xs : List Int) (k : Nat) : IsMap (seenK xs k) := by
  induction k with
  | zero => exact isMap_empty
  | succ k ih =>
    unfold seenK
    split
    · exact ih.put _ _
    · exact ih
theorem seenK_next (xs : List Int) (k : Nat) (c : Int) (h : xs[k]? = some c) : seenK xs (k + 1) = (seenK xs k).put (.int .i64 c) (.lit (.bool true)) := by
  rw [seenK, h]
theorem seenK_at (xs : List Int) (k : Nat) (l : Int) : (seenK xs k).atKey (.int .i64 l) (.lit (.bool false)) = .lit (.bool (decide (l ∈ xs.take k))) := by
  induction k with
  | zero => simp [seenK]; rfl
  | succ k ih =>
    cases h : xs[k]? with
    | none =>
      have hk : xs.length ≤ k := List.getElem?_eq_none_iff.1 h
      have e1 : seenK xs (k + 1) = seenK xs k := by rw [seenK, h]
      have e2 : xs.take (k + 1) = xs.take k := by rw [List.take_of_length_le (by omega), List.take_of_length_le hk]
      rw [e1, e2]; exact ih
    | some c =>
      obtain ⟨hk, e⟩ := List.getElem?_eq_some_iff.1 h
      have e2 : xs.take (k + 1) = xs.take k ++ [c] := by rw [List.take_succ_eq_append_getElem hk, e]
      rw [seenK_next xs k c h, e2]
      by_cases hl : l = c
      · rw [hl, atKey_put_same (seenK_map xs k) (by first | exact trivial | constructor | simp [WideAt.IsKeyLit])]; simp
      · rw [atKey_put_other (fun e => hl (by injection e)), ih]; simp [hl]
/-- two pairs have the same A, or the same B -/
def twiceL (l : PL) : Bool := decide (¬ ((l.map Prod.fst).Nodup ∧ (l.map Prod.snd).Nodup))
theorem twice_no (l : PL) (h : ((l.take l.length).map Prod.fst).Nodup) (h' : ((l.take l.length).map Prod.snd).Nodup) : twiceL l = false := by
  rw [List.take_length] at h h'; simp [twiceL, h, h']
theorem nodup_no {α : Type} (xs : List α) (k : Nat) (c : α) (hc : xs[k]? = some c) (h : c ∈ xs.take k) : ¬ xs.Nodup := by
  obtain ⟨hk, e⟩ := List.getElem?_eq_some_iff.1 hc
  intro hn
  rw [← List.take_append_drop k xs, List.nodup_append] at hn
  exact hn.2.2 c h c (by rw [List.drop_eq_getElem_cons hk, e]; simp) rfl
theorem twice_yes (l : PL) (k : Nat) (p : Int × Int) (hp : l[k]? = some p) (h : p.1 ∈ (l.map Prod.fst).take k ∨ p.2 ∈ (l.map Prod.snd).take k) : twiceL l = true := by
  refine decide_eq_true (fun hn => ?_)
  rcases h with h | h
  · exact nodup_no _ k p.1 (by rw [List.getElem?_map, hp]; rfl) h hn.1
  · exact nodup_no _ k p.2 (by rw [List.getElem?_map, hp]; rfl) h hn.2
theorem nodup_next {α : Type} (xs : List α) (k : Nat) (c : α) (hc : xs[k]? = some c) (hn : (xs.take k).Nodup) (h : c ∉ xs.take k) : (xs.take (k + 1)).Nodup := by
  obtain ⟨hk, e⟩ := List.getElem?_eq_some_iff.1 hc
  rw [List.take_succ_eq_append_getElem hk, e, List.nodup_append]
  exact ⟨hn, by simp, fun a ha b hb => by simp at hb; subst hb; exact fun e => h (by rw [← e]; exact ha)⟩
theorem plainElem_bool_inv {H : Type} {P : Program} {e : TypeId} (he : P.underlying e = some .bool) {v : Value} {z : DataW H × List MemPlace} (h : plainElem P e v = some z) : ∃ a, v = .bool a ∧ z = (.lit (.bool a), []) := by
  unfold plainElem at h
  rw [he] at h
  split at h
  · cases h; exact ⟨_, rfl, rfl⟩
  · rename_i h1; cases h1
  · rename_i h1; cases h1
  · cases h
theorem lookup_bool {H : Type} {P : Program} {w : World} {k t e : TypeId} {b n : Nat} {D : DataW H} (h : w.ownsMap P k (plainElem P e) b n D) (K : Keyed P k) (ht : P.underlying t = some (.map k e)) (he : P.underlying e = some .bool) (hz : (zeroValue e).run P w = .ok (.bool false) w)
    {key : Value} {kl : Lit} (hkey : keyOf P k key = some kl) : ∃ c, (Instr.lookup t (.map (some b)) key false).run P w = .ok (.bool c) w ∧ D.atKey kl (.lit (.bool false)) = .lit (.bool c) := by
  obtain ⟨v, ps, hrun, hv⟩ := h.lookup K ht hz (plainElem_bool he false) hkey
  obtain ⟨c, rfl, hc⟩ := plainElem_bool_inv he hv
  simp only [Prod.mk.injEq] at hc
  exact ⟨c, hrun, hc.1⟩
/-- what a look into the map of those that were seen tells -/
theorem seen_look {w : World} {b k : Nat} {xs : List Int} (h : w.ownsMap Try.prog 3 (plainElem Try.prog 4) b k (seenK xs k)) (x : Int) (hx : (Lit.int .i64 x).wf = true) :
    (Instr.lookup 71 (.map (some b)) (.int .i64 x) false).run Try.prog w = .ok (.bool (decide (x ∈ xs.take k))) w := by
  obtain ⟨c, hrun, hat⟩ := lookup_bool h (int_keyed Try.underlying3) Try.underlying71 Try.underlying4 (Try.zeroValue4 _) (keyOf_int_mk Try.underlying3 hx)
  rw [seenK_at] at hat
  have : decide (x ∈ xs.take k) = c := by injection hat with h1; injection h1
  rw [this]; exact hrun

set_option maxRecDepth 100000 in
set_option maxHeartbeats 1000000 in
theorem ptwice_any (ao : Option Addr) (cap : Nat) (xs : PL) (w : World) (hn : xs.length ≤ 1099511627776) (hs : okP xs) (hR : PairsAt w ao xs) :
    Calls Try.prog 26 #[.slice ao xs.length cap] w fun e w' => e = .returned (.bool (twiceL xs)) ∧ Below w.heap.size w w' := by
  have HRo := Lib.hid hR
  have HSo := Lib.hid hs
  have HY := Lib.hid (twice_yes xs)
  have HNn := Lib.hid (twice_no xs)
  clear hR hs
  generalize twiceL xs = F at HY HNn ⊢
  have hmm := @run_makeMap Try.prog
  go_enter Try.func26, Try.ntmps26
  go_wp2_with fail
  have HO : Hid (((w.alloc (.map #[] 0)).alloc (.map #[] 0)).ownsMap Try.prog 3 (plainElem Try.prog 4) w.heap.size 0 (seenK (xs.map Prod.fst) 0)) := Lib.hid ((World.ownsMap_made w _ _ _).alloc _)
  have HP : Hid (((w.alloc (.map #[] 0)).alloc (.map #[] 0)).ownsMap Try.prog 3 (plainElem Try.prog 4) (w.heap.size + 1) 0 (seenK (xs.map Prod.snd) 0)) := Lib.hid (by have := World.ownsMap_made (H := Unit) (w.alloc (.map #[] 0)) Try.prog 3 (plainElem Try.prog 4); rw [World.size_alloc] at this; exact this)
  have HB : Hid (Below w.heap.size w ((w.alloc (.map #[] 0)).alloc (.map #[] 0))) := Lib.hid (two_below w _ _)

  go_loopw [11] (fun i wr => ∃ k : Nat, k ≤ xs.length ∧ i = .int .i64 k ∧ Hid (Below w.heap.size w wr) ∧ Hid (wr.ownsMap Try.prog 3 (plainElem Try.prog 4) w.heap.size k (seenK (xs.map Prod.fst) k)) ∧ Hid (wr.ownsMap Try.prog 3 (plainElem Try.prog 4) (w.heap.size + 1) k (seenK (xs.map Prod.snd) k)) ∧ Hid (((xs.map Prod.fst).take k).Nodup) ∧ Hid (((xs.map Prod.snd).take k).Nodup)) (fun i _ => xs.length - (intOf i).toNat)
  case atStart => exact ⟨0, Nat.zero_le _, rfl, HB, HO, HP, Lib.hid (by simp), Lib.hid (by simp)⟩
  case round =>
    obtain ⟨k, hk, rfl, HB, HO, HP, HD, HDD⟩ := hrel
    by_cases hlt : k < xs.length
    · obtain ⟨⟨x1, x2⟩, hx⟩ : ∃ x, xs[k]? = some x := ⟨_, List.getElem?_eq_getElem hlt⟩
      have HX := Lib.hid hx
      have HW := Lib.hid (HSo.out _ (List.mem_of_getElem? hx))
      rcases (HRo.out.kept HB.out) with h0 | ⟨b, o, rfl, hA, hcell⟩
      · rw [h0] at hlt; simp at hlt
      obtain ⟨hc1, hc2⟩ := hcell k _ hx
      dsimp only at hc1 hc2
      clear hcell hx
      obtain ⟨V, HV⟩ : ∃ V, Hid (V = wr.alloc (.cells #[.int .i64 x1, .int .i64 x2] 37)) := ⟨_, Lib.hid rfl⟩
      have hVh : V.heap[wr.heap.size]? = some (.cells #[.int .i64 x1, .int .i64 x2] 37 (0, 0)) := by rw [HV.out]; exact World.alloc_heap_new _ _
      have v0 : V.cell? ⟨wr.heap.size, 0, none⟩ = some (.int .i64 x1) := (Lib.cell_of_heap hVh 0).trans rfl
      have v1 : V.cell? ⟨wr.heap.size, 1, none⟩ = some (.int .i64 x2) := (Lib.cell_of_heap hVh 1).trans rfl
      have HVO : Hid (V.ownsMap Try.prog 3 (plainElem Try.prog 4) w.heap.size k (seenK (xs.map Prod.fst) k)) := Lib.hid (by rw [HV.out]; exact HO.out.alloc _)
      have HVP : Hid (V.ownsMap Try.prog 3 (plainElem Try.prog 4) (w.heap.size + 1) k (seenK (xs.map Prod.snd) k)) := Lib.hid (by rw [HV.out]; exact HP.out.alloc _)
      have HVB : Hid (Below w.heap.size w V) := Lib.hid (by rw [HV.out]; exact HB.out.alloc HB.out.size _)
      have l1 := seen_look HVO.out x1 HW.out.1
      have l2 := seen_look HVP.out x2 HW.out.2
      have E1 : Hid (x1 ∈ (xs.map Prod.fst).take k → F = true) := Lib.hid (fun h => HY.out k _ HX.out (.inl h))
      have E2 : Hid (x2 ∈ (xs.map Prod.snd).take k → F = true) := Lib.hid (fun h => HY.out k _ HX.out (.inr h))
      have N1 : Hid (x1 ∉ (xs.map Prod.fst).take k → ((xs.map Prod.fst).take (k + 1)).Nodup) := Lib.hid (fun h => nodup_next _ k x1 (by rw [List.getElem?_map, HX.out]; rfl) HD.out h)
      have N2 : Hid (x2 ∉ (xs.map Prod.snd).take k → ((xs.map Prod.snd).take (k + 1)).Nodup) := Lib.hid (fun h => nodup_next _ k x2 (by rw [List.getElem?_map, HX.out]; rfl) HDD.out h)
      by_cases m1 : x1 ∈ (xs.map Prod.fst).take k
      · rw [decide_eq_true m1] at l1
        have E := Lib.hid (E1.out m1)
        clear m1 hVh E1 E2 N1 N2 HD HDD HO HP HY HNn
        go_upto_region 5 with fail
        rw [← HV.out]
        go_wp2_with fail
        go_ret
        exact ⟨by rw [E.out]; rfl, HVB.out⟩
      rw [decide_eq_false m1] at l1
      by_cases m2 : x2 ∈ (xs.map Prod.snd).take k
      · rw [decide_eq_true m2] at l2
        have E := Lib.hid (E2.out m2)
        clear m1 m2 hVh E1 E2 N1 N2 HD HDD HO HP HY HNn
        go_upto_region 5 with fail
        rw [← HV.out]
        go_wp2_with fail
        go_ret
        exact ⟨by rw [E.out]; rfl, HVB.out⟩
      rw [decide_eq_false m2] at l2
      have HN1 := Lib.hid (N1.out m1)
      have HN2 := Lib.hid (N2.out m2)
      have hkm : k < maxLen := by unfold maxLen; omega
      have hVlt : wr.heap.size < V.heap.size := lt_of_heap hVh
      obtain ⟨w1, r1, o1, g1⟩ := HVO.out.drew.update (int_keyed Try.underlying3) Try.underlying71 hkm (keyOf_int_mk Try.underlying3 HW.out.1) (plainElem_bool Try.underlying4 true)
      have p1 := HVP.out.drew.kept g1 (by simp)
      obtain ⟨w2, r2, o2, g2⟩ := p1.update (int_keyed Try.underlying3) Try.underlying71 hkm (keyOf_int_mk Try.underlying3 HW.out.2) (plainElem_bool Try.underlying4 true)
      have q2 := o1.kept g2 (by simp)
      have B1 : Below w.heap.size w w1 := (show Below w.heap.size w V.drew from bdn (n := 1) HVB.out).grown g1 HVB.out.size (fun k h => by cases h; exact Nat.le_refl _)
      have B2 : Below w.heap.size w w2 := B1.grown g2 B1.size (fun k h => by cases h; exact Nat.le_succ _)
      have hsz := HB.out.size
      have hO1 := HO.out.lt
      have hP1 := HP.out.lt
      have c0 : w1.cell? ⟨wr.heap.size, 0, none⟩ = some (.int .i64 x1) := cell_grown (W := V.drew) v0 g1 (by simp; omega)
      have c1 : w1.cell? ⟨wr.heap.size, 1, none⟩ = some (.int .i64 x2) := cell_grown (W := V.drew) v1 g1 (by simp; omega)
      have d0 : w2.cell? ⟨wr.heap.size, 0, none⟩ = some (.int .i64 x1) := cell_grown c0 g2 (by simp; omega)
      have d1 : w2.cell? ⟨wr.heap.size, 1, none⟩ = some (.int .i64 x2) := cell_grown c1 g2 (by simp; omega)
      rw [← seenK_next _ k x1 (by rw [List.getElem?_map, HX.out]; rfl)] at q2
      rw [← seenK_next _ k x2 (by rw [List.getElem?_map, HX.out]; rfl)] at o2
      have HQ := Lib.hid q2
      have HO2 := Lib.hid o2
      have HB2 := Lib.hid B2
      clear m1 m2 hVh E1 E2 N1 N2 HD HDD HO HP HY HNn q2 o2 o1 p1 B1 B2 g1 g2 hsz hO1 hP1 hVlt
      go_upto_region 5 with fail
      rw [← HV.out]
      go_upto_region 7 with fail
      go_region_held3 (fun W => W.cell? ⟨wr.heap.size, 0, none⟩ = some (.int .i64 x1) ∧ W.cell? ⟨wr.heap.size, 1, none⟩ = some (.int .i64 x2)) ((refine ⟨?_, ?_⟩ <;> first | assumption | go_keep)) (fail)
      go_wp2_with fail
      go_roundw
      case rel => exact ⟨k + 1, by omega, by go_num, HB2, HQ, HO2, HN1, HN2⟩
      case measure => simp [intOf]; omega
    · obtain rfl : k = xs.length := by omega
      have E := Lib.hid (HNn.out (by rw [List.map_take]; exact HD.out) (by rw [List.map_take]; exact HDD.out))
      go_wp2_with fail
      go_ret
      exact ⟨by rw [E.out]; rfl, HB.out⟩
end Go.Proofs.Ytolcdhdmonaeaaa
