/-
  Texts of these rows' proofs, laid one behind the other: PSame, PTwice, POpen, TOpen, PList.
  Conditions: those of each theorem.
-/
import Derived.WalkKit
import Derived.WalkMore
import Derived.Lib.Hide
import Derived.Deep.RegionWith
import Derived.StillTailTactics
import Derived.Lib.QuietBelow
import Derived.Test.YtdenehnneloegaaGreatDoorProg
import Derived.Test.YtdenehnneloegaaGreatDoorPb3
import Derived.Maps.Own
import Derived.Maps.OwnOps
import Derived.Maps.Views
import Derived.Deep.Cut
import Derived.Deep.RegionHeld3
import Derived.ProofKit
import Derived.OpenShut
import Derived.SizedLaws
import Derived.ChangeSlices
import Derived.ChangeArms
import Derived.Deep.SlicePairs
import Derived.Lib.SmallJoins
import Derived.ShutString
import Derived.SliceStrings
import Derived.Test.YtdenehnneloegaaGreatDoorPb1
import Derived.OwnWalk
import Derived.Laws.OwnMore
namespace Go.Proofs.YtdenehnneloegaaGreatDoor
open Go.RowKit Go.Shelf
set_option linter.unusedVariables false
set_option maxRecDepth 100000 in
set_option maxHeartbeats 1000000 in
theorem psameR_any (ao bo : Option Addr) (ca cb : Nat) (xs ys : PL) (w : World) (hn : xs.length ≤ 1099511627776) (hR : PairsAt w ao xs) (hS : PairsAt w bo ys) :
    Calls Tryz.prog 13 #[.slice ao xs.length ca, .slice bo ys.length cb] w fun e w' => e = .returned (.bool (sameL xs ys)) ∧ Below w.heap.size w w' := by
  have HRo := Lib.hid hR
  have HSo := Lib.hid hS
  have HL := Lib.hid (same_len xs ys)
  have HA := Lib.hid (same_all xs ys)
  have HNo := Lib.hid (same_no xs ys)
  clear hR hS
  generalize sameL xs ys = F at HL HA HNo ⊢
  by_cases hlen : xs.length = ys.length
  · have hb : ((xs.length : Int) != (ys.length : Int)) = false := by rw [int_bneP]; simpa using hlen
    have HLen := Lib.hid hlen
    go_enter Tryz.func13, Tryz.ntmps13
    go_wp2_with fail
    go_loopw [5] (fun i wr => ∃ k : Nat, k ≤ xs.length ∧ i = .int .i64 k ∧ Hid (Below w.heap.size w wr) ∧ Hid (∀ (j : Nat) x y, j < k → xs[j]? = some x → ys[j]? = some y → x = y)) (fun i _ => xs.length - (intOf i).toNat)
    case atStart => exact ⟨0, Nat.zero_le _, rfl, Lib.hid (Below.refl _ _), Lib.hid (fun j x y h _ _ => by omega)⟩
    case round =>
      obtain ⟨k, hk, rfl, HB, HN⟩ := hrel
      by_cases hlt : k < xs.length
      · obtain ⟨x, hx⟩ : ∃ x, xs[k]? = some x := ⟨_, List.getElem?_eq_getElem hlt⟩
        obtain ⟨y, hy⟩ : ∃ y, ys[k]? = some y := ⟨_, List.getElem?_eq_getElem (by rw [← HLen.out]; exact hlt)⟩
        have HX := Lib.hid hx
        have HY := Lib.hid hy
        have hlt2 : k < ys.length := by rw [← HLen.out]; exact hlt
        rcases (HRo.out.kept HB.out) with h0 | ⟨b, o, rfl, hA, hcell⟩
        · rw [h0] at hlt; simp at hlt
        rcases (HSo.out.kept HB.out) with h0 | ⟨c, q, rfl, hC, hcell2⟩
        · rw [h0] at hlt2; simp at hlt2
        have hc := hcell k _ hx
        have hd := hcell2 k _ hy
        clear hcell hcell2 hx hy
        obtain ⟨x1, x2⟩ := x
        obtain ⟨y1, y2⟩ := y
        obtain ⟨hc1, hc2⟩ := hc
        obtain ⟨hd1, hd2⟩ := hd
        dsimp only at hc1 hc2 hd1 hd2
        by_cases hxy : x1 = y1 ∧ x2 = y2
        · have HN' : Hid (∀ (j : Nat) x y, j < k + 1 → xs[j]? = some x → ys[j]? = some y → x = y) := Lib.hid (fun j u v hj hu hv => by
            rcases Nat.lt_or_ge j k with h | h
            · exact HN.out j u v h hu hv
            · obtain rfl : j = k := by omega
              rw [HX.out] at hu; rw [HY.out] at hv
              cases hu; cases hv; obtain ⟨rfl, rfl⟩ := hxy; rfl)
          obtain ⟨rfl, rfl⟩ := hxy
          go_wp2_with fail
          go_quiet (fail)
          have HB' : Hid (Below w.heap.size w (wr.drewN nq)) := Lib.hid (bdn HB.out)
          go_wp2_with fail
          go_roundw
          case rel => exact ⟨k + 1, by omega, by go_num, HB', HN'⟩
          case measure => simp [intOf]; omega
        · have E := Lib.hid (HNo.out k _ _ HX.out HY.out (by intro e; injection e with e1 e2; exact hxy ⟨e1, e2⟩))
          by_cases h1 : x1 = y1
          · have h2 : ¬ x2 = y2 := fun e => hxy ⟨h1, e⟩
            clear hxy
            go_wp2_with fail
            go_quiet (fail)
            have HB' : Hid (Below w.heap.size w (wr.drewN nq)) := Lib.hid (bdn HB.out)
            go_wp2_with fail
            go_ret
            exact ⟨by rw [E.out]; rfl, HB'.out⟩
          clear hxy
          all_goals
            go_wp2_with fail
            go_quiet (fail)
            have HB' : Hid (Below w.heap.size w (wr.drewN nq)) := Lib.hid (bdn HB.out)
            go_wp2_with fail
            go_ret
            exact ⟨by rw [E.out]; rfl, HB'.out⟩
      · obtain rfl : k = xs.length := by omega
        have E := Lib.hid (HA.out HLen.out HN.out)
        go_wp2_with fail
        go_ret
        exact ⟨by rw [E.out]; rfl, HB.out⟩
  · have hb : ((xs.length : Int) != (ys.length : Int)) = true := by rw [int_bneP]; simpa using hlen
    have E := Lib.hid (HL.out hlen)
    go_enter Tryz.func13, Tryz.ntmps13
    go_wp2_with fail
    go_ret
    exact ⟨by rw [E.out]; rfl, Below.refl _ _⟩
end Go.Proofs.YtdenehnneloegaaGreatDoor
namespace Go.Proofs.YtdenehnneloegaaGreatDoor
open Go.RowKit Go.Shelf Go.Maps
set_option linter.unusedVariables false
/-- numbers that a Go integer holds -/
def okP (l : PL) : Prop := ∀ p ∈ l, (Lit.int .i64 p.1).wf = true ∧ (Lit.int .i64 p.2).wf = true
/-- the map of the first k numbers -/
def seenZ (xs : List Int) : Nat → DataW Unit
  | 0 => .map []
  | k + 1 => match xs[k]? with
    | some c => (seenZ xs k).put (.int .i64 c) (.lit (.bool true))
    | none => seenZ xs k
theorem seenZ_map (xs : List Int) (k : Nat) : IsMap (seenZ xs k) := by
  induction k with
  | zero => exact isMap_empty
  | succ k ih =>
    unfold seenZ
    split
    · exact ih.put _ _
    · exact ih
theorem seenZ_next (xs : List Int) (k : Nat) (c : Int) (h : xs[k]? = some c) : seenZ xs (k + 1) = (seenZ xs k).put (.int .i64 c) (.lit (.bool true)) := by
  rw [seenZ, h]
theorem seenZ_at (xs : List Int) (k : Nat) (l : Int) : (seenZ xs k).atKey (.int .i64 l) (.lit (.bool false)) = .lit (.bool (decide (l ∈ xs.take k))) := by
  induction k with
  | zero => simp [seenZ]; rfl
  | succ k ih =>
    cases h : xs[k]? with
    | none =>
      have hk : xs.length ≤ k := List.getElem?_eq_none_iff.1 h
      have e1 : seenZ xs (k + 1) = seenZ xs k := by rw [seenZ, h]
      have e2 : xs.take (k + 1) = xs.take k := by rw [List.take_of_length_le (by omega), List.take_of_length_le hk]
      rw [e1, e2]; exact ih
    | some c =>
      obtain ⟨hk, e⟩ := List.getElem?_eq_some_iff.1 h
      have e2 : xs.take (k + 1) = xs.take k ++ [c] := by rw [List.take_succ_eq_append_getElem hk, e]
      rw [seenZ_next xs k c h, e2]
      by_cases hl : l = c
      · rw [hl, atKey_put_same (seenZ_map xs k) (by first | exact trivial | constructor | simp [WideAt.IsKeyLit])]; simp
      · rw [atKey_put_other (fun e => hl (by injection e)), ih]; simp [hl]
/-- two pairs have the same A, or the same B -/
def twiceL (l : PL) : Bool := decide (¬ ((l.map Prod.fst).Nodup ∧ (l.map Prod.snd).Nodup))
theorem twice_no (l : PL) (h : ((l.take l.length).map Prod.fst).Nodup) (h' : ((l.take l.length).map Prod.snd).Nodup) : twiceL l = false := by
  rw [List.take_length] at h h'; simp [twiceL, h, h']
theorem nodup_no {α : Type} (xs : List α) (k : Nat) (c : α) (hc : xs[k]? = some c) (h : c ∈ xs.take k) : ¬ xs.Nodup := by
  obtain ⟨hk, e⟩ := List.getElem?_eq_some_iff.1 hc
  intro hn
  rw [← List.take_append_drop k xs, List.nodup_append] at hn
  exact hn.2.2 c h c (by rw [List.drop_eq_getElem_cons hk, e]; simp) rfl
theorem twice_yes (l : PL) (k : Nat) (p : Int × Int) (hp : l[k]? = some p) (h : p.1 ∈ (l.map Prod.fst).take k ∨ p.2 ∈ (l.map Prod.snd).take k) : twiceL l = true := by
  refine decide_eq_true (fun hn => ?_)
  rcases h with h | h
  · exact nodup_no _ k p.1 (by rw [List.getElem?_map, hp]; rfl) h hn.1
  · exact nodup_no _ k p.2 (by rw [List.getElem?_map, hp]; rfl) h hn.2
theorem nodupZ_next {α : Type} (xs : List α) (k : Nat) (c : α) (hc : xs[k]? = some c) (hn : (xs.take k).Nodup) (h : c ∉ xs.take k) : (xs.take (k + 1)).Nodup := by
  obtain ⟨hk, e⟩ := List.getElem?_eq_some_iff.1 hc
  rw [List.take_succ_eq_append_getElem hk, e, List.nodup_append]
  exact ⟨hn, by simp, fun a ha b hb => by simp at hb; subst hb; exact fun e => h (by rw [← e]; exact ha)⟩
theorem plainElem_boolZ_inv {H : Type} {P : Program} {e : TypeId} (he : P.underlying e = some .bool) {v : Value} {z : DataW H × List MemPlace} (h : plainElem P e v = some z) : ∃ a, v = .bool a ∧ z = (.lit (.bool a), []) := by
  unfold plainElem at h
  rw [he] at h
  split at h
  · cases h; exact ⟨_, rfl, rfl⟩
  · rename_i h1; cases h1
  · rename_i h1; cases h1
  · cases h
theorem lookup_boolZ {H : Type} {P : Program} {w : World} {k t e : TypeId} {b n : Nat} {D : DataW H} (h : w.ownsMap P k (plainElem P e) b n D) (K : Keyed P k) (ht : P.underlying t = some (.map k e)) (he : P.underlying e = some .bool) (hz : (zeroValue e).run P w = .ok (.bool false) w)
    {key : Value} {kl : Lit} (hkey : keyOf P k key = some kl) : ∃ c, (Instr.lookup t (.map (some b)) key false).run P w = .ok (.bool c) w ∧ D.atKey kl (.lit (.bool false)) = .lit (.bool c) := by
  obtain ⟨v, ps, hrun, hv⟩ := h.lookup K ht hz (plainElem_bool he false) hkey
  obtain ⟨c, rfl, hc⟩ := plainElem_boolZ_inv he hv
  simp only [Prod.mk.injEq] at hc
  exact ⟨c, hrun, hc.1⟩
set_option maxRecDepth 100000 in
/-- what a look into the map of those that were seen tells -/
theorem seen_look {w : World} {b k : Nat} {xs : List Int} (h : w.ownsMap Tryz.prog 3 (plainElem Tryz.prog 4) b k (seenZ xs k)) (x : Int) (hx : (Lit.int .i64 x).wf = true) :
    (Instr.lookup 152 (.map (some b)) (.int .i64 x) false).run Tryz.prog w = .ok (.bool (decide (x ∈ xs.take k))) w := by
  obtain ⟨c, hrun, hat⟩ := lookup_boolZ h (int_keyed Tryz.underlying3) Tryz.underlying152 Tryz.underlying4 (Tryz.zeroValue4 _) (keyOf_int_mk Tryz.underlying3 hx)
  rw [seenZ_at] at hat
  have : decide (x ∈ xs.take k) = c := by injection hat with h1; injection h1
  rw [this]; exact hrun
set_option maxRecDepth 100000 in
set_option maxHeartbeats 1000000 in
theorem ptwice_any (ao : Option Addr) (cap : Nat) (xs : PL) (w : World) (hn : xs.length ≤ 1099511627776) (hs : okP xs) (hR : PairsAt w ao xs) :
    Calls Tryz.prog 57 #[.slice ao xs.length cap] w fun e w' => e = .returned (.bool (twiceL xs)) ∧ Below w.heap.size w w' := by
  have HRo := Lib.hid hR
  have HSo := Lib.hid hs
  have HY := Lib.hid (twice_yes xs)
  have HNn := Lib.hid (twice_no xs)
  clear hR hs
  generalize twiceL xs = F at HY HNn ⊢
  have hmm := @run_makeMap Tryz.prog
  go_enter Tryz.func57, Tryz.ntmps57
  go_wp2_with fail
  have HO : Hid (((w.alloc (.map #[] 0)).alloc (.map #[] 0)).ownsMap Tryz.prog 3 (plainElem Tryz.prog 4) w.heap.size 0 (seenZ (xs.map Prod.fst) 0)) := Lib.hid ((World.ownsMap_made w _ _ _).alloc _)
  have HP : Hid (((w.alloc (.map #[] 0)).alloc (.map #[] 0)).ownsMap Tryz.prog 3 (plainElem Tryz.prog 4) (w.heap.size + 1) 0 (seenZ (xs.map Prod.snd) 0)) := Lib.hid (by have := World.ownsMap_made (H := Unit) (w.alloc (.map #[] 0)) Tryz.prog 3 (plainElem Tryz.prog 4); rw [World.size_alloc] at this; exact this)
  have HB : Hid (Below w.heap.size w ((w.alloc (.map #[] 0)).alloc (.map #[] 0))) := Lib.hid (two_below w _ _)
  go_loopw [11] (fun i wr => ∃ k : Nat, k ≤ xs.length ∧ i = .int .i64 k ∧ Hid (Below w.heap.size w wr) ∧ Hid (wr.ownsMap Tryz.prog 3 (plainElem Tryz.prog 4) w.heap.size k (seenZ (xs.map Prod.fst) k)) ∧ Hid (wr.ownsMap Tryz.prog 3 (plainElem Tryz.prog 4) (w.heap.size + 1) k (seenZ (xs.map Prod.snd) k)) ∧ Hid (((xs.map Prod.fst).take k).Nodup) ∧ Hid (((xs.map Prod.snd).take k).Nodup)) (fun i _ => xs.length - (intOf i).toNat)
  case atStart => exact ⟨0, Nat.zero_le _, rfl, HB, HO, HP, Lib.hid (by simp), Lib.hid (by simp)⟩
  case round =>
    obtain ⟨k, hk, rfl, HB, HO, HP, HD, HDD⟩ := hrel
    by_cases hlt : k < xs.length
    · obtain ⟨⟨x1, x2⟩, hx⟩ : ∃ x, xs[k]? = some x := ⟨_, List.getElem?_eq_getElem hlt⟩
      have HX := Lib.hid hx
      have HW := Lib.hid (HSo.out _ (List.mem_of_getElem? hx))
      rcases (HRo.out.kept HB.out) with h0 | ⟨b, o, rfl, hA, hcell⟩
      · rw [h0] at hlt; simp at hlt
      obtain ⟨hc1, hc2⟩ := hcell k _ hx
      dsimp only at hc1 hc2
      clear hcell hx
      obtain ⟨V, HV⟩ : ∃ V, Hid (V = wr.alloc (.cells #[.int .i64 x1, .int .i64 x2] 45)) := ⟨_, Lib.hid rfl⟩
      have hVh : V.heap[wr.heap.size]? = some (.cells #[.int .i64 x1, .int .i64 x2] 45 (0, 0)) := by rw [HV.out]; exact World.alloc_heap_new _ _
      have v0 : V.cell? ⟨wr.heap.size, 0, none⟩ = some (.int .i64 x1) := (Lib.cell_of_heap hVh 0).trans rfl
      have v1 : V.cell? ⟨wr.heap.size, 1, none⟩ = some (.int .i64 x2) := (Lib.cell_of_heap hVh 1).trans rfl
      have HVO : Hid (V.ownsMap Tryz.prog 3 (plainElem Tryz.prog 4) w.heap.size k (seenZ (xs.map Prod.fst) k)) := Lib.hid (by rw [HV.out]; exact HO.out.alloc _)
      have HVP : Hid (V.ownsMap Tryz.prog 3 (plainElem Tryz.prog 4) (w.heap.size + 1) k (seenZ (xs.map Prod.snd) k)) := Lib.hid (by rw [HV.out]; exact HP.out.alloc _)
      have HVB : Hid (Below w.heap.size w V) := Lib.hid (by rw [HV.out]; exact HB.out.alloc HB.out.size _)
      have l1 := seen_look HVO.out x1 HW.out.1
      have l2 := seen_look HVP.out x2 HW.out.2
      have E1 : Hid (x1 ∈ (xs.map Prod.fst).take k → F = true) := Lib.hid (fun h => HY.out k _ HX.out (.inl h))
      have E2 : Hid (x2 ∈ (xs.map Prod.snd).take k → F = true) := Lib.hid (fun h => HY.out k _ HX.out (.inr h))
      have N1 : Hid (x1 ∉ (xs.map Prod.fst).take k → ((xs.map Prod.fst).take (k + 1)).Nodup) := Lib.hid (fun h => nodupZ_next _ k x1 (by rw [List.getElem?_map, HX.out]; rfl) HD.out h)
      have N2 : Hid (x2 ∉ (xs.map Prod.snd).take k → ((xs.map Prod.snd).take (k + 1)).Nodup) := Lib.hid (fun h => nodupZ_next _ k x2 (by rw [List.getElem?_map, HX.out]; rfl) HDD.out h)
      by_cases m1 : x1 ∈ (xs.map Prod.fst).take k
      · rw [decide_eq_true m1] at l1
        have E := Lib.hid (E1.out m1)
        clear m1 hVh E1 E2 N1 N2 HD HDD HO HP HY HNn
        go_upto_region 5 with fail
        rw [← HV.out]
        go_wp2_with fail
        go_ret
        exact ⟨by rw [E.out]; rfl, HVB.out⟩
      rw [decide_eq_false m1] at l1
      by_cases m2 : x2 ∈ (xs.map Prod.snd).take k
      · rw [decide_eq_true m2] at l2
        have E := Lib.hid (E2.out m2)
        clear m1 m2 hVh E1 E2 N1 N2 HD HDD HO HP HY HNn
        go_upto_region 5 with fail
        rw [← HV.out]
        go_wp2_with fail
        go_ret
        exact ⟨by rw [E.out]; rfl, HVB.out⟩
      rw [decide_eq_false m2] at l2
      have HN1 := Lib.hid (N1.out m1)
      have HN2 := Lib.hid (N2.out m2)
      have hkm : k < maxLen := by unfold maxLen; omega
      have hVlt : wr.heap.size < V.heap.size := lt_of_heap hVh
      obtain ⟨w1, r1, o1, g1⟩ := HVO.out.drew.update (int_keyed Tryz.underlying3) Tryz.underlying152 hkm (keyOf_int_mk Tryz.underlying3 HW.out.1) (plainElem_bool Tryz.underlying4 true)
      have p1 := HVP.out.drew.kept g1 (by simp)
      obtain ⟨w2, r2, o2, g2⟩ := p1.update (int_keyed Tryz.underlying3) Tryz.underlying152 hkm (keyOf_int_mk Tryz.underlying3 HW.out.2) (plainElem_bool Tryz.underlying4 true)
      have q2 := o1.kept g2 (by simp)
      have B1 : Below w.heap.size w w1 := (show Below w.heap.size w V.drew from bdn (n := 1) HVB.out).grown g1 HVB.out.size (fun k h => by cases h; exact Nat.le_refl _)
      have B2 : Below w.heap.size w w2 := B1.grown g2 B1.size (fun k h => by cases h; exact Nat.le_succ _)
      have hsz := HB.out.size
      have hO1 := HO.out.lt
      have hP1 := HP.out.lt
      have c0 : w1.cell? ⟨wr.heap.size, 0, none⟩ = some (.int .i64 x1) := cell_grown (W := V.drew) v0 g1 (by simp; omega)
      have c1 : w1.cell? ⟨wr.heap.size, 1, none⟩ = some (.int .i64 x2) := cell_grown (W := V.drew) v1 g1 (by simp; omega)
      have d0 : w2.cell? ⟨wr.heap.size, 0, none⟩ = some (.int .i64 x1) := cell_grown c0 g2 (by simp; omega)
      have d1 : w2.cell? ⟨wr.heap.size, 1, none⟩ = some (.int .i64 x2) := cell_grown c1 g2 (by simp; omega)
      rw [← seenZ_next _ k x1 (by rw [List.getElem?_map, HX.out]; rfl)] at q2
      rw [← seenZ_next _ k x2 (by rw [List.getElem?_map, HX.out]; rfl)] at o2
      have HQ := Lib.hid q2
      have HO2 := Lib.hid o2
      have HB2 := Lib.hid B2
      clear m1 m2 hVh E1 E2 N1 N2 HD HDD HO HP HY HNn q2 o2 o1 p1 B1 B2 g1 g2 hsz hO1 hP1 hVlt
      go_upto_region 5 with fail
      rw [← HV.out]
      go_upto_region 7 with fail
      go_region_held3 (fun W => W.cell? ⟨wr.heap.size, 0, none⟩ = some (.int .i64 x1) ∧ W.cell? ⟨wr.heap.size, 1, none⟩ = some (.int .i64 x2)) ((refine ⟨?_, ?_⟩ <;> first | assumption | go_keep)) (fail)
      go_wp2_with fail
      go_roundw
      case rel => exact ⟨k + 1, by omega, by go_num, HB2, HQ, HO2, HN1, HN2⟩
      case measure => simp [intOf]; omega
    · obtain rfl : k = xs.length := by omega
      have E := Lib.hid (HNn.out (by rw [List.map_take]; exact HD.out) (by rw [List.map_take]; exact HDD.out))
      go_wp2_with fail
      go_ret
      exact ⟨by rw [E.out]; rfl, HB.out⟩
end Go.Proofs.YtdenehnneloegaaGreatDoor
namespace Go.Proofs.YtdenehnneloegaaGreatDoor
open Go.RowKit Go.Shelf Go.ChangeShapes Go.WideShapes Go.Deep Go.Lib
set_option linter.unusedVariables false
/-- a slice of pairs that came in -/
structure PairsArg (w : World) (ao : Option Addr) (cap : Nat) (l : PL) : Prop where
  len : l.length ≤ maxLen
  pairs : PairsAt w ao l
  ok : okP l
  nil : ao = none → cap = 0
  cap : l.length ≤ cap
section
variable {H : Type} {enc : TypeId × Value → H} {P : Program} {w : World} {base : Nat} {held : Bool}
theorem arg_pairs {t e : TypeId} {f0 f1 : Field} {fuel : Nat} {v : Value} {x : DataW H × List MemPlace} (ht : P.underlying t = some (.slice e)) (he : P.underlying e = some (.struct #[f0, f1]))
    (ce : P.cellsOf e = 2) (o0 : f0.offset = 0) (o1 : f1.offset = 1) (c0 : P.cellsOf f0.type = 1) (c1 : P.cellsOf f1.type = 1) (u0 : P.underlying f0.type = some (.int .i64)) (u1 : P.underlying f1.type = some (.int .i64))
    (h : DataW.trod enc P w base (fun _ => true) held fuel t [v] = some x) : ∃ ao cap l, v = .slice ao (List.length l) cap ∧ PairsArg w ao cap l := by
  rcases open_slice_pairs ht he ce o0 o1 c0 c1 h with ⟨h1, _⟩ | ⟨a, len, cap, m, n, V0, V1, D0, D1, P0, P1, h1, hb, hl, hm, hmm, _, hcell⟩
  · simp at h1; subst h1
    exact ⟨none, 0, [], rfl, Nat.zero_le _, .inl rfl, (fun p hp => by cases hp), fun _ => rfl, Nat.le_refl _⟩
  · simp at h1; subst h1
    simp only [if_true] at hmm
    subst hmm
    have each : ∀ i, i < len → ∃ q : Int × Int, w.cell? (a.add (i * 2)) = some (.int .i64 q.1) ∧ w.cell? (a.add (i * 2 + 1)) = some (.int .i64 q.2) ∧ (Lit.int .i64 q.1).wf = true ∧ (Lit.int .i64 q.2).wf = true := fun i hi => by
      obtain ⟨g0, g1, t0, t1⟩ := hcell i (by omega)
      obtain ⟨n0, e0, _, w0⟩ := DataW.trod_int u0 t0
      obtain ⟨n1, e1, _, w1⟩ := DataW.trod_int u1 t1
      simp only [List.cons.injEq, and_true] at e0 e1
      exact ⟨(n0, n1), by rw [g0, e0], by rw [g1, e1], w0, w1⟩
    obtain ⟨q, hq⟩ := choose_lt each
    have hln : ((List.range len).map q).length = len := by simp
    have hat : ∀ (i : Nat) p, ((List.range len).map q)[i]? = some p → i < len ∧ p = q i := fun i p hp => by
      rw [List.getElem?_map] at hp
      obtain ⟨j, hj, rfl⟩ := Option.map_eq_some_iff.1 hp
      obtain ⟨hi, hij⟩ := List.getElem?_eq_some_iff.1 hj
      simp only [List.length_range] at hi
      rw [List.getElem_range] at hij
      subst hij
      exact ⟨hi, rfl⟩
    refine ⟨some a, m, (List.range len).map q, by rw [hln], by rw [hln]; omega, ?_, fun p hp => ?_, (fun h => by cases h), by rw [hln]; exact hl⟩
    · by_cases h0 : len = 0
      · subst h0; exact .inl rfl
      · obtain ⟨g0, _, _, _⟩ := hq 0 (by omega)
        have hs : a.spot = none := by
          cases hsp : a.spot with
          | none => rfl
          | some r =>
            simp [Addr.add, World.cell?, hsp] at g0
            split at g0 <;> cases g0
        obtain ⟨b, o, s⟩ := a
        simp at hs; subst hs
        have e : ∀ j, (⟨b, o, none⟩ : Addr).add j = ⟨b, o + j, none⟩ := fun j => by unfold Addr.add; split <;> simp_all
        refine .inr ⟨b, o, rfl, by have := block_lt_of_cell g0; rwa [add_block] at this, fun i p hp => ?_⟩
        obtain ⟨hi, rfl⟩ := hat i p hp
        obtain ⟨k0, k1, _, _⟩ := hq i hi
        rw [e] at k0 k1
        exact ⟨k0, by rw [Nat.add_assoc]; exact k1⟩
    · obtain ⟨i, hi, rfl⟩ := List.mem_map.1 hp
      obtain ⟨_, _, k2, k3⟩ := hq i (List.mem_range.1 hi)
      exact ⟨k2, k3⟩
end
end Go.Proofs.YtdenehnneloegaaGreatDoor
namespace Go.Proofs.YtdenehnneloegaaGreatDoor
open Go.RowKit Go.Shelf Go.ChangeShapes Go.WideShapes Go.Deep Go.Lib
set_option linter.unusedVariables false
/-- a slice of strings that came in -/
structure StrArg (w : World) (ao : Option Addr) (cap : Nat) (xs : List ByteArray) : Prop where
  len : xs.length ≤ maxLen
  row : StrRow w ao xs
  size : ∀ c ∈ xs, c.size ≤ 140737488351232
  nil : ao = none → cap = 0
  cap : xs.length ≤ cap
/-- records that came in -/
structure RowsArg (w : World) (ao : Option Addr) (cap : Nat) (rs : List (List ByteArray)) : Prop where
  len : rs.length ≤ maxLen
  rows : RowsAt w ao rs
  each : ∀ r ∈ rs, r.length ≤ maxLen ∧ ∀ c ∈ r, c.size ≤ 140737488351232
  nil : ao = none → cap = 0
  cap : rs.length ≤ cap
section
variable {H : Type} {enc : TypeId × Value → H} {P : Program} {w : World} {base : Nat} {held : Bool}
theorem slice_is {t e : TypeId} {fuel : Nat} {v : Value} {x : DataW H × List MemPlace} (ht : P.underlying t = some (.slice e)) (ce : P.cellsOf e = 1) (h : DataW.trod enc P w base (fun _ => true) held fuel t [v] = some x) : ∃ ao len cap, v = .slice ao len cap ∧ (ao = none → cap = 0) ∧ len ≤ cap := by
  rcases open_slice1 ht ce h with ⟨hcs, _⟩ | ⟨a, len', cap', m, n, V, D, Pl, hcs, hb, hl, _⟩
  · simp at hcs; exact ⟨_, _, _, hcs, fun _ => rfl, Nat.le_refl _⟩
  · simp at hcs; exact ⟨_, _, _, hcs, (fun h => by cases h), hl⟩
theorem arg_strs {t q : TypeId} {fuel : Nat} {v : Value} {x : DataW H × List MemPlace} (ht : P.underlying t = some (.slice q)) (hq : P.underlying q = some .string) (cq : P.cellsOf q = 1)
    (h : DataW.trod enc P w base (fun _ => true) held fuel t [v] = some x) (hw : ∀ n ∈ x.1.weights P t, n ≤ reachBytes) : ∃ ao cap xs, v = .slice ao xs.length cap ∧ StrArg w ao cap xs := by
  obtain ⟨ao, len, cap, rfl, hz, hc⟩ := slice_is ht cq h
  rcases open_strings ht hq cq h with ⟨h1, _⟩ | ⟨a', l', c', ss, h1, _, hl', hm', hz', hy, hcell, hsz⟩
  · simp at h1; obtain ⟨rfl, rfl, rfl⟩ := h1
    exact ⟨none, 0, [], rfl, Nat.zero_le _, .inl rfl, (fun c hc => by cases hc), fun _ => rfl, Nat.le_refl _⟩
  · simp at h1; obtain ⟨rfl, rfl, rfl⟩ := h1
    simp only [if_true] at hz'
    have hln : (ss.take len).length = len := by rw [List.length_take]; omega
    refine ⟨some a', cap, ss.take len, by rw [hln], by rw [hln]; omega, row_of w a' len ss hcell, fun c hc' => ?_, hz, by rw [hln]; exact hc⟩
    have hmem : c.data.toList.length ∈ (DataW.lit (H := H) (.string c.data.toList)).weights P q := by rw [DataW.weights]; exact List.mem_singleton.2 rfl
    have h2 : c.data.toList.length ∈ x.1.weights P t := by
      rw [hy]
      exact weights_elem ht (List.mem_map.2 ⟨c, hc', rfl⟩) hmem
    have h3 := hw _ h2
    rw [ba_size] at h3
    exact h3
theorem arg_rows {t e q : TypeId} {fuel : Nat} {v : Value} {x : DataW H × List MemPlace} (ht : P.underlying t = some (.slice e)) (he : P.underlying e = some (.slice q)) (hq : P.underlying q = some .string) (ce : P.cellsOf e = 1) (cq : P.cellsOf q = 1)
    (h : DataW.trod enc P w base (fun _ => true) held fuel t [v] = some x) (hw : ∀ n ∈ x.1.weights P t, n ≤ reachBytes) : ∃ ao cap rs, v = .slice ao rs.length cap ∧ RowsArg w ao cap rs := by
  obtain ⟨ao, len, cap, rfl, hz, hc⟩ := slice_is ht ce h
  obtain ⟨rs, rfl, h2, h3, h4, h5⟩ := open_reach ht he hq ce cq h hw
  exact ⟨ao, cap, rs, rfl, h2, h3, fun r hr => ⟨(h4 r hr).1, h5 r hr⟩, hz, hc⟩
theorem arg_table {r : Reach} {b0 : Nat} {t : TypeId} {f0 f1 : Field} {q : TypeId} {v : Value} {d : DataW H} {p : List MemPlace} (hs : P.underlying t = some (.struct #[f0, f1])) (hone : oneCellFields P #[f0, f1] = true) (hC : P.cellsOf t = 2)
    (h0 : P.underlying f0.type = some (.slice q)) (h1 : P.underlying f1.type = some (.slice f0.type)) (hq : P.underlying q = some .string) (cq : P.cellsOf q = 1) (cf : P.cellsOf f0.type = 1)
    (hv : Value.okWide P w r b0 t v) (h : DataW.Trod enc P w base (fun _ => true) held t v d p) (hw : ∀ n ∈ d.weights P t, n ≤ reachBytes) :
    ∃ ho hc hd ro rc rs, v = .agg #[.slice ho (List.length hd) hc, .slice ro (List.length rs) rc] ∧ StrArg w ho hc hd ∧ RowsArg w ro rc rs := by
  obtain ⟨v0, v1, y0, y1, n, rfl, rfl, rfl, k0, k1⟩ := Go.Joins.open_agg2 hs hone hC hv h
  have e : (DataW.agg [y0.1, y1.1] : DataW H).weights P t = DataW.weightsEach P [f0.type, f1.type] [y0.1, y1.1] := by rw [DataW.weights]; simp only [hs]; rfl
  rw [e] at hw
  obtain ⟨ho, hc, hd, rfl, A⟩ := arg_strs h0 hq cq k0 (fun n hn => hw n (DataW.weights_mem_each (j := 0) rfl rfl n hn))
  obtain ⟨ro, rc, rs, rfl, B⟩ := arg_rows h1 h0 hq cf cq k1 (fun n hn => hw n (DataW.weights_mem_each (j := 1) rfl rfl n hn))
  exact ⟨ho, hc, hd, ro, rc, rs, rfl, A, B⟩
end
end Go.Proofs.YtdenehnneloegaaGreatDoor
namespace Go.Proofs.YtdenehnneloegaaGreatDoor
open Go.RowKit Go.Shelf
set_option linter.unusedVariables false
theorem ownsRowP_below {w w' : World} {base : Nat} {e : TypeId} {size : Nat} {v : Value} {n : Nat} {xs : List Value} (h : w.ownsRow base e size v n xs) (hB : Below w.heap.size w w') : w'.ownsRow base e size v n xs :=
  h.kept (row := none) ⟨hB.os, hB.tape, hB.output, hB.size, fun k hk _ => hB.block k hk⟩ (by cases h' : v.ownBlock <;> simp)
/-- the cells of pairs -/
def cellsP (l : PL) : List Value := l.flatMap fun p => [.int .i64 p.1, .int .i64 p.2]
theorem cellsP_cons (p : Int × Int) (l : PL) : cellsP (p :: l) = .int .i64 p.1 :: .int .i64 p.2 :: cellsP l := rfl
theorem cellsP_length (l : PL) : (cellsP l).length = l.length * 2 := by
  induction l with
  | nil => rfl
  | cons p l ih => rw [cellsP_cons]; simp only [List.length_cons, ih]; omega
theorem cellsP_app (l m : PL) : cellsP (l ++ m) = cellsP l ++ cellsP m := by simp [cellsP]
theorem cellsP_at (l : PL) (k : Nat) (p : Int × Int) (h : l[k]? = some p) : (cellsP l)[k * 2]? = some (.int .i64 p.1) ∧ (cellsP l)[k * 2 + 1]? = some (.int .i64 p.2) := by
  induction l generalizing k with
  | nil => simp at h
  | cons q l ih =>
    cases k with
    | zero => simp at h; subst h; exact ⟨rfl, rfl⟩
    | succ k =>
      have := ih k (by simpa using h)
      rw [cellsP_cons, show (k + 1) * 2 = k * 2 + 1 + 1 from by omega]
      simpa using this
theorem cellsP_set (l : PL) (k : Nat) (a b : Int) (h : k < l.length) : ((cellsP l).set (k * 2) (.int .i64 a)).set (k * 2 + 1) (.int .i64 b) = cellsP (l.set k (a, b)) := by
  induction l generalizing k with
  | nil => simp at h
  | cons q l ih =>
    cases k with
    | zero => rfl
    | succ k =>
      have := ih k (by simpa using h)
      rw [cellsP_cons, show (k + 1) * 2 = k * 2 + 1 + 1 from by omega]
      simp only [List.set_cons_succ, this]
      rfl
theorem cellsP_zero (n : Nat) : (madeCells #[.int .i64 0, .int .i64 0] (n * 2)).toList = cellsP (List.replicate n (0, 0)) := by
  have h1 : (madeCells #[.int .i64 0, .int .i64 0] (n * 2)).toList = List.replicate (n * 2) (.int .i64 0) := by
    refine List.eq_replicate_iff.2 ⟨by simp [size_madeCells], fun b hb => ?_⟩
    simp only [madeCells, Array.toList_map, List.mem_map] at hb
    obtain ⟨i, _, rfl⟩ := hb
    have : i % 2 = 0 ∨ i % 2 = 1 := by omega
    rcases this with h | h <;> simp [h]
  have h2 : cellsP (List.replicate n (0, 0)) = List.replicate (n * 2) (.int .i64 0) := by
    refine List.eq_replicate_iff.2 ⟨by rw [cellsP_length]; simp, fun b hb => ?_⟩
    simp only [cellsP, List.mem_flatMap] at hb
    obtain ⟨p, hp, hb⟩ := hb
    rw [(List.mem_replicate.1 hp).2] at hb
    simp at hb
    exact hb
  rw [h1, h2]
/-- a slice of pairs that the code owns -/
structure OwnP (w : World) (base : Nat) (T : TypeId) (g n : Nat) (l : PL) : Prop where
  len : l.length = n
  own : w.ownsRow base T 2 (.slice (some ⟨g, 0, none⟩) n n) n (cellsP l)
theorem OwnP.lt {w : World} {base : Nat} {T : TypeId} {g n : Nat} {l : PL} (h : OwnP w base T g n l) : base ≤ g ∧ g < w.heap.size := h.own.lt g rfl
theorem OwnP.kept {w w' : World} {base : Nat} {T : TypeId} {g n : Nat} {l : PL} (h : OwnP w base T g n l) (hB : Below w.heap.size w w') : OwnP w' base T g n l := ⟨h.len, ownsRowP_below h.own hB⟩
theorem OwnP.cell {w : World} {base : Nat} {T : TypeId} {g n : Nat} {l : PL} (h : OwnP w base T g n l) (k : Nat) (p : Int × Int) (hp : l[k]? = some p) : w.cell? ⟨g, k * 2, none⟩ = some (.int .i64 p.1) ∧ w.cell? ⟨g, k * 2 + 1, none⟩ = some (.int .i64 p.2) := by
  obtain ⟨hk, _⟩ := List.getElem?_eq_some_iff.1 hp
  have hl := h.len
  obtain ⟨h1, h2⟩ := cellsP_at l k p hp
  exact ⟨(h.own.cellAt (k * 2) (by omega)).trans h1, (h.own.cellAt (k * 2 + 1) (by omega)).trans h2⟩
theorem OwnP.frozen {w : World} {base : Nat} {T : TypeId} {g n : Nat} {l : PL} (h : OwnP w base T g n l) (k : Nat) : w.frozen? ⟨g, k, none⟩ = false := h.own.frozenAt k
theorem OwnP.pairs {w : World} {base : Nat} {T : TypeId} {g n : Nat} {l : PL} (h : OwnP w base T g n l) : PairsAt w (some ⟨g, 0, none⟩) l :=
  .inr ⟨g, 0, rfl, h.lt.2, fun i p hp => by have := h.cell i p hp; simpa using this⟩
theorem OwnP.store {w : World} {base : Nat} {T : TypeId} {g n : Nat} {l : PL} (h : OwnP w base T g n l) (k : Nat) (a b : Int) (hk : k < n) : OwnP ((w.setCell ⟨g, k * 2, none⟩ (.int .i64 a)).setCell ⟨g, k * 2 + 1, none⟩ (.int .i64 b)) base T g n (l.set k (a, b)) := by
  refine ⟨by simp [h.len], ?_⟩
  rw [← cellsP_set l k a b (by rw [h.len]; exact hk)]
  exact ((h.own.stored (k * 2) (.int .i64 a)).1.stored (k * 2 + 1) (.int .i64 b)).1
theorem info_parts2 {P : Program} {e : TypeId} {z : Option Value} {s b : Nat} (h : (P.info? e).map (fun i => (i.zero, i.size, i.bytes)) = some (z, s, b)) : ∃ i, P.info? e = some i ∧ i.zero = z ∧ i.size = s ∧ i.bytes = b := by
  obtain ⟨i, hi, e'⟩ := Option.map_eq_some_iff.1 h
  simp only [Prod.mk.injEq] at e'
  exact ⟨i, hi, e'⟩
/-- a new slice of pairs, a copy of which the first k are -/
def copyK (l : PL) (k : Nat) : PL := l.take k ++ List.replicate (l.length - k) (0, 0)
theorem copyK_zero (l : PL) : copyK l 0 = List.replicate l.length (0, 0) := by simp [copyK]
theorem copyK_all (l : PL) : copyK l l.length = l := by simp [copyK]
theorem copyK_next (l : PL) (k : Nat) (p : Int × Int) (h : l[k]? = some p) : (copyK l k).set k p = copyK l (k + 1) := by
  obtain ⟨hk, e⟩ := List.getElem?_eq_some_iff.1 h
  unfold copyK
  rw [List.set_append_right _ _ (by simp; omega), List.take_succ_eq_append_getElem hk, e]
  obtain ⟨m, hm⟩ : ∃ m, l.length - k = m + 1 := ⟨l.length - k - 1, by omega⟩
  rw [hm, show l.length - (k + 1) = m from by omega, List.replicate_succ]
  simp [show min k l.length = k from by omega]
theorem copyK_len (l : PL) (k : Nat) (h : k ≤ l.length) : (copyK l k).length = l.length := by simp [copyK]; omega
set_option maxRecDepth 100000 in
set_option maxHeartbeats 1000000 in
theorem list_any (ao : Option Addr) (cap : Nat) (xs : PL) (w : World) (hn : xs.length ≤ 274877906944) (hR : PairsAt w ao xs) :
    Calls Tryz.prog 59 #[.slice ao xs.length cap] w fun e w' => ∃ g, e = .returned (.slice (some ⟨g, 0, none⟩) xs.length xs.length) ∧ OwnP w' w.heap.size 88 g xs.length xs ∧ Below w.heap.size w w' := by
  have hinfo : (Tryz.prog.info? 88).map (fun i => (i.zero, i.size, i.bytes)) = some (some (.agg #[.int .i64 0, .int .i64 0]), 2, 16) := by kernel_rfl
  obtain ⟨i0, hi, hz0, hz1, hz2⟩ := info_parts2 hinfo
  have HI := Lib.hid hi
  have HRo := Lib.hid hR
  have hm : xs.length ≤ maxLen := by unfold maxLen; omega
  clear hi hinfo hR
  go_enter Tryz.func59, Tryz.ntmps59
  go_wp2_with (at_make; refine wpList_make_full _ rfl _ _ 87 rfl w.heap.size 88 i0 (.agg #[.int .i64 0, .int .i64 0]) 2 Tryz.underlying87 HI.out hz0 hz1 .i64 .i64 (xs.length : Int) (xs.length : Int) xs.length rfl rfl rfl rfl (by rw [hz2]; omega) hm (Nat.le_refl _) ?_; intro w1 ho hg)
  have HB : Hid (Below w.heap.size w w1) := Lib.hid ((Below.refl _ w).grown hg (Nat.le_refl _) (fun k h => by cases h))
  have HT : Hid (OwnP w1 w.heap.size 88 w.heap.size xs.length (copyK xs 0)) := Lib.hid ⟨copyK_len xs 0 (Nat.zero_le _), by rw [copyK_zero, ← cellsP_zero]; exact ho⟩
  clear ho hg
  go_wp2_with fail
  go_loopw [11] (fun i wr => ∃ (k : Nat), k ≤ xs.length ∧ i = .int .i64 k ∧ Hid (Below w.heap.size w wr) ∧ Hid (OwnP wr w.heap.size 88 w.heap.size xs.length (copyK xs k))) (fun i _ => xs.length - (intOf i).toNat)
  case atStart => exact ⟨0, Nat.zero_le _, rfl, HB, HT⟩
  case round =>
    obtain ⟨k, hk, rfl, HB, HT⟩ := hrel
    by_cases hlt : k < xs.length
    · obtain ⟨⟨x1, x2⟩, hx⟩ : ∃ x, xs[k]? = some x := ⟨_, List.getElem?_eq_getElem hlt⟩
      rcases (HRo.out.kept HB.out) with h0 | ⟨b, o, rfl, hA, hcell⟩
      · rw [h0] at hlt; simp at hlt
      obtain ⟨hc1, hc2⟩ := hcell k _ hx
      dsimp only at hc1 hc2
      obtain ⟨V, HV⟩ : ∃ V, Hid (V = wr.alloc (.cells #[.int .i64 x1, .int .i64 x2] 45)) := ⟨_, Lib.hid rfl⟩
      have hVh : V.heap[wr.heap.size]? = some (.cells #[.int .i64 x1, .int .i64 x2] 45 (0, 0)) := by rw [HV.out]; exact World.alloc_heap_new _ _
      have v0 : V.cell? ⟨wr.heap.size, 0, none⟩ = some (.int .i64 x1) := (Lib.cell_of_heap hVh 0).trans rfl
      have v1 : V.cell? ⟨wr.heap.size, 1, none⟩ = some (.int .i64 x2) := (Lib.cell_of_heap hVh 1).trans rfl
      have hb0 : Below wr.heap.size wr V := by rw [HV.out]; exact (Below.refl _ wr).alloc (Nat.le_refl _) _
      have HT1 := HT.out.kept hb0
      obtain ⟨⟨y1, y2⟩, hy⟩ : ∃ y, (copyK xs k)[k]? = some y := ⟨_, List.getElem?_eq_getElem (by rw [copyK_len xs k hk]; exact hlt)⟩
      obtain ⟨z0, z1⟩ := HT1.cell k _ hy
      have f0 := HT1.frozen (k * 2)
      have f1 := HT1.frozen (k * 2 + 1)
      have T2 := HT1.store k x1 x2 hlt
      rw [copyK_next xs k _ hx] at T2
      have HT2 := Lib.hid T2
      have HB2 := Lib.hid (((below_up HB.out hb0).setCell (p := ⟨w.heap.size, k * 2, none⟩) (Nat.le_refl _) (.int .i64 x1)).setCell (p := ⟨w.heap.size, k * 2 + 1, none⟩) (Nat.le_refl _) (.int .i64 x2))
      clear hcell hx hb0 hVh HT1 hy T2 HT HB
      go_upto_region 5 with fail
      rw [← HV.out]
      go_wp2_with fail
      go_roundw
      case rel => exact ⟨k + 1, by omega, by go_num, HB2, HT2⟩
      case measure => simp [intOf]; omega
    · obtain rfl : k = xs.length := by omega
      have T2 := HT.out
      rw [copyK_all] at T2
      have HT2 := Lib.hid T2
      clear T2 HT
      go_wp2_with fail
      go_ret
      exact ⟨w.heap.size, rfl, HT2.out, HB.out⟩
end Go.Proofs.YtdenehnneloegaaGreatDoor
