/-
  Texts of these rows' proofs, laid one behind the other: RwInPart, RwShelf, RwSortQ.
  Conditions: those of each theorem.
-/
import Derived.Deep.OwnRows
import Derived.WalkKit
import Derived.WalkMore
import Derived.IntWalk
import Derived.WalkArith
import Derived.OwnWalkIn
import Derived.TacticsInMore
import Derived.LoopNIn
import Derived.LoopIn
import Derived.Lib.Hide
import Derived.RegionTactic
import Derived.Deep.RegionHeld3
import Derived.Stop.RegionWithIn
import Derived.Test.YtdenehnneloegaaGreatDoorProg
import Derived.Test.YtdenehnneloegaaGreatDoorPb1
import Derived.Test.YtdenehnneloegaaGreatDoorPb7
import Derived.Test.YtdenehnneloegaaGreatDoorPb28
import Derived.Test.YtdenehnneloegaaGreatDoorPb38
import Derived.Test.YtdenehnneloegaaGreatDoorPb42
import Derived.Test.YtdenehnneloegaaGreatDoorPb43
import Derived.Shelf.SlSortCmp.NoneTotal
import Derived.Sort.OwnSorted
import Derived.Test.YtdenehnneloegaaGreatDoorPb27
namespace Go.Proofs.YtdenehnneloegaaGreatDoor
open Go.RowKit Go.Shelf
set_option linter.unusedVariables false
attribute [local go_sem] Oper.semAt_some
theorem KeepsY.block {X : Nat} {A B : World} (K : KeepsY X A B) {T : TypeId} (hX : A.heap[X]? = some (.cells #[.slice none 0 0] T (0, 0))) {k : Nat} {cs : Array Value} {E : TypeId} {fr : Nat × Nat} (h : A.heap[k]? = some (.cells cs E fr)) (hk : k ≠ X) : B.heap[k]? = some (.cells cs E fr) := K.same k cs E fr h hk (by rw [ownOf_boxed hX]; simp [Value.ownBlock])
theorem KeepsY.pts {X : Nat} {A B : World} (K : KeepsY X A B) {T : TypeId} (hX : A.heap[X]? = some (.cells #[.slice none 0 0] T (0, 0))) {ao : Option Addr} {l : PtL} (h : PtsAt A ao l) : PtsAt B ao l := by
  rcases h with h | ⟨b, o, h1, h2, h3⟩
  · exact .inl h
  · exact .inr ⟨b, o, h1, Nat.lt_of_lt_of_le h2 K.size, fun i p hp => ⟨K.cell (ownOf_boxed hX) (block_ne hX (nil_no (by simp)) (h3 i p hp).1) (h3 i p hp).1, K.cell (ownOf_boxed hX) (block_ne hX (nil_no (by simp)) (h3 i p hp).2) (h3 i p hp).2⟩⟩
theorem KeepsY.look {X : Nat} {A B : World} (K : KeepsY X A B) {T : TypeId} (hX : A.heap[X]? = some (.cells #[.slice none 0 0] T (0, 0))) {ao : Option Addr} {l : List PtL} (hne : ∀ P, ao = some P → P.block ≠ X) (h : LookAt A ao l) : LookAt B ao l := by
  rcases h with h | ⟨P, h1, h2, h3⟩
  · exact .inl h
  · refine .inr ⟨P, h1, Nat.lt_of_lt_of_le h2 K.size, fun i r hr => ?_⟩
    obtain ⟨po, pc, h4, h5, h6⟩ := h3 i r hr
    exact ⟨po, pc, K.cell (ownOf_boxed hX) (by rw [add_block]; exact hne P h1) h4, K.pts hX h5, h6⟩
def encS3 (x : T3) : Array Value := #[.agg #[.int .i64 x.1, .int .i64 x.2.1], .int .i64 x.2.2]
theorem upPick_pre (ra rb : List (List ByteArray)) (cols : PL) (is ks : List Int) (i k : Nat) (p : Int) (hp : is[i]? = some p) : upPick ra rb cols is ks i k <+: pickAll ra rb cols is ks := by
  obtain ⟨hi, e⟩ := List.getElem?_eq_some_iff.1 hp
  have e1 : pickAll ra rb cols is ks = pickAll ra rb cols (is.take i) ks ++ (pickRow ra rb cols p ks ++ pickAll ra rb cols (is.drop (i + 1)) ks) := by
    conv => lhs; rw [← List.take_append_drop i is]
    unfold pickAll
    rw [List.flatMap_append, ← List.getElem_cons_drop hi, List.flatMap_cons, e]
  have e2 : pickRow ra rb cols p ks = pickRow ra rb cols p (ks.take k) ++ pickRow ra rb cols p (ks.drop k) := by
    conv => lhs; rw [← List.take_append_drop k ks]
    unfold pickRow; rw [List.filterMap_append]
  unfold upPick
  rw [List.getD_eq_getElem?_getD, hp, Option.getD_some, e1, e2]
  simp only [List.append_assoc]
  exact (List.prefix_append_right_inj _).2 (List.prefix_append _ _)
/-- how the rows of both tables look -/
def partsA (ra : List (List ByteArray)) (l : PL) : List PtL := (lookA ra l).map (partsK 0)
def partsB (rb : List (List ByteArray)) (l : PL) : List PtL := (lookB rb l).map (partsK 0)
theorem partsA_len (ra : List (List ByteArray)) (l : PL) : (partsA ra l).length = ra.length := by unfold partsA; rw [List.length_map, lookA_len]
theorem partsB_len (rb : List (List ByteArray)) (l : PL) : (partsB rb l).length = rb.length := by unfold partsB; rw [List.length_map, lookB_len]
theorem partsA_at (ra : List (List ByteArray)) (l : PL) (i : Nat) (h : i < ra.length) : (partsA ra l)[i]? = some (partsK 0 (keyAt ra (l.map Prod.fst) i)) := by unfold partsA; simp [lookA, h]
theorem partsB_at (rb : List (List ByteArray)) (l : PL) (i : Nat) (h : i < rb.length) : (partsB rb l)[i]? = some (partsK 0 (keyAt rb (l.map Prod.snd) i)) := by unfold partsB; simp [lookB, h]
theorem partsR_key (rs : List (List ByteArray)) (cs : List Int) (i : Int) : (partsK 0 (keyAt rs cs i)).length ≤ cs.length := by
  have := parts_len (keyAt rs cs i) 0
  rw [keyAt_len] at this; exact this
set_option maxRecDepth 100000 in
set_option maxHeartbeats 4000000 in
theorem inPart1_tells (n X Bl Bx By Ba : Nat) (ra rb : List (List ByteArray)) (l AK : PL) (ko : Option Addr) (kc : Nat) (xo : Option Addr) (xc : Nat) (yo : Option Addr) (yc : Nat) (w : World)
    (hra : ra.length ≤ 1024) (hrb : rb.length ≤ 1024) (hll : l.length ≤ 1024)
    (hx : LookAt w xo (partsA ra l)) (hy : LookAt w yo (partsB rb l)) (hP : PairsAt w ko AK) (hok : okP AK) (hkl : AK.length ≤ 1024)
    (hbl : w.heap[Bl]? = some (.cells #[.slice ko AK.length kc] 26 (0, 0))) (hbx : w.heap[Bx]? = some (.cells #[.slice xo ra.length xc] 62 (0, 0))) (hby : w.heap[By]? = some (.cells #[.slice yo rb.length yc] 62 (0, 0))) (hba : w.heap[Ba]? = some (.cells #[.int .i64 (l.length : Int)] 3 (0, 0)))
    (hX : X < w.heap.size) (hXl : Bl ≠ X) (hXx : Bx ≠ X) (hXy : By ≠ X) (hXa : Ba ≠ X) (hxX : ∀ P, xo = some P → P.block ≠ X) (hyX : ∀ P, yo = some P → P.block ≠ X) :
    Tells Fence.wide n Tryz.prog 95 #[.pointer (some ⟨Bl, 0, none⟩), .pointer (some ⟨Bx, 0, none⟩), .pointer (some ⟨By, 0, none⟩), .pointer (some ⟨Ba, 0, none⟩)] encS3 (KeepsY X) (fun pre x _ => pre ++ [x] <+: pickAll ra rb l (outOf (AK.map Prod.fst) ra.length) (outOf (AK.map Prod.snd) rb.length)) (fun pre A => pre = [] → A.heap[X]? = some (.cells #[.slice none 0 0] 68 (0, 0))) (fun xs => xs = pickAll ra rb l (outOf (AK.map Prod.fst) ra.length) (outOf (AK.map Prod.snd) rb.length)) (fun _ => True) w := by
  intro lp J Jx W hW hJ hJx hRm hY h0
  have HY := Lib.hid hY
  have HSt := Lib.hid hJ
  have HRm := Lib.hid hRm
  have H0 := Lib.hid h0
  have hbl1 := (hW.block Bl (lt_of_heap hbl)).trans hbl
  have hbx1 := (hW.block Bx (lt_of_heap hbx)).trans hbx
  have hby1 := (hW.block By (lt_of_heap hby)).trans hby
  have hba1 := (hW.block Ba (lt_of_heap hba)).trans hba
  have blk : Hid (∀ V, Below W.heap.size W V → V.heap[Bl]? = some (.cells #[.slice ko AK.length kc] 26 (0, 0)) ∧ V.heap[Bx]? = some (.cells #[.slice xo ra.length xc] 62 (0, 0)) ∧ V.heap[By]? = some (.cells #[.slice yo rb.length yc] 62 (0, 0)) ∧ V.heap[Ba]? = some (.cells #[.int .i64 (l.length : Int)] 3 (0, 0))) :=
    Lib.hid (fun V h => ⟨(h.block _ (lt_of_heap hbl1)).trans hbl1, (h.block _ (lt_of_heap hbx1)).trans hbx1, (h.block _ (lt_of_heap hby1)).trans hby1, (h.block _ (lt_of_heap hba1)).trans hba1⟩)
  have box : Hid (∀ V : World, V.heap[Bl]? = some (.cells #[.slice ko AK.length kc] 26 (0, 0)) ∧ V.heap[Bx]? = some (.cells #[.slice xo ra.length xc] 62 (0, 0)) ∧ V.heap[By]? = some (.cells #[.slice yo rb.length yc] 62 (0, 0)) ∧ V.heap[Ba]? = some (.cells #[.int .i64 (l.length : Int)] 3 (0, 0)) → V.cell? ⟨Bl, 0, none⟩ = some (.slice ko AK.length kc) ∧ V.cell? ⟨Bx, 0, none⟩ = some (.slice xo ra.length xc) ∧ V.cell? ⟨By, 0, none⟩ = some (.slice yo rb.length yc) ∧ V.cell? ⟨Ba, 0, none⟩ = some (.int .i64 (l.length : Int))) :=
    Lib.hid (fun V h => ⟨(cell_of_box_l h.1).1, (cell_of_box_l h.2.1).1, (cell_of_box_l h.2.2.1).1, (cell_of_box_l h.2.2.2).1⟩)
  have hXW : X < W.heap.size := Nat.lt_of_lt_of_le hX hW.size
  have HLx := Lib.hid (hx.kept hW)
  have HLy := Lib.hid (hy.kept hW)
  have HNe := Lib.hid (And.intro hXl (And.intro hXx (And.intro hXy hXa)))
  have HNx := Lib.hid (And.intro hxX hyX)
  have C1 : Hid (∀ V, Below W.heap.size W V → Calls Tryz.prog 96 #[.slice ko AK.length kc, .int .i64 (ra.length : Int)] V (IntsOut (outOf (AK.map Prod.fst) ra.length) V)) := Lib.hid (fun V h => restA_any ko kc AK (ra.length : Int) V (by omega) hok ((hP.kept hW).kept h) (by omega) (by omega))
  have C2 : Hid (∀ V, Below W.heap.size W V → Calls Tryz.prog 97 #[.slice ko AK.length kc, .int .i64 (rb.length : Int)] V (IntsOut (outOf (AK.map Prod.snd) rb.length) V)) := Lib.hid (fun V h => restB_any ko kc AK (rb.length : Int) V (by omega) hok ((hP.kept hW).kept h) (by omega) (by omega))
  have HPm : Hid (∀ p ∈ outOf (AK.map Prod.fst) ra.length, ∃ i : Nat, p = (i : Int) ∧ i < ra.length) := Lib.hid (fun p hp => by
    obtain ⟨⟨k1, k2⟩, -⟩ := (out_mem _ _ _).1 hp
    exact ⟨p.toNat, by omega, by omega⟩)
  have HQm : Hid (∀ p ∈ outOf (AK.map Prod.snd) rb.length, ∃ i : Nat, p = (i : Int) ∧ i < rb.length) := Lib.hid (fun p hp => by
    obtain ⟨⟨k1, k2⟩, -⟩ := (out_mem _ _ _).1 hp
    exact ⟨p.toNat, by omega, by omega⟩)
  have hpl := Nat.le_trans (outOf_le (AK.map Prod.fst) ra.length) hra
  have hql := Nat.le_trans (outOf_le (AK.map Prod.snd) rb.length) hrb
  clear hJ hJx hRm hY h0 hW hbl hbx hby hba hbl1 hbx1 hby1 hba1 hX hx hy hP hok hXl hXx hXy hXa hxX hyX
  generalize outOf (AK.map Prod.fst) ra.length = ps at C1 HPm HY hpl ⊢
  generalize outOf (AK.map Prod.snd) rb.length = qs at C2 HQm HY hql ⊢
  obtain ⟨O, HQ⟩ : ∃ O : Nat → Nat → TL, Hid (O = upPick ra rb l ps qs) := ⟨_, Lib.hid rfl⟩
  have HNxt : Hid (∀ (i k : Nat) p q, ps[i]? = some p → qs[k]? = some q → O i (k + 1) = if l.length < 2 * comN ra rb l p q then O i k ++ [(p, q, (comN ra rb l p q : Int))] else O i k) := Lib.hid (fun i k p q h1 h2 => by rw [HQ.out]; exact upPick_next ra rb l ps qs i k p q h1 h2)
  have HRow : Hid (∀ i, i < ps.length → O i qs.length = O (i + 1) 0) := Lib.hid (fun i h => by rw [HQ.out]; exact upPick_row ra rb l ps qs i h)
  have HPre : Hid (∀ (i k : Nat) p, ps[i]? = some p → O i k <+: pickAll ra rb l ps qs) := Lib.hid (fun i k p h => by rw [HQ.out]; exact upPick_pre ra rb l ps qs i k p h)
  have HZ : Hid (O 0 0 = []) := Lib.hid (by rw [HQ.out]; exact upPick_zero _ _ _ _ _)
  have HAll : Hid (O ps.length 0 = pickAll ra rb l ps qs) := Lib.hid (by rw [HQ.out]; exact upPick_all _ _ _ _ _)
  generalize pickAll ra rb l ps qs = AL at HY HPre HAll ⊢
  obtain ⟨a0, b0, c0, d0⟩ := box.out W (blk.out W (Below.refl _ _))
  have HBel : Hid (Below W.heap.size W W.drew) := Lib.hid ((Below.refl _ W).drew)
  refine callsIn_of_wp Tryz.func95 rfl trivial ?_ rfl
  simp only [Tryz.ntmps95, List.size_toArray, List.length_cons, List.length_nil, Nat.reduceAdd, Nat.reduceSub, Array.replicate_succ, Array.replicate_zero, List.push_toArray, List.append_toArray, List.nil_append, List.cons_append]
  gi_wp2_with fail
  refine wpIn_wide.2 ?_
  go_region_held3 (fun V => V.cell? ⟨Bl, 0, none⟩ = some (.slice ko AK.length kc) ∧ V.cell? ⟨Bx, 0, none⟩ = some (.slice xo ra.length xc) ∧ V.cell? ⟨By, 0, none⟩ = some (.slice yo rb.length yc) ∧ V.cell? ⟨Ba, 0, none⟩ = some (.int .i64 (l.length : Int))) ((refine ⟨?_, ?_, ?_, ?_⟩ <;> first | assumption | go_keep))
    (first
      | (go_at_call 96; refine (C1.out _ HBel.out).mono ?_; rintro e w3 ⟨po, pc, rfl, hp, -, -, b2⟩; have HP := Lib.hid hp; have HBel := Lib.hid (below_up HBel.out b2); obtain ⟨a0, b0, c0, d0⟩ := box.out w3 (blk.out w3 HBel.out); clear hp b2 C1)
      | (go_at_call 97; refine (C2.out _ HBel.out).mono ?_; rintro e w4 ⟨qo, qc, rfl, hq, -, -, b2⟩; have HP := Lib.hid (HP.out.kept b2); have HQs := Lib.hid hq; have HBel := Lib.hid (below_up HBel.out b2); obtain ⟨a0, b0, c0, d0⟩ := box.out w4 (blk.out w4 HBel.out); clear hq b2 C2))
  rename_i hHeld
  clear hHeld a0 b0 c0 d0
  have HJ4 : Hid (J (O 0 0) w4) := Lib.hid (by rw [HZ.out]; exact HSt.out [] _ _ H0.out HBel.out)
  have HX4 := Lib.hid (HRm.out [] w4 (by have := HJ4.out; rwa [HZ.out] at this) rfl)
  have HBk := Lib.hid (blk.out w4 HBel.out)
  have HLx4 := Lib.hid (HLx.out.kept HBel.out)
  have HLy4 := Lib.hid (HLy.out.kept HBel.out)
  have hX4 : X < w4.heap.size := Nat.lt_of_lt_of_le hXW HBel.out.size
  have HK0 : Hid (KeepsY X w4 w4) := Lib.hid (KeepsY.refl _ _)
  have HBs : Hid (∀ V, KeepsY X w4 V → V.heap[Bl]? = some (.cells #[.slice ko AK.length kc] 26 (0, 0)) ∧ V.heap[Bx]? = some (.cells #[.slice xo ra.length xc] 62 (0, 0)) ∧ V.heap[By]? = some (.cells #[.slice yo rb.length yc] 62 (0, 0)) ∧ V.heap[Ba]? = some (.cells #[.int .i64 (l.length : Int)] 3 (0, 0))) := Lib.hid (fun V K => ⟨K.block HX4.out HBk.out.1 HNe.out.1, K.block HX4.out HBk.out.2.1 HNe.out.2.1, K.block HX4.out HBk.out.2.2.1 HNe.out.2.2.1, K.block HX4.out HBk.out.2.2.2 HNe.out.2.2.2⟩)
  clear blk HBel HLx HLy hXW H0 HBk
  gi_wp2_with fail
  gi_loopw [23] (fun i wr => ∃ k : Nat, k ≤ ps.length ∧ i = .int .i64 k ∧ Hid (J (O k 0) wr) ∧ Hid (KeepsY X w4 wr)) (fun i _ => ps.length - (intOf i).toNat)
  case atStart => exact ⟨0, Nat.zero_le _, rfl, HJ4, HK0⟩
  case round =>
    obtain ⟨k, hk, rfl, HJ, HK⟩ := hrel
    by_cases hlt : k < ps.length
    · obtain ⟨p, hp⟩ : ∃ p, ps[k]? = some p := ⟨_, List.getElem?_eq_getElem hlt⟩
      have HPk := Lib.hid hp
      rcases (HK.out.ints HX4.out HP.out) with h0 | ⟨A, rfl, hA, hcell⟩
      · rw [h0] at hlt; simp at hlt
      have ci := hcell k p hp
      clear hcell hp
      gi_wp2_with fail
      gi_loopw [29] (fun i wr => ∃ j : Nat, j ≤ qs.length ∧ i = .int .i64 j ∧ Hid (J (O k j) wr) ∧ Hid (KeepsY X w4 wr)) (fun i _ => qs.length - (intOf i).toNat)
      case atStart => exact ⟨0, Nat.zero_le _, rfl, HJ, HK⟩
      case round =>
        clear HJ HK ci
        obtain ⟨j, hj, rfl, HJ, HK⟩ := hrel
        by_cases hjl : j < qs.length
        · obtain ⟨q, hq⟩ : ∃ q, qs[j]? = some q := ⟨_, List.getElem?_eq_getElem hjl⟩
          have HN := Lib.hid (HNxt.out k j p q HPk.out hq)
          have HPr := Lib.hid (HPre.out k (j + 1) p HPk.out)
          obtain ⟨pi, rfl, hpi⟩ := HPm.out p (List.mem_of_getElem? HPk.out)
          obtain ⟨qi, rfl, hqi⟩ := HQm.out q (List.mem_of_getElem? hq)
          rcases (HK.out.ints HX4.out HQs.out) with h0 | ⟨B, rfl, hB, hcell⟩
          · rw [h0] at hjl; simp at hjl
          have cj := hcell j _ hq
          have HLxr := Lib.hid (HK.out.look HX4.out HNx.out.1 HLx4.out)
          have HLyr := Lib.hid (HK.out.look HX4.out HNx.out.2 HLy4.out)
          rcases HLxr.out with h0 | ⟨Ka, hKe, hKa, hrow⟩
          · have := partsA_len ra l; rw [h0] at this; simp at this; omega
          rcases HLyr.out with h0 | ⟨Kb, hKe2, hKb, hrow2⟩
          · have := partsB_len rb l; rw [h0] at this; simp at this; omega
          obtain ⟨so, sc, hx1, hx2, hx3⟩ := hrow pi _ (partsA_at ra l pi hpi)
          obtain ⟨ro, rc, hy1, hy2, hy3⟩ := hrow2 qi _ (partsB_at rb l qi hqi)
          subst hKe
          subst hKe2
          have D1 := Lib.hid (fun V (h : Below wr.heap.size wr V) => unlike_any so ro sc rc _ _ V (by have := partsR_key ra (l.map Prod.fst) pi; simp at this; omega) (by have := partsR_key rb (l.map Prod.snd) qi; simp at this; omega) hx3 hy3 (hx2.kept h) (hy2.kept h))
          have HSc := Lib.hid (score_is ra rb l pi qi)
          have hcl := com_le ra rb l pi qi
          generalize comN ra rb l (pi : Int) (qi : Int) = c at HSc HN hcl
          generalize partsK 0 (keyAt ra (l.map Prod.fst) (pi : Int)) = X1 at D1 hx1 hx2 hx3 HSc
          generalize partsK 0 (keyAt rb (l.map Prod.snd) (qi : Int)) = X2 at D1 hy1 hy2 hy3 HSc
          have hws : IntKind.i64.wrap ((l.length : Int) - (unlikeP X1 X2 : Nat)) = (c : Int) := by have := HSc.out; rw [IntWalk.i64_in _ (by omega)]; omega
          have hwm : IntKind.i64.wrap (2 * (c : Int)) = 2 * (c : Int) := IntWalk.i64_in _ (by omega)
          generalize unlikeP X1 X2 = u at D1 hws
          have KEEP : Hid (∀ V, Below wr.heap.size wr V → V.cell? (Ka.add pi) = some (.slice so X1.length sc) ∧ V.cell? (Kb.add qi) = some (.slice ro X2.length rc)) := Lib.hid (fun V h => ⟨(h.cell (p := Ka.add pi) (by rw [add_block]; exact hKa)).trans hx1, (h.cell (p := Kb.add qi) (by rw [add_block]; exact hKb)).trans hy1⟩)
          have hXr : X < wr.heap.size := Nat.lt_of_lt_of_le hX4 HK.out.size
          have HKb : Hid (∀ V, Below wr.heap.size wr V → KeepsY X w4 V) := Lib.hid (fun V h => HK.out.trans (KeepsY.of_below hXr h))
          have HXr := Lib.hid hXr
          obtain ⟨a0, b0, c0, d0⟩ := box.out wr (HBs.out wr HK.out)
          have HBel : Hid (Below wr.heap.size wr wr.drew) := Lib.hid ((Below.refl _ wr).drew)
          clear hrow hrow2 hcell hq hx2 hy2 hx3 hy3 HSc HLxr HLyr hXr hKa hKb
          gi_wp2_with fail
          refine wpIn_wide.2 ?_
          go_region_held3 (fun V => V.cell? ⟨Bx, 0, none⟩ = some (.slice (some Ka) ra.length xc) ∧ V.cell? ⟨By, 0, none⟩ = some (.slice (some Kb) rb.length yc) ∧ V.cell? ⟨Ba, 0, none⟩ = some (.int .i64 (l.length : Int)) ∧ V.cell? (Ka.add pi) = some (.slice so X1.length sc) ∧ V.cell? (Kb.add qi) = some (.slice ro X2.length rc)) ((refine ⟨?_, ?_, ?_, ?_, ?_⟩ <;> first | assumption | go_keep))
            (first
              | (go_at_call 98; refine (D1.out _ HBel.out).mono ?_; rintro e w7 ⟨rfl, b2⟩; have HBel := Lib.hid (below_up HBel.out b2); obtain ⟨a0, b0, c0, d0⟩ := box.out w7 (HBs.out w7 (HKb.out w7 HBel.out)); obtain ⟨hx1, hy1⟩ := KEEP.out w7 HBel.out; clear b2 D1))
          rename_i hHeld
          clear hHeld
          have HJ7 := Lib.hid (HSt.out _ _ _ HJ.out HBel.out)
          have HK7 := Lib.hid (HKb.out w7 HBel.out)
          clear HBel KEEP HKb hx1 hy1 a0 b0 c0 cj HJ HK
          by_cases hgt : l.length < 2 * c
          · have HN2 : Hid (O k (j + 1) = O k j ++ [((pi : Int), (qi : Int), (c : Int))]) := Lib.hid (by have := HN.out; rwa [if_pos hgt] at this)
            have HY1 := Lib.hid (HY.out (O k j) ((pi : Int), (qi : Int), (c : Int)) w7 HJ7.out (by rw [← HN2.out]; exact HPr.out))
            obtain ⟨fn, tmps, assign, body, hy, hR⟩ := HY1.out
            dsimp only [encS3] at hy
            have HR := Lib.hid hR
            have hdg : decide ((l.length : Int) < 2 * (c : Int)) = true := decide_eq_true (by omega)
            clear hR HY1 HN
            gi_wp2_with fail
            refine ⟨(fun h => by cases h), HR.out.mono ?_⟩
            intro e W3 hh
            obtain ⟨b, rfl, hT, hF⟩ := yield_end hh
            have HTr := Lib.hid hT
            have HFl := Lib.hid hF
            clear hh hT hF HR
            cases b with
            | true =>
              obtain ⟨hJ3, hK3⟩ := HTr.out rfl
              have HJ3 : Hid (J (O k (j + 1)) W3) := Lib.hid (by rw [HN2.out]; exact hJ3)
              have HK3 : Hid (KeepsY X w4 W3) := Lib.hid (HK7.out.trans hK3)
              clear hJ3 hK3 HTr HFl HK7 HJ7 HN2
              gi_wp2_with fail
              go_roundw
              case rel => exact ⟨j + 1, by omega, by go_num, HJ3, HK3⟩
              case measure => simp [intOf]; omega
            | false =>
              have HXx := Lib.hid (HFl.out rfl)
              clear HTr HFl HK7 HJ7 HN2
              gi_wp2_with fail
              (first | go_end0 | (refine bodyPost_ret (results_none rfl _ _ _) rfl ?_) | (simp only [Exit.noGoto]; go_end0) | trace_state)
              exact ⟨⟨_, rfl⟩, .inr ⟨_, trivial, HXx.out⟩⟩
          · have HJ8 : Hid (J (O k (j + 1)) w7) := Lib.hid (by have := HN.out; rw [if_neg hgt] at this; rw [this]; exact HJ7.out)
            have hdg : decide ((l.length : Int) < 2 * (c : Int)) = false := decide_eq_false (by omega)
            clear HN HJ7
            gi_wp2_with fail
            refine ⟨fun f h => (by cases h), ?_⟩
            gi_wp2_with fail
            go_roundw
            case rel => exact ⟨j + 1, by omega, by go_num, HJ8, HK7⟩
            case measure => simp [intOf]; omega
        · obtain rfl : j = qs.length := by omega
          have HJ2 : Hid (J (O (k + 1) 0) wr) := Lib.hid (by rw [← HRow.out k hlt]; exact HJ.out)
          gi_wp2_with fail
          go_roundw
          case rel => exact ⟨k + 1, by omega, by go_num, HJ2, HK⟩
          case measure => first | (simp [intOf]; omega) | omega | go_num
    · obtain rfl : k = ps.length := by omega
      have HE : Hid (J AL wr) := Lib.hid (by rw [← HAll.out]; exact HJ.out)
      gi_wp2_with fail
      (first | go_end0 | (refine bodyPost_ret (results_none rfl _ _ _) rfl ?_) | (simp only [Exit.noGoto]; go_end0) | trace_state)
      exact ⟨⟨_, rfl⟩, .inl ⟨_, rfl, HE.out⟩⟩
end Go.Proofs.YtdenehnneloegaaGreatDoor
namespace Go.Proofs.YtdenehnneloegaaGreatDoor
open Go.Shelf
def laysFq_ren : Go.Shelf.Ren := ⟨fun | 6 => 188 | 15 => 104 | 14 => 214 | 28 => 166 | 29 => 167 | 20 => 253 | 21 => 254 | 22 => 255 | 23 => 256 | 24 => 257 | 25 => 258 | 26 => 259 | 27 => 260 | 46 => 278 | 47 => 200 | 48 => 201 | 49 => 279 | 50 => 280 | 57 => 289 | n => n, fun | 22 => 127 | 24 => 129 | 25 => 224 | 3 => 3 | 39 => 142 | 0 => 0 | 53 => 203 | 55 => 205 | 4 => 4 | 46 => 197 | 45 => 196 | 50 => 58 | 5 => 5 | 9 => 9 | 66 => 237 | 70 => 241 | 76 => 273 | 77 => 274 | n => n, fun | n => n⟩
theorem laysFq : Go.Proofs.SlLaysF0.n6 Tryz.prog laysFq_ren := {
  mixed := by kernel_rfl
  f6 := ⟨Tryz.f188.name, by decide, Tryz.func188.trans (congrArg some (by kernel_rfl))⟩
  f14 := ⟨Tryz.f214.name, by decide, Tryz.func214.trans (congrArg some (by kernel_rfl))⟩
  f15 := Tryz.func104.trans (congrArg some (by kernel_rfl))
  f20 := ⟨Tryz.f253.name, by decide, Tryz.func253.trans (congrArg some (by kernel_rfl))⟩
  f21 := ⟨Tryz.f254.name, by decide, Tryz.func254.trans (congrArg some (by kernel_rfl))⟩
  f22 := ⟨Tryz.f255.name, by decide, Tryz.func255.trans (congrArg some (by kernel_rfl))⟩
  f23 := ⟨Tryz.f256.name, by decide, Tryz.func256.trans (congrArg some (by kernel_rfl))⟩
  f24 := ⟨Tryz.f257.name, by decide, Tryz.func257.trans (congrArg some (by kernel_rfl))⟩
  f25 := ⟨Tryz.f258.name, by decide, Tryz.func258.trans (congrArg some (by kernel_rfl))⟩
  f26 := ⟨Tryz.f259.name, by decide, Tryz.func259.trans (congrArg some (by kernel_rfl))⟩
  f27 := ⟨Tryz.f260.name, by decide, Tryz.func260.trans (congrArg some (by kernel_rfl))⟩
  f28 := Tryz.func166.trans (congrArg some (by kernel_rfl))
  f29 := Tryz.func167.trans (congrArg some (by kernel_rfl))
  f46 := ⟨Tryz.f278.name, by decide, Tryz.func278.trans (congrArg some (by kernel_rfl))⟩
  f47 := Tryz.func200.trans (congrArg some (by kernel_rfl))
  f48 := Tryz.func201.trans (congrArg some (by kernel_rfl))
  f49 := ⟨Tryz.f279.name, by decide, Tryz.func279.trans (congrArg some (by kernel_rfl))⟩
  f50 := ⟨Tryz.f280.name, by decide, Tryz.func280.trans (congrArg some (by kernel_rfl))⟩
  f57 := ⟨Tryz.f289.name, by decide, Tryz.func289.trans (congrArg some (by kernel_rfl))⟩
  t0 := Tryz.underlying0
  a0 := Tryz.isAgg0
  z0 := Tryz.sizeOf0
  v0 := Tryz.zeroValue0
  t3 := Tryz.underlying3
  a3 := Tryz.isAgg3
  z3 := Tryz.sizeOf3
  v3 := Tryz.zeroValue3
  t4 := Tryz.underlying4
  a4 := Tryz.isAgg4
  z4 := Tryz.sizeOf4
  v4 := Tryz.zeroValue4
  t5 := Tryz.underlying5
  a5 := Tryz.isAgg5
  z5 := Tryz.sizeOf5
  v5 := Tryz.zeroValue5
  t9 := Tryz.underlying9
  a9 := Tryz.isAgg9
  z9 := Tryz.sizeOf9
  v9 := Tryz.zeroValue9
  t22 := Tryz.underlying127
  a22 := Tryz.isAgg127
  z22 := Tryz.sizeOf127
  v22 := Tryz.zeroValue127
  t25 := Tryz.underlying224
  a25 := Tryz.isAgg224
  z25 := Tryz.sizeOf224
  v25 := Tryz.zeroValue224
  t39 := Tryz.underlying142
  a39 := Tryz.isAgg142
  z39 := Tryz.sizeOf142
  v39 := Tryz.zeroValue142
  t45 := Tryz.underlying196
  a45 := Tryz.isAgg196
  z45 := Tryz.sizeOf196
  v45 := Tryz.zeroValue196
  t46 := Tryz.underlying197
  a46 := Tryz.isAgg197
  z46 := Tryz.sizeOf197
  v46 := Tryz.zeroValue197
  t50 := Tryz.underlying58
  a50 := Tryz.isAgg58
  z50 := Tryz.sizeOf58
  v50 := Tryz.zeroValue58
  t53 := Tryz.underlying203
  a53 := Tryz.isAgg203
  z53 := Tryz.sizeOf203
  v53 := Tryz.zeroValue203
  t55 := Tryz.underlying205
  a55 := Tryz.isAgg205
  z55 := Tryz.sizeOf205
  v55 := Tryz.zeroValue205
  t66 := Tryz.underlying237
  a66 := Tryz.isAgg237
  z66 := Tryz.sizeOf237
  v66 := Tryz.zeroValue237
  t70 := Tryz.underlying241
  a70 := Tryz.isAgg241
  z70 := Tryz.sizeOf241
  v70 := Tryz.zeroValue241
  t76 := Tryz.underlying273
  a76 := Tryz.isAgg273
  z76 := Tryz.sizeOf273
  v76 := Tryz.zeroValue273
  t77 := Tryz.underlying274
  a77 := Tryz.isAgg274
  z77 := Tryz.sizeOf274
  v77 := Tryz.zeroValue274 }
end Go.Proofs.YtdenehnneloegaaGreatDoor
namespace Go.Proofs.YtdenehnneloegaaGreatDoor
open Go.RowKit Go.Shelf Go.Sort
set_option linter.unusedVariables false
/-- a part, told by its place -/
def encAt (f : Int → ByteArray) (b : Int) : List Value := [.int .i64 b, .string (f b)]
theorem flat_cellsPt (f : Int → ByteArray) (l : PtL) (hf : ∀ p ∈ l, f p.1 = p.2) : flatK (encAt f) 2 (l.map Prod.fst).toArray = (cellsPt l).toArray := by
  refine ext_get! (by simp [cellsPt_length]) (fun t ht => ?_)
  have ht' : t < l.length * 2 := by simpa using ht
  rw [get_flatK _ _ _ t (by simpa using ht')]
  obtain ⟨p, hp⟩ : ∃ p, l[t / 2]? = some p := ⟨_, List.getElem?_eq_getElem (by omega)⟩
  have e1 : (l.map Prod.fst).toArray[t / 2]! = p.1 := by
    have : (l.map Prod.fst)[t / 2]? = some p.1 := by rw [List.getElem?_map, hp]; rfl
    simp [Array.getElem!_eq_getD, Array.getD_eq_getD_getElem?, hp]
  obtain ⟨c1, c2⟩ := cellsPt_at l (t / 2) p hp
  have e2 : (cellsPt l).toArray[t]! = ((cellsPt l)[t]?).getD default := by simp [Array.getElem!_eq_getD, Array.getD_eq_getD_getElem?]
  have e3 := hf p (List.mem_of_getElem? hp)
  rw [e1, e2]
  have hm : t % 2 = 0 ∨ t % 2 = 1 := by omega
  rcases hm with e | e
  · rw [show t / 2 * 2 = t from by omega] at c1; rw [c1, e]; simp [encAt, e3]
  · rw [show t / 2 * 2 + 1 = t from by omega] at c2; rw [c2, e]; simp [encAt]; exact e3
theorem OwnPt.holdsPt {w : World} {base g n cap : Nat} {l : PtL} (f : Int → ByteArray) (hf : ∀ p ∈ l, f p.1 = p.2) (hl : l.length = n) (h : OwnPt w base (.slice (some ⟨g, 0, none⟩) n cap) l) : HoldsK (encAt f) 2 w g 0 (l.map Prod.fst).toArray := by
  unfold OwnPt at h
  subst hl
  unfold HoldsK
  rw [flat_cellsPt f l hf]
  intro j hj
  have hj' : j < (cellsPt l).length := by simpa using hj
  rw [Nat.zero_add]
  refine ⟨?_, h.frozenAt j⟩
  have := h.cellAt j (by rw [cellsPt_length] at hj'; exact hj')
  rw [this]
  simp [List.getElem?_eq_getElem hj', Array.getElem!_eq_getD, Array.getD_eq_getD_getElem?]
theorem OwnPt.sortedPt {w : World} {base g n cap k : Nat} {l m : PtL} {os : Array Obj} (f : Int → ByteArray) (hf : ∀ p ∈ m, f p.1 = p.2) (h : OwnPt w base (.slice (some ⟨g, 0, none⟩) n cap) l) (hl : l.length = n) (hm : m.length = n) : OwnPt (sortWorldK (encAt f) 2 w g 0 k (m.map Prod.fst).toArray os) base (.slice (some ⟨g, 0, none⟩) n cap) m := by
  unfold OwnPt at h ⊢
  unfold sortWorldK putRowK
  rw [flat_cellsPt f m hf]
  rw [hl] at h
  rw [hm]
  rcases h.2 with ⟨h0, _⟩ | ⟨g', cap', cur, hv, hbase, hb, r1, r2, r3, r4⟩
  · cases h0
  · cases hv
    have hl : (cellsPt m).length = n * 2 := by rw [cellsPt_length, hm]
    refine ⟨hl, .inr ⟨g, cap, _, rfl, hbase, heap_sortedK _ hb, r1, r2, by simp [putCells, r3], ?_⟩⟩
    have := take_putCellsK cur (cellsPt m).toArray (by rw [r3]; simp [hl]; omega)
    rw [List.size_toArray, hl] at this
    exact this
set_option maxRecDepth 100000 in
theorem byAt_any (a c : Int) (b d : ByteArray) (w : World) :
    Calls Tryz.prog 189 #[.agg #[.int .i64 a, .string b], .agg #[.int .i64 c, .string d]] w fun e w' => e = .returned (.int .i64 (cmpI a c)) ∧ ∃ q os', w' = grow (w.drewN q) os' := by
  have C1 := Lib.hid (fun W => compare_any a c W)
  have HG : Hid (∃ q os', (w.alloc (.cells #[.int .i64 a, .string b] 129)).alloc (.cells #[.int .i64 c, .string d] 129) = grow (w.drewN q) os') := Lib.hid ⟨0, _, by rw [alloc_eq_grow, alloc_eq_grow, grow_grow]; rfl⟩
  generalize cmpI a c = r at C1 ⊢
  go_enter Tryz.func189, Tryz.ntmps189
  go_wp2_with fail
  refine (C1.out _).mono ?_; rintro e w1 ⟨rfl, rfl⟩
  go_wp2_with fail
  go_ret
  exact ⟨rfl, HG.out⟩
/-- the cell of a place -/
def ofAt (l : PtL) (b : Int) : ByteArray := ((l.find? (fun p => p.1 == b)).map Prod.snd).getD ⟨#[]⟩
theorem ofAt_is (l : PtL) (hn : (l.map Prod.fst).Nodup) : ∀ p ∈ l, ofAt l p.1 = p.2 := by
  induction l with
  | nil => intro p hp; cases hp
  | cons q l ih =>
    intro p hp
    rw [List.map_cons, List.nodup_cons] at hn
    unfold ofAt
    rw [List.find?_cons]
    rcases List.mem_cons.1 hp with rfl | hp
    · simp
    · have hne : ¬ q.1 = p.1 := fun e => hn.1 (List.mem_map.2 ⟨p, hp, e.symm⟩)
      have : (q.1 == p.1) = false := by simp [hne]
      rw [this]
      exact ih hn.2 p hp
theorem sortedPt_is (L R : PtL) (hp : R.Perm L) (hr : RiseP R) : (L.map Prod.fst).mergeSort (fun x y => decide (x ≤ y)) = R.map Prod.fst := by
  have h1 : ((L.map Prod.fst).mergeSort (fun x y => decide (x ≤ y))).Perm (R.map Prod.fst) := (List.mergeSort_perm _ _).trans (hp.map Prod.fst).symm
  have h2 := List.pairwise_mergeSort (le := fun x y : Int => decide (x ≤ y)) (fun a b c h k => by simp only [decide_eq_true_eq] at *; omega) (fun a b => by simp only [Bool.or_eq_true, decide_eq_true_eq]; omega) (L.map Prod.fst)
  have h3 : (R.map Prod.fst).Pairwise (fun x y => decide (x ≤ y) = true) := by
    rw [List.pairwise_map]
    exact hr.imp fun h => decide_eq_true (by omega)
  exact h1.eq_of_pairwise (fun a b _ _ h k => by simp only [decide_eq_true_eq] at *; omega) h2 h3
theorem risePt_nodup (L R : PtL) (hp : R.Perm L) (hr : RiseP R) : (L.map Prod.fst).Nodup := by
  refine (hp.map Prod.fst).nodup_iff.1 ?_
  rw [List.Nodup, List.pairwise_map]
  exact hr.imp fun h => by omega
theorem ptsort_any (base g n cap : Nat) (L R : PtL) (w : World) (hn : n ≤ 1099511627776) (hl : L.length = n) (hp : R.Perm L) (hr : RiseP R) (hO : OwnPt w base (.slice (some ⟨g, 0, none⟩) n cap) L) :
    Calls Tryz.prog 188 #[.slice (some ⟨g, 0, none⟩) n cap, .func (.func 189) #[] #[]] w fun e w' => e = .returned (.tuple #[]) ∧ OwnPt w' base (.slice (some ⟨g, 0, none⟩) n cap) R ∧ w.grownBy w' (some g) := by
  have hnd := risePt_nodup L R hp hr
  have hfL := ofAt_is L hnd
  have hfR : ∀ p ∈ R, ofAt L p.1 = p.2 := fun p h => hfL p (hp.mem_iff.1 h)
  have hc : CmpLays Tryz.prog 189 #[] (encAt (ofAt L)) 2 cmpI g 0 (L.map Prod.fst).toArray.size w := fun m os dk _ x y => byAt_any x y _ _ _
  have hsz : (L.map Prod.fst).toArray.size = n := by simp [hl]
  have h := AnyQ.slices_SortFunc_total laysFq 2 Tryz.isAgg129 Tryz.sizeOf129 (encAt (ofAt L)) (fun _ => rfl) (fun x v hv => by simp [encAt] at hv; rcases hv with rfl | rfl <;> rfl) cmpI swoB 189 #[] g 0 cap (L.map Prod.fst).toArray w (enters_of Tryz.func189 (by kernel_rfl) rfl) hc (hO.holdsPt _ hfL hl) (World.ownsRow.lt hO g rfl).2 (by rw [hsz]; omega) (fun x y h k => by rw [ltB] at h k; simp at h k; omega)
  rw [hsz, ltB] at h
  refine h.mono ?_
  rintro e w' ⟨rfl, k, os, rfl⟩
  have e : (L.map Prod.fst).toArray.toList.mergeSort (fun x y => !decide (y < x)) = R.map Prod.fst := by
    rw [← sortedPt_is L R hp hr]
    show (L.map Prod.fst).mergeSort _ = _
    congr 1
    funext x y
    by_cases h : y < x
    · rw [decide_eq_true h, decide_eq_false (by omega)]; rfl
    · rw [decide_eq_false h, decide_eq_true (by omega)]; rfl
  rw [e]
  exact ⟨rfl, hO.sortedPt _ hfR hl (by rw [hp.length_eq, hl]), by unfold sortWorldK putRowK; exact grownBy_sortedK _⟩
end Go.Proofs.YtdenehnneloegaaGreatDoor
