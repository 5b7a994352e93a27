/-
  Pairs that are turned: the document's reference's answer.
  Conditions: lists of at most 2^30 pairs.
-/
import Derived.WalkKit
import Derived.WalkMore
import Derived.IntWalk
import Derived.OwnWalk
import Derived.StillTailTactics
import Derived.BigQuiet
import Derived.Deep.QuietTactic
import Derived.Lib.Hide
import Derived.Deep.Cut
import Derived.Deep.Onto
import Derived.Test.YtigijgcldgbokaaGreatProg
import Derived.Test.YtigijgcldgbokaaGreatPkA
namespace Go.Proofs.YtigijgcldgbokaaGreat
open Go.RowKit Go.Shelf
set_option linter.unusedVariables false

theorem cellsP_inv (L : PL) (j : Nat) (u : Value) (h : (cellsP L)[j]? = some u) : ∃ i p, L[i]? = some p ∧ ((j = i * 2 ∧ u = .int .i64 p.1) ∨ (j = i * 2 + 1 ∧ u = .int .i64 p.2)) := by
  have hj := (List.getElem?_eq_some_iff.1 h).1
  rw [cellsP_length] at hj
  obtain ⟨p, hp⟩ : ∃ p, L[j / 2]? = some p := ⟨_, List.getElem?_eq_getElem (by omega)⟩
  obtain ⟨c1, c2⟩ := cellsP_at L (j / 2) p hp
  rcases Nat.mod_two_eq_zero_or_one j with e | e
  · refine ⟨j / 2, p, hp, .inl ⟨by omega, ?_⟩⟩
    rw [show j / 2 * 2 = j from by omega, h] at c1; exact Option.some.inj c1
  · refine ⟨j / 2, p, hp, .inr ⟨by omega, ?_⟩⟩
    rw [show j / 2 * 2 + 1 = j from by omega, h] at c2; exact Option.some.inj c2
theorem pairs_cells {w : World} {b o : Nat} {L : PL} (h : PairsAt w (some ⟨b, o, none⟩) L) : ∀ (j : Nat) u, (cellsP L)[j]? = some u → w.cell? ((⟨b, o, none⟩ : Addr).add j) = some u := fun j u hu => by
  have e : (⟨b, o, none⟩ : Addr).add j = ⟨b, o + j, none⟩ := by unfold Addr.add; split <;> simp_all
  rw [e]
  rcases h with rfl | ⟨b', o', h1, _, h3⟩
  · simp [cellsP] at hu
  · cases h1
    obtain ⟨i, p, hp, ⟨rfl, rfl⟩ | ⟨rfl, rfl⟩⟩ := cellsP_inv L j u hu
    · exact (h3 i p hp).1
    · exact (h3 i p hp).2
theorem PairsAt.rest {w : World} {b o : Nat} {L : PL} (h : PairsAt w (some ⟨b, o, none⟩) L) (k : Nat) : PairsAt w (some ⟨b, o + k * 2, none⟩) (L.drop k) := by
  rcases h with rfl | ⟨b', o', h1, h2, h3⟩
  · exact .inl (by simp)
  · cases h1
    refine .inr ⟨b, o + k * 2, rfl, h2, fun i p hp => ?_⟩
    rw [List.getElem?_drop] at hp
    have := h3 (k + i) p hp
    rw [show o + k * 2 + i * 2 = o + (k + i) * 2 from by omega]
    exact this
theorem PairsAt.front {w : World} {ao : Option Addr} {l : PL} (h : PairsAt w ao l) (k : Nat) : PairsAt w ao (l.take k) := by
  rcases h with h | ⟨b, o, h1, h2, h3⟩
  · exact .inl (by rw [h]; simp)
  · exact .inr ⟨b, o, h1, h2, fun i p hp => h3 i p (by rw [List.getElem?_take] at hp; split at hp; exact hp; cases hp)⟩
theorem cellsP_ones (L : PL) : ∀ u ∈ cellsP L, u.oneCell' = true := fun u hu => by
  obtain ⟨i, hi, rfl⟩ := List.getElem_of_mem hu
  obtain ⟨j, p, _, ⟨_, e⟩ | ⟨_, e⟩⟩ := cellsP_inv L i _ (List.getElem?_eq_getElem hi)
  · rw [e]; rfl
  · rw [e]; rfl
theorem putK_next (p : Int × Int) (l : PL) (k : Nat) (q : Int × Int) (h : l[k]? = some q) : putK p (l.take (k + 1)) = if q.2 ≤ p.2 then k + 1 else putK p (l.take k) := by
  obtain ⟨hk, e⟩ := List.getElem?_eq_some_iff.1 h
  rw [List.take_succ_eq_append_getElem hk, e]
  have key : ∀ (m : PL), putK p (m ++ [q]) = if q.2 ≤ p.2 then m.length + 1 else putK p m := fun m => by
    induction m with
    | nil => simp [putK]
    | cons x m ih =>
      simp only [List.cons_append, putK, ih]
      by_cases hq : q.2 ≤ p.2
      · simp [hq]
      · simp [hq]
  rw [key]
  simp [show min k l.length = k from by omega]
theorem own_newP (w : World) (base : Nat) (hb : base ≤ w.heap.size) : (w.alloc (.cells #[] 36)).ownsRow base 36 2 (.slice (some ⟨w.heap.size, 0, none⟩) 0 0) 0 [] := by
  refine ⟨rfl, .inr ⟨w.heap.size, 0, #[], rfl, hb, World.alloc_heap_new _ _, Nat.le_refl _, by unfold maxLen; omega, rfl, rfl⟩⟩

set_option maxRecDepth 100000 in
set_option maxHeartbeats 1500000 in
theorem rput_any (lo : Option Addr) (lc : Nat) (L : PL) (p1 p2 : Int) (w : World) (hn : L.length ≤ 1073741823) (hc : L.length ≤ lc) (hnil : lo = none → lc = 0) (hne : L = [] → lo = none) (hR : PairsAt w lo L) :
    Calls Tryz.prog 28 #[.slice lo L.length lc, .agg #[.int .i64 p1, .int .i64 p2]] w (PairsOut (putB L (p1, p2)) w) := by
  have hinfo : (Tryz.prog.info? 36).map (fun i => (i.zero, i.size, i.bytes)) = some (some (.agg #[.int .i64 0, .int .i64 0]), 2, 16) := by kernel_rfl
  obtain ⟨i0, hi, hz0, hz1, hz2⟩ := info_parts2 hinfo
  have HI := Lib.hid hi
  have HRo := Lib.hid hR
  obtain ⟨V, HV⟩ : ∃ V, Hid (V = w.alloc (.cells #[.int .i64 p1, .int .i64 p2] 36)) := ⟨_, Lib.hid rfl⟩
  have hVh : V.heap[w.heap.size]? = some (.cells #[.int .i64 p1, .int .i64 p2] 36 (0, 0)) := by rw [HV.out]; exact World.alloc_heap_new _ _
  have HVh := Lib.hid hVh
  have HVB : Hid (Below w.heap.size w V) := Lib.hid (by rw [HV.out]; exact (Below.refl _ w).alloc (Nat.le_refl _) _)
  have HBox : Hid (∀ W, Below V.heap.size V W → W.cell? ⟨w.heap.size, 0, none⟩ = some (.int .i64 p1) ∧ W.cell? ⟨w.heap.size, 1, none⟩ = some (.int .i64 p2)) := Lib.hid (fun W h => by
    have := (h.block _ (lt_of_heap HVh.out)).trans HVh.out
    exact ⟨(Lib.cell_of_heap this 0).trans rfl, (Lib.cell_of_heap this 1).trans rfl⟩)
  have HPA : Hid (∀ W, Below V.heap.size V W → PairsAt W lo L) := Lib.hid (fun W h => HRo.out.kept (below_up HVB.out h))
  have HK := Lib.hid (putK_next (p1, p2) L)
  have HKl := Lib.hid (putK_le (p1, p2) L)
  have HPB : Hid (putB L (p1, p2) = L.take (putK (p1, p2) L) ++ (p1, p2) :: L.drop (putK (p1, p2) L)) := Lib.hid rfl
  have hK0 : putK (p1, p2) (L.take 0) = 0 := rfl
  have HKa : Hid (putK (p1, p2) (L.take L.length) = putK (p1, p2) L) := Lib.hid (by rw [List.take_length])
  have HKb : Hid (∀ k, putK (p1, p2) (L.take k) ≤ L.length) := Lib.hid (fun k => Nat.le_trans (putK_le _ _) (by rw [List.length_take]; omega))
  clear hi hinfo hR hVh
  go_enter Tryz.func28, Tryz.ntmps28
  go_upto_region 1 with fail
  rw [← HV.out]
  go_wp2_with fail
  go_loopw [5, 6] (fun u v wr => ∃ (k q : Nat), k ≤ L.length ∧ q ≤ L.length ∧ u = .int .i64 q ∧ v = .int .i64 k ∧ Hid (q = putK (p1, p2) (L.take k)) ∧ Hid (Below V.heap.size V wr)) (fun _ v _ => L.length - (intOf v).toNat)
  case atStart => exact ⟨0, 0, Nat.zero_le _, Nat.zero_le _, rfl, rfl, Lib.hid hK0.symm, Lib.hid (Below.refl _ _)⟩
  case round =>
    obtain ⟨k, q, hk, hq, rfl, rfl, HQ, HB⟩ := hrel
    obtain ⟨x0, x1⟩ := HBox.out wr HB.out
    by_cases hlt : k < L.length
    · obtain ⟨⟨y1, y2⟩, hy⟩ : ∃ y, L[k]? = some y := ⟨_, List.getElem?_eq_getElem hlt⟩
      have hst := HK.out k _ hy
      rcases HPA.out wr HB.out with h0 | ⟨b, o, rfl, hA, hcell⟩
      · rw [h0] at hlt; simp at hlt
      obtain ⟨_, hd2⟩ := hcell k _ hy
      dsimp only at hd2 hst
      clear hcell hy
      by_cases hle : y2 ≤ p2
      · rw [if_pos hle] at hst
        have HQ2 : Hid (k + 1 = putK (p1, p2) (L.take (k + 1))) := Lib.hid hst.symm
        clear hst
        go_wp2_with fail
        go_quiet (fail)
        have HB2 : Hid (Below V.heap.size V (wr.drewN nq)) := Lib.hid (bdn HB.out)
        go_wp2_with fail
        go_roundw
        case rel => exact ⟨k + 1, k + 1, by omega, by omega, by go_num, by go_num, HQ2, HB2⟩
        case measure => simp [intOf]; omega
      · rw [if_neg hle, ← HQ.out] at hst
        have HQ2 : Hid (q = putK (p1, p2) (L.take (k + 1))) := Lib.hid hst.symm
        clear hst
        go_wp2_with fail
        go_quiet (fail)
        have HB2 : Hid (Below V.heap.size V (wr.drewN nq)) := Lib.hid (bdn HB.out)
        go_wp2_with fail
        go_roundw
        case rel => exact ⟨k + 1, q, by omega, hq, rfl, by go_num, HQ2, HB2⟩
        case measure => simp [intOf]; omega
    · obtain rfl : k = L.length := by omega
      have hqk : q = putK (p1, p2) L := by rw [HQ.out, HKa.out]
      have HPB2 : Hid (putB L (p1, p2) = L.take q ++ (p1, p2) :: L.drop q) := Lib.hid (by rw [HPB.out, hqk])
      clear hlt HQ hqk HPB HK HKl HKa HKb
      by_cases h0 : L = []
      · subst h0
        have hlo := hne rfl
        subst hlo
        have hlc := hnil rfl
        subst hlc
        have hq0 : q = 0 := by simp at hq; exact hq
        subst hq0
        have hws : w.heap.size ≤ wr.heap.size := Nat.le_trans HVB.out.size HB.out.size
        have HO1 := Lib.hid (own_newP wr w.heap.size hws)
        have b1 : Below wr.heap.size wr (wr.alloc (.cells #[] 36)) := (Below.refl _ wr).alloc (Nat.le_refl _) _
        have HB1 := Lib.hid (below_up HB.out b1)
        have hbs : w.heap.size ≤ (wr.alloc (.cells #[] 36)).heap.size := by simp; omega
        clear b1 hne hnil
        go_wp2_with (at_builtin; refine wpList_append_any rfl _ _ 28 rfl w.heap.size 36 i0 (.agg #[.int .i64 0, .int .i64 0]) 2 16 Tryz.underlying28 HI.out hz0 hz1 hz2 rfl (by decide) _ _ _ rfl HO1.out none 0 0 [] rfl (fun h => ⟨rfl, rfl⟩) rfl (fun ad h => by cases h) (fun u hu => by cases hu) (by unfold maxLen; omega) (by omega) hbs ?_)
        intro v1 w2 ho1 hg1
        obtain ⟨ao1, cp1, rfl⟩ := own_slice ho1
        have b2 : Below w.heap.size w w2 := ((show Below w.heap.size w (wr.alloc (.cells #[] 36)) from below_up HVB.out HB1.out)).grown hg1 hbs (fun k h => by cases h; exact hws)
        have bV2 : Below V.heap.size V w2 := HB1.out.grown hg1 (by have := HB.out.size; simp; omega) (fun k h => by cases h; exact HB.out.size)
        obtain ⟨x0', x1'⟩ := HBox.out w2 bV2
        have HB2 := Lib.hid b2
        have HO2 := Lib.hid (ho1.alloc (.cells #[Value.int .i64 p1, Value.int .i64 p2] 36))
        have HO2' := Lib.hid ho1
        have hw2 : w.heap.size ≤ w2.heap.size := b2.size
        have hbs2 : w.heap.size ≤ (w2.alloc (.cells #[Value.int .i64 p1, Value.int .i64 p2] 36)).heap.size := by simp; omega
        clear ho1 hg1 b2 bV2 HO1 hbs x0 x1
        go_wp2_with (at_builtin; refine wpList_append_own _ rfl _ _ 28 rfl w.heap.size 36 i0 (.agg #[.int .i64 0, .int .i64 0]) 2 16 Tryz.underlying28 HI.out hz0 hz1 hz2 rfl (by decide) _ _ _ rfl HO2.out ⟨w2.heap.size, 0, none⟩ 1 1 [Value.int .i64 p1, Value.int .i64 p2] rfl rfl (lit_cellP w2 _ _ _) (fun u hu => by simp at hu; rcases hu with rfl | rfl <;> rfl) (by unfold maxLen; omega) (by omega) hbs2 ?_)
        intro v2 w3 ho2 hg2 _
        obtain ⟨ao2, cp2, rfl⟩ := own_slice ho2
        have b3 : Below w.heap.size w w3 := own_grownI HB2.out hw2 HO2'.out hg2
        have HB3 := Lib.hid b3
        have HO3 := Lib.hid ho2
        have hw3 : w.heap.size ≤ w3.heap.size := b3.size
        clear ho2 hg2 b3
        go_wp2_with (at_builtin; refine wpList_append_any rfl _ _ 28 rfl w.heap.size 36 i0 (.agg #[.int .i64 0, .int .i64 0]) 2 16 Tryz.underlying28 HI.out hz0 hz1 hz2 rfl (by decide) _ _ _ rfl HO3.out none 0 0 [] rfl (fun h => ⟨rfl, rfl⟩) rfl (fun ad h => by cases h) (fun u hu => by cases hu) (by unfold maxLen; omega) (by omega) hw3 ?_)
        intro v3 w4 ho3 hg3
        have b4 : Below w.heap.size w w4 := HB3.out.grown hg3 hw3 (fun k h => (HO3.out.lt k h).1)
        have HE : Hid (OwnL w4 w.heap.size v3 (putB [] (p1, p2))) := Lib.hid (by
          unfold OwnL
          simpa [putB, putK, cellsP] using ho3)
        have HE2 := Lib.hid (OwnL.end_ HE.out b4)
        obtain ⟨ao3, cp3, rfl⟩ := own_slice ho3
        clear ho3 hg3 b4 HE
        go_wp2_with fail
        go_ret
        exact HE2.out
      · rcases HPA.out wr HB.out with h | ⟨b, o, rfl, hA, hcell⟩
        · exact absurd h h0
        clear hcell
        have hlp : 0 < L.length := List.length_pos_iff.2 h0
        have hws : w.heap.size ≤ wr.heap.size := Nat.le_trans HVB.out.size HB.out.size
        have HO1 := Lib.hid (own_newP wr w.heap.size hws)
        have b1 : Below wr.heap.size wr (wr.alloc (.cells #[] 36)) := (Below.refl _ wr).alloc (Nat.le_refl _) _
        have HP1 := Lib.hid ((HPA.out _ (below_up HB.out b1)).front q)
        have HB1 := Lib.hid (below_up HB.out b1)
        have htl : (L.take q).length = q := by rw [List.length_take]; omega
        have hcl : (cellsP (L.take q)).length = q * 2 := by rw [cellsP_length, htl]
        have hbs : w.heap.size ≤ (wr.alloc (.cells #[] 36)).heap.size := by simp; omega
        clear b1
        go_wp2_with (at_builtin; refine wpList_append_any rfl _ _ 28 rfl w.heap.size 36 i0 (.agg #[.int .i64 0, .int .i64 0]) 2 16 Tryz.underlying28 HI.out hz0 hz1 hz2 rfl (by decide) _ _ _ rfl HO1.out (some ⟨b, o, none⟩) q lc (cellsP (L.take q)) rfl (fun h => by cases h) hcl (fun ad h => by cases h; exact pairs_cells HP1.out) (cellsP_ones _) (by unfold maxLen; omega) (by omega) hbs ?_)
        intro v1 w2 ho1 hg1
        obtain ⟨ao1, cp1, rfl⟩ := own_slice ho1
        have b2 : Below w.heap.size w w2 := ((show Below w.heap.size w (wr.alloc (.cells #[] 36)) from below_up HVB.out HB1.out)).grown hg1 hbs (fun k h => by cases h; exact hws)
        have bV2 : Below V.heap.size V w2 := HB1.out.grown hg1 (by have := HB.out.size; simp; omega) (fun k h => by cases h; exact HB.out.size)
        obtain ⟨x0', x1'⟩ := HBox.out w2 bV2
        have HB2 := Lib.hid b2
        have HBV2 := Lib.hid bV2
        have HO2 := Lib.hid (ho1.alloc (.cells #[Value.int .i64 p1, Value.int .i64 p2] 36))
        have HO2' := Lib.hid ho1
        have hw2 : w.heap.size ≤ w2.heap.size := b2.size
        have hbs2 : w.heap.size ≤ (w2.alloc (.cells #[Value.int .i64 p1, Value.int .i64 p2] 36)).heap.size := by simp; omega
        clear ho1 hg1 b2 bV2 HO1 HP1 hbs x0 x1
        go_wp2_with (at_builtin; refine wpList_append_own _ rfl _ _ 28 rfl w.heap.size 36 i0 (.agg #[.int .i64 0, .int .i64 0]) 2 16 Tryz.underlying28 HI.out hz0 hz1 hz2 rfl (by decide) _ _ _ rfl HO2.out ⟨w2.heap.size, 0, none⟩ 1 1 [Value.int .i64 p1, Value.int .i64 p2] rfl rfl (lit_cellP w2 _ _ _) (fun u hu => by simp at hu; rcases hu with rfl | rfl <;> rfl) (by unfold maxLen; omega) (by omega) hbs2 ?_)
        intro v2 w3 ho2 hg2 _
        obtain ⟨ao2, cp2, rfl⟩ := own_slice ho2
        have b3 : Below w.heap.size w w3 := own_grownI HB2.out hw2 HO2'.out hg2
        have HB3 := Lib.hid b3
        have HO3 := Lib.hid ho2
        have hw3 : w.heap.size ≤ w3.heap.size := b3.size
        clear ho2 hg2 b3
        by_cases hql : q = lc
        · have hqL : q = L.length := by omega
          have hdr : L.drop q = [] := List.drop_eq_nil_of_le (by omega)
          have HDr := Lib.hid hdr
          have hql3 : lc = q := hql.symm
          subst hql3
          have hlq : L.length = lc := hqL.symm
          rw [hlq] at hq
          clear hdr hqL
          go_wp2_with (at_builtin; refine wpList_append_any rfl _ _ 28 rfl w.heap.size 36 i0 (.agg #[.int .i64 0, .int .i64 0]) 2 16 Tryz.underlying28 HI.out hz0 hz1 hz2 rfl (by decide) _ _ _ rfl HO3.out (some _) 0 _ [] rfl (fun h => by cases h) rfl (fun ad h j u hu => by simp at hu) (fun u hu => by cases hu) (by unfold maxLen; omega) (by omega) hw3 ?_)
          intro v3 w4 ho3 hg3
          have b4 : Below w.heap.size w w4 := HB3.out.grown hg3 hw3 (fun k h => (HO3.out.lt k h).1)
          have HE : Hid (OwnL w4 w.heap.size v3 (putB L (p1, p2))) := Lib.hid (by
            unfold OwnL
            rw [HPB2.out, cellsP_app, cellsP_cons]
            have hlen : (L.take lc ++ (p1, p2) :: L.drop lc).length = lc + 1 + 0 := by simp; omega
            rw [hlen]
            rw [HDr.out]; simpa [cellsP] using ho3)
          have HE2 := Lib.hid (OwnL.end_ HE.out b4)
          obtain ⟨ao3, cp3, rfl⟩ := own_slice ho3
          clear ho3 hg3 b4 HE
          go_wp2_with fail
          go_ret
          exact HE2.out
        · have hql2 : q < lc := by omega
          have hnq : (q : Int) ≤ (lc : Int) := by omega
          have HP3 := Lib.hid ((HRo.out.kept HB3.out).rest q)
          have hdl : (L.drop q).length = L.length - q := List.length_drop ..
          have hcl2 : (cellsP (L.drop q)).length = (L.length - q) * 2 := by rw [cellsP_length, hdl]
          go_wp2_with (at_builtin; refine wpList_append_any rfl _ _ 28 rfl w.heap.size 36 i0 (.agg #[.int .i64 0, .int .i64 0]) 2 16 Tryz.underlying28 HI.out hz0 hz1 hz2 rfl (by decide) _ _ _ rfl HO3.out (some ⟨b, o + q * 2, none⟩) (L.length - q) _ (cellsP (L.drop q)) rfl (fun h => by cases h) hcl2 (fun ad h => by cases h; exact pairs_cells HP3.out) (cellsP_ones _) (by unfold maxLen; omega) (by omega) hw3 ?_)
          intro v3 w4 ho3 hg3
          have b4 : Below w.heap.size w w4 := HB3.out.grown hg3 hw3 (fun k h => (HO3.out.lt k h).1)
          have HE : Hid (OwnL w4 w.heap.size v3 (putB L (p1, p2))) := Lib.hid (by
            unfold OwnL
            rw [HPB2.out, cellsP_app, cellsP_cons]
            have hlen : (L.take q ++ (p1, p2) :: L.drop q).length = q + 1 + (L.length - q) := by simp; omega
            rw [hlen]
            simpa using ho3)
          have HE2 := Lib.hid (OwnL.end_ HE.out b4)
          obtain ⟨ao3, cp3, rfl⟩ := own_slice ho3
          clear ho3 hg3 b4 HE
          go_wp2_with fail
          go_ret
          exact HE2.out

theorem sortB_step (l : PL) (k : Nat) (p : Int × Int) (h : l[k]? = some p) : sortB ((l.take (k + 1)).map swapP) = putB (sortB ((l.take k).map swapP)) (swapP p) := by
  obtain ⟨hk, e⟩ := List.getElem?_eq_some_iff.1 h
  rw [List.take_succ_eq_append_getElem hk, e, List.map_append]
  exact sortB_snoc _ _

end Go.Proofs.YtigijgcldgbokaaGreat
