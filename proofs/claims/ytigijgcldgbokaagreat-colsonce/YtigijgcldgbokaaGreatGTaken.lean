/-
  Which choices are taken: the map that the program makes of them.
  Conditions: lists of at most 2^30 choices of Go integers.
-/
import Derived.Maps.Own
import Derived.Maps.OwnOps
import Derived.Maps.OwnSet
import Derived.Maps.Views
import Derived.StillTailTactics
import Derived.Deep.RegionWith
import Derived.Deep.RegionHeld3
import Derived.Deep.Cut
import Derived.Test.YtigijgcldgbokaaGreatProg
import Derived.Test.YtigijgcldgbokaaGreatGList
import Derived.Test.YtigijgcldgbokaaGreatGSort
namespace Go.Proofs.YtigijgcldgbokaaGreat
open Go.RowKit Go.Shelf Go.Maps
set_option linter.unusedVariables false

theorem firstB_none (tk : PL) (z : Int) : firstB tk z = none ↔ z ∉ tk.map Prod.snd := by
  unfold firstB
  rw [Option.map_eq_none_iff, List.find?_eq_none]
  constructor
  · intro h hm
    obtain ⟨p, hp, e⟩ := List.mem_map.1 hm
    exact h p hp (by simp [e])
  · intro h p hp e
    exact h (List.mem_map.2 ⟨p, hp, by simpa using e⟩)
theorem step_no (tk : PL) (c : T3) (h : okT tk c = false) : stepT tk c = tk := by simp [stepT, h]
theorem step_yes (tk : PL) (c : T3) (h : okT tk c = true) : stepT tk c = tk ++ [(c.1, c.2.1)] := by simp [stepT, h]
theorem ok_no (tk : PL) (c : T3) (h : c.1 < 0 ∨ c.2.1 < 0 ∨ c.1 ∈ tk.map Prod.fst ∨ c.2.1 ∈ tk.map Prod.snd) : okT tk c = false := by
  cases hc : okT tk c with
  | false => rfl
  | true =>
    obtain ⟨h1, h2, h3, h4⟩ := (ok_iff tk c).1 hc
    rcases h with h | h | h | h
    · omega
    · omega
    · exact absurd h h3
    · exact absurd h h4
theorem scan_next (S : TL) (k : Nat) (c : T3) (hc : S[k]? = some c) : scanT (S.take (k + 1)) = stepT (scanT (S.take k)) c := by
  obtain ⟨hk, e⟩ := List.getElem?_eq_some_iff.1 hc
  rw [List.take_succ_eq_append_getElem hk, e, scan_snoc]
theorem SetIs.more {D : DataW Unit} {L : List Int} (h : SetIs D L) (x : Int) (hx : x ∉ L) : SetIs (D.put (.int .i64 x) (.lit (.bool true))) (L ++ [x]) := by
  have := h.put x
  rwa [show addZ L x = L ++ [x] from by simp [addZ, hx]] at this
theorem OwnT.grown {w w' : World} {base : Nat} {T : TypeId} {g n : Nat} {l : TL} {r : Nat} (h : OwnT w base T g n l) (hg : w.grownBy w' (some r)) (hne : g ≠ r) : OwnT w' base T g n l :=
  ⟨h.len, h.own.kept hg (by simp [Value.ownBlock, hne])⟩
/-- the map of those that are taken: each B with its A -/
def TakOut (tk : PL) (n : Nat) (w : World) (e : Ending) (w' : World) : Prop := ∃ B D, e = .returned (.map (some B)) ∧ w.heap.size ≤ B ∧ w'.ownsMap Tryz.prog 3 (plainElem Tryz.prog 3) B n D ∧ FirstIs D tk ∧ Below w.heap.size w w'

set_option maxRecDepth 100000 in
set_option maxHeartbeats 2000000 in
theorem taken_any (ao : Option Addr) (cap : Nat) (xs : TL) (w : World) (hn : xs.length ≤ 1073741824) (hs : okT3 xs) (hR : TripAt w ao xs) :
    Calls Tryz.prog 93 #[.slice ao xs.length cap] w (TakOut (scanT (sortT xs)) xs.length w) := by
  have C1 := Lib.hid (glist_any ao cap xs w hn hR)
  have C2 := Lib.hid (fun base g V h => gsort_any base g xs.length xs V hn h)
  have HSo : Hid (okT3 (sortT xs)) := Lib.hid (fun c hc => hs c ((sortT_perm xs).mem_iff.1 hc))
  have hSl := sortT_len xs
  obtain ⟨S, HS⟩ : ∃ S, Hid (S = sortT xs) := ⟨_, Lib.hid rfl⟩
  rw [← HS.out] at C2 HSo hSl ⊢
  have HSl := Lib.hid hSl
  have hmm := @run_makeMap Tryz.prog
  clear hR hs hSl HS
  go_enter Tryz.func93, Tryz.ntmps93
  go_wp2_with fail
  go_step3
  go_wp2_with fail
  refine C1.out.mono ?_; rintro e w1 ⟨g, rfl, h1, h2⟩
  have HO := Lib.hid h1
  have HB1 := Lib.hid h2
  have hg1 := h1.lt
  clear h1 h2 C1
  go_wp2_with fail
  refine (C2.out _ _ _ HO.out).mono ?_; rintro e w2 ⟨rfl, h1, h2⟩
  have HO2 := Lib.hid h1
  have HB2 := Lib.hid (HB1.out.grown h2 HB1.out.size (fun k h => by cases h; exact hg1.1))
  have hg2 := h1.lt
  clear h1 h2 HO HB1 hg1 C2
  go_wp2_with fail
  obtain ⟨X, hX⟩ : ∃ X, X = w2.heap.size := ⟨_, rfl⟩
  have HA : Hid (((w2.alloc (.map #[] 0)).alloc (.map #[] 0)).ownsMap Tryz.prog 3 (plainElem Tryz.prog 3) X 0 (.map [] : DataW Unit)) := Lib.hid (by rw [hX]; exact (World.ownsMap_made w2 _ _ _).alloc _)
  have HP : Hid (((w2.alloc (.map #[] 0)).alloc (.map #[] 0)).ownsMap Tryz.prog 3 (plainElem Tryz.prog 4) (X + 1) 0 (.map [] : DataW Unit)) := Lib.hid (by have := World.ownsMap_made (H := Unit) (w2.alloc (.map #[] 0)) Tryz.prog 3 (plainElem Tryz.prog 4); rw [World.size_alloc, ← hX] at this; exact this)
  have hbm : Below w2.heap.size w2 ((w2.alloc (.map #[] 0)).alloc (.map #[] 0)) := two_below w2 _ _
  have HB : Hid (Below w.heap.size w ((w2.alloc (.map #[] 0)).alloc (.map #[] 0))) := Lib.hid (below_up HB2.out hbm)
  have HO : Hid (OwnT ((w2.alloc (.map #[] 0)).alloc (.map #[] 0)) w.heap.size 152 g xs.length S) := Lib.hid (HO2.out.kept hbm)
  have HX : Hid (w.heap.size ≤ g ∧ g < X) := Lib.hid ⟨hg2.1, by rw [hX]; exact hg2.2⟩
  rw [← hX]
  clear hX hbm hg2 HO2 HB2
  go_step3
  go_wp2_with fail
  go_loopw [18] (fun i wr => ∃ (k : Nat) (D E : DataW Unit), k ≤ xs.length ∧ i = .int .i64 k ∧ Hid (Below w.heap.size w wr) ∧ Hid (OwnT wr w.heap.size 152 g xs.length S) ∧ Hid (wr.ownsMap Tryz.prog 3 (plainElem Tryz.prog 3) X k D) ∧ Hid (wr.ownsMap Tryz.prog 3 (plainElem Tryz.prog 4) (X + 1) k E) ∧ Hid (FirstIs D (scanT (S.take k))) ∧ Hid (SetIs E ((scanT (S.take k)).map Prod.fst))) (fun i _ => xs.length - (intOf i).toNat)
  case atStart => exact ⟨0, _, _, Nat.zero_le _, rfl, HB, HO, HA, HP, Lib.hid FirstIs.empty, Lib.hid SetIs.empty⟩
  case round =>
    clear HB HO HA HP
    obtain ⟨k, D, E, hk, rfl, HB, HO, HA, HP, HD, HE⟩ := hrel
    by_cases hlt : k < xs.length
    · obtain ⟨⟨x1, x2, x3⟩, hx⟩ : ∃ x, S[k]? = some x := ⟨_, List.getElem?_eq_getElem (by rw [HSl.out]; exact hlt)⟩
      obtain ⟨hc1, hc2, hc3⟩ := HO.out.cell k _ hx
      have HW := Lib.hid (HSo.out _ (List.mem_of_getElem? hx))
      have HN := Lib.hid (scan_next S k _ hx)
      obtain ⟨tk, htk⟩ : ∃ tk, tk = scanT (S.take k) := ⟨_, rfl⟩
      rw [← htk] at HD HE HN
      dsimp only at hc1 hc2 hc3
      obtain ⟨V, HV⟩ : ∃ V, Hid (V = wr.alloc (.cells #[.int .i64 x1, .int .i64 x2, .int .i64 x3] 152)) := ⟨_, Lib.hid rfl⟩
      have hVh : V.heap[wr.heap.size]? = some (.cells #[.int .i64 x1, .int .i64 x2, .int .i64 x3] 152 (0, 0)) := by rw [HV.out]; exact World.alloc_heap_new _ _
      have v0 : V.cell? ⟨wr.heap.size, 0, none⟩ = some (.int .i64 x1) := (Lib.cell_of_heap hVh 0).trans rfl
      have v1 : V.cell? ⟨wr.heap.size, 1, none⟩ = some (.int .i64 x2) := (Lib.cell_of_heap hVh 1).trans rfl
      have v2 : V.cell? ⟨wr.heap.size, 2, none⟩ = some (.int .i64 x3) := (Lib.cell_of_heap hVh 2).trans rfl
      have hbV : Below wr.heap.size wr V := by rw [HV.out]; exact (Below.refl _ wr).alloc (Nat.le_refl _) _
      have HVA := Lib.hid (ownsMap_below HA.out hbV)
      have HVP := Lib.hid (ownsMap_below HP.out hbV)
      have HVO := Lib.hid (HO.out.kept hbV)
      have HVB := Lib.hid (below_up HB.out hbV)
      have HVlt := Lib.hid (lt_of_heap hVh)
      have HXr := Lib.hid (show X < wr.heap.size ∧ X + 1 < wr.heap.size from ⟨HA.out.lt, HP.out.lt⟩)
      have l1 := first_look HVA.out HD.out x2 HW.out.2.1
      have l2 := set_look HVP.out HE.out x1 HW.out.1
      have HVA1 := Lib.hid (HVA.out.mono (Nat.le_succ k))
      have HVP1 := Lib.hid (HVP.out.mono (Nat.le_succ k))
      have HSk : Hid (okT tk (x1, x2, x3) = false → FirstIs D (scanT (S.take (k + 1))) ∧ SetIs E ((scanT (S.take (k + 1))).map Prod.fst)) := Lib.hid (fun h => by rw [HN.out, step_no _ _ h]; exact ⟨HD.out, HE.out⟩)
      have HNo := Lib.hid (fun h => ok_no tk (x1, x2, x3) h)
      have HFn := Lib.hid (firstB_none tk x2)
      have HYe := Lib.hid (fun h1 h2 h3 h4 => step_yes tk (x1, x2, x3) ((ok_iff tk (x1, x2, x3)).2 ⟨h1, h2, h3, h4⟩))
      dsimp only at HNo HYe
      generalize firstB tk x2 = fx at l1 HFn
      clear hx hbV hVh HA HP HO HB htk
      by_cases h1 : x1 < 0
      · obtain ⟨k1, k2⟩ := HSk.out (HNo.out (.inl h1))
        have K1 := Lib.hid k1
        have K2 := Lib.hid k2
        clear k1 k2
        go_upto_region 7 with fail
        rw [← HV.out]
        go_wp2_with fail
        go_roundw
        case rel => exact ⟨k + 1, D, E, by omega, by go_num, HVB, HVO, HVA1, HVP1, K1, K2⟩
        case measure => simp [intOf]; omega
      by_cases h2 : x2 < 0
      · obtain ⟨k1, k2⟩ := HSk.out (HNo.out (.inr (.inl h2)))
        have K1 := Lib.hid k1
        have K2 := Lib.hid k2
        clear k1 k2
        go_upto_region 7 with fail
        rw [← HV.out]
        go_wp2_with fail
        go_roundw
        case rel => exact ⟨k + 1, D, E, by omega, by go_num, HVB, HVO, HVA1, HVP1, K1, K2⟩
        case measure => simp [intOf]; omega
      by_cases h3 : x1 ∈ tk.map Prod.fst
      · obtain ⟨k1, k2⟩ := HSk.out (HNo.out (.inr (.inr (.inl h3))))
        have K1 := Lib.hid k1
        have K2 := Lib.hid k2
        rw [decide_eq_true h3] at l2
        clear k1 k2 h3
        go_upto_region 7 with fail
        rw [← HV.out]
        go_wp2_with fail
        go_roundw
        case rel => exact ⟨k + 1, D, E, by omega, by go_num, HVB, HVO, HVA1, HVP1, K1, K2⟩
        case measure => simp [intOf]; omega
      rw [decide_eq_false h3] at l2
      cases fx with
      | some a =>
        obtain ⟨k1, k2⟩ := HSk.out (HNo.out (.inr (.inr (.inr (Classical.not_not.1 (fun h => by have := HFn.out.2 h; cases this))))))
        have K1 := Lib.hid k1
        have K2 := Lib.hid k2
        clear k1 k2 h3
        go_upto_region 7 with fail
        rw [← HV.out]
        go_wp2_with fail
        go_roundw
        case rel => exact ⟨k + 1, D, E, by omega, by go_num, HVB, HVO, HVA1, HVP1, K1, K2⟩
        case measure => simp [intOf]; omega
      | none =>
        have h4 := HFn.out.1 rfl
        have HSt := Lib.hid (HN.out.trans (HYe.out (by omega) (by omega) h3 h4))
        have HD2 : Hid (FirstIs (D.put (.int .i64 x2) (.lit (.int .i64 x1))) (scanT (S.take (k + 1)))) := Lib.hid (by rw [HSt.out]; exact HD.out.put (x1, x2) ((firstB_none tk x2).2 h4))
        have HE2 : Hid (SetIs (E.put (.int .i64 x1) (.lit (.bool true))) ((scanT (S.take (k + 1))).map Prod.fst)) := Lib.hid (by rw [HSt.out, List.map_append]; exact HE.out.more x1 h3)
        have hkm : k < maxLen := by unfold maxLen; omega
        obtain ⟨w1, r1, o1, g1⟩ := HVA.out.drew.update (int_keyed Tryz.underlying3) Tryz.underlying117 hkm (keyOf_int_mk Tryz.underlying3 HW.out.2.1) (plainElem_int Tryz.underlying3 HW.out.1)
        have p1 := HVP.out.drew.kept g1 (by simp)
        obtain ⟨w2, r2, o2, g2⟩ := p1.update (int_keyed Tryz.underlying3) Tryz.underlying101 hkm (keyOf_int_mk Tryz.underlying3 HW.out.1) (plainElem_bool Tryz.underlying4 true)
        have q2 := o1.kept g2 (by simp)
        have hX := HX.out
        have hXr := HXr.out
        have hVlt := HVlt.out
        have B1 : Below w.heap.size w w1 := (show Below w.heap.size w V.drew from bdn (n := 1) HVB.out).grown g1 HVB.out.size (fun k h => by cases h; omega)
        have B2 : Below w.heap.size w w2 := B1.grown g2 B1.size (fun k h => by cases h; omega)
        have T1 : OwnT w1 w.heap.size 152 g xs.length S := OwnT.grown (w := V.drew) (HVO.out.kept (show Below V.heap.size V V.drew from bdn (n := 1) (Below.refl _ V))) g1 (by omega)
        have T2 := T1.grown g2 (by omega)
        have c0 : w1.cell? ⟨wr.heap.size, 0, none⟩ = some (.int .i64 x1) := Go.Proofs.YtigijgcldgbokaaGreat.cell_grown (W := V.drew) v0 g1 (by simp; omega)
        have c1 : w1.cell? ⟨wr.heap.size, 1, none⟩ = some (.int .i64 x2) := Go.Proofs.YtigijgcldgbokaaGreat.cell_grown (W := V.drew) v1 g1 (by simp; omega)
        have d0 : w2.cell? ⟨wr.heap.size, 0, none⟩ = some (.int .i64 x1) := Go.Proofs.YtigijgcldgbokaaGreat.cell_grown c0 g2 (by simp; omega)
        have d1 : w2.cell? ⟨wr.heap.size, 1, none⟩ = some (.int .i64 x2) := Go.Proofs.YtigijgcldgbokaaGreat.cell_grown c1 g2 (by simp; omega)
        have HQ := Lib.hid q2
        have HR2 := Lib.hid o2
        have HB2 := Lib.hid B2
        have HT2 := Lib.hid T2
        clear h3 h4 HSt HD HE HN HNo HYe HFn HSk q2 o2 o1 p1 B1 B2 g1 g2 T1 T2 hX hXr hVlt HVA HVP HVA1 HVP1
        go_upto_region 7 with fail
        rw [← HV.out]
        go_upto_region 12 with fail
        go_region_held3 (fun W => W.cell? ⟨wr.heap.size, 0, none⟩ = some (.int .i64 x1) ∧ W.cell? ⟨wr.heap.size, 1, none⟩ = some (.int .i64 x2)) ((refine ⟨?_, ?_⟩ <;> first | assumption | go_keep)) (fail)
        go_wp2_with fail
        go_roundw
        case rel => exact ⟨k + 1, _, _, by omega, by go_num, HB2, HT2, HQ, HR2, HD2, HE2⟩
        case measure => simp [intOf]; omega
    · obtain rfl : k = xs.length := by omega
      have HZ : Hid (TakOut (scanT S) xs.length w (.returned (.map (some X))) wr) := Lib.hid ⟨X, D, rfl, by have := HX.out; omega, HA.out, by have := HD.out; rwa [List.take_of_length_le (by rw [HSl.out]; exact Nat.le_refl _)] at this, HB.out⟩
      clear HB HO HA HP HD HE
      go_wp2_with fail
      go_ret
      try rw [Exit.noGoto_ret]
      exact HZ.out
end Go.Proofs.YtigijgcldgbokaaGreat
