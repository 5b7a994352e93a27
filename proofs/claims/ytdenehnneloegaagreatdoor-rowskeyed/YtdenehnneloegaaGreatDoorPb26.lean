/-
  Texts of these rows' proofs, laid one behind the other: CFirst, CNamed, CShelf, CCat.
  Conditions: those of each theorem.
-/
import Derived.Maps.OwnSet
import Derived.WalkKit
import Derived.WalkMore
import Derived.IntWalk
import Derived.WalkArith
import Derived.OwnWalk
import Derived.Lib.Hide
import Derived.Test.YtdenehnneloegaaGreatDoorProg
import Derived.Test.YtdenehnneloegaaGreatDoorPb25
import Derived.Deep.OwnRows
import Derived.Shelf.SlSortCmp.NoneTotal
import Derived.Lib.SliceRun
import Derived.Lib.AppendZerosOnto
import Derived.Laws.AppendOwn
namespace Go.Proofs.YtdenehnneloegaaGreatDoor
open Go.RowKit Go.Shelf Go.Maps
set_option linter.unusedVariables false
abbrev TxtKC := List UInt8
theorem keySKC (l : TxtKC) : WideAt.IsKeyLit (.string l) := by first | exact trivial | constructor | simp [WideAt.IsKeyLit]
/-- the first place of a text; -1, if there is none -/
def findTC (xs : List ByteArray) (l : TxtKC) : Int := firstAt (fun c => decide (c.data.toList = l)) xs
theorem find_textC (xs : List ByteArray) (s : ByteArray) : findL xs s = findTC xs s.data.toList := rfl
theorem find_rangeC (xs : List ByteArray) (l : TxtKC) : findTC xs l = -1 ∨ (0 ≤ findTC xs l ∧ findTC xs l < (xs.length : Int)) := by
  unfold findTC firstAt
  cases h : xs.findIdx? (fun c => decide (c.data.toList = l)) with
  | none => exact .inl rfl
  | some i =>
    obtain ⟨hi, _⟩ := List.findIdx?_eq_some_iff_getElem.1 h
    exact .inr ⟨by show (0 : Int) ≤ (i : Int); omega, by show (i : Int) < _; omega⟩
theorem find_snocC (xs : List ByteArray) (x : ByteArray) (l : TxtKC) : findTC (xs ++ [x]) l = if 0 ≤ findTC xs l then findTC xs l else if x.data.toList = l then (xs.length : Int) else -1 := by
  unfold findTC firstAt
  rw [List.findIdx?_append]
  cases h : xs.findIdx? (fun c => decide (c.data.toList = l)) with
  | some i =>
    simp only [Option.some_or]
    rw [if_pos (by omega)]
  | none =>
    simp only [Option.none_or]
    rw [if_neg (by omega)]
    by_cases hx : x.data.toList = l
    · rw [if_pos hx]; simp [List.findIdx?_cons, hx]
    · rw [if_neg hx]; simp [List.findIdx?_cons, hx]
/-- a map of the first places of texts -/
structure FirstsIsC (D : DataW Unit) (xs : List ByteArray) : Prop where
  tidy : Tidy D
  look : ∀ l, D.atKey (.string l) (.lit (.int .i64 0)) = .lit (.int .i64 (if 0 ≤ findTC xs l then findTC xs l else 0))
  here : ∀ l, has D (.string l) = decide (0 ≤ findTC xs l)
theorem FirstsIsC.empty : FirstsIsC (.map []) [] := ⟨tidy_empty, fun z => rfl, fun z => rfl⟩
theorem FirstsIsC.old {D : DataW Unit} {xs : List ByteArray} (h : FirstsIsC D xs) (x : ByteArray) (hx : 0 ≤ findTC xs x.data.toList) : FirstsIsC D (xs ++ [x]) := by
  have e : ∀ l, findTC (xs ++ [x]) l = findTC xs l := fun l => by
    rw [find_snocC]
    by_cases h0 : 0 ≤ findTC xs l
    · rw [if_pos h0]
    · rw [if_neg h0]
      by_cases hl : x.data.toList = l
      · subst hl; exact absurd hx h0
      · rw [if_neg hl]; rcases find_rangeC xs l with h1 | h1
        · exact h1.symm
        · exact absurd h1.1 h0
  exact ⟨h.tidy, fun l => by rw [e]; exact h.look l, fun l => by rw [e]; exact h.here l⟩
theorem FirstsIsC.put {D : DataW Unit} {xs : List ByteArray} (h : FirstsIsC D xs) (x : ByteArray) (hx : ¬ 0 ≤ findTC xs x.data.toList) : FirstsIsC (D.put (.string x.data.toList) (.lit (.int .i64 (xs.length : Int)))) (xs ++ [x]) := by
  refine ⟨h.tidy.put (keySKC _) _, fun z => ?_, fun z => ?_⟩
  · by_cases e : z = x.data.toList
    · subst e
      rw [atKey_put_same h.tidy.isMap (keySKC _), find_snocC, if_neg hx, if_pos rfl, if_pos (by omega)]
    · rw [atKey_put_other (fun e' => e (by injection e')), h.look, find_snocC]
      by_cases h0 : 0 ≤ findTC xs z
      · rw [if_pos h0, if_pos h0, if_pos h0]
      · have e2 : ¬ x.data.toList = z := fun e' => e e'.symm
        simp [h0, e2]
  · by_cases e : z = x.data.toList
    · subst e
      rw [has_put_same h.tidy.isMap (keySKC _), find_snocC, if_neg hx, if_pos rfl]
      exact (decide_eq_true (by omega)).symm
    · rw [has_put_other (fun e' => e (by injection e')), h.here, find_snocC]
      by_cases h0 : 0 ≤ findTC xs z
      · rw [if_pos h0]
      · rw [if_neg h0, if_neg (fun e' => e e'.symm)]
        simp only [h0, decide_false]; rfl
set_option maxRecDepth 100000 in
theorem firsts_lookC {w : World} {b k : Nat} {D : DataW Unit} {xs : List ByteArray} (h : w.ownsMap Tryz.prog 9 (plainElem Tryz.prog 3) b k D) (hS : FirstsIsC D xs) (x : ByteArray) (hx : x.size ≤ maxLen) :
    (Instr.lookup 95 (.map (some b)) (.string x) true).run Tryz.prog w = .ok (.tuple #[.int .i64 (if 0 ≤ findL xs x then findL xs x else 0), .bool (decide (0 ≤ findL xs x))]) w := by
  obtain ⟨v, ps, hrun, hv⟩ := h.look_ok (string_keyed Tryz.underlying9) Tryz.underlying95 (z := .int .i64 0) (Tryz.zeroValue3 _) (plainElem_int Tryz.underlying3 (by decide)) (Go.WideMaps.keyOf_string_mk Tryz.underlying9 hx)
  obtain ⟨c, rfl, hc, _⟩ := plainElem_int_inv Tryz.underlying3 hv
  simp only [Prod.mk.injEq] at hc
  rw [hS.look] at hc
  have e : (if 0 ≤ findTC xs x.data.toList then findTC xs x.data.toList else 0) = c := by have := hc.1; injection this with h1; injection h1
  rw [hS.here] at hrun
  rw [find_textC, e]; exact hrun
set_option maxRecDepth 100000 in
theorem run_makeMap_hintC (n : Int) (w : World) : (Instr.makeMap 95 (some (.int .i64 n))).run Tryz.prog w = .ok (.map (some w.heap.size)) (w.alloc (.map #[] 0)) := by
  simp [Instr.makeMap, run_underlying Tryz.underlying95, asInt, newObj, go_sem]
  rfl
/-- the map that the program makes of a head -/
def FirstsOutC (hd : List ByteArray) (w : World) (e : Ending) (w' : World) : Prop := ∃ (b kk : Nat) (D : DataW Unit), e = .returned (.map (some b)) ∧ w.heap.size ≤ b ∧ w'.ownsMap Tryz.prog 9 (plainElem Tryz.prog 3) b kk D ∧ FirstsIsC D hd ∧ Below w.heap.size w w'
set_option maxRecDepth 100000 in
set_option maxHeartbeats 4000000 in
theorem firsts_anyC (ao : Option Addr) (cap : Nat) (xs : List ByteArray) (w : World) (hn : xs.length ≤ 8796093022208) (hs : ∀ c ∈ xs, c.size ≤ maxLen) (hR : StrRow w ao xs) :
    Calls Tryz.prog 63 #[.slice ao xs.length cap] w (FirstsOutC xs w) := by
  have HRo := Lib.hid hR
  have HSo := Lib.hid hs
  have hmm := run_makeMap_hintC
  clear hR hs
  go_enter Tryz.func63, Tryz.ntmps63
  go_wp2_with fail
  have HO : Hid ((w.alloc (.map #[] 0)).ownsMap Tryz.prog 9 (plainElem Tryz.prog 3) w.heap.size 0 (.map [] : DataW Unit)) := Lib.hid (World.ownsMap_made w _ _ _)
  have HB : Hid (Below w.heap.size w (w.alloc (.map #[] 0))) := Lib.hid ((Below.refl _ w).alloc (Nat.le_refl _) _)
  go_loopw [13] (fun j wr => ∃ (k kk : Nat) (D : DataW Unit), k ≤ xs.length ∧ kk ≤ k ∧ j = .int .i64 k ∧ Hid (Below w.heap.size w wr) ∧ Hid (wr.ownsMap Tryz.prog 9 (plainElem Tryz.prog 3) w.heap.size kk D) ∧ Hid (FirstsIsC D (xs.take k))) (fun j _ => xs.length - (intOf j).toNat)
  case atStart => exact ⟨0, 0, _, Nat.zero_le _, Nat.le_refl _, rfl, HB, HO, Lib.hid FirstsIsC.empty⟩
  case round =>
    obtain ⟨k, kk, D, hk, hkk, rfl, HB, HO, HD⟩ := hrel
    by_cases hlt : k < xs.length
    · obtain ⟨x, hx⟩ : ∃ x, xs[k]? = some x := ⟨_, List.getElem?_eq_getElem hlt⟩
      have htk : xs.take (k + 1) = xs.take k ++ [x] := by rw [List.take_add_one, hx]; rfl
      have htl : (xs.take k).length = k := by rw [List.length_take]; omega
      have HTK := Lib.hid htk
      have HTL := Lib.hid htl
      have hxs := HSo.out x (List.mem_of_getElem? hx)
      have HXs := Lib.hid hxs
      have hrun := firsts_lookC HO.out HD.out x hxs
      rcases (HRo.out.kept HB.out) with h0 | ⟨A, rfl, hA, hcell⟩
      · rw [h0] at hlt; simp at hlt
      have hc := hcell k x hx
      clear hcell hx htk htl hxs
      by_cases hf : 0 ≤ findL (xs.take k) x
      · rw [if_pos hf, decide_eq_true hf] at hrun
        have HD' : Hid (FirstsIsC D (xs.take (k + 1))) := Lib.hid (by rw [HTK.out]; exact HD.out.old x hf)
        obtain ⟨y, hy⟩ : ∃ y, y = findL (xs.take k) x := ⟨_, rfl⟩
        rw [← hy] at hrun
        clear hy hf
        go_wp2_with fail
        go_roundw
        case rel => exact ⟨k + 1, kk, D, by omega, by omega, by go_num, HB, HO, HD'⟩
        case measure => simp [intOf]; omega
      · rw [if_neg hf, decide_eq_false hf] at hrun
        have HD' : Hid (FirstsIsC (D.put (.string x.data.toList) (.lit (.int .i64 (k : Int)))) (xs.take (k + 1))) := Lib.hid (by
          rw [HTK.out]
          have := HD.out.put x hf
          rw [HTL.out] at this; exact this)
        have hkm : kk < maxLen := by unfold maxLen; omega
        have HK := Lib.hid (Go.WideMaps.keyOf_string_mk (P := Tryz.prog) Tryz.underlying9 HXs.out)
        have HW := Lib.hid (Go.WalkArith.wf_i64 (n := (k : Int)) (by omega))
        clear hf
        go_wp2_with (at_mapUpdate; refine wpList_mapUpdate_own _ rfl _ _ _ 95 rfl 9 3 (string_keyed Tryz.underlying9) Tryz.underlying95 _ w.heap.size kk D rfl HO.out hkm _ _ (.string x.data.toList) rfl rfl HK.out (.lit (.int .i64 (k : Int))) [] (plainElem_int Tryz.underlying3 HW.out) ?_; intro w1 ho hg)
        have HB' := Lib.hid (HB.out.grown hg HB.out.size (fun k h => by cases h; exact Nat.le_refl _))
        have HO' : Hid (∃ kk', kk' ≤ k + 1 ∧ w1.ownsMap Tryz.prog 9 (plainElem Tryz.prog 3) w.heap.size kk' (D.put (.string x.data.toList) (.lit (.int .i64 (k : Int))))) := Lib.hid ⟨_, by first | omega | (split <;> omega), ho⟩
        obtain ⟨kk', hk', ho'⟩ := HO'.out
        have HO2 := Lib.hid ho'
        clear ho hg ho' HO'
        go_wp2_with fail
        go_roundw
        case rel => exact ⟨k + 1, kk', _, by omega, by omega, by go_num, HB', HO2, HD'⟩
        case measure => simp [intOf]; omega
    · have hke : k = xs.length := by omega
      have HE : Hid (FirstsOutC xs w (.returned (.map (some w.heap.size))) wr) := Lib.hid ⟨_, kk, D, rfl, Nat.le_refl _, HO.out, by have := HD.out; rw [hke, List.take_length] at this; exact this, HB.out⟩
      go_wp2_with fail
      go_ret
      exact HE.out
end Go.Proofs.YtdenehnneloegaaGreatDoor
namespace Go.Proofs.YtdenehnneloegaaGreatDoor
open Go.RowKit Go.Shelf Go.Maps
set_option linter.unusedVariables false
theorem ownsMapC_below {H : Type} {P : Program} {k : TypeId} {R : Value → Option (DataW H × List MemPlace)} {b n : Nat} {D : DataW H} {w w' : World} (h : w.ownsMap P k R b n D) (hB : Below w.heap.size w w') : w'.ownsMap P k R b n D :=
  h.kept (row := none) ⟨hB.os, hB.tape, hB.output, hB.size, fun k hk _ => hB.block k hk⟩ (by simp)
set_option maxRecDepth 100000 in
set_option maxHeartbeats 4000000 in
theorem named_any (ho : Option Addr) (hc : Nat) (ha : List ByteArray) (ro : Option Addr) (m rc : Nat) (bo : Option Addr) (bc : Nat) (hb : List ByteArray) (so : Option Addr) (sn sc : Nat) (w : World) (hn : ha.length ≤ 8796093022208) (hn2 : hb.length ≤ 8796093022208)
    (hs : ∀ c ∈ ha, c.size ≤ maxLen) (hs2 : ∀ c ∈ hb, c.size ≤ maxLen) (hH : StrRow w ho ha) (hR : StrRow w bo hb) :
    Calls Tryz.prog 20 #[.agg #[.slice ho ha.length hc, .slice ro m rc], .agg #[.slice bo hb.length bc, .slice so sn sc]] w (PairsOut (namedL ha hb) w) := by
  obtain ⟨W, HW⟩ : ∃ W, Hid (W = (w.alloc (TabO ho ha.length hc ro m rc)).alloc (TabO bo hb.length bc so sn sc)) := ⟨_, Lib.hid rfl⟩
  have hB : Below w.heap.size w W := by rw [HW.out]; exact two_below _ _ _
  have HB0 := Lib.hid hB
  have hN := two_new w (TabO ho ha.length hc ro m rc) (TabO bo hb.length bc so sn sc)
  rw [← HW.out] at hN
  have box : Hid (∀ V, Below W.heap.size W V → (V.cell? ⟨w.heap.size, 0, none⟩ = some (.slice ho ha.length hc) ∧ V.cell? ⟨w.heap.size, 1, none⟩ = some (.slice ro m rc)) ∧ V.cell? ⟨w.heap.size + 1, 0, none⟩ = some (.slice bo hb.length bc) ∧ V.cell? ⟨w.heap.size + 1, 1, none⟩ = some (.slice so sn sc)) := Lib.hid (fun V hV => ⟨tabs ((hV.block _ (lt_of_heap hN.2.1)).trans hN.2.1), tabs ((hV.block _ (lt_of_heap hN.2.2)).trans hN.2.2)⟩)
  have HRo := Lib.hid (hR.kept hB)
  have HSo := Lib.hid hs2
  have CF := Lib.hid (firsts_anyC ho hc ha W hn hs (hH.kept hB))
  obtain ⟨O, HQ⟩ : ∃ O : Nat → PL, Hid (O = namedK ha hb) := ⟨_, Lib.hid rfl⟩
  have HNx : Hid (∀ (k : Nat) x, hb[k]? = some x → O (k + 1) = if 0 ≤ findL ha x then O k ++ [(findL ha x, (k : Int))] else O k) := Lib.hid (fun k x h => by rw [HQ.out]; exact named_next ha hb k x h)
  have HLe : Hid (∀ k, (O k).length ≤ k) := Lib.hid (fun k => by rw [HQ.out]; exact named_le _ _ _)
  have HZ : Hid (O 0 = []) := Lib.hid (by rw [HQ.out]; rfl)
  rw [show namedL ha hb = O hb.length from by rw [HQ.out]; rfl]
  have hL0 : (O 0).length = 0 := by rw [HZ.out]; rfl
  have hinfo : (Tryz.prog.info? 45).map (fun i => (i.zero, i.size, i.bytes)) = some (some (.agg #[.int .i64 0, .int .i64 0]), 2, 16) := by kernel_rfl
  obtain ⟨i0, hi, hz0, hz1, hz2⟩ := info_parts2 hinfo
  have HI := Lib.hid hi
  obtain ⟨⟨a0, a1⟩, b0, b1⟩ := box.out W (Below.refl _ _)
  clear hi hinfo hR hB hN hH hs hs2
  go_enter Tryz.func20, Tryz.ntmps20
  go_upto_region 1 with fail
  rw [show (w.alloc (Obj.cells #[Value.slice ho ha.length hc, Value.slice ro m rc] 25)).alloc (Obj.cells #[Value.slice bo hb.length bc, Value.slice so sn sc] 25) = W from HW.out.symm]
  go_wp2_with fail
  refine CF.out.mono ?_
  rintro e w1 ⟨B, kk, D, rfl, hB0, hM, hD, b1⟩
  have B1 := Lib.hid b1
  have HM := Lib.hid hM
  have HD := Lib.hid hD
  have HT : Hid (OwnL w1 w1.heap.size (.slice none 0 0) (O 0)) := Lib.hid (by rw [HZ.out]; exact World.ownsRow_nil _ _ _ _)
  clear a0 a1 b0 b1 hM hD hB0 CF
  obtain ⟨⟨a0, a1⟩, b0, b1⟩ := box.out w1 B1.out
  go_wp2_with fail
  go_loopw [6, 17] (fun v i wr => ∃ (k q cp : Nat) (go : Option Addr), k ≤ hb.length ∧ i = .int .i64 k ∧ v = .slice go q cp ∧ Hid (q = (O k).length) ∧ Hid (Below w1.heap.size w1 wr) ∧ Hid (OwnL wr w1.heap.size (.slice go q cp) (O k))) (fun _ i _ => hb.length - (intOf i).toNat)
  case atStart => exact ⟨0, 0, 0, none, Nat.zero_le _, rfl, rfl, Lib.hid hL0.symm, Lib.hid (Below.refl _ _), HT⟩
  case round =>
    obtain ⟨k, q, cp, go, hk, rfl, rfl, HQ2, HB, HT⟩ := hrel
    by_cases hlt : k < hb.length
    · obtain ⟨x, hx⟩ : ∃ x, hb[k]? = some x := ⟨_, List.getElem?_eq_getElem hlt⟩
      have HM2 := Lib.hid (ownsMapC_below HM.out HB.out)
      have hlook := firsts_lookC HM2.out HD.out x (HSo.out x (List.mem_of_getElem? hx))
      rcases (HRo.out.kept (below_up B1.out HB.out)) with h0 | ⟨A, rfl, hA, hcell⟩
      · rw [h0] at hlt; simp at hlt
      have ca := hcell k x hx
      have HST := Lib.hid (HNx.out k x hx)
      have hq : q ≤ k := by rw [HQ2.out]; exact HLe.out k
      have HTO : Hid (wr.ownsRow w1.heap.size 45 2 (.slice go q cp) q (cellsP (O k))) := Lib.hid (by have := HT.out; unfold OwnL at this; rw [← HQ2.out] at this; exact this)
      clear hcell hx HT
      generalize findL ha x = y at hlook HST
      by_cases hy : 0 ≤ y
      · have HS2 : Hid (O (k + 1) = O k ++ [(y, (k : Int))]) := Lib.hid (by rw [HST.out, if_pos hy])
        rw [if_pos hy, decide_eq_true hy] at hlook
        have HT1 := Lib.hid (HTO.out.alloc (.cells #[Value.int .i64 y, Value.int .i64 k] 45))
        have hws := HB.out.size
        have hbs : w1.heap.size ≤ (wr.alloc (.cells #[Value.int .i64 y, Value.int .i64 k] 45)).heap.size := by simp; omega
        clear HST hy
        go_wp2_with (at_builtin; refine wpList_append_own _ rfl _ _ 26 rfl w1.heap.size 45 i0 (.agg #[.int .i64 0, .int .i64 0]) 2 16 Tryz.underlying26 HI.out hz0 hz1 hz2 rfl (by decide) _ _ _ rfl HT1.out ⟨wr.heap.size, 0, none⟩ 1 1 [Value.int .i64 y, Value.int .i64 k] rfl rfl (lit_cellP wr _ _ _) (fun u hu => by simp at hu; rcases hu with rfl | rfl <;> rfl) (by unfold maxLen; omega) (by omega) hbs ?_)
        intro v' w3 hown' hgrow _
        obtain ⟨g, gc, rfl⟩ := ownsRow_succ hown'
        have HB3 := Lib.hid ((HB.out.alloc HB.out.size (.cells #[Value.int .i64 y, Value.int .i64 k] 45)).grown hgrow hbs (fun j h => (HTO.out.lt j h).1))
        have HQ3 : Hid (q + 1 = (O (k + 1)).length) := Lib.hid (by rw [HS2.out, List.length_append, ← HQ2.out]; rfl)
        have HT3 : Hid (OwnL w3 w1.heap.size (.slice (some ⟨g, 0, none⟩) (q + 1) gc) (O (k + 1))) := Lib.hid (by unfold OwnL; rw [← HQ3.out, HS2.out, cellsP_app]; exact hown')
        clear hown' hgrow hbs hlook
        go_wp2_with fail
        go_roundw
        case rel => exact ⟨k + 1, q + 1, gc, _, by omega, by go_num, rfl, HQ3, HB3, HT3⟩
        case measure => simp [intOf]; omega
      · have HS2 : Hid (O (k + 1) = O k) := Lib.hid (by rw [HST.out, if_neg hy])
        rw [if_neg hy, decide_eq_false hy] at hlook
        have HT2 : Hid (OwnL wr w1.heap.size (.slice go q cp) (O (k + 1))) := Lib.hid (by unfold OwnL; rw [HS2.out, ← HQ2.out]; exact HTO.out)
        have HQ3 : Hid (q = (O (k + 1)).length) := Lib.hid (by rw [HS2.out]; exact HQ2.out)
        clear HST hy
        go_wp2_with fail
        go_roundw
        case rel => exact ⟨k + 1, q, cp, go, by omega, by go_num, rfl, HQ3, HB, HT2⟩
        case measure => simp [intOf]; omega
    · obtain rfl : k = hb.length := by omega
      have HE : Hid (PairsOut (O hb.length) w (.returned (.slice go q cp)) wr) := Lib.hid (by
        obtain ⟨ao, cap, h1, h2, h3, h4, h5⟩ := OwnL.end_ HT.out HB.out
        exact ⟨ao, cap, h1, h2, h3, h4, below_up HB0.out (below_up B1.out h5)⟩)
      clear HT
      go_wp2_with fail
      go_ret
      exact HE.out
theorem named_ok : NamedOK := fun ho hc ha ro rc ra bo bc hb so sc rb w hA hB => named_any ho hc ha ro ra.length rc bo bc hb so rb.length sc w (by have := hA.hl; omega) (by have := hB.hl; omega)
  (fun c h => by have := hA.size c (by simp [allT, h]); unfold maxLen; omega) (fun c h => by have := hB.size c (by simp [allT, h]); unfold maxLen; omega) hA.row hB.row
end Go.Proofs.YtdenehnneloegaaGreatDoor
namespace Go.Proofs.YtdenehnneloegaaGreatDoor
open Go.Shelf
def laysFp_ren : Go.Shelf.Ren := ⟨fun | 6 => 46 | 15 => 104 | 14 => 103 | 28 => 166 | 29 => 167 | 20 => 158 | 21 => 159 | 22 => 160 | 23 => 161 | 24 => 162 | 25 => 163 | 26 => 164 | 27 => 165 | 46 => 199 | 47 => 200 | 48 => 201 | 49 => 202 | 50 => 203 | 57 => 241 | n => n, fun | 22 => 26 | 24 => 45 | 25 => 78 | 3 => 3 | 39 => 142 | 0 => 0 | 53 => 203 | 55 => 205 | 4 => 4 | 46 => 197 | 45 => 196 | 50 => 58 | 5 => 5 | 9 => 9 | 66 => 237 | 70 => 241 | 76 => 273 | 77 => 274 | n => n, fun | n => n⟩
theorem laysFp : Go.Proofs.SlLaysF0.n6 Tryz.prog laysFp_ren := {
  mixed := by kernel_rfl
  f6 := ⟨Tryz.f46.name, by decide, Tryz.func46.trans (congrArg some (by kernel_rfl))⟩
  f14 := ⟨Tryz.f103.name, by decide, Tryz.func103.trans (congrArg some (by kernel_rfl))⟩
  f15 := Tryz.func104.trans (congrArg some (by kernel_rfl))
  f20 := ⟨Tryz.f158.name, by decide, Tryz.func158.trans (congrArg some (by kernel_rfl))⟩
  f21 := ⟨Tryz.f159.name, by decide, Tryz.func159.trans (congrArg some (by kernel_rfl))⟩
  f22 := ⟨Tryz.f160.name, by decide, Tryz.func160.trans (congrArg some (by kernel_rfl))⟩
  f23 := ⟨Tryz.f161.name, by decide, Tryz.func161.trans (congrArg some (by kernel_rfl))⟩
  f24 := ⟨Tryz.f162.name, by decide, Tryz.func162.trans (congrArg some (by kernel_rfl))⟩
  f25 := ⟨Tryz.f163.name, by decide, Tryz.func163.trans (congrArg some (by kernel_rfl))⟩
  f26 := ⟨Tryz.f164.name, by decide, Tryz.func164.trans (congrArg some (by kernel_rfl))⟩
  f27 := ⟨Tryz.f165.name, by decide, Tryz.func165.trans (congrArg some (by kernel_rfl))⟩
  f28 := Tryz.func166.trans (congrArg some (by kernel_rfl))
  f29 := Tryz.func167.trans (congrArg some (by kernel_rfl))
  f46 := ⟨Tryz.f199.name, by decide, Tryz.func199.trans (congrArg some (by kernel_rfl))⟩
  f47 := Tryz.func200.trans (congrArg some (by kernel_rfl))
  f48 := Tryz.func201.trans (congrArg some (by kernel_rfl))
  f49 := ⟨Tryz.f202.name, by decide, Tryz.func202.trans (congrArg some (by kernel_rfl))⟩
  f50 := ⟨Tryz.f203.name, by decide, Tryz.func203.trans (congrArg some (by kernel_rfl))⟩
  f57 := ⟨Tryz.f241.name, by decide, Tryz.func241.trans (congrArg some (by kernel_rfl))⟩
  t0 := Tryz.underlying0
  a0 := Tryz.isAgg0
  z0 := Tryz.sizeOf0
  v0 := Tryz.zeroValue0
  t3 := Tryz.underlying3
  a3 := Tryz.isAgg3
  z3 := Tryz.sizeOf3
  v3 := Tryz.zeroValue3
  t4 := Tryz.underlying4
  a4 := Tryz.isAgg4
  z4 := Tryz.sizeOf4
  v4 := Tryz.zeroValue4
  t5 := Tryz.underlying5
  a5 := Tryz.isAgg5
  z5 := Tryz.sizeOf5
  v5 := Tryz.zeroValue5
  t9 := Tryz.underlying9
  a9 := Tryz.isAgg9
  z9 := Tryz.sizeOf9
  v9 := Tryz.zeroValue9
  t22 := Tryz.underlying26
  a22 := Tryz.isAgg26
  z22 := Tryz.sizeOf26
  v22 := Tryz.zeroValue26
  t25 := Tryz.underlying78
  a25 := Tryz.isAgg78
  z25 := Tryz.sizeOf78
  v25 := Tryz.zeroValue78
  t39 := Tryz.underlying142
  a39 := Tryz.isAgg142
  z39 := Tryz.sizeOf142
  v39 := Tryz.zeroValue142
  t45 := Tryz.underlying196
  a45 := Tryz.isAgg196
  z45 := Tryz.sizeOf196
  v45 := Tryz.zeroValue196
  t46 := Tryz.underlying197
  a46 := Tryz.isAgg197
  z46 := Tryz.sizeOf197
  v46 := Tryz.zeroValue197
  t50 := Tryz.underlying58
  a50 := Tryz.isAgg58
  z50 := Tryz.sizeOf58
  v50 := Tryz.zeroValue58
  t53 := Tryz.underlying203
  a53 := Tryz.isAgg203
  z53 := Tryz.sizeOf203
  v53 := Tryz.zeroValue203
  t55 := Tryz.underlying205
  a55 := Tryz.isAgg205
  z55 := Tryz.sizeOf205
  v55 := Tryz.zeroValue205
  t66 := Tryz.underlying237
  a66 := Tryz.isAgg237
  z66 := Tryz.sizeOf237
  v66 := Tryz.zeroValue237
  t70 := Tryz.underlying241
  a70 := Tryz.isAgg241
  z70 := Tryz.sizeOf241
  v70 := Tryz.zeroValue241
  t76 := Tryz.underlying273
  a76 := Tryz.isAgg273
  z76 := Tryz.sizeOf273
  v76 := Tryz.zeroValue273
  t77 := Tryz.underlying274
  a77 := Tryz.isAgg274
  z77 := Tryz.sizeOf274
  v77 := Tryz.zeroValue274 }
end Go.Proofs.YtdenehnneloegaaGreatDoor
namespace Go.Proofs.YtdenehnneloegaaGreatDoor
open Go.RowKit Go.Shelf
set_option linter.unusedVariables false
set_option maxRecDepth 100000 in
set_option maxHeartbeats 2000000 in
theorem growP (n : Nat) (w : World) (hn : n ≤ 1099511627776) :
    Calls Tryz.prog 99 #[.slice none 0 0, .int .i64 n] w fun e w' => ∃ v, e = .returned v ∧ w'.ownsRow w.heap.size 45 2 v 0 [] ∧ Below w.heap.size w w' := by
  have hinfo : (Tryz.prog.info? 45).map (fun i => (i.zero, i.size, i.bytes)) = some (some (.agg #[.int .i64 0, .int .i64 0]), 2, 16) := by kernel_rfl
  obtain ⟨i0, hi, hz0, hz1, hz2⟩ := info_parts2 hinfo
  rcases Nat.eq_zero_or_pos n with h0 | hpos
  · subst h0
    clear hi hz0 hz1 hz2 hinfo
    go_enter Tryz.func99, Tryz.ntmps99
    go_wp2_with fail
    go_ret
    exact ⟨_, rfl, World.ownsRow_nil _ _ _ _, Below.refl _ _⟩
  · have hold : (Builtin.firstCells i0.size 0 (.slice none 0 0)).run Tryz.prog w.drew = .ok ([] : List Value).toArray w.drew := by rw [hz1]; rfl
    obtain ⟨G, HG⟩ : ∃ G, Hid (G = grownCap w (0 + n) 0 45) := ⟨_, Lib.hid rfl⟩
    have hrz := Lib.run_append_grow_zeros w 26 3 26 45 i0 _ .i64 .i64 Tryz.underlying26 Tryz.underlying3 hi hz0 none 0 0 [] hold n hpos (by rw [hz1]; omega) (by omega) (by omega) (by rw [hz2]; omega) (by rw [hz2]; exact growslice_fits (by omega) (by omega))
    rw [← HG.out] at hrz
    have hGn : n ≤ G := by rw [HG.out]; exact Nat.le_trans (by omega) (grownCap_ge w _ _ _)
    have hGm : G ≤ maxLen := by rw [HG.out]; exact grownCap_le_maxLen w _ _ _ (by unfold maxLen; omega)
    obtain ⟨L, HL⟩ : ∃ L : Array Value, Hid (L = (([] : List Value).toArray ++ Builtin.zeroCells (Value.agg #[.int .i64 0, .int .i64 0]).cells n ++ Builtin.zeroCells (Value.agg #[.int .i64 0, .int .i64 0]).cells (G - (0 + n)))) := ⟨_, Lib.hid rfl⟩
    have hLs : L.size = G * 2 := by
      rw [HL.out]
      have hz : ∀ m, (Builtin.zeroCells (Value.agg #[.int .i64 0, .int .i64 0]).cells m).size = m * 2 := fun m => by
        rw [show (Value.agg #[.int .i64 0, .int .i64 0]).cells = #[.int .i64 0, .int .i64 0] from rfl]
        simp [Builtin.zeroCells]
      rw [Array.size_append, Array.size_append, hz, hz]; simp; omega
    rw [← HL.out, Nat.zero_add] at hrz
    obtain ⟨W1, HW1⟩ : ∃ W1, Hid (W1 = w.drew.alloc (.cells L 45)) := ⟨_, Lib.hid rfl⟩
    have hown : W1.ownsRow w.heap.size 45 2 (.slice (some ⟨w.heap.size, 0, none⟩) 0 G) 0 [] := by
      rw [HW1.out]; exact World.ownsRow_made w.drew L G (Nat.le_refl _) hGm hLs
    have hb1 : Below w.heap.size w W1 := by rw [HW1.out]; exact ((Below.refl _ w).drew).alloc (Nat.le_refl _) _
    rw [← HW1.out] at hrz
    have HRZ := Lib.hid hrz
    have HO := Lib.hid hown
    have HB := Lib.hid hb1
    have hG0 : ¬ (G = 0) := by omega
    clear hown hb1 hrz hinfo hi hz0 hz1 hz2 hold hLs hGm
    go_enter Tryz.func99, Tryz.ntmps99
    go_wp2_with (at_builtin; refine Lib.wpList_append_run _ rfl _ _ _ _ rfl _ _ rfl rfl _ _ HRZ.out ?_)
    go_ret
    exact ⟨_, rfl, HO.out, HB.out⟩
/-- a list of pairs as it lies -/
structure PartC where
  ao : Option Addr
  l : PL
  cap : Nat
def PartC.val (p : PartC) : Value := .slice p.ao p.l.length p.cap
structure PartC.In (w : World) (p : PartC) : Prop where
  pairs : PairsAt w p.ao p.l
  nil : p.ao = none → p.cap = 0
  room : p.l.length ≤ p.cap
def lensC (ps : List PartC) : Nat := (ps.map fun p => p.l.length).sum
def flatC (ps : List PartC) : PL := ps.flatMap fun p => p.l
theorem flatC_len (ps : List PartC) : (flatC ps).length = lensC ps := by
  induction ps with
  | nil => rfl
  | cons p ps ih => simp only [flatC, lensC, List.flatMap_cons, List.length_append, List.map_cons, List.sum_cons] at ih ⊢; omega
theorem lensC_next (ps : List PartC) (k : Nat) (p : PartC) (h : ps[k]? = some p) : lensC (ps.take (k + 1)) = lensC (ps.take k) + p.l.length ∧ lensC (ps.take (k + 1)) ≤ lensC ps := by
  obtain ⟨hk, e⟩ := List.getElem?_eq_some_iff.1 h
  constructor
  · rw [List.take_succ_eq_append_getElem hk, e]; simp [lensC]
  · have e2 : lensC ps = lensC (ps.take (k + 1)) + lensC (ps.drop (k + 1)) := by
      conv => lhs; rw [← List.take_append_drop (k + 1) ps]
      unfold lensC; rw [List.map_append, List.sum_append]
    omega
theorem flatC_next (ps : List PartC) (k : Nat) (p : PartC) (h : ps[k]? = some p) : flatC (ps.take (k + 1)) = flatC (ps.take k) ++ p.l := by
  obtain ⟨hk, e⟩ := List.getElem?_eq_some_iff.1 h
  rw [List.take_succ_eq_append_getElem hk, e]; simp [flatC]
theorem pairs_cellsC {w : World} {ad : Addr} {L : PL} (h : PairsAt w (some ad) L) : ∀ (j : Nat) u, (cellsP L)[j]? = some u → w.cell? (ad.add j) = some u := fun j u hu => by
  rcases h with rfl | ⟨b', o', h1, _, h3⟩
  · simp [cellsP] at hu
  · cases h1
    have e : (⟨b', o', none⟩ : Addr).add j = ⟨b', o' + j, none⟩ := by unfold Addr.add; split <;> simp_all
    rw [e]
    obtain ⟨i, p, hp, ⟨rfl, rfl⟩ | ⟨rfl, rfl⟩⟩ := cellsP_inv L j u hu
    · exact (h3 i p hp).1
    · exact (h3 i p hp).2
set_option maxRecDepth 100000 in
set_option maxHeartbeats 4000000 in
theorem concatP (g cap : Nat) (ps : List PartC) (w : World) (hn : ps.length ≤ 1000) (hc : ∀ (i : Nat) p, ps[i]? = some p → w.cell? ⟨g, i, none⟩ = some p.val) (hg : g < w.heap.size) (hp : ∀ p ∈ ps, p.In w) (hsum : lensC ps ≤ 1073741824) :
    Calls Tryz.prog 44 #[.slice (some ⟨g, 0, none⟩) ps.length cap] w fun e w' => ∃ v, e = .returned v ∧ OwnL w' w.heap.size v (flatC ps) ∧ Below w.heap.size w w' := by
  have hinfo : (Tryz.prog.info? 45).map (fun i => (i.zero, i.size, i.bytes)) = some (some (.agg #[.int .i64 0, .int .i64 0]), 2, 16) := by kernel_rfl
  obtain ⟨i0, hi, hz0, hz1, hz2⟩ := info_parts2 hinfo
  have HI := Lib.hid hi
  have HC := Lib.hid hc
  have HP := Lib.hid hp
  have G := Lib.hid (growP (lensC ps) w (by omega))
  have HS := Lib.hid hsum
  clear hi hinfo hc hp
  go_enter Tryz.func44, Tryz.ntmps44
  go_wp2_with fail
  go_loopw [3, 11] (fun s i wr => ∃ k : Nat, k ≤ ps.length ∧ s = .int .i64 (lensC (ps.take k)) ∧ i = .int .i64 k ∧ wr = w) (fun _ i _ => ps.length - (intOf i).toNat)
  case atStart => exact ⟨0, Nat.zero_le _, rfl, rfl, rfl⟩
  case round =>
    obtain ⟨k, hk, rfl, rfl, hww⟩ := hrel
    subst hww
    by_cases hlt : k < ps.length
    · obtain ⟨p, hpk⟩ : ∃ p, ps[k]? = some p := ⟨_, List.getElem?_eq_getElem hlt⟩
      have hcell := HC.out k p hpk
      have hnx := lensC_next ps k p hpk
      have HN := Lib.hid hnx
      obtain ⟨t, ht⟩ : ∃ t, t = lensC (ps.take k) := ⟨_, rfl⟩
      have hle : t + p.l.length ≤ 1099511627776 := by rw [ht]; omega
      have HT : Hid (lensC (ps.take (k + 1)) = t + p.l.length) := Lib.hid (by rw [ht]; exact hnx.1)
      rw [← ht]
      clear hnx hpk ht
      unfold PartC.val at hcell
      go_wp2_with fail
      go_roundw
      case rel => exact ⟨k + 1, by omega, by rw [HT.out]; go_num, by go_num, by first | rfl | trivial⟩
      case measure => simp [intOf]; omega
    · obtain rfl : k = ps.length := by omega
      rw [List.take_length]
      obtain ⟨wo, rfl⟩ : ∃ wo : World, wo = wr := ⟨_, rfl⟩
      go_wp2_with fail
      refine G.out.mono ?_; rintro e w1 ⟨v, rfl, hown, hb⟩
      have HO : Hid (w1.ownsRow wo.heap.size 45 2 v (flatC (ps.take 0)).length (cellsP (flatC (ps.take 0)))) := Lib.hid hown
      have HB := Lib.hid hb
      clear hown hb G
      go_wp2_with fail
      go_loopw [6, 27] (fun s i wr => ∃ k : Nat, k ≤ ps.length ∧ i = .int .i64 k ∧ Hid (wr.ownsRow wo.heap.size 45 2 s (flatC (ps.take k)).length (cellsP (flatC (ps.take k)))) ∧ Hid (Below wo.heap.size wo wr)) (fun _ i _ => ps.length - (intOf i).toNat)
      case atStart => exact ⟨0, Nat.zero_le _, rfl, HO, HB⟩
      case round =>
        obtain ⟨k, hk, rfl, HO, HB⟩ := hrel
        by_cases hlt : k < ps.length
        · obtain ⟨p, hpk⟩ : ∃ p, ps[k]? = some p := ⟨_, List.getElem?_eq_getElem hlt⟩
          have hcell := (HB.out.cell (p := ⟨g, k, none⟩) hg).trans (HC.out k p hpk)
          have HPK := Lib.hid (HP.out p (List.mem_of_getElem? hpk))
          have HFN := Lib.hid (flatC_next ps k p hpk)
          have hle : (flatC (ps.take k)).length + p.l.length ≤ 1073741824 := by rw [flatC_len]; have := lensC_next ps k p hpk; have := HS.out; omega
          unfold PartC.val at hcell
          clear hpk
          go_wp2_with (at_builtin; refine wpList_append_any rfl _ _ 26 rfl wo.heap.size 45 i0 (.agg #[.int .i64 0, .int .i64 0]) 2 16 Tryz.underlying26 HI.out hz0 hz1 hz2 rfl (by decide) _ _ _ rfl HO.out p.ao p.l.length p.cap (cellsP p.l) rfl ?c0 (cellsP_length _) ?c1 (cellsP_ones _) ?c3 ?c4 HB.out.size ?_)
          case c0 => intro h; have h1 := HPK.out.nil h; have h2 := HPK.out.room; omega
          case c1 =>
            intro ad had j u hu
            have h := HPK.out.pairs.kept HB.out
            rw [had] at h
            exact pairs_cellsC h j u hu
          case c3 => unfold maxLen; omega
          case c4 => omega
          intro v' w3 hown' hgrow
          have HO' : Hid (w3.ownsRow wo.heap.size 45 2 v' (flatC (ps.take (k + 1))).length (cellsP (flatC (ps.take (k + 1))))) := Lib.hid (by rw [HFN.out, List.length_append, cellsP_app]; exact hown')
          have HB' := Lib.hid (HB.out.trans ((Below.refl _ wr).grown hgrow HB.out.size (fun j hj => (HO.out.lt j hj).1)))
          clear hown' hgrow
          go_wp2_with fail
          go_roundw
          case rel => exact ⟨k + 1, by omega, by go_num, HO', HB'⟩
          case measure => simp [intOf]; omega
        · obtain rfl : k = ps.length := by omega
          rw [List.take_length] at HO
          go_wp2_with fail
          go_ret
          exact ⟨_, rfl, HO.out, HB.out⟩
/-- two lists, put together -/
theorem concatP2 (ao bo : Option Addr) (ca cb : Nat) (xs ys : PL) (w : World) (hs : xs.length + ys.length ≤ 1073741824) (hx : PairsAt w ao xs) (hy : PairsAt w bo ys) (k1 : ao = none → ca = 0) (k2 : bo = none → cb = 0) (r1 : xs.length ≤ ca) (r2 : ys.length ≤ cb) (g : Nat)
    (hb : w.heap[g]? = some (.cells #[.slice ao xs.length ca, .slice bo ys.length cb] 26 (0, 0))) :
    Calls Tryz.prog 44 #[.slice (some ⟨g, 0, none⟩) 2 2] w fun e w' => ∃ v, e = .returned v ∧ OwnL w' w.heap.size v (xs ++ ys) ∧ Below w.heap.size w w' := by
  let ps : List PartC := [⟨ao, xs, ca⟩, ⟨bo, ys, cb⟩]
  have h := concatP g 2 ps w (by simp [ps]) (fun i p hp => by
    rw [Lib.cell_of_heap hb i]
    match i, hp with
    | 0, hp => simp [ps] at hp; subst hp; rfl
    | 1, hp => simp [ps] at hp; subst hp; rfl) (lt_of_heap hb) (fun p hp => by
    simp only [ps, List.mem_cons, List.not_mem_nil, or_false] at hp
    rcases hp with rfl | rfl
    · exact ⟨hx, k1, r1⟩
    · exact ⟨hy, k2, r2⟩) (by simp only [ps, lensC, List.map_cons, List.map_nil, List.sum_cons, List.sum_nil]; omega)
  have hf : flatC ps = xs ++ ys := by simp [ps, flatC]
  rw [hf] at h
  exact h
end Go.Proofs.YtdenehnneloegaaGreatDoor
