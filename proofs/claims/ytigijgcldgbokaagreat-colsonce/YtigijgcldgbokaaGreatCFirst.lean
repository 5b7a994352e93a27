/-
  The first columns of all names of a head, as the program's map tells them, and the places of names.
  Conditions: heads and lists of at most 2^40 Go strings.
-/
import Derived.Maps.OwnSet
import Derived.WalkKit
import Derived.WalkMore
import Derived.IntWalk
import Derived.WalkArith
import Derived.OwnWalk
import Derived.Lib.Hide
import Derived.Test.YtigijgcldgbokaaGreatProg
import Derived.Test.YtigijgcldgbokaaGreatCSpec
namespace Go.Proofs.YtigijgcldgbokaaGreat
open Go.RowKit Go.Shelf Go.Maps
set_option linter.unusedVariables false

abbrev TxtKC := List UInt8
theorem keySKC (l : TxtKC) : WideAt.IsKeyLit (.string l) := by first | exact trivial | constructor | simp [WideAt.IsKeyLit]
/-- the first place of a text; -1, if there is none -/
def findTC (xs : List ByteArray) (l : TxtKC) : Int := firstAt (fun c => decide (c.data.toList = l)) xs
theorem find_textC (xs : List ByteArray) (s : ByteArray) : findL xs s = findTC xs s.data.toList := rfl
theorem find_rangeC (xs : List ByteArray) (l : TxtKC) : findTC xs l = -1 ∨ (0 ≤ findTC xs l ∧ findTC xs l < (xs.length : Int)) := by
  unfold findTC firstAt
  cases h : xs.findIdx? (fun c => decide (c.data.toList = l)) with
  | none => exact .inl rfl
  | some i =>
    obtain ⟨hi, _⟩ := List.findIdx?_eq_some_iff_getElem.1 h
    exact .inr ⟨by show (0 : Int) ≤ (i : Int); omega, by show (i : Int) < _; omega⟩
theorem find_snocC (xs : List ByteArray) (x : ByteArray) (l : TxtKC) : findTC (xs ++ [x]) l = if 0 ≤ findTC xs l then findTC xs l else if x.data.toList = l then (xs.length : Int) else -1 := by
  unfold findTC firstAt
  rw [List.findIdx?_append]
  cases h : xs.findIdx? (fun c => decide (c.data.toList = l)) with
  | some i =>
    simp only [Option.some_or]
    rw [if_pos (by omega)]
  | none =>
    simp only [Option.none_or]
    rw [if_neg (by omega)]
    by_cases hx : x.data.toList = l
    · rw [if_pos hx]; simp [List.findIdx?_cons, hx]
    · rw [if_neg hx]; simp [List.findIdx?_cons, hx]
/-- a map of the first places of texts -/
structure FirstsIsC (D : DataW Unit) (xs : List ByteArray) : Prop where
  tidy : Tidy D
  look : ∀ l, D.atKey (.string l) (.lit (.int .i64 0)) = .lit (.int .i64 (if 0 ≤ findTC xs l then findTC xs l else 0))
  here : ∀ l, has D (.string l) = decide (0 ≤ findTC xs l)
theorem FirstsIsC.empty : FirstsIsC (.map []) [] := ⟨tidy_empty, fun z => rfl, fun z => rfl⟩
theorem FirstsIsC.old {D : DataW Unit} {xs : List ByteArray} (h : FirstsIsC D xs) (x : ByteArray) (hx : 0 ≤ findTC xs x.data.toList) : FirstsIsC D (xs ++ [x]) := by
  have e : ∀ l, findTC (xs ++ [x]) l = findTC xs l := fun l => by
    rw [find_snocC]
    by_cases h0 : 0 ≤ findTC xs l
    · rw [if_pos h0]
    · rw [if_neg h0]
      by_cases hl : x.data.toList = l
      · subst hl; exact absurd hx h0
      · rw [if_neg hl]; rcases find_rangeC xs l with h1 | h1
        · exact h1.symm
        · exact absurd h1.1 h0
  exact ⟨h.tidy, fun l => by rw [e]; exact h.look l, fun l => by rw [e]; exact h.here l⟩
theorem FirstsIsC.put {D : DataW Unit} {xs : List ByteArray} (h : FirstsIsC D xs) (x : ByteArray) (hx : ¬ 0 ≤ findTC xs x.data.toList) : FirstsIsC (D.put (.string x.data.toList) (.lit (.int .i64 (xs.length : Int)))) (xs ++ [x]) := by
  refine ⟨h.tidy.put (keySKC _) _, fun z => ?_, fun z => ?_⟩
  · by_cases e : z = x.data.toList
    · subst e
      rw [atKey_put_same h.tidy.isMap (keySKC _), find_snocC, if_neg hx, if_pos rfl, if_pos (by omega)]
    · rw [atKey_put_other (fun e' => e (by injection e')), h.look, find_snocC]
      by_cases h0 : 0 ≤ findTC xs z
      · rw [if_pos h0, if_pos h0, if_pos h0]
      · have e2 : ¬ x.data.toList = z := fun e' => e e'.symm
        simp [h0, e2]
  · by_cases e : z = x.data.toList
    · subst e
      rw [has_put_same h.tidy.isMap (keySKC _), find_snocC, if_neg hx, if_pos rfl]
      exact (decide_eq_true (by omega)).symm
    · rw [has_put_other (fun e' => e (by injection e')), h.here, find_snocC]
      by_cases h0 : 0 ≤ findTC xs z
      · rw [if_pos h0]
      · rw [if_neg h0, if_neg (fun e' => e e'.symm)]
        simp only [h0, decide_false]; rfl
set_option maxRecDepth 100000 in
theorem firsts_lookC {w : World} {b k : Nat} {D : DataW Unit} {xs : List ByteArray} (h : w.ownsMap Tryz.prog 9 (plainElem Tryz.prog 3) b k D) (hS : FirstsIsC D xs) (x : ByteArray) (hx : x.size ≤ maxLen) :
    (Instr.lookup 55 (.map (some b)) (.string x) true).run Tryz.prog w = .ok (.tuple #[.int .i64 (if 0 ≤ findL xs x then findL xs x else 0), .bool (decide (0 ≤ findL xs x))]) w := by
  obtain ⟨v, ps, hrun, hv⟩ := h.look_ok (string_keyed Tryz.underlying9) Tryz.underlying55 (z := .int .i64 0) (Tryz.zeroValue3 _) (plainElem_int Tryz.underlying3 (by decide)) (Go.WideMaps.keyOf_string_mk Tryz.underlying9 hx)
  obtain ⟨c, rfl, hc, _⟩ := plainElem_int_inv Tryz.underlying3 hv
  simp only [Prod.mk.injEq] at hc
  rw [hS.look] at hc
  have e : (if 0 ≤ findTC xs x.data.toList then findTC xs x.data.toList else 0) = c := by have := hc.1; injection this with h1; injection h1
  rw [hS.here] at hrun
  rw [find_textC, e]; exact hrun
set_option maxRecDepth 100000 in
theorem run_makeMap_hintC (n : Int) (w : World) : (Instr.makeMap 55 (some (.int .i64 n))).run Tryz.prog w = .ok (.map (some w.heap.size)) (w.alloc (.map #[] 0)) := by
  simp [Instr.makeMap, run_underlying Tryz.underlying55, asInt, newObj, go_sem]
  rfl
/-- the map that the program makes of a head -/
def FirstsOutC (hd : List ByteArray) (w : World) (e : Ending) (w' : World) : Prop := ∃ (b kk : Nat) (D : DataW Unit), e = .returned (.map (some b)) ∧ w.heap.size ≤ b ∧ w'.ownsMap Tryz.prog 9 (plainElem Tryz.prog 3) b kk D ∧ FirstsIsC D hd ∧ Below w.heap.size w w'

set_option maxRecDepth 100000 in
set_option maxHeartbeats 4000000 in
theorem firsts_anyC (ao : Option Addr) (cap : Nat) (xs : List ByteArray) (w : World) (hn : xs.length ≤ 1099511627776) (hs : ∀ c ∈ xs, c.size ≤ maxLen) (hR : StrRow w ao xs) :
    Calls Tryz.prog 29 #[.slice ao xs.length cap] w (FirstsOutC xs w) := by
  have HRo := Lib.hid hR
  have HSo := Lib.hid hs
  have hmm := run_makeMap_hintC
  clear hR hs
  go_enter Tryz.func29, Tryz.ntmps29
  go_wp2_with fail
  have HO : Hid ((w.alloc (.map #[] 0)).ownsMap Tryz.prog 9 (plainElem Tryz.prog 3) w.heap.size 0 (.map [] : DataW Unit)) := Lib.hid (World.ownsMap_made w _ _ _)
  have HB : Hid (Below w.heap.size w (w.alloc (.map #[] 0))) := Lib.hid ((Below.refl _ w).alloc (Nat.le_refl _) _)
  go_loopw [13] (fun j wr => ∃ (k kk : Nat) (D : DataW Unit), k ≤ xs.length ∧ kk ≤ k ∧ j = .int .i64 k ∧ Hid (Below w.heap.size w wr) ∧ Hid (wr.ownsMap Tryz.prog 9 (plainElem Tryz.prog 3) w.heap.size kk D) ∧ Hid (FirstsIsC D (xs.take k))) (fun j _ => xs.length - (intOf j).toNat)
  case atStart => exact ⟨0, 0, _, Nat.zero_le _, Nat.le_refl _, rfl, HB, HO, Lib.hid FirstsIsC.empty⟩
  case round =>
    obtain ⟨k, kk, D, hk, hkk, rfl, HB, HO, HD⟩ := hrel
    by_cases hlt : k < xs.length
    · obtain ⟨x, hx⟩ : ∃ x, xs[k]? = some x := ⟨_, List.getElem?_eq_getElem hlt⟩
      have htk : xs.take (k + 1) = xs.take k ++ [x] := by rw [List.take_add_one, hx]; rfl
      have htl : (xs.take k).length = k := by rw [List.length_take]; omega
      have HTK := Lib.hid htk
      have HTL := Lib.hid htl
      have hxs := HSo.out x (List.mem_of_getElem? hx)
      have HXs := Lib.hid hxs
      have hrun := firsts_lookC HO.out HD.out x hxs
      rcases (HRo.out.kept HB.out) with h0 | ⟨A, rfl, hA, hcell⟩
      · rw [h0] at hlt; simp at hlt
      have hc := hcell k x hx
      clear hcell hx htk htl hxs
      by_cases hf : 0 ≤ findL (xs.take k) x
      · rw [if_pos hf, decide_eq_true hf] at hrun
        have HD' : Hid (FirstsIsC D (xs.take (k + 1))) := Lib.hid (by rw [HTK.out]; exact HD.out.old x hf)
        obtain ⟨y, hy⟩ : ∃ y, y = findL (xs.take k) x := ⟨_, rfl⟩
        rw [← hy] at hrun
        clear hy hf
        go_wp2_with fail
        go_roundw
        case rel => exact ⟨k + 1, kk, D, by omega, by omega, by go_num, HB, HO, HD'⟩
        case measure => simp [intOf]; omega
      · rw [if_neg hf, decide_eq_false hf] at hrun
        have HD' : Hid (FirstsIsC (D.put (.string x.data.toList) (.lit (.int .i64 (k : Int)))) (xs.take (k + 1))) := Lib.hid (by
          rw [HTK.out]
          have := HD.out.put x hf
          rw [HTL.out] at this; exact this)
        have hkm : kk < maxLen := by unfold maxLen; omega
        have HK := Lib.hid (Go.WideMaps.keyOf_string_mk (P := Tryz.prog) Tryz.underlying9 HXs.out)
        have HW := Lib.hid (Go.WalkArith.wf_i64 (n := (k : Int)) (by omega))
        clear hf
        go_wp2_with (at_mapUpdate; refine wpList_mapUpdate_own _ rfl _ _ _ 55 rfl 9 3 (string_keyed Tryz.underlying9) Tryz.underlying55 _ w.heap.size kk D rfl HO.out hkm _ _ (.string x.data.toList) rfl rfl HK.out (.lit (.int .i64 (k : Int))) [] (plainElem_int Tryz.underlying3 HW.out) ?_; intro w1 ho hg)
        have HB' := Lib.hid (HB.out.grown hg HB.out.size (fun k h => by cases h; exact Nat.le_refl _))
        have HO' : Hid (∃ kk', kk' ≤ k + 1 ∧ w1.ownsMap Tryz.prog 9 (plainElem Tryz.prog 3) w.heap.size kk' (D.put (.string x.data.toList) (.lit (.int .i64 (k : Int))))) := Lib.hid ⟨_, by first | omega | (split <;> omega), ho⟩
        obtain ⟨kk', hk', ho'⟩ := HO'.out
        have HO2 := Lib.hid ho'
        clear ho hg ho' HO'
        go_wp2_with fail
        go_roundw
        case rel => exact ⟨k + 1, kk', _, by omega, by omega, by go_num, HB', HO2, HD'⟩
        case measure => simp [intOf]; omega
    · have hke : k = xs.length := by omega
      have HE : Hid (FirstsOutC xs w (.returned (.map (some w.heap.size))) wr) := Lib.hid ⟨_, kk, D, rfl, Nat.le_refl _, HO.out, by have := HD.out; rw [hke, List.take_length] at this; exact this, HB.out⟩
      go_wp2_with fail
      go_ret
      exact HE.out
end Go.Proofs.YtigijgcldgbokaaGreat
