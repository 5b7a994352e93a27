/-
  How often each text that is counted is in a list: the map that the program makes, by any function that tells which are counted.
  Conditions: lists of at most 2^20 Go strings.
-/
import Derived.Maps.Own
import Derived.Maps.OwnOps
import Derived.Maps.OwnSet
import Derived.Maps.Views
import Derived.StringKeys
import Derived.WalkKit
import Derived.WalkMore
import Derived.IntWalk
import Derived.WalkArith
import Derived.OwnWalk
import Derived.Lib.Hide
import Derived.Test.YtigijgcldgbokaaGreatProg
import Derived.Test.YtigijgcldgbokaaGreatPkA
import Derived.Test.YtigijgcldgbokaaGreatLcNum
import Derived.Test.YtigijgcldgbokaaGreatBMath
namespace Go.Proofs.YtigijgcldgbokaaGreat
open Go.RowKit Go.Shelf Go.Maps
set_option linter.unusedVariables false

/-- a map of counts: of those alone that are there at least once -/
structure CntIs (D : DataW Unit) (f : Txt → Nat) : Prop where
  tidy : Tidy D
  look : ∀ l, D.atKey (.string l) (.lit (.int .i64 0)) = .lit (.int .i64 ((f l : Nat) : Int))
  here : ∀ l, has D (.string l) = decide (0 < f l)
theorem CntIs.empty : CntIs (.map []) (fun _ => 0) := ⟨tidy_empty, fun z => rfl, fun z => rfl⟩
theorem CntIs.put {D : DataW Unit} {f g : Txt → Nat} (h : CntIs D f) (x : Txt) (hg : ∀ l, g l = if l = x then f x + 1 else f l) : CntIs (D.put (.string x) (.lit (.int .i64 ((f x : Nat) + 1 : Int)))) g := by
  refine ⟨h.tidy.put (keyS x) _, fun z => ?_, fun z => ?_⟩
  · by_cases e : z = x
    · subst e
      rw [atKey_put_same h.tidy.isMap (keyS z), hg, if_pos rfl]; simp
    · rw [atKey_put_other (fun e' => e (by injection e')), h.look, hg, if_neg e]
  · by_cases e : z = x
    · subst e
      rw [has_put_same h.tidy.isMap (keyS z), hg, if_pos rfl]; simp
    · rw [has_put_other (fun e' => e (by injection e')), h.here, hg, if_neg e]
theorem CntIs.same {D : DataW Unit} {f g : Txt → Nat} (h : CntIs D f) (e : ∀ l, g l = f l) : CntIs D g := by
  have : g = f := funext e
  rw [this]; exact h
set_option maxRecDepth 100000 in
theorem cnt_look {w : World} {b k : Nat} {D : DataW Unit} {f : Txt → Nat} (h : w.ownsMap Tryz.prog 9 (plainElem Tryz.prog 3) b k D) (hS : CntIs D f) (x : ByteArray) (hx : x.size ≤ maxLen) :
    (Instr.lookup 55 (.map (some b)) (.string x) false).run Tryz.prog w = .ok (.int .i64 ((f x.data.toList : Nat) : Int)) w := by
  obtain ⟨c, hrun, hat, _⟩ := h.lookup_int (string_keyed Tryz.underlying9) Tryz.underlying55 Tryz.underlying3 (Tryz.zeroValue3 _) (Go.WideMaps.keyOf_string_mk Tryz.underlying9 hx)
  rw [hS.look] at hat
  have e : ((f x.data.toList : Nat) : Int) = c := by injection hat with h1; injection h1
  rw [e]; exact hrun
/-- those that are counted, of the first k -/
def talK (xs : List ByteArray) (p : Txt → Bool) (k : Nat) (l : Txt) : Nat := cntN l ((bytesOf (xs.take k)).filter p)
theorem tal_no (xs : List ByteArray) (p : Txt → Bool) (k : Nat) (x : ByteArray) (hx : xs[k]? = some x) (hp : p x.data.toList = false) (l : Txt) : talK xs p (k + 1) l = talK xs p k l := by
  obtain ⟨hk, e⟩ := List.getElem?_eq_some_iff.1 hx
  unfold talK
  rw [List.take_succ_eq_append_getElem hk, e]
  simp [bytesOf, List.filter_append, hp]
theorem tal_yes (xs : List ByteArray) (p : Txt → Bool) (k : Nat) (x : ByteArray) (hx : xs[k]? = some x) (hp : p x.data.toList = true) (l : Txt) : talK xs p (k + 1) l = if l = x.data.toList then talK xs p k x.data.toList + 1 else talK xs p k l := by
  obtain ⟨hk, e⟩ := List.getElem?_eq_some_iff.1 hx
  unfold talK
  rw [List.take_succ_eq_append_getElem hk, e]
  simp only [bytesOf, List.map_append, List.map_cons, List.map_nil, List.filter_append, cnt_append]
  rw [List.filter_cons, if_pos hp, List.filter_nil]
  simp only [cntN]
  by_cases h : l = x.data.toList
  · subst h; simp
  · rw [if_neg h, if_neg (fun e => h e.symm)]; omega
theorem tal_le (xs : List ByteArray) (p : Txt → Bool) (k : Nat) (l : Txt) : talK xs p k l ≤ k := by
  unfold talK
  refine Nat.le_trans (cnt_le _ _) (Nat.le_trans (List.length_filter_le _ _) ?_)
  simp [bytesOf]; omega
/-- what the counting leaves -/
def TalOut (xs : List ByteArray) (p : Txt → Bool) (w : World) (e : Ending) (w' : World) : Prop :=
  ∃ (B : Nat) (D : DataW Unit), e = .returned (.map (some B)) ∧ w.heap.size ≤ B ∧ w'.ownsMap Tryz.prog 9 (plainElem Tryz.prog 3) B xs.length D ∧ CntIs D (fun l => if p l = true then cntN l (bytesOf xs) else 0) ∧ Below w.heap.size w w'

set_option maxRecDepth 100000 in
set_option maxHeartbeats 2000000 in
theorem tally_any (G : FuncId) (caps : Array Value) (p : Txt → Bool) (hent : ∀ args w, (callFunc G args).run Tryz.prog w = .ok (.enter G args) w) (ao : Option Addr) (cap : Nat) (xs : List ByteArray) (w : World) (hn : xs.length ≤ 1048576) (hs : ∀ c ∈ xs, c.size ≤ maxLen) (hR : StrRow w ao xs)
    (hG : ∀ x ∈ xs, ∀ V, Below w.heap.size w V → Calls Tryz.prog G (#[.string x] ++ caps) V fun e w' => e = .returned (.bool (p x.data.toList)) ∧ Below V.heap.size V w') :
    Calls Tryz.prog 121 #[.slice ao xs.length cap, .agg #[.func (.func G) #[] caps]] w (TalOut xs p w) := by
  have hmm := @run_makeMap Tryz.prog
  have HR := Lib.hid hR
  have HS := Lib.hid hs
  have HG := Lib.hid hG
  obtain ⟨V, HV⟩ : ∃ V, Hid (V = (w.alloc (.cells #[.func (.func G) #[] caps] 148)).alloc (.map #[] 0)) := ⟨_, Lib.hid rfl⟩
  obtain ⟨X, hX⟩ : ∃ X, X = w.heap.size := ⟨_, rfl⟩
  have HM : Hid (V.ownsMap Tryz.prog 9 (plainElem Tryz.prog 3) (X + 1) 0 (.map [] : DataW Unit)) := Lib.hid (by
    rw [HV.out, hX]
    have := World.ownsMap_made (H := Unit) (w.alloc (.cells #[.func (.func G) #[] caps] 148)) Tryz.prog 9 (plainElem Tryz.prog 3)
    rwa [World.size_alloc] at this)
  have HX : Hid (V.heap[X]? = some (.cells #[.func (.func G) #[] caps] 148 (0, 0))) := Lib.hid (by
    rw [HV.out, hX]
    exact ((MapKept.heap_alloc _ _).2 _ (by simp)).trans (World.alloc_heap_new w _))
  have HB : Hid (Below w.heap.size w V) := Lib.hid (by rw [HV.out]; exact two_below _ _ _)
  have HXs := Lib.hid hX
  clear hR hs hG
  go_enter Tryz.func121, Tryz.ntmps121
  go_upto_region 2 with fail
  rw [← HV.out, ← hX]
  clear HV hmm hX
  go_wp2_with fail
  go_loopw [11] (fun i wr => ∃ (k : Nat) (D : DataW Unit), k ≤ xs.length ∧ i = .int .i64 k ∧ Hid (Below w.heap.size w wr) ∧ Hid (wr.ownsMap Tryz.prog 9 (plainElem Tryz.prog 3) (X + 1) k D) ∧ Hid (CntIs D (talK xs p k)) ∧ Hid (wr.heap[X]? = some (.cells #[.func (.func G) #[] caps] 148 (0, 0)))) (fun i _ => xs.length - (intOf i).toNat)
  case atStart => exact ⟨0, _, Nat.zero_le _, rfl, HB, HM, Lib.hid (CntIs.empty.same (fun l => by simp [talK, bytesOf, cntN])), HX⟩
  case round =>
    obtain ⟨k, D, hk, rfl, HBw, HMw, HD, HXw⟩ := hrel
    clear HB HM HX
    by_cases hlt : k < xs.length
    · obtain ⟨x, hx⟩ : ∃ x, xs[k]? = some x := ⟨_, List.getElem?_eq_getElem hlt⟩
      have hxm := List.mem_of_getElem? hx
      have C := Lib.hid (HG.out x hxm wr HBw.out)
      have hsz := HS.out x hxm
      have HNo := Lib.hid (fun (h : p x.data.toList = false) l => tal_no xs p k x hx h l)
      have HYe := Lib.hid (fun (h : p x.data.toList = true) l => tal_yes xs p k x hx h l)
      obtain ⟨pb, hpb⟩ : ∃ pb, p x.data.toList = pb := ⟨_, rfl⟩
      rw [hpb] at C HNo HYe
      rcases (HR.out.kept HBw.out) with h0 | ⟨A, rfl, hA, hcell⟩
      · rw [h0] at hlt; simp at hlt
      have hc := hcell k x hx
      obtain ⟨cX, _⟩ := cell_of_box_l HXw.out
      have HSz := Lib.hid hsz
      clear hcell hx hxm hpb hsz
      go_wp2_with fail
      refine C.out.mono ?_; rintro e w2 ⟨rfl, b1⟩
      have HB2 := Lib.hid (below_up HBw.out b1)
      have HX2 := Lib.hid ((b1.block X (lt_of_heap HXw.out)).trans HXw.out)
      have HM2 := Lib.hid (ownsMap_below HMw.out b1)
      clear b1 cX hc C
      cases pb with
      | false =>
        have HD2 := Lib.hid (HD.out.same (HNo.out rfl))
        have HM3 := Lib.hid (HM2.out.mono (Nat.le_succ k))
        go_wp2_with fail
        go_roundw
        case rel => exact ⟨k + 1, D, by omega, by go_num, HB2, HM3, HD2, HX2⟩
        case measure => simp [intOf]; omega
      | true =>
        have HD2 := Lib.hid (HD.out.put x.data.toList (HYe.out rfl))
        have hrun := cnt_look HM2.out HD.out x HSz.out
        have hle := tal_le xs p k x.data.toList
        generalize talK xs p k x.data.toList = c at HD2 hrun hle
        have HKey := Lib.hid (Go.WideMaps.keyOf_string_mk (P := Tryz.prog) Tryz.underlying9 HSz.out)
        have HPe := Lib.hid (plainElem_int (H := Unit) (P := Tryz.prog) (e := 3) (a := (c : Int) + 1) Tryz.underlying3 (WalkArith.wf_i64 (by omega)))
        have hkm : k < maxLen := by unfold maxLen; omega
        have hwr : IntKind.i64.wrap ((c : Int) + 1) = (c : Int) + 1 := IntWalk.i64_in _ (by omega)
        go_wp2_with (at_mapUpdate; refine wpList_mapUpdate_own _ rfl _ _ _ 55 rfl 9 3 (string_keyed Tryz.underlying9) Tryz.underlying55 _ (X + 1) k D rfl HM2.out hkm _ _ (.string x.data.toList) rfl rfl HKey.out (.lit (.int .i64 ((c : Int) + 1))) [] HPe.out ?_; intro w1 ho hg)
        have HB3 := Lib.hid (HB2.out.grown hg HB2.out.size (fun k h => by cases h; have := HXs.out; omega))
        have HX3 := Lib.hid ((hg.block X (lt_of_heap HX2.out) (by simp)).trans HX2.out)
        have HM3 := Lib.hid ho
        clear ho hg hrun hwr
        go_wp2_with fail
        go_roundw
        case rel => exact ⟨k + 1, _, by omega, by go_num, HB3, HM3, HD2, HX3⟩
        case measure => simp [intOf]; omega
    · obtain rfl : k = xs.length := by omega
      have HE : Hid (TalOut xs p w (.returned (.map (some (X + 1)))) wr) := Lib.hid ⟨X + 1, D, rfl, by have := HXs.out; omega, HMw.out, HD.out.same (fun l => by unfold talK; rw [List.take_length, cnt_filter]), HBw.out⟩
      go_wp2_with fail
      go_ret
      exact HE.out
end Go.Proofs.YtigijgcldgbokaaGreat
