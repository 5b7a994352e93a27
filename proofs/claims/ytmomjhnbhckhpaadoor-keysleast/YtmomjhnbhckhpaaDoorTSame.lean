/-
  Whether two slices of strings, or of records, are alike: the program's answer, and the document's reference's; and whether records are few and short.
  Conditions: slices of at most 2^40 elements (the statements ask about far smaller ones).
-/
import Derived.WalkKit
import Derived.WalkMore
import Derived.Lib.Hide
import Derived.Deep.RegionWith
import Derived.StillTailTactics
import Derived.Lib.QuietBelow
import Derived.Test.YtmomjhnbhckhpaaDoorProg
import Derived.Test.YtmomjhnbhckhpaaDoorTBase
namespace Go.Proofs.YtmomjhnbhckhpaaDoor
open Go.RowKit Go.Shelf

def sameRow (xs ys : List ByteArray) : Bool := decide (bytesOf xs = bytesOf ys)
def sameRecs (a b : List (List ByteArray)) : Bool := decide (recsOf a = recsOf b)
theorem map_all {α β : Type} (f : α → β) (xs ys : List α) (h : xs.length = ys.length) (hall : ∀ (j : Nat) x y, xs[j]? = some x → ys[j]? = some y → f x = f y) : xs.map f = ys.map f := by
  refine List.ext_getElem? fun i => ?_
  rw [List.getElem?_map, List.getElem?_map]
  by_cases hi : i < xs.length
  · rw [List.getElem?_eq_getElem hi, List.getElem?_eq_getElem (show i < ys.length by omega)]
    exact congrArg some (hall i _ _ (List.getElem?_eq_getElem hi) (List.getElem?_eq_getElem (by omega)))
  · rw [List.getElem?_eq_none (by omega), List.getElem?_eq_none (by omega)]
theorem map_no {α β : Type} (f : α → β) (xs ys : List α) (k : Nat) (x y : α) (hx : xs[k]? = some x) (hy : ys[k]? = some y) (hne : f x ≠ f y) : xs.map f ≠ ys.map f := by
  intro e
  have := congrArg (fun l => l[k]?) e
  simp only [List.getElem?_map, hx, hy, Option.map_some, Option.some.injEq] at this
  exact hne this
theorem row_len (xs ys : List ByteArray) (h : xs.length ≠ ys.length) : sameRow xs ys = false := by
  unfold sameRow bytesOf; exact decide_eq_false (fun e => h (by simpa using congrArg List.length e))
theorem row_all (xs ys : List ByteArray) (h : xs.length = ys.length) (hall : ∀ (j : Nat) x y, j < xs.length → xs[j]? = some x → ys[j]? = some y → x.data.toList = y.data.toList) : sameRow xs ys = true :=
  decide_eq_true (map_all _ xs ys h (fun j x y hx hy => hall j x y (List.getElem?_eq_some_iff.1 hx).1 hx hy))
theorem row_no (xs ys : List ByteArray) (k : Nat) (x y : ByteArray) (hx : xs[k]? = some x) (hy : ys[k]? = some y) (hne : x.data.toList ≠ y.data.toList) : sameRow xs ys = false :=
  decide_eq_false (map_no _ xs ys k x y hx hy hne)
theorem recs_len (xs ys : List (List ByteArray)) (h : xs.length ≠ ys.length) : sameRecs xs ys = false := by
  unfold sameRecs recsOf; exact decide_eq_false (fun e => h (by simpa using congrArg List.length e))
theorem recs_all (xs ys : List (List ByteArray)) (h : xs.length = ys.length) (hall : ∀ (j : Nat) x y, j < xs.length → xs[j]? = some x → ys[j]? = some y → bytesOf x = bytesOf y) : sameRecs xs ys = true :=
  decide_eq_true (map_all _ xs ys h (fun j x y hx hy => hall j x y (List.getElem?_eq_some_iff.1 hx).1 hx hy))
theorem recs_no (xs ys : List (List ByteArray)) (k : Nat) (x y : List ByteArray) (hx : xs[k]? = some x) (hy : ys[k]? = some y) (hne : bytesOf x ≠ bytesOf y) : sameRecs xs ys = false :=
  decide_eq_false (map_no _ xs ys k x y hx hy hne)
theorem int_bne (n m : Nat) : ((n : Int) != (m : Int)) = decide (n ≠ m) := by
  by_cases h : n = m
  · subst h; simp
  · rw [decide_eq_true h, bne_iff_ne]; omega
theorem str_beq (x y : ByteArray) : (x.toList == y.toList) = decide (x.data.toList = y.data.toList) := by
  rw [ba_toList, ba_toList]
  by_cases h : x.data.toList = y.data.toList
  · rw [h]; simp
  · rw [decide_eq_false h, beq_eq_false_iff_ne]; exact h

theorem sameRow_iff (x y : List ByteArray) : (sameRow x y = true ↔ bytesOf x = bytesOf y) := by unfold sameRow; simp

set_option maxRecDepth 100000 in
set_option maxHeartbeats 2000000 in
theorem rrow_any (ao bo : Option Addr) (ca cb : Nat) (xs ys : List ByteArray) (w : World) (hn : xs.length ≤ 1099511627776) (hR : StrRow w ao xs) (hS : StrRow w bo ys) :
    Calls Tryd.prog 15 #[.slice ao xs.length ca, .slice bo ys.length cb] w fun e w' => e = .returned (.bool (sameRow xs ys)) ∧ Below w.heap.size w w' := by
  have HRo := Lib.hid hR
  have HSo := Lib.hid hS
  have HL := Lib.hid (row_len xs ys)
  have HA := Lib.hid (row_all xs ys)
  have HNo := Lib.hid (row_no xs ys)
  clear hR hS
  generalize sameRow xs ys = F at HL HA HNo ⊢
  by_cases hlen : xs.length = ys.length
  · have hb : ((xs.length : Int) != (ys.length : Int)) = false := by rw [int_bne]; simpa using hlen
    have HLen := Lib.hid hlen
    go_enter Tryd.func15, Tryd.ntmps15
    go_wp2_with fail
    go_loopw [5] (fun i wr => ∃ k : Nat, k ≤ xs.length ∧ i = .int .i64 k ∧ Hid (Below w.heap.size w wr) ∧ Hid (∀ j x y, j < k → xs[j]? = some x → ys[j]? = some y → x.data.toList = y.data.toList)) (fun i _ => xs.length - (intOf i).toNat)
    case atStart => exact ⟨0, Nat.zero_le _, rfl, Lib.hid (Below.refl _ _), Lib.hid (fun j x y h _ _ => by omega)⟩
    case round =>
      obtain ⟨k, hk, rfl, HB, HN⟩ := hrel
      by_cases hlt : k < xs.length
      · obtain ⟨x, hx⟩ : ∃ x, xs[k]? = some x := ⟨_, List.getElem?_eq_getElem hlt⟩
        obtain ⟨y, hy⟩ : ∃ y, ys[k]? = some y := ⟨_, List.getElem?_eq_getElem (by rw [← HLen.out]; exact hlt)⟩
        have HX := Lib.hid hx
        have HY := Lib.hid hy
        have hlt2 : k < ys.length := by rw [← HLen.out]; exact hlt
        rcases (HRo.out.kept HB.out) with h0 | ⟨A, rfl, hA, hcell⟩
        · rw [h0] at hlt; simp at hlt
        rcases (HSo.out.kept HB.out) with h0 | ⟨C, rfl, hC, hcell2⟩
        · rw [h0] at hlt2; simp at hlt2
        have hc := hcell k x hx
        have hd := hcell2 k y hy
        clear hcell hcell2 hx hy hlen
        have hbe := str_beq x y
        by_cases he : x.data.toList = y.data.toList
        · rw [decide_eq_true he] at hbe
          have HN' : Hid (∀ j x y, j < k + 1 → xs[j]? = some x → ys[j]? = some y → x.data.toList = y.data.toList) := Lib.hid (fun j x' y' hj h1 h2 => by
            by_cases e : j = k
            · subst e; rw [HX.out] at h1; rw [HY.out] at h2; cases h1; cases h2; exact he
            · exact HN.out j x' y' (by omega) h1 h2)
          have HB' := Lib.hid (HB.out.trans (Below.drew (Below.refl _ wr)))
          clear he
          go_wp2_with fail
          go_region
          go_wp2_with fail
          go_roundw
          case rel => exact ⟨k + 1, by omega, by go_num, HB', HN'⟩
          case measure => simp [intOf]; omega
        · rw [decide_eq_false he] at hbe
          have E := Lib.hid (HNo.out k x y HX.out HY.out he)
          have HB' := Lib.hid (HB.out.trans (Below.drew (Below.refl _ wr)))
          clear he
          go_wp2_with fail
          go_region
          go_wp2_with fail
          go_ret
          exact ⟨by rw [E.out]; rfl, HB'.out⟩
      · obtain rfl : k = xs.length := by omega
        have E := Lib.hid (HA.out HLen.out HN.out)
        go_wp2_with fail
        go_ret
        exact ⟨by rw [E.out]; rfl, HB.out⟩
  · have hb : ((xs.length : Int) != (ys.length : Int)) = true := by rw [int_bne]; simpa using hlen
    have E := Lib.hid (HL.out hlen)
    clear hlen
    go_enter Tryd.func15, Tryd.ntmps15
    go_wp2_with fail
    go_ret
    exact ⟨by rw [E.out]; rfl, Below.refl _ _⟩

end Go.Proofs.YtmomjhnbhckhpaaDoor
