/-
  The program's comparison of two lists, place by place, at texts, at columns and texts, and at parts.
  Conditions: lists of at most 2^38 places.
-/
import Derived.WalkKit
import Derived.WalkMore
import Derived.IntWalk
import Derived.Lib.Hide
import Derived.StillTailTactics
import Derived.Deep.Cut
import Derived.Test.YtmomjhnbhckhpaaDoorProg
import Derived.Test.YtmomjhnbhckhpaaDoorICmp
namespace Go.Proofs.YtmomjhnbhckhpaaDoor
open Go.RowKit Go.Shelf
set_option linter.unusedVariables false

set_option maxRecDepth 100000 in
set_option maxHeartbeats 1000000 in
theorem cmpS_any (G : FuncId) (f : ByteArray → ByteArray → Int) (ao bo : Option Addr) (ca cb : Nat) (xs : List (ByteArray)) (ys : List (ByteArray)) (w : World) (hent : ∀ args w, (callFunc G args).run Tryd.prog w = .ok (.enter G args) w) (hn : xs.length ≤ 274877906944) (hm : ys.length ≤ 274877906944) (hR : StrRow w ao xs) (hS : StrRow w bo ys)
    (hby : ∀ (k : Nat) x y, xs[k]? = some x → ys[k]? = some y → ∀ W, Below w.heap.size w W → Calls Tryd.prog G #[.string x, .string y] W fun e w' => e = .returned (.int .i64 (f x y)) ∧ Below W.heap.size W w') :
    Calls Tryd.prog 31 #[.slice ao xs.length ca, .slice bo ys.length cb, .func (.func G) #[] #[]] w fun e w' => e = .returned (.int .i64 (lexH f xs ys)) ∧ Below w.heap.size w w' := by
  have HRo := Lib.hid hR
  have HSo := Lib.hid hS
  have C := Lib.hid hby
  have CE := Lib.hid (fun W => compare_any (xs.length : Int) (ys.length : Int) W)
  have HH := Lib.hid (lex_hit f xs ys)
  have HE := Lib.hid (lex_end f xs ys)
  obtain ⟨m, hmin⟩ : ∃ m, m = min xs.length ys.length := ⟨_, rfl⟩
  have hmin2 : min (xs.length : Int) (ys.length : Int) = (m : Int) := by omega
  have hmx : m ≤ xs.length := by omega
  have hmy : m ≤ ys.length := by omega
  have HM := Lib.hid hmin
  clear hR hS hby hmin
  generalize lexH f xs ys = F at HH HE ⊢
  generalize cmpI (xs.length : Int) (ys.length : Int) = fe at CE HE
  go_enter Tryd.func31, Tryd.ntmps31
  go_wp2_with fail
  go_loopw [14] (fun i wr => ∃ (k : Nat), k ≤ m ∧ i = .int .i64 k ∧ Hid (Below w.heap.size w wr) ∧ Hid (∀ (j : Nat) x y, j < k → xs[j]? = some x → ys[j]? = some y → f x y = 0)) (fun i _ => m - (intOf i).toNat)
  case atStart => exact ⟨0, Nat.zero_le _, by first | rfl | go_num, Lib.hid (Below.refl _ _), Lib.hid (fun j x y hj _ _ => by omega)⟩
  case round =>
    obtain ⟨k, hk, rfl, HB, HZ⟩ := hrel
    by_cases hlt : k < m
    · obtain ⟨x, hx⟩ : ∃ x, xs[k]? = some x := ⟨_, List.getElem?_eq_getElem (by omega)⟩
      obtain ⟨y, hy⟩ : ∃ y, ys[k]? = some y := ⟨_, List.getElem?_eq_getElem (by omega)⟩
      rcases (HRo.out.kept HB.out) with h0 | ⟨A, rfl, hA, hcell1⟩
      · rw [h0] at hx; simp at hx
      have hc1 := hcell1 k _ hx
      clear hcell1
      rcases (HSo.out.kept HB.out) with h0 | ⟨B, rfl, hB, hcell2⟩
      · rw [h0] at hy; simp at hy
      have hc2 := hcell2 k _ hy
      clear hcell2
      have C1 := Lib.hid (C.out k x y hx hy wr.drew (bdn (n := 1) HB.out))
      have HX := Lib.hid hx
      have HY := Lib.hid hy
      have hkx : k < xs.length := by omega
      have hky : k < ys.length := by omega
      have HF : Hid (f x y ≠ 0 → F = f x y) := Lib.hid (fun h => HH.out k x y hx hy HZ.out h)
      clear hx hy
      obtain ⟨r, hr⟩ : ∃ r, r = f x y := ⟨_, rfl⟩
      rw [← hr] at C1 HF
      have HRr := Lib.hid hr
      clear hr
      go_upto_region 4 with fail
      go_still_tail 9, (by kernel_rfl)
      rw [show ({ heap := wr.heap, tape := wr.tape, drawn := wr.drawn + 1, os := wr.os, output := wr.output } : World) = wr.drew from rfl]
      by_cases h0 : r = 0
      · have HZ2 : Hid (∀ (j : Nat) x y, j < k + 1 → xs[j]? = some x → ys[j]? = some y → f x y = 0) := Lib.hid (fun j x' y' hj h1 h2 => by
          by_cases e : j = k
          · subst e; rw [HX.out] at h1; rw [HY.out] at h2; cases h1; cases h2; rw [← HRr.out]; exact h0
          · exact HZ.out j x' y' (by omega) h1 h2)
        clear HF
        subst h0
        go_wp2_with fail
        refine C1.out.mono ?_; rintro e w2 ⟨rfl, b1⟩
        have B1 := Lib.hid (below_up (show Below w.heap.size w wr.drew from bdn (n := 1) HB.out) b1)
        clear b1
        go_wp2_with fail
        go_roundw
        case rel => exact ⟨k + 1, by omega, by go_num, B1, HZ2⟩
        case measure => simp [intOf]; omega
      · have E := Lib.hid (HF.out h0)
        have hb : (r != 0) = true := by simpa using h0
        clear HF
        go_wp2_with fail
        refine C1.out.mono ?_; rintro e w2 ⟨rfl, b1⟩
        have B1 := Lib.hid (below_up (show Below w.heap.size w wr.drew from bdn (n := 1) HB.out) b1)
        clear b1
        go_wp2_with fail
        go_ret
        exact ⟨by rw [E.out]; rfl, B1.out⟩
    · obtain rfl : k = m := by omega
      have E : Hid (F = fe) := Lib.hid (HE.out (fun j x y h1 h2 => HZ.out j x y (by have := (List.getElem?_eq_some_iff.1 h1).1; have := (List.getElem?_eq_some_iff.1 h2).1; have := HM.out; omega) h1 h2))
      go_wp2_with fail
      refine (CE.out _).mono ?_; rintro e w2 ⟨rfl, rfl⟩
      go_wp2_with fail
      go_ret
      exact ⟨by rw [E.out]; rfl, HB.out⟩

set_option maxRecDepth 100000 in
set_option maxHeartbeats 1000000 in
theorem cmpI_any (G : FuncId) (c1 c2 : Value) (f : Int → ByteArray → Int) (ao bo : Option Addr) (ca cb : Nat) (xs : List (Int)) (ys : List (ByteArray)) (w : World) (hent : ∀ args w, (callFunc G args).run Tryd.prog w = .ok (.enter G args) w) (hn : xs.length ≤ 274877906944) (hm : ys.length ≤ 274877906944) (hR : IntsAt w ao xs) (hS : StrRow w bo ys)
    (hby : ∀ (k : Nat) x y, xs[k]? = some x → ys[k]? = some y → ∀ W, Below w.heap.size w W → Calls Tryd.prog G #[.int .i64 x, .string y, c1, c2] W fun e w' => e = .returned (.int .i64 (f x y)) ∧ Below W.heap.size W w') :
    Calls Tryd.prog 50 #[.slice ao xs.length ca, .slice bo ys.length cb, .func (.func G) #[] #[c1, c2]] w fun e w' => e = .returned (.int .i64 (lexH f xs ys)) ∧ Below w.heap.size w w' := by
  have HRo := Lib.hid hR
  have HSo := Lib.hid hS
  have C := Lib.hid hby
  have CE := Lib.hid (fun W => compare_any (xs.length : Int) (ys.length : Int) W)
  have HH := Lib.hid (lex_hit f xs ys)
  have HE := Lib.hid (lex_end f xs ys)
  obtain ⟨m, hmin⟩ : ∃ m, m = min xs.length ys.length := ⟨_, rfl⟩
  have hmin2 : min (xs.length : Int) (ys.length : Int) = (m : Int) := by omega
  have hmx : m ≤ xs.length := by omega
  have hmy : m ≤ ys.length := by omega
  have HM := Lib.hid hmin
  clear hR hS hby hmin
  generalize lexH f xs ys = F at HH HE ⊢
  generalize cmpI (xs.length : Int) (ys.length : Int) = fe at CE HE
  go_enter Tryd.func50, Tryd.ntmps50
  go_wp2_with fail
  go_loopw [14] (fun i wr => ∃ (k : Nat), k ≤ m ∧ i = .int .i64 k ∧ Hid (Below w.heap.size w wr) ∧ Hid (∀ (j : Nat) x y, j < k → xs[j]? = some x → ys[j]? = some y → f x y = 0)) (fun i _ => m - (intOf i).toNat)
  case atStart => exact ⟨0, Nat.zero_le _, by first | rfl | go_num, Lib.hid (Below.refl _ _), Lib.hid (fun j x y hj _ _ => by omega)⟩
  case round =>
    obtain ⟨k, hk, rfl, HB, HZ⟩ := hrel
    by_cases hlt : k < m
    · obtain ⟨x, hx⟩ : ∃ x, xs[k]? = some x := ⟨_, List.getElem?_eq_getElem (by omega)⟩
      obtain ⟨y, hy⟩ : ∃ y, ys[k]? = some y := ⟨_, List.getElem?_eq_getElem (by omega)⟩
      rcases (HRo.out.kept HB.out) with h0 | ⟨A, rfl, hA, hcell1⟩
      · rw [h0] at hx; simp at hx
      have hc1 := hcell1 k _ hx
      clear hcell1
      rcases (HSo.out.kept HB.out) with h0 | ⟨B, rfl, hB, hcell2⟩
      · rw [h0] at hy; simp at hy
      have hc2 := hcell2 k _ hy
      clear hcell2
      have C1 := Lib.hid (C.out k x y hx hy wr.drew (bdn (n := 1) HB.out))
      have HX := Lib.hid hx
      have HY := Lib.hid hy
      have hkx : k < xs.length := by omega
      have hky : k < ys.length := by omega
      have HF : Hid (f x y ≠ 0 → F = f x y) := Lib.hid (fun h => HH.out k x y hx hy HZ.out h)
      clear hx hy
      obtain ⟨r, hr⟩ : ∃ r, r = f x y := ⟨_, rfl⟩
      rw [← hr] at C1 HF
      have HRr := Lib.hid hr
      clear hr
      go_upto_region 4 with fail
      go_still_tail 9, (by kernel_rfl)
      rw [show ({ heap := wr.heap, tape := wr.tape, drawn := wr.drawn + 1, os := wr.os, output := wr.output } : World) = wr.drew from rfl]
      by_cases h0 : r = 0
      · have HZ2 : Hid (∀ (j : Nat) x y, j < k + 1 → xs[j]? = some x → ys[j]? = some y → f x y = 0) := Lib.hid (fun j x' y' hj h1 h2 => by
          by_cases e : j = k
          · subst e; rw [HX.out] at h1; rw [HY.out] at h2; cases h1; cases h2; rw [← HRr.out]; exact h0
          · exact HZ.out j x' y' (by omega) h1 h2)
        clear HF
        subst h0
        go_wp2_with fail
        refine C1.out.mono ?_; rintro e w2 ⟨rfl, b1⟩
        have B1 := Lib.hid (below_up (show Below w.heap.size w wr.drew from bdn (n := 1) HB.out) b1)
        clear b1
        go_wp2_with fail
        go_roundw
        case rel => exact ⟨k + 1, by omega, by go_num, B1, HZ2⟩
        case measure => simp [intOf]; omega
      · have E := Lib.hid (HF.out h0)
        have hb : (r != 0) = true := by simpa using h0
        clear HF
        go_wp2_with fail
        refine C1.out.mono ?_; rintro e w2 ⟨rfl, b1⟩
        have B1 := Lib.hid (below_up (show Below w.heap.size w wr.drew from bdn (n := 1) HB.out) b1)
        clear b1
        go_wp2_with fail
        go_ret
        exact ⟨by rw [E.out]; rfl, B1.out⟩
    · obtain rfl : k = m := by omega
      have E : Hid (F = fe) := Lib.hid (HE.out (fun j x y h1 h2 => HZ.out j x y (by have := (List.getElem?_eq_some_iff.1 h1).1; have := (List.getElem?_eq_some_iff.1 h2).1; have := HM.out; omega) h1 h2))
      go_wp2_with fail
      refine (CE.out _).mono ?_; rintro e w2 ⟨rfl, rfl⟩
      go_wp2_with fail
      go_ret
      exact ⟨by rw [E.out]; rfl, HB.out⟩

set_option maxRecDepth 100000 in
set_option maxHeartbeats 1000000 in
theorem cmpP_any (G : FuncId) (f : Part → Part → Int) (ao bo : Option Addr) (ca cb : Nat) (xs : List (Part)) (ys : List (Part)) (w : World) (hent : ∀ args w, (callFunc G args).run Tryd.prog w = .ok (.enter G args) w) (hn : xs.length ≤ 274877906944) (hm : ys.length ≤ 274877906944) (hR : PartsAt w ao xs) (hS : PartsAt w bo ys)
    (hby : ∀ (k : Nat) x y, xs[k]? = some x → ys[k]? = some y → ∀ W, Below w.heap.size w W → Calls Tryd.prog G #[.agg #[.int .i64 x.1, .string x.2], .agg #[.int .i64 y.1, .string y.2]] W fun e w' => e = .returned (.int .i64 (f x y)) ∧ Below W.heap.size W w') :
    Calls Tryd.prog 28 #[.slice ao xs.length ca, .slice bo ys.length cb, .func (.func G) #[] #[]] w fun e w' => e = .returned (.int .i64 (lexH f xs ys)) ∧ Below w.heap.size w w' := by
  have HRo := Lib.hid hR
  have HSo := Lib.hid hS
  have C := Lib.hid hby
  have CE := Lib.hid (fun W => compare_any (xs.length : Int) (ys.length : Int) W)
  have HH := Lib.hid (lex_hit f xs ys)
  have HE := Lib.hid (lex_end f xs ys)
  obtain ⟨m, hmin⟩ : ∃ m, m = min xs.length ys.length := ⟨_, rfl⟩
  have hmin2 : min (xs.length : Int) (ys.length : Int) = (m : Int) := by omega
  have hmx : m ≤ xs.length := by omega
  have hmy : m ≤ ys.length := by omega
  have HM := Lib.hid hmin
  clear hR hS hby hmin
  generalize lexH f xs ys = F at HH HE ⊢
  generalize cmpI (xs.length : Int) (ys.length : Int) = fe at CE HE
  go_enter Tryd.func28, Tryd.ntmps28
  go_wp2_with fail
  go_loopw [14] (fun i wr => ∃ (k : Nat), k ≤ m ∧ i = .int .i64 k ∧ Hid (Below w.heap.size w wr) ∧ Hid (∀ (j : Nat) x y, j < k → xs[j]? = some x → ys[j]? = some y → f x y = 0)) (fun i _ => m - (intOf i).toNat)
  case atStart => exact ⟨0, Nat.zero_le _, by first | rfl | go_num, Lib.hid (Below.refl _ _), Lib.hid (fun j x y hj _ _ => by omega)⟩
  case round =>
    obtain ⟨k, hk, rfl, HB, HZ⟩ := hrel
    by_cases hlt : k < m
    · obtain ⟨x, hx⟩ : ∃ x, xs[k]? = some x := ⟨_, List.getElem?_eq_getElem (by omega)⟩
      obtain ⟨y, hy⟩ : ∃ y, ys[k]? = some y := ⟨_, List.getElem?_eq_getElem (by omega)⟩
      rcases (HRo.out.kept HB.out) with h0 | ⟨b1, o1, rfl, hA, hcell1⟩
      · rw [h0] at hx; simp at hx
      obtain ⟨hc1, hc1'⟩ := hcell1 k _ hx
      clear hcell1
      rcases (HSo.out.kept HB.out) with h0 | ⟨b2, o2, rfl, hB, hcell2⟩
      · rw [h0] at hy; simp at hy
      obtain ⟨hc2, hc2'⟩ := hcell2 k _ hy
      clear hcell2
      have C1 := Lib.hid (C.out k x y hx hy wr.drew (bdn (n := 1) HB.out))
      have HX := Lib.hid hx
      have HY := Lib.hid hy
      have hkx : k < xs.length := by omega
      have hky : k < ys.length := by omega
      have HF : Hid (f x y ≠ 0 → F = f x y) := Lib.hid (fun h => HH.out k x y hx hy HZ.out h)
      clear hx hy
      obtain ⟨r, hr⟩ : ∃ r, r = f x y := ⟨_, rfl⟩
      rw [← hr] at C1 HF
      have HRr := Lib.hid hr
      clear hr
      obtain ⟨x1, x2⟩ := x
      obtain ⟨y1, y2⟩ := y
      dsimp only at hc1 hc1' hc2 hc2' C1
      go_upto_region 4 with fail
      go_still_tail 9, (by kernel_rfl)
      rw [show ({ heap := wr.heap, tape := wr.tape, drawn := wr.drawn + 1, os := wr.os, output := wr.output } : World) = wr.drew from rfl]
      by_cases h0 : r = 0
      · have HZ2 : Hid (∀ (j : Nat) x y, j < k + 1 → xs[j]? = some x → ys[j]? = some y → f x y = 0) := Lib.hid (fun j x' y' hj h1 h2 => by
          by_cases e : j = k
          · subst e; rw [HX.out] at h1; rw [HY.out] at h2; cases h1; cases h2; rw [← HRr.out]; exact h0
          · exact HZ.out j x' y' (by omega) h1 h2)
        clear HF
        subst h0
        go_wp2_with fail
        refine C1.out.mono ?_; rintro e w2 ⟨rfl, b1⟩
        have B1 := Lib.hid (below_up (show Below w.heap.size w wr.drew from bdn (n := 1) HB.out) b1)
        clear b1
        go_wp2_with fail
        go_roundw
        case rel => exact ⟨k + 1, by omega, by go_num, B1, HZ2⟩
        case measure => simp [intOf]; omega
      · have E := Lib.hid (HF.out h0)
        have hb : (r != 0) = true := by simpa using h0
        clear HF
        go_wp2_with fail
        refine C1.out.mono ?_; rintro e w2 ⟨rfl, b1⟩
        have B1 := Lib.hid (below_up (show Below w.heap.size w wr.drew from bdn (n := 1) HB.out) b1)
        clear b1
        go_wp2_with fail
        go_ret
        exact ⟨by rw [E.out]; rfl, B1.out⟩
    · obtain rfl : k = m := by omega
      have E : Hid (F = fe) := Lib.hid (HE.out (fun j x y h1 h2 => HZ.out j x y (by have := (List.getElem?_eq_some_iff.1 h1).1; have := (List.getElem?_eq_some_iff.1 h2).1; have := HM.out; omega) h1 h2))
      go_wp2_with fail
      refine (CE.out _).mono ?_; rintro e w2 ⟨rfl, rfl⟩
      go_wp2_with fail
      go_ret
      exact ⟨by rw [E.out]; rfl, HB.out⟩

end Go.Proofs.YtmomjhnbhckhpaaDoor
