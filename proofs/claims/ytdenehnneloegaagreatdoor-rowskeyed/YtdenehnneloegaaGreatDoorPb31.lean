/-
  Texts of these rows' proofs, laid one behind the other: ICmp, ICmp2, IParts.
  Conditions: those of each theorem.
-/
import Derived.WalkKit
import Derived.WalkMore
import Derived.IntWalk
import Derived.Lib.Hide
import Derived.Sort.Grow
import Derived.StillTailTactics
import Derived.Deep.Cut
import Derived.Deep.RegionWith
import Derived.Deep.RegionHeld3
import Derived.Test.YtdenehnneloegaaGreatDoorProg
import Derived.Test.YtdenehnneloegaaGreatDoorPb30
import Derived.Test.YtdenehnneloegaaGreatDoorPb5
import Derived.Maps.Own
import Derived.Maps.OwnOps
import Derived.Maps.Views
import Derived.WalkArith
import Derived.OwnWalk
import Derived.Lib.SmallJoins
import Derived.Laws.OwnMore
import Derived.Sort.OwnSorted
import Derived.Shelf.SlSortCmp.NoneTotal
namespace Go.Proofs.YtdenehnneloegaaGreatDoor
open Go.RowKit Go.Shelf Go.Sort
set_option linter.unusedVariables false
/-- the first that is not 0 -/
def orLI : List Int → Int
  | [] => 0
  | x :: l => if x ≠ 0 then x else orLI l
theorem orI_hit (l : List Int) (k : Nat) (x : Int) (hx : l[k]? = some x) (h : ∀ (j : Nat) y, j < k → l[j]? = some y → y = 0) (hne : x ≠ 0) : orLI l = x := by
  induction l generalizing k with
  | nil => simp at hx
  | cons a l ih =>
    unfold orLI
    cases k with
    | zero => simp at hx; subst hx; rw [if_pos hne]
    | succ k =>
      have e := h 0 a (by omega) rfl
      rw [if_neg (by simp [e])]
      exact ih k (by simpa using hx) (fun j y hj hy => h (j + 1) y (by omega) (by simpa using hy))
theorem orI_none (l : List Int) (h : ∀ (j : Nat) y, j < l.length → l[j]? = some y → y = 0) : orLI l = 0 := by
  induction l with
  | nil => rfl
  | cons a l ih =>
    unfold orLI
    have e := h 0 a (by simp) rfl
    rw [if_neg (by simp [e])]
    exact ih (fun j y hj hy => h (j + 1) y (by simp; omega) (by simpa using hy))
theorem partC_or (p q : Part) : partC p q = orLI [cmpI q.1 p.1, txtC p.2 q.2] := by
  unfold partC orLI orLI orLI
  show (if cmpI q.1 p.1 = 0 then _ else cmpI q.1 p.1) = _
  by_cases h : cmpI q.1 p.1 = 0
  · rw [if_pos h, if_neg (by simp [h])]
    by_cases k : txtC p.2 q.2 = 0
    · rw [if_neg (by simp [k]), k]
    · rw [if_pos k]
  · rw [if_neg h, if_pos h]
theorem lex_hit {α β : Type} (f : α → β → Int) : ∀ (xs : List α) (ys : List β) (k : Nat) x y, xs[k]? = some x → ys[k]? = some y → (∀ (j : Nat) x y, j < k → xs[j]? = some x → ys[j]? = some y → f x y = 0) → f x y ≠ 0 → lexH f xs ys = f x y
  | [], _, k, x, y, hx, _, _, _ => by simp at hx
  | _ :: _, [], k, x, y, _, hy, _, _ => by simp at hy
  | a :: xs, b :: ys, 0, x, y, hx, hy, _, hne => by
    simp at hx hy; subst hx; subst hy
    simp only [lexH]; rw [if_neg hne]
  | a :: xs, b :: ys, k + 1, x, y, hx, hy, h, hne => by
    have e := h 0 a b (by omega) rfl rfl
    simp only [lexH]; rw [if_pos e]
    exact lex_hit f xs ys k x y (by simpa using hx) (by simpa using hy) (fun j x y hj h1 h2 => h (j + 1) x y (by omega) (by simpa using h1) (by simpa using h2)) hne
theorem lex_end {α β : Type} (f : α → β → Int) : ∀ (xs : List α) (ys : List β), (∀ (j : Nat) x y, xs[j]? = some x → ys[j]? = some y → f x y = 0) → lexH f xs ys = cmpI xs.length ys.length
  | [], [], _ => rfl
  | [], b :: ys, _ => by
    show (-1 : Int) = _
    unfold cmpI; rw [if_pos (by simp only [List.length_nil, List.length_cons]; omega)]
  | a :: xs, [], _ => by
    show (1 : Int) = _
    unfold cmpI; rw [if_neg (by simp only [List.length_nil, List.length_cons]; omega), if_pos (by simp only [List.length_nil, List.length_cons]; omega)]
  | a :: xs, b :: ys, h => by
    have e := h 0 a b rfl rfl
    simp only [lexH]; rw [if_pos e, lex_end f xs ys (fun j x y h1 h2 => h (j + 1) x y (by simpa using h1) (by simpa using h2))]
    unfold cmpI
    simp only [List.length_cons]
    have e1 : ((xs.length : Int) < ys.length) ↔ (((xs.length + 1 : Nat) : Int) < ((ys.length + 1 : Nat) : Int)) := by omega
    have e2 : ((ys.length : Int) < xs.length) ↔ (((ys.length + 1 : Nat) : Int) < ((xs.length + 1 : Nat) : Int)) := by omega
    simp only [e1, e2]
/-- the cells of a slice of parts -/
def PartsAt (w : World) (ao : Option Addr) (l : List Part) : Prop := l = [] ∨ ∃ b o, ao = some ⟨b, o, none⟩ ∧ b < w.heap.size ∧ ∀ (i : Nat) p, l[i]? = some p → w.cell? ⟨b, o + i * 2, none⟩ = some (.int .i64 p.1) ∧ w.cell? ⟨b, o + i * 2 + 1, none⟩ = some (.string p.2)
theorem PartsAt.kept {w w' : World} {ao : Option Addr} {l : List Part} (h : PartsAt w ao l) (hB : Below w.heap.size w w') : PartsAt w' ao l := by
  rcases h with h | ⟨b, o, h1, h2, h3⟩
  · exact .inl h
  · exact .inr ⟨b, o, h1, Nat.lt_of_lt_of_le h2 hB.size, fun i p hp => ⟨(hB.cell (p := ⟨b, o + i * 2, none⟩) h2).trans (h3 i p hp).1, (hB.cell (p := ⟨b, o + i * 2 + 1, none⟩) h2).trans (h3 i p hp).2⟩⟩
set_option maxRecDepth 100000 in
set_option maxHeartbeats 1000000 in
theorem orI_any (ao : Option Addr) (cap : Nat) (xs : List Int) (w : World) (hn : xs.length ≤ 274877906944) (hR : IntsAt w ao xs) :
    Calls Tryz.prog 135 #[.slice ao xs.length cap] w fun e w' => e = .returned (.int .i64 (orLI xs)) ∧ w' = w := by
  have HRo := Lib.hid hR
  have HH := Lib.hid (orI_hit xs)
  have HNo := Lib.hid (orI_none xs)
  clear hR
  generalize orLI xs = F at HH HNo ⊢
  go_enter Tryz.func135, Tryz.ntmps135
  go_wp2_with fail
  go_loopw [8] (fun i wr => ∃ (k : Nat), k ≤ xs.length ∧ i = .int .i64 k ∧ Hid (wr = w) ∧ Hid (∀ (j : Nat) y, j < k → xs[j]? = some y → y = 0)) (fun i _ => xs.length - (intOf i).toNat)
  case atStart => exact ⟨0, Nat.zero_le _, rfl, Lib.hid rfl, Lib.hid (fun j y hj _ => by omega)⟩
  case round =>
    obtain ⟨k, hk, rfl, HW, HZ⟩ := hrel
    by_cases hlt : k < xs.length
    · obtain ⟨x, hx⟩ : ∃ x, xs[k]? = some x := ⟨_, List.getElem?_eq_getElem hlt⟩
      have hR := HRo.out
      rw [← HW.out] at hR
      rcases hR with h0 | ⟨A, rfl, hA, hcell⟩
      · rw [h0] at hlt; simp at hlt
      have hc := hcell k _ hx
      have HX := Lib.hid hx
      clear hcell hx
      by_cases h0 : x = 0
      · have HZ2 : Hid (∀ (j : Nat) y, j < k + 1 → xs[j]? = some y → y = 0) := Lib.hid (fun j y hj hy => by
          by_cases e : j = k
          · subst e; rw [HX.out] at hy; cases hy; exact h0
          · exact HZ.out j y (by omega) hy)
        subst h0
        go_wp2_with fail
        go_roundw
        case rel => exact ⟨k + 1, by omega, by go_num, HW, HZ2⟩
        case measure => simp [intOf]; omega
      · have E := Lib.hid (HH.out k x HX.out HZ.out h0)
        go_wp2_with fail
        go_ret
        exact ⟨by rw [E.out]; rfl, HW.out⟩
    · obtain rfl : k = xs.length := by omega
      have E := Lib.hid (HNo.out HZ.out)
      go_wp2_with fail
      go_ret
      exact ⟨by rw [E.out]; rfl, HW.out⟩
theorem strc_any (a b : ByteArray) (w : World) : Calls Tryz.prog 67 #[.string a, .string b] w fun e w' => e = .returned (.int .i64 (txtC a b)) ∧ w' = w := Any.strings_Compare laysSi a b w
theorem ints2_atI (w : World) (a b : Int) (T : TypeId) : IntsAt (w.alloc (.cells #[.int .i64 a, .int .i64 b] T)) (some ⟨w.heap.size, 0, none⟩) [a, b] := by
  refine .inr ⟨_, rfl, by simp, fun i p hp => ?_⟩
  have h := World.alloc_heap_new w (.cells #[.int .i64 a, .int .i64 b] T)
  have e : (⟨w.heap.size, 0, none⟩ : Addr).add i = ⟨w.heap.size, i, none⟩ := by unfold Addr.add; split <;> simp_all
  rw [e, Lib.cell_of_heap h]
  match i, hp with
  | 0, hp => simp at hp; subst hp; rfl
  | 1, hp => simp at hp; subst hp; rfl
  | i + 2, hp => simp at hp
set_option maxRecDepth 100000 in
set_option maxHeartbeats 2000000 in
theorem partsI_any (p q : Part) (w : World) :
    Calls Tryz.prog 87 #[.agg #[.int .i64 p.1, .string p.2], .agg #[.int .i64 q.1, .string q.2]] w fun e w' => e = .returned (.int .i64 (partC p q)) ∧ Below w.heap.size w w' := by
  obtain ⟨p1, p2⟩ := p
  obtain ⟨q1, q2⟩ := q
  have C1 := Lib.hid (fun W => compare_any (q1 : Int) (p1 : Int) W)
  have C2 := Lib.hid (fun W => strc_any p2 q2 W)
  have CO : Hid (∀ W : World, Calls Tryz.prog 135 #[.slice (some ⟨W.heap.size, 0, none⟩) 2 2] (W.alloc (.cells #[.int .i64 (cmpI q1 p1), .int .i64 (txtC p2 q2)] 3)).drew fun e w' => e = .returned (.int .i64 (partC (p1, p2) (q1, q2))) ∧ w' = (W.alloc (.cells #[.int .i64 (cmpI q1 p1), .int .i64 (txtC p2 q2)] 3)).drew) := Lib.hid (fun W => by
    rw [partC_or]
    exact orI_any _ 2 [cmpI q1 p1, txtC p2 q2] _ (by simp) (ints2_atI W _ _ _))
  generalize partC (p1, p2) (q1, q2) = F at CO ⊢
  generalize cmpI (q1 : Int) p1 = r1 at C1 CO
  generalize txtC p2 q2 = r2 at C2 CO
  dsimp only
  obtain ⟨V, HV⟩ : ∃ V, Hid (V = (w.alloc (.cells #[.int .i64 p1, .string p2] 116)).alloc (.cells #[.int .i64 q1, .string q2] 116)) := ⟨_, Lib.hid rfl⟩
  have hb : Below w.heap.size w V := by rw [HV.out]; exact ((Below.refl _ w).alloc (Nat.le_refl _) _).alloc (by simp) _
  have HB := Lib.hid hb
  have hg : V = grow w #[.cells #[.int .i64 p1, .string p2] 116, .cells #[.int .i64 q1, .string q2] 116] := by rw [HV.out, alloc_eq_grow, alloc_eq_grow, grow_grow]; rfl
  have hA : V.heap[w.heap.size]? = some (.cells #[.int .i64 p1, .string p2] 116 (0, 0)) := by rw [hg]; simp [grow]
  have hD : V.heap[w.heap.size + 1]? = some (.cells #[.int .i64 q1, .string q2] 116 (0, 0)) := by rw [hg]; simp [grow]
  have a0 : V.cell? ⟨w.heap.size, 0, none⟩ = some (.int .i64 p1) := (Lib.cell_of_heap hA 0).trans rfl
  have a1 : V.cell? ⟨w.heap.size, 1, none⟩ = some (.string p2) := (Lib.cell_of_heap hA 1).trans rfl
  have b0 : V.cell? ⟨w.heap.size + 1, 0, none⟩ = some (.int .i64 q1) := (Lib.cell_of_heap hD 0).trans rfl
  have b1 : V.cell? ⟨w.heap.size + 1, 1, none⟩ = some (.string q2) := (Lib.cell_of_heap hD 1).trans rfl
  clear hg hA hD hb
  go_enter Tryz.func87, Tryz.ntmps87
  go_upto_region 1 with fail
  rw [← HV.out]
  go_region_held3 (fun W => W.cell? ⟨w.heap.size, 0, none⟩ = some (.int .i64 p1) ∧ W.cell? ⟨w.heap.size, 1, none⟩ = some (.string p2) ∧ W.cell? ⟨w.heap.size + 1, 0, none⟩ = some (.int .i64 q1) ∧ W.cell? ⟨w.heap.size + 1, 1, none⟩ = some (.string q2))
    ((refine ⟨?_, ?_, ?_, ?_⟩ <;> first | assumption | go_keep))
    (first
      | (go_at_call 48; with_reducible refine (C1.out _).mono ?_; rintro e w1 ⟨rfl, rfl⟩)
      | (go_at_call 67; with_reducible refine (C2.out _).mono ?_; rintro e w1 ⟨rfl, rfl⟩)
      | (go_at_call 135; refine (CO.out _).mono ?_; rintro e w1 ⟨rfl, rfl⟩))
  go_wp2_with fail
  go_ret
  exact ⟨rfl, below_up HB.out (bdn (n := 1) ((Below.refl _ V).alloc (Nat.le_refl _) _))⟩
end Go.Proofs.YtdenehnneloegaaGreatDoor
namespace Go.Proofs.YtdenehnneloegaaGreatDoor
open Go.RowKit Go.Shelf
set_option linter.unusedVariables false
set_option maxRecDepth 100000 in
set_option maxHeartbeats 1000000 in
theorem cmpS_any (G : FuncId) (f : ByteArray → ByteArray → Int) (ao bo : Option Addr) (ca cb : Nat) (xs : List (ByteArray)) (ys : List (ByteArray)) (w : World) (hent : ∀ args w, (callFunc G args).run Tryz.prog w = .ok (.enter G args) w) (hn : xs.length ≤ 274877906944) (hm : ys.length ≤ 274877906944) (hR : StrRow w ao xs) (hS : StrRow w bo ys)
    (hby : ∀ (k : Nat) x y, xs[k]? = some x → ys[k]? = some y → ∀ W, Below w.heap.size w W → Calls Tryz.prog G #[.string x, .string y] W fun e w' => e = .returned (.int .i64 (f x y)) ∧ Below W.heap.size W w') :
    Calls Tryz.prog 66 #[.slice ao xs.length ca, .slice bo ys.length cb, .func (.func G) #[] #[]] w fun e w' => e = .returned (.int .i64 (lexH f xs ys)) ∧ Below w.heap.size w w' := by
  have HRo := Lib.hid hR
  have HSo := Lib.hid hS
  have C := Lib.hid hby
  have CE := Lib.hid (fun W => compare_any (xs.length : Int) (ys.length : Int) W)
  have HH := Lib.hid (lex_hit f xs ys)
  have HE := Lib.hid (lex_end f xs ys)
  obtain ⟨m, hmin⟩ : ∃ m, m = min xs.length ys.length := ⟨_, rfl⟩
  have hmin2 : min (xs.length : Int) (ys.length : Int) = (m : Int) := by omega
  have hmx : m ≤ xs.length := by omega
  have hmy : m ≤ ys.length := by omega
  have HM := Lib.hid hmin
  clear hR hS hby hmin
  generalize lexH f xs ys = F at HH HE ⊢
  generalize cmpI (xs.length : Int) (ys.length : Int) = fe at CE HE
  go_enter Tryz.func66, Tryz.ntmps66
  go_wp2_with fail
  go_loopw [14] (fun i wr => ∃ (k : Nat), k ≤ m ∧ i = .int .i64 k ∧ Hid (Below w.heap.size w wr) ∧ Hid (∀ (j : Nat) x y, j < k → xs[j]? = some x → ys[j]? = some y → f x y = 0)) (fun i _ => m - (intOf i).toNat)
  case atStart => exact ⟨0, Nat.zero_le _, by first | rfl | go_num, Lib.hid (Below.refl _ _), Lib.hid (fun j x y hj _ _ => by omega)⟩
  case round =>
    obtain ⟨k, hk, rfl, HB, HZ⟩ := hrel
    by_cases hlt : k < m
    · obtain ⟨x, hx⟩ : ∃ x, xs[k]? = some x := ⟨_, List.getElem?_eq_getElem (by omega)⟩
      obtain ⟨y, hy⟩ : ∃ y, ys[k]? = some y := ⟨_, List.getElem?_eq_getElem (by omega)⟩
      rcases (HRo.out.kept HB.out) with h0 | ⟨A, rfl, hA, hcell1⟩
      · rw [h0] at hx; simp at hx
      have hc1 := hcell1 k _ hx
      clear hcell1
      rcases (HSo.out.kept HB.out) with h0 | ⟨B, rfl, hB, hcell2⟩
      · rw [h0] at hy; simp at hy
      have hc2 := hcell2 k _ hy
      clear hcell2
      have C1 := Lib.hid (C.out k x y hx hy wr.drew (bdn (n := 1) HB.out))
      have HX := Lib.hid hx
      have HY := Lib.hid hy
      have hkx : k < xs.length := by omega
      have hky : k < ys.length := by omega
      have HF : Hid (f x y ≠ 0 → F = f x y) := Lib.hid (fun h => HH.out k x y hx hy HZ.out h)
      clear hx hy
      obtain ⟨r, hr⟩ : ∃ r, r = f x y := ⟨_, rfl⟩
      rw [← hr] at C1 HF
      have HRr := Lib.hid hr
      clear hr
      go_upto_region 4 with fail
      go_still_tail 9, (by kernel_rfl)
      rw [show ({ heap := wr.heap, tape := wr.tape, drawn := wr.drawn + 1, os := wr.os, output := wr.output } : World) = wr.drew from rfl]
      by_cases h0 : r = 0
      · have HZ2 : Hid (∀ (j : Nat) x y, j < k + 1 → xs[j]? = some x → ys[j]? = some y → f x y = 0) := Lib.hid (fun j x' y' hj h1 h2 => by
          by_cases e : j = k
          · subst e; rw [HX.out] at h1; rw [HY.out] at h2; cases h1; cases h2; rw [← HRr.out]; exact h0
          · exact HZ.out j x' y' (by omega) h1 h2)
        clear HF
        subst h0
        go_wp2_with fail
        refine C1.out.mono ?_; rintro e w2 ⟨rfl, b1⟩
        have B1 := Lib.hid (below_up (show Below w.heap.size w wr.drew from bdn (n := 1) HB.out) b1)
        clear b1
        go_wp2_with fail
        go_roundw
        case rel => exact ⟨k + 1, by omega, by go_num, B1, HZ2⟩
        case measure => simp [intOf]; omega
      · have E := Lib.hid (HF.out h0)
        have hb : (r != 0) = true := by simpa using h0
        clear HF
        go_wp2_with fail
        refine C1.out.mono ?_; rintro e w2 ⟨rfl, b1⟩
        have B1 := Lib.hid (below_up (show Below w.heap.size w wr.drew from bdn (n := 1) HB.out) b1)
        clear b1
        go_wp2_with fail
        go_ret
        exact ⟨by rw [E.out]; rfl, B1.out⟩
    · obtain rfl : k = m := by omega
      have E : Hid (F = fe) := Lib.hid (HE.out (fun j x y h1 h2 => HZ.out j x y (by have := (List.getElem?_eq_some_iff.1 h1).1; have := (List.getElem?_eq_some_iff.1 h2).1; have := HM.out; omega) h1 h2))
      go_wp2_with fail
      refine (CE.out _).mono ?_; rintro e w2 ⟨rfl, rfl⟩
      go_wp2_with fail
      go_ret
      exact ⟨by rw [E.out]; rfl, HB.out⟩
set_option maxRecDepth 100000 in
set_option maxHeartbeats 1000000 in
theorem cmpI_any (G : FuncId) (c1 c2 : Value) (f : Int → ByteArray → Int) (ao bo : Option Addr) (ca cb : Nat) (xs : List (Int)) (ys : List (ByteArray)) (w : World) (hent : ∀ args w, (callFunc G args).run Tryz.prog w = .ok (.enter G args) w) (hn : xs.length ≤ 274877906944) (hm : ys.length ≤ 274877906944) (hR : IntsAt w ao xs) (hS : StrRow w bo ys)
    (hby : ∀ (k : Nat) x y, xs[k]? = some x → ys[k]? = some y → ∀ W, Below w.heap.size w W → Calls Tryz.prog G #[.int .i64 x, .string y, c1, c2] W fun e w' => e = .returned (.int .i64 (f x y)) ∧ Below W.heap.size W w') :
    Calls Tryz.prog 136 #[.slice ao xs.length ca, .slice bo ys.length cb, .func (.func G) #[] #[c1, c2]] w fun e w' => e = .returned (.int .i64 (lexH f xs ys)) ∧ Below w.heap.size w w' := by
  have HRo := Lib.hid hR
  have HSo := Lib.hid hS
  have C := Lib.hid hby
  have CE := Lib.hid (fun W => compare_any (xs.length : Int) (ys.length : Int) W)
  have HH := Lib.hid (lex_hit f xs ys)
  have HE := Lib.hid (lex_end f xs ys)
  obtain ⟨m, hmin⟩ : ∃ m, m = min xs.length ys.length := ⟨_, rfl⟩
  have hmin2 : min (xs.length : Int) (ys.length : Int) = (m : Int) := by omega
  have hmx : m ≤ xs.length := by omega
  have hmy : m ≤ ys.length := by omega
  have HM := Lib.hid hmin
  clear hR hS hby hmin
  generalize lexH f xs ys = F at HH HE ⊢
  generalize cmpI (xs.length : Int) (ys.length : Int) = fe at CE HE
  go_enter Tryz.func136, Tryz.ntmps136
  go_wp2_with fail
  go_loopw [14] (fun i wr => ∃ (k : Nat), k ≤ m ∧ i = .int .i64 k ∧ Hid (Below w.heap.size w wr) ∧ Hid (∀ (j : Nat) x y, j < k → xs[j]? = some x → ys[j]? = some y → f x y = 0)) (fun i _ => m - (intOf i).toNat)
  case atStart => exact ⟨0, Nat.zero_le _, by first | rfl | go_num, Lib.hid (Below.refl _ _), Lib.hid (fun j x y hj _ _ => by omega)⟩
  case round =>
    obtain ⟨k, hk, rfl, HB, HZ⟩ := hrel
    by_cases hlt : k < m
    · obtain ⟨x, hx⟩ : ∃ x, xs[k]? = some x := ⟨_, List.getElem?_eq_getElem (by omega)⟩
      obtain ⟨y, hy⟩ : ∃ y, ys[k]? = some y := ⟨_, List.getElem?_eq_getElem (by omega)⟩
      rcases (HRo.out.kept HB.out) with h0 | ⟨A, rfl, hA, hcell1⟩
      · rw [h0] at hx; simp at hx
      have hc1 := hcell1 k _ hx
      clear hcell1
      rcases (HSo.out.kept HB.out) with h0 | ⟨B, rfl, hB, hcell2⟩
      · rw [h0] at hy; simp at hy
      have hc2 := hcell2 k _ hy
      clear hcell2
      have C1 := Lib.hid (C.out k x y hx hy wr.drew (bdn (n := 1) HB.out))
      have HX := Lib.hid hx
      have HY := Lib.hid hy
      have hkx : k < xs.length := by omega
      have hky : k < ys.length := by omega
      have HF : Hid (f x y ≠ 0 → F = f x y) := Lib.hid (fun h => HH.out k x y hx hy HZ.out h)
      clear hx hy
      obtain ⟨r, hr⟩ : ∃ r, r = f x y := ⟨_, rfl⟩
      rw [← hr] at C1 HF
      have HRr := Lib.hid hr
      clear hr
      go_upto_region 4 with fail
      go_still_tail 9, (by kernel_rfl)
      rw [show ({ heap := wr.heap, tape := wr.tape, drawn := wr.drawn + 1, os := wr.os, output := wr.output } : World) = wr.drew from rfl]
      by_cases h0 : r = 0
      · have HZ2 : Hid (∀ (j : Nat) x y, j < k + 1 → xs[j]? = some x → ys[j]? = some y → f x y = 0) := Lib.hid (fun j x' y' hj h1 h2 => by
          by_cases e : j = k
          · subst e; rw [HX.out] at h1; rw [HY.out] at h2; cases h1; cases h2; rw [← HRr.out]; exact h0
          · exact HZ.out j x' y' (by omega) h1 h2)
        clear HF
        subst h0
        go_wp2_with fail
        refine C1.out.mono ?_; rintro e w2 ⟨rfl, b1⟩
        have B1 := Lib.hid (below_up (show Below w.heap.size w wr.drew from bdn (n := 1) HB.out) b1)
        clear b1
        go_wp2_with fail
        go_roundw
        case rel => exact ⟨k + 1, by omega, by go_num, B1, HZ2⟩
        case measure => simp [intOf]; omega
      · have E := Lib.hid (HF.out h0)
        have hb : (r != 0) = true := by simpa using h0
        clear HF
        go_wp2_with fail
        refine C1.out.mono ?_; rintro e w2 ⟨rfl, b1⟩
        have B1 := Lib.hid (below_up (show Below w.heap.size w wr.drew from bdn (n := 1) HB.out) b1)
        clear b1
        go_wp2_with fail
        go_ret
        exact ⟨by rw [E.out]; rfl, B1.out⟩
    · obtain rfl : k = m := by omega
      have E : Hid (F = fe) := Lib.hid (HE.out (fun j x y h1 h2 => HZ.out j x y (by have := (List.getElem?_eq_some_iff.1 h1).1; have := (List.getElem?_eq_some_iff.1 h2).1; have := HM.out; omega) h1 h2))
      go_wp2_with fail
      refine (CE.out _).mono ?_; rintro e w2 ⟨rfl, rfl⟩
      go_wp2_with fail
      go_ret
      exact ⟨by rw [E.out]; rfl, HB.out⟩
set_option maxRecDepth 100000 in
set_option maxHeartbeats 1000000 in
theorem cmpP_any (G : FuncId) (f : Part → Part → Int) (ao bo : Option Addr) (ca cb : Nat) (xs : List (Part)) (ys : List (Part)) (w : World) (hent : ∀ args w, (callFunc G args).run Tryz.prog w = .ok (.enter G args) w) (hn : xs.length ≤ 274877906944) (hm : ys.length ≤ 274877906944) (hR : PartsAt w ao xs) (hS : PartsAt w bo ys)
    (hby : ∀ (k : Nat) x y, xs[k]? = some x → ys[k]? = some y → ∀ W, Below w.heap.size w W → Calls Tryz.prog G #[.agg #[.int .i64 x.1, .string x.2], .agg #[.int .i64 y.1, .string y.2]] W fun e w' => e = .returned (.int .i64 (f x y)) ∧ Below W.heap.size W w') :
    Calls Tryz.prog 86 #[.slice ao xs.length ca, .slice bo ys.length cb, .func (.func G) #[] #[]] w fun e w' => e = .returned (.int .i64 (lexH f xs ys)) ∧ Below w.heap.size w w' := by
  have HRo := Lib.hid hR
  have HSo := Lib.hid hS
  have C := Lib.hid hby
  have CE := Lib.hid (fun W => compare_any (xs.length : Int) (ys.length : Int) W)
  have HH := Lib.hid (lex_hit f xs ys)
  have HE := Lib.hid (lex_end f xs ys)
  obtain ⟨m, hmin⟩ : ∃ m, m = min xs.length ys.length := ⟨_, rfl⟩
  have hmin2 : min (xs.length : Int) (ys.length : Int) = (m : Int) := by omega
  have hmx : m ≤ xs.length := by omega
  have hmy : m ≤ ys.length := by omega
  have HM := Lib.hid hmin
  clear hR hS hby hmin
  generalize lexH f xs ys = F at HH HE ⊢
  generalize cmpI (xs.length : Int) (ys.length : Int) = fe at CE HE
  go_enter Tryz.func86, Tryz.ntmps86
  go_wp2_with fail
  go_loopw [14] (fun i wr => ∃ (k : Nat), k ≤ m ∧ i = .int .i64 k ∧ Hid (Below w.heap.size w wr) ∧ Hid (∀ (j : Nat) x y, j < k → xs[j]? = some x → ys[j]? = some y → f x y = 0)) (fun i _ => m - (intOf i).toNat)
  case atStart => exact ⟨0, Nat.zero_le _, by first | rfl | go_num, Lib.hid (Below.refl _ _), Lib.hid (fun j x y hj _ _ => by omega)⟩
  case round =>
    obtain ⟨k, hk, rfl, HB, HZ⟩ := hrel
    by_cases hlt : k < m
    · obtain ⟨x, hx⟩ : ∃ x, xs[k]? = some x := ⟨_, List.getElem?_eq_getElem (by omega)⟩
      obtain ⟨y, hy⟩ : ∃ y, ys[k]? = some y := ⟨_, List.getElem?_eq_getElem (by omega)⟩
      rcases (HRo.out.kept HB.out) with h0 | ⟨b1, o1, rfl, hA, hcell1⟩
      · rw [h0] at hx; simp at hx
      obtain ⟨hc1, hc1'⟩ := hcell1 k _ hx
      clear hcell1
      rcases (HSo.out.kept HB.out) with h0 | ⟨b2, o2, rfl, hB, hcell2⟩
      · rw [h0] at hy; simp at hy
      obtain ⟨hc2, hc2'⟩ := hcell2 k _ hy
      clear hcell2
      have C1 := Lib.hid (C.out k x y hx hy wr.drew (bdn (n := 1) HB.out))
      have HX := Lib.hid hx
      have HY := Lib.hid hy
      have hkx : k < xs.length := by omega
      have hky : k < ys.length := by omega
      have HF : Hid (f x y ≠ 0 → F = f x y) := Lib.hid (fun h => HH.out k x y hx hy HZ.out h)
      clear hx hy
      obtain ⟨r, hr⟩ : ∃ r, r = f x y := ⟨_, rfl⟩
      rw [← hr] at C1 HF
      have HRr := Lib.hid hr
      clear hr
      obtain ⟨x1, x2⟩ := x
      obtain ⟨y1, y2⟩ := y
      dsimp only at hc1 hc1' hc2 hc2' C1
      go_upto_region 4 with fail
      go_still_tail 9, (by kernel_rfl)
      rw [show ({ heap := wr.heap, tape := wr.tape, drawn := wr.drawn + 1, os := wr.os, output := wr.output } : World) = wr.drew from rfl]
      by_cases h0 : r = 0
      · have HZ2 : Hid (∀ (j : Nat) x y, j < k + 1 → xs[j]? = some x → ys[j]? = some y → f x y = 0) := Lib.hid (fun j x' y' hj h1 h2 => by
          by_cases e : j = k
          · subst e; rw [HX.out] at h1; rw [HY.out] at h2; cases h1; cases h2; rw [← HRr.out]; exact h0
          · exact HZ.out j x' y' (by omega) h1 h2)
        clear HF
        subst h0
        go_wp2_with fail
        refine C1.out.mono ?_; rintro e w2 ⟨rfl, b1⟩
        have B1 := Lib.hid (below_up (show Below w.heap.size w wr.drew from bdn (n := 1) HB.out) b1)
        clear b1
        go_wp2_with fail
        go_roundw
        case rel => exact ⟨k + 1, by omega, by go_num, B1, HZ2⟩
        case measure => simp [intOf]; omega
      · have E := Lib.hid (HF.out h0)
        have hb : (r != 0) = true := by simpa using h0
        clear HF
        go_wp2_with fail
        refine C1.out.mono ?_; rintro e w2 ⟨rfl, b1⟩
        have B1 := Lib.hid (below_up (show Below w.heap.size w wr.drew from bdn (n := 1) HB.out) b1)
        clear b1
        go_wp2_with fail
        go_ret
        exact ⟨by rw [E.out]; rfl, B1.out⟩
    · obtain rfl : k = m := by omega
      have E : Hid (F = fe) := Lib.hid (HE.out (fun j x y h1 h2 => HZ.out j x y (by have := (List.getElem?_eq_some_iff.1 h1).1; have := (List.getElem?_eq_some_iff.1 h2).1; have := HM.out; omega) h1 h2))
      go_wp2_with fail
      refine (CE.out _).mono ?_; rintro e w2 ⟨rfl, rfl⟩
      go_wp2_with fail
      go_ret
      exact ⟨by rw [E.out]; rfl, HB.out⟩
end Go.Proofs.YtdenehnneloegaaGreatDoor
namespace Go.Proofs.YtdenehnneloegaaGreatDoor
open Go.RowKit Go.Shelf Go.Sort Go.Maps
set_option linter.unusedVariables false
/-- a part, by its place -/
def encN (c : Nat → ByteArray) (i : Nat) : List Value := [.int .i64 i, .string (c i)]
/-- the cells of parts, by their places -/
def cellsN (c : Nat → ByteArray) (l : List Nat) : List Value := l.flatMap (encN c)
theorem cellsN_cons (c : Nat → ByteArray) (i : Nat) (l : List Nat) : cellsN c (i :: l) = .int .i64 i :: .string (c i) :: cellsN c l := rfl
theorem cellsN_length (c : Nat → ByteArray) (l : List Nat) : (cellsN c l).length = l.length * 2 := by
  induction l with
  | nil => rfl
  | cons p l ih => rw [cellsN_cons]; simp only [List.length_cons, ih]; omega
theorem cellsN_app (c : Nat → ByteArray) (l m : List Nat) : cellsN c (l ++ m) = cellsN c l ++ cellsN c m := by simp [cellsN]
theorem cellsN_at (c : Nat → ByteArray) (l : List Nat) (k i : Nat) (h : l[k]? = some i) : (cellsN c l)[k * 2]? = some (.int .i64 i) ∧ (cellsN c l)[k * 2 + 1]? = some (.string (c i)) := by
  induction l generalizing k with
  | nil => simp at h
  | cons q l ih =>
    cases k with
    | zero => simp at h; subst h; exact ⟨rfl, rfl⟩
    | succ k =>
      have := ih k (by simpa using h)
      rw [cellsN_cons, show (k + 1) * 2 = k * 2 + 1 + 1 from by omega]
      simpa using this
/-- a slice of parts that grows -/
def OwnN (w : World) (base : Nat) (c : Nat → ByteArray) (v : Value) (l : List Nat) : Prop := w.ownsRow base 116 2 v l.length (cellsN c l)
theorem OwnN.partsAt {w : World} {base : Nat} {c : Nat → ByteArray} {v : Value} {l : List Nat} (h : OwnN w base c v l) : ∃ ao cap, v = .slice ao l.length cap ∧ PartsAt w ao (l.map fun i => (i, c i)) ∧ (∀ A, ao = some A → base ≤ A.block) := by
  rcases h.2 with ⟨rfl, h0⟩ | ⟨g, cap, cur, rfl, h1, h2, h3, h4, h5, h6⟩
  · have hl : l = [] := List.eq_nil_of_length_eq_zero h0
    subst hl
    exact ⟨none, 0, rfl, .inl rfl, fun A e => by cases e⟩
  · refine ⟨_, cap, rfl, .inr ⟨g, 0, rfl, (World.ownsRow.lt h g rfl).2, fun i p hp => ?_⟩, fun A e => by cases e; exact h1⟩
    rw [List.getElem?_map] at hp
    obtain ⟨j, hj, rfl⟩ := Option.map_eq_some_iff.1 hp
    obtain ⟨c1, c2⟩ := cellsN_at c l i j hj
    have k1 := World.ownsRow.cells h rfl (i * 2) _ c1
    have k2 := World.ownsRow.cells h rfl (i * 2 + 1) _ c2
    have e : ∀ j, (⟨g, 0, none⟩ : Addr).add j = ⟨g, 0 + j, none⟩ := fun j => by unfold Addr.add; split <;> simp_all
    rw [e] at k1 k2
    exact ⟨k1, by rw [Nat.add_assoc]; exact k2⟩
theorem lit_cellQ (w : World) (a b : Value) (T : TypeId) : ∀ (j : Nat) u, [a, b][j]? = some u → (w.alloc (.cells #[a, b] T)).cell? ((⟨w.heap.size, 0, none⟩ : Addr).add j) = some u := fun j u hj => by
  rw [cell_row (World.alloc_heap_new w _)]
  match j, hj with
  | 0, hj => simp at hj; subst hj; rfl
  | 1, hj => simp at hj; subst hj; rfl
/-! the library's sort of them -/
theorem flat_cellsN (c : Nat → ByteArray) (l : List Nat) : flatK (encN c) 2 l.toArray = (cellsN c l).toArray := by
  refine ext_get! (by simp [cellsN_length]) (fun t ht => ?_)
  have ht' : t < l.length * 2 := by simpa using ht
  rw [get_flatK _ _ _ t (by simpa using ht')]
  obtain ⟨p, hp⟩ : ∃ p, l[t / 2]? = some p := ⟨_, List.getElem?_eq_getElem (by omega)⟩
  have e1 : l.toArray[t / 2]! = p := by simp [Array.getElem!_eq_getD, Array.getD_eq_getD_getElem?, hp]
  obtain ⟨c1, c2⟩ := cellsN_at c l (t / 2) p hp
  have e2 : (cellsN c l).toArray[t]! = ((cellsN c l)[t]?).getD default := by simp [Array.getElem!_eq_getD, Array.getD_eq_getD_getElem?]
  rw [e1, e2]
  have hm : t % 2 = 0 ∨ t % 2 = 1 := by omega
  rcases hm with e | e
  · rw [show t / 2 * 2 = t from by omega] at c1; rw [c1, e]; rfl
  · rw [show t / 2 * 2 + 1 = t from by omega] at c2; rw [c2, e]; rfl
theorem heap_sortedQ {w : World} {g n : Nat} {os : Array Obj} {cur : Array Value} {e : TypeId} {fr : Nat × Nat} (F : Array Value) (hb : w.heap[g]? = some (.cells cur e fr)) :
    (grow (putRow id (Sort.ahead w n) g 0 F) os).heap[g]? = some (.cells (putCells id 0 F cur) e fr) := by
  have hg : g < w.heap.size := (Array.getElem?_eq_some_iff.1 hb).1
  rw [heap_grow_old _ _ (by simpa using hg)]
  simp [putRow, mapBlock, Sort.ahead, Array.getElem?_modify, hb, onCells]
theorem grownBy_sortedQ {w : World} {g n : Nat} {os : Array Obj} (F : Array Value) : w.grownBy (grow (putRow id (Sort.ahead w n) g 0 F) os) (some g) := by
  refine ⟨rfl, rfl, rfl, by simp, fun k hk hne => ?_⟩
  rw [heap_grow_old _ _ (by simpa using hk)]
  have : g ≠ k := fun e => hne (by rw [e])
  simp [putRow, mapBlock, Sort.ahead, Array.getElem?_modify, this]
theorem take_putCellsQ (cur F : Array Value) (h : F.size ≤ cur.size) : (putCells id 0 F cur).toList.take F.size = F.toList := by
  apply List.ext_getElem?
  intro j
  by_cases hj : j < F.size
  · rw [List.getElem?_take_of_lt hj, Array.getElem?_toList]
    simp [putCells, hj, show j < cur.size by omega]
  · rw [List.getElem?_take_eq_none (by omega), List.getElem?_eq_none (by simp; omega)]
theorem OwnN.holds {w : World} {base : Nat} {c : Nat → ByteArray} {g n cap : Nat} {l : List Nat} (h : OwnN w base c (.slice (some ⟨g, 0, none⟩) n cap) l) (hl : l.length = n) : HoldsK (encN c) 2 w g 0 l.toArray := by
  unfold OwnN at h
  subst hl
  unfold HoldsK
  rw [flat_cellsN]
  intro j hj
  have hj' : j < (cellsN c l).length := by simpa using hj
  rw [Nat.zero_add]
  refine ⟨?_, h.frozenAt j⟩
  have := h.cellAt j (by rw [cellsN_length] at hj'; exact hj')
  rw [this]
  simp [List.getElem?_eq_getElem hj', Array.getElem!_eq_getD, Array.getD_eq_getD_getElem?]
theorem OwnN.sorted {w : World} {base : Nat} {c : Nat → ByteArray} {g n cap k : Nat} {l m : List Nat} {os : Array Obj} (h : OwnN w base c (.slice (some ⟨g, 0, none⟩) n cap) l) (hl : l.length = n) (hm : m.length = n) : OwnN (sortWorldK (encN c) 2 w g 0 k m.toArray os) base c (.slice (some ⟨g, 0, none⟩) n cap) m := by
  unfold OwnN at h ⊢
  unfold sortWorldK putRowK
  rw [flat_cellsN]
  rw [hl] at h
  rw [hm]
  rcases h.2 with ⟨h0, _⟩ | ⟨g', cap', cur, hv, hbase, hb, r1, r2, r3, r4⟩
  · cases h0
  · cases hv
    have hl : (cellsN c m).length = n * 2 := by rw [cellsN_length, hm]
    refine ⟨hl, .inr ⟨g, cap, _, rfl, hbase, heap_sortedQ _ hb, r1, r2, by simp [putCells, r3], ?_⟩⟩
    have := take_putCellsQ cur (cellsN c m).toArray (by rw [r3]; simp [hl]; omega)
    rw [List.size_toArray, hl] at this
    exact this
def cfN (i j : Nat) : Int := cmpI i j
theorem ltN : ltOf cfN = fun i j => decide (i < j) := by
  funext i j
  show decide (cmpI i j < 0) = _
  rw [cmpI_neg]
  by_cases h : i < j
  · rw [decide_eq_true h]; exact decide_eq_true (by omega)
  · rw [decide_eq_false h]; exact decide_eq_false (by omega)
theorem swoN : SWO (ltOf cfN) where
  irrefl x := by rw [ltN]; simp
  trans x y z h1 h2 := by rw [ltN] at *; simp at *; omega
  ntrans x y z h1 h2 := by rw [ltN] at *; simp at *; omega
set_option maxRecDepth 100000 in
theorem partCmp_any (i j : Nat) (a b : ByteArray) (w : World) :
    Calls Tryz.prog 185 #[.agg #[.int .i64 i, .string a], .agg #[.int .i64 j, .string b]] w fun e w' => e = .returned (.int .i64 (cfN i j)) ∧ ∃ q os', w' = grow (w.drewN q) os' := by
  have C1 := Lib.hid (fun W => compare_any (i : Int) (j : Int) W)
  have HG : Hid (∃ q os', (w.alloc (.cells #[.int .i64 i, .string a] 116)).alloc (.cells #[.int .i64 j, .string b] 116) = grow (w.drewN q) os') := Lib.hid ⟨0, _, by rw [alloc_eq_grow, alloc_eq_grow, grow_grow]; rfl⟩
  unfold cfN
  generalize cmpI (i : Int) (j : Int) = r at C1 ⊢
  go_enter Tryz.func185, Tryz.ntmps185
  go_wp2_with fail
  refine (C1.out _).mono ?_; rintro e w1 ⟨rfl, rfl⟩
  go_wp2_with fail
  go_ret
  exact ⟨rfl, HG.out⟩
theorem psort_any (c : Nat → ByteArray) (base g n cap : Nat) (l : List Nat) (w : World) (hn : n ≤ 1099511627776) (hl : l.length = n) (hO : OwnN w base c (.slice (some ⟨g, 0, none⟩) n cap) l) :
    Calls Tryz.prog 184 #[.slice (some ⟨g, 0, none⟩) n cap, .func (.func 185) #[] #[]] w fun e w' => e = .returned (.tuple #[]) ∧ OwnN w' base c (.slice (some ⟨g, 0, none⟩) n cap) (l.mergeSort fun x y => decide (x ≤ y)) ∧ w.grownBy w' (some g) := by
  have hc : CmpLays Tryz.prog 185 #[] (encN c) 2 cfN g 0 l.toArray.size w := fun m os dk _ x y => partCmp_any x y _ _ _
  have h := AnyQ.slices_SortFunc_total laysFi 2 Tryz.isAgg116 Tryz.sizeOf116 (encN c) (fun _ => rfl) (fun x v hv => by simp [encN] at hv; rcases hv with rfl | rfl <;> rfl) cfN swoN 185 #[] g 0 cap l.toArray w (enters_of Tryz.func185 (by kernel_rfl) rfl) hc (hO.holds hl) (World.ownsRow.lt hO g rfl).2 (by simp; omega) (fun x y h k => by rw [ltN] at h k; simp at h k; omega)
  rw [List.size_toArray, hl, ltN] at h
  refine h.mono ?_
  rintro e w' ⟨rfl, k, os, rfl⟩
  have e : (l.mergeSort fun x y => !decide (y < x)) = (l.mergeSort fun x y => decide (x ≤ y)) := by
    congr 1
    funext x y
    by_cases h : y < x
    · rw [decide_eq_true h, decide_eq_false (by omega)]; rfl
    · rw [decide_eq_false h, decide_eq_true (by omega)]; rfl
  rw [e]
  exact ⟨rfl, hO.sorted hl (by rw [List.length_mergeSort, hl]), by unfold sortWorldK putRowK; exact grownBy_sortedQ _⟩
end Go.Proofs.YtdenehnneloegaaGreatDoor
