/-
  How two keys, and two lists of parts, stand: what the program answers.
  Conditions: lists of at most 2^38 places.
-/
import Derived.WalkKit
import Derived.WalkMore
import Derived.IntWalk
import Derived.Lib.Hide
import Derived.Sort.Grow
import Derived.StillTailTactics
import Derived.Deep.Cut
import Derived.Deep.RegionWith
import Derived.Deep.RegionHeld3
import Derived.Test.YtmomjhnbhckhpaaDoorProg
import Derived.Test.YtmomjhnbhckhpaaDoorIShelf
import Derived.Test.YtmomjhnbhckhpaaDoorIMath
import Derived.Test.YtmomjhnbhckhpaaDoorPSort
namespace Go.Proofs.YtmomjhnbhckhpaaDoor
open Go.RowKit Go.Shelf Go.Sort
set_option linter.unusedVariables false

/-- the first that is not 0 -/
def orL : List Int → Int
  | [] => 0
  | x :: l => if x ≠ 0 then x else orL l
theorem or_hit (l : List Int) (k : Nat) (x : Int) (hx : l[k]? = some x) (h : ∀ (j : Nat) y, j < k → l[j]? = some y → y = 0) (hne : x ≠ 0) : orL l = x := by
  induction l generalizing k with
  | nil => simp at hx
  | cons a l ih =>
    unfold orL
    cases k with
    | zero => simp at hx; subst hx; rw [if_pos hne]
    | succ k =>
      have e := h 0 a (by omega) rfl
      rw [if_neg (by simp [e])]
      exact ih k (by simpa using hx) (fun j y hj hy => h (j + 1) y (by omega) (by simpa using hy))
theorem or_none (l : List Int) (h : ∀ (j : Nat) y, j < l.length → l[j]? = some y → y = 0) : orL l = 0 := by
  induction l with
  | nil => rfl
  | cons a l ih =>
    unfold orL
    have e := h 0 a (by simp) rfl
    rw [if_neg (by simp [e])]
    exact ih (fun j y hj hy => h (j + 1) y (by simp; omega) (by simpa using hy))
theorem partC_or (p q : Part) : partC p q = orL [cmpI q.1 p.1, txtC p.2 q.2] := by
  unfold partC orL orL orL
  show (if cmpI q.1 p.1 = 0 then _ else cmpI q.1 p.1) = _
  by_cases h : cmpI q.1 p.1 = 0
  · rw [if_pos h, if_neg (by simp [h])]
    by_cases k : txtC p.2 q.2 = 0
    · rw [if_neg (by simp [k]), k]
    · rw [if_pos k]
  · rw [if_neg h, if_pos h]
theorem lex_hit {α β : Type} (f : α → β → Int) : ∀ (xs : List α) (ys : List β) (k : Nat) x y, xs[k]? = some x → ys[k]? = some y → (∀ (j : Nat) x y, j < k → xs[j]? = some x → ys[j]? = some y → f x y = 0) → f x y ≠ 0 → lexH f xs ys = f x y
  | [], _, k, x, y, hx, _, _, _ => by simp at hx
  | _ :: _, [], k, x, y, _, hy, _, _ => by simp at hy
  | a :: xs, b :: ys, 0, x, y, hx, hy, _, hne => by
    simp at hx hy; subst hx; subst hy
    simp only [lexH]; rw [if_neg hne]
  | a :: xs, b :: ys, k + 1, x, y, hx, hy, h, hne => by
    have e := h 0 a b (by omega) rfl rfl
    simp only [lexH]; rw [if_pos e]
    exact lex_hit f xs ys k x y (by simpa using hx) (by simpa using hy) (fun j x y hj h1 h2 => h (j + 1) x y (by omega) (by simpa using h1) (by simpa using h2)) hne
theorem lex_end {α β : Type} (f : α → β → Int) : ∀ (xs : List α) (ys : List β), (∀ (j : Nat) x y, xs[j]? = some x → ys[j]? = some y → f x y = 0) → lexH f xs ys = cmpI xs.length ys.length
  | [], [], _ => rfl
  | [], b :: ys, _ => by
    show (-1 : Int) = _
    unfold cmpI; rw [if_pos (by simp only [List.length_nil, List.length_cons]; omega)]
  | a :: xs, [], _ => by
    show (1 : Int) = _
    unfold cmpI; rw [if_neg (by simp only [List.length_nil, List.length_cons]; omega), if_pos (by simp only [List.length_nil, List.length_cons]; omega)]
  | a :: xs, b :: ys, h => by
    have e := h 0 a b rfl rfl
    simp only [lexH]; rw [if_pos e, lex_end f xs ys (fun j x y h1 h2 => h (j + 1) x y (by simpa using h1) (by simpa using h2))]
    unfold cmpI
    simp only [List.length_cons]
    have e1 : ((xs.length : Int) < ys.length) ↔ (((xs.length + 1 : Nat) : Int) < ((ys.length + 1 : Nat) : Int)) := by omega
    have e2 : ((ys.length : Int) < xs.length) ↔ (((ys.length + 1 : Nat) : Int) < ((xs.length + 1 : Nat) : Int)) := by omega
    simp only [e1, e2]

/-- the cells of a slice of parts -/
def PartsAt (w : World) (ao : Option Addr) (l : List Part) : Prop := l = [] ∨ ∃ b o, ao = some ⟨b, o, none⟩ ∧ b < w.heap.size ∧ ∀ (i : Nat) p, l[i]? = some p → w.cell? ⟨b, o + i * 2, none⟩ = some (.int .i64 p.1) ∧ w.cell? ⟨b, o + i * 2 + 1, none⟩ = some (.string p.2)
theorem PartsAt.kept {w w' : World} {ao : Option Addr} {l : List Part} (h : PartsAt w ao l) (hB : Below w.heap.size w w') : PartsAt w' ao l := by
  rcases h with h | ⟨b, o, h1, h2, h3⟩
  · exact .inl h
  · exact .inr ⟨b, o, h1, Nat.lt_of_lt_of_le h2 hB.size, fun i p hp => ⟨(hB.cell (p := ⟨b, o + i * 2, none⟩) h2).trans (h3 i p hp).1, (hB.cell (p := ⟨b, o + i * 2 + 1, none⟩) h2).trans (h3 i p hp).2⟩⟩

set_option maxRecDepth 100000 in
set_option maxHeartbeats 1000000 in
theorem or_any (ao : Option Addr) (cap : Nat) (xs : List Int) (w : World) (hn : xs.length ≤ 274877906944) (hR : IntsAt w ao xs) :
    Calls Tryd.prog 56 #[.slice ao xs.length cap] w fun e w' => e = .returned (.int .i64 (orL xs)) ∧ w' = w := by
  have HRo := Lib.hid hR
  have HH := Lib.hid (or_hit xs)
  have HNo := Lib.hid (or_none xs)
  clear hR
  generalize orL xs = F at HH HNo ⊢
  go_enter Tryd.func56, Tryd.ntmps56
  go_wp2_with fail
  go_loopw [8] (fun i wr => ∃ (k : Nat), k ≤ xs.length ∧ i = .int .i64 k ∧ Hid (wr = w) ∧ Hid (∀ (j : Nat) y, j < k → xs[j]? = some y → y = 0)) (fun i _ => xs.length - (intOf i).toNat)
  case atStart => exact ⟨0, Nat.zero_le _, rfl, Lib.hid rfl, Lib.hid (fun j y hj _ => by omega)⟩
  case round =>
    obtain ⟨k, hk, rfl, HW, HZ⟩ := hrel
    by_cases hlt : k < xs.length
    · obtain ⟨x, hx⟩ : ∃ x, xs[k]? = some x := ⟨_, List.getElem?_eq_getElem hlt⟩
      have hR := HRo.out
      rw [← HW.out] at hR
      rcases hR with h0 | ⟨A, rfl, hA, hcell⟩
      · rw [h0] at hlt; simp at hlt
      have hc := hcell k _ hx
      have HX := Lib.hid hx
      clear hcell hx
      by_cases h0 : x = 0
      · have HZ2 : Hid (∀ (j : Nat) y, j < k + 1 → xs[j]? = some y → y = 0) := Lib.hid (fun j y hj hy => by
          by_cases e : j = k
          · subst e; rw [HX.out] at hy; cases hy; exact h0
          · exact HZ.out j y (by omega) hy)
        subst h0
        go_wp2_with fail
        go_roundw
        case rel => exact ⟨k + 1, by omega, by go_num, HW, HZ2⟩
        case measure => simp [intOf]; omega
      · have E := Lib.hid (HH.out k x HX.out HZ.out h0)
        go_wp2_with fail
        go_ret
        exact ⟨by rw [E.out]; rfl, HW.out⟩
    · obtain rfl : k = xs.length := by omega
      have E := Lib.hid (HNo.out HZ.out)
      go_wp2_with fail
      go_ret
      exact ⟨by rw [E.out]; rfl, HW.out⟩
theorem strc_any (a b : ByteArray) (w : World) : Calls Tryd.prog 32 #[.string a, .string b] w fun e w' => e = .returned (.int .i64 (txtC a b)) ∧ w' = w := Any.strings_Compare laysS a b w
theorem ints2_at (w : World) (a b : Int) (T : TypeId) : IntsAt (w.alloc (.cells #[.int .i64 a, .int .i64 b] T)) (some ⟨w.heap.size, 0, none⟩) [a, b] := by
  refine .inr ⟨_, rfl, by simp, fun i p hp => ?_⟩
  have h := World.alloc_heap_new w (.cells #[.int .i64 a, .int .i64 b] T)
  have e : (⟨w.heap.size, 0, none⟩ : Addr).add i = ⟨w.heap.size, i, none⟩ := by unfold Addr.add; split <;> simp_all
  rw [e, Lib.cell_of_heap h]
  match i, hp with
  | 0, hp => simp at hp; subst hp; rfl
  | 1, hp => simp at hp; subst hp; rfl
  | i + 2, hp => simp at hp

set_option maxRecDepth 100000 in
set_option maxHeartbeats 2000000 in
theorem parts_any (p q : Part) (w : World) :
    Calls Tryd.prog 29 #[.agg #[.int .i64 p.1, .string p.2], .agg #[.int .i64 q.1, .string q.2]] w fun e w' => e = .returned (.int .i64 (partC p q)) ∧ Below w.heap.size w w' := by
  obtain ⟨p1, p2⟩ := p
  obtain ⟨q1, q2⟩ := q
  have C1 := Lib.hid (fun W => compare_any (q1 : Int) (p1 : Int) W)
  have C2 := Lib.hid (fun W => strc_any p2 q2 W)
  have CO : Hid (∀ W : World, Calls Tryd.prog 56 #[.slice (some ⟨W.heap.size, 0, none⟩) 2 2] (W.alloc (.cells #[.int .i64 (cmpI q1 p1), .int .i64 (txtC p2 q2)] 3)).drew fun e w' => e = .returned (.int .i64 (partC (p1, p2) (q1, q2))) ∧ w' = (W.alloc (.cells #[.int .i64 (cmpI q1 p1), .int .i64 (txtC p2 q2)] 3)).drew) := Lib.hid (fun W => by
    rw [partC_or]
    exact or_any _ 2 [cmpI q1 p1, txtC p2 q2] _ (by simp) (ints2_at W _ _ _))
  generalize partC (p1, p2) (q1, q2) = F at CO ⊢
  generalize cmpI (q1 : Int) p1 = r1 at C1 CO
  generalize txtC p2 q2 = r2 at C2 CO
  dsimp only
  obtain ⟨V, HV⟩ : ∃ V, Hid (V = (w.alloc (.cells #[.int .i64 p1, .string p2] 48)).alloc (.cells #[.int .i64 q1, .string q2] 48)) := ⟨_, Lib.hid rfl⟩
  have hb : Below w.heap.size w V := by rw [HV.out]; exact ((Below.refl _ w).alloc (Nat.le_refl _) _).alloc (by simp) _
  have HB := Lib.hid hb
  have hg : V = grow w #[.cells #[.int .i64 p1, .string p2] 48, .cells #[.int .i64 q1, .string q2] 48] := by rw [HV.out, alloc_eq_grow, alloc_eq_grow, grow_grow]; rfl
  have hA : V.heap[w.heap.size]? = some (.cells #[.int .i64 p1, .string p2] 48 (0, 0)) := by rw [hg]; simp [grow]
  have hD : V.heap[w.heap.size + 1]? = some (.cells #[.int .i64 q1, .string q2] 48 (0, 0)) := by rw [hg]; simp [grow]
  have a0 : V.cell? ⟨w.heap.size, 0, none⟩ = some (.int .i64 p1) := (Lib.cell_of_heap hA 0).trans rfl
  have a1 : V.cell? ⟨w.heap.size, 1, none⟩ = some (.string p2) := (Lib.cell_of_heap hA 1).trans rfl
  have b0 : V.cell? ⟨w.heap.size + 1, 0, none⟩ = some (.int .i64 q1) := (Lib.cell_of_heap hD 0).trans rfl
  have b1 : V.cell? ⟨w.heap.size + 1, 1, none⟩ = some (.string q2) := (Lib.cell_of_heap hD 1).trans rfl
  clear hg hA hD hb
  go_enter Tryd.func29, Tryd.ntmps29
  go_upto_region 1 with fail
  rw [← HV.out]
  go_region_held3 (fun W => W.cell? ⟨w.heap.size, 0, none⟩ = some (.int .i64 p1) ∧ W.cell? ⟨w.heap.size, 1, none⟩ = some (.string p2) ∧ W.cell? ⟨w.heap.size + 1, 0, none⟩ = some (.int .i64 q1) ∧ W.cell? ⟨w.heap.size + 1, 1, none⟩ = some (.string q2))
    ((refine ⟨?_, ?_, ?_, ?_⟩ <;> first | assumption | go_keep))
    (first
      | (go_at_call 55; with_reducible refine (C1.out _).mono ?_; rintro e w1 ⟨rfl, rfl⟩)
      | (go_at_call 32; with_reducible refine (C2.out _).mono ?_; rintro e w1 ⟨rfl, rfl⟩)
      | (go_at_call 56; refine (CO.out _).mono ?_; rintro e w1 ⟨rfl, rfl⟩))
  go_wp2_with fail
  go_ret
  exact ⟨rfl, below_up HB.out (bdn (n := 1) ((Below.refl _ V).alloc (Nat.le_refl _) _))⟩
end Go.Proofs.YtmomjhnbhckhpaaDoor
