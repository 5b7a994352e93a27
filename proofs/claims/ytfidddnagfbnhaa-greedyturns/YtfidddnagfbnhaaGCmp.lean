/-
  Which of two choices is better: what the program answers; that nothing but boxes of its own is left behind.
  Conditions: none.
-/
import Derived.WalkKit
import Derived.WalkMore
import Derived.IntWalk
import Derived.Lib.Hide
import Derived.Sort.Grow
import Derived.StillTailTactics
import Derived.Deep.Cut
import Derived.Deep.RegionWith
import Derived.Deep.RegionHeld3
import Derived.Test.YtfidddnagfbnhaaProg
import Derived.Test.YtfidddnagfbnhaaGBase
namespace Go.Proofs.Ytfidddnagfbnhaa
open Go.RowKit Go.Shelf Go.Sort
set_option linter.unusedVariables false

/-- the first that is not 0 -/
def orL : List Int → Int
  | [] => 0
  | x :: l => if x ≠ 0 then x else orL l
theorem or_hit (l : List Int) (k : Nat) (x : Int) (hx : l[k]? = some x) (h : ∀ (j : Nat) y, j < k → l[j]? = some y → y = 0) (hne : x ≠ 0) : orL l = x := by
  induction l generalizing k with
  | nil => simp at hx
  | cons a l ih =>
    unfold orL
    cases k with
    | zero => simp at hx; subst hx; rw [if_pos hne]
    | succ k =>
      have e := h 0 a (by omega) rfl
      rw [if_neg (by simp [e])]
      exact ih k (by simpa using hx) (fun j y hj hy => h (j + 1) y (by omega) (by simpa using hy))
theorem or_none (l : List Int) (h : ∀ (j : Nat) y, j < l.length → l[j]? = some y → y = 0) : orL l = 0 := by
  induction l with
  | nil => rfl
  | cons a l ih =>
    unfold orL
    have e := h 0 a (by simp) rfl
    rw [if_neg (by simp [e])]
    exact ih (fun j y hj hy => h (j + 1) y (by simp; omega) (by simpa using hy))
theorem cmpT_or (c d : T3) : cmpT c d = orL [cmpI d.2.2 c.2.2, cmpI c.1 d.1, cmpI c.2.1 d.2.1] := by
  unfold cmpT orL orL orL orL
  split
  · rfl
  · split
    · rfl
    · rename_i h1 h2
      by_cases h : cmpI c.2.1 d.2.1 = 0
      · rw [h]; simp
      · rw [if_pos h]

set_option maxRecDepth 100000 in
set_option maxHeartbeats 1000000 in
theorem or_any (ao : Option Addr) (cap : Nat) (xs : List Int) (w : World) (hn : xs.length ≤ 274877906944) (hR : IntsAt w ao xs) :
    Calls Try.prog 26 #[.slice ao xs.length cap] w fun e w' => e = .returned (.int .i64 (orL xs)) ∧ w' = w := by
  have HRo := Lib.hid hR
  have HH := Lib.hid (or_hit xs)
  have HNo := Lib.hid (or_none xs)
  clear hR
  generalize orL xs = F at HH HNo ⊢
  go_enter Try.func26, Try.ntmps26
  go_wp2_with fail
  go_loopw [8] (fun i wr => ∃ (k : Nat), k ≤ xs.length ∧ i = .int .i64 k ∧ Hid (wr = w) ∧ Hid (∀ (j : Nat) y, j < k → xs[j]? = some y → y = 0)) (fun i _ => xs.length - (intOf i).toNat)
  case atStart => exact ⟨0, Nat.zero_le _, rfl, Lib.hid rfl, Lib.hid (fun j y hj _ => by omega)⟩
  case round =>
    obtain ⟨k, hk, rfl, HW, HZ⟩ := hrel
    by_cases hlt : k < xs.length
    · obtain ⟨x, hx⟩ : ∃ x, xs[k]? = some x := ⟨_, List.getElem?_eq_getElem hlt⟩
      have hR := HRo.out
      rw [← HW.out] at hR
      rcases hR with h0 | ⟨A, rfl, hA, hcell⟩
      · rw [h0] at hlt; simp at hlt
      have hc := hcell k _ hx
      have HX := Lib.hid hx
      clear hcell hx
      by_cases h0 : x = 0
      · have HZ2 : Hid (∀ (j : Nat) y, j < k + 1 → xs[j]? = some y → y = 0) := Lib.hid (fun j y hj hy => by
          by_cases e : j = k
          · subst e; rw [HX.out] at hy; cases hy; exact h0
          · exact HZ.out j y (by omega) hy)
        subst h0
        go_wp2_with fail
        go_roundw
        case rel => exact ⟨k + 1, by omega, by go_num, HW, HZ2⟩
        case measure => simp [intOf]; omega
      · have E := Lib.hid (HH.out k x HX.out HZ.out h0)
        go_wp2_with fail
        go_ret
        exact ⟨by rw [E.out]; rfl, HW.out⟩
    · obtain rfl : k = xs.length := by omega
      have E := Lib.hid (HNo.out HZ.out)
      go_wp2_with fail
      go_ret
      exact ⟨by rw [E.out]; rfl, HW.out⟩

theorem ints3_at (w : World) (a b c : Int) (T : TypeId) : IntsAt (w.alloc (.cells #[.int .i64 a, .int .i64 b, .int .i64 c] T)) (some ⟨w.heap.size, 0, none⟩) [a, b, c] := by
  refine .inr ⟨_, rfl, by simp, fun i p hp => ?_⟩
  have h := World.alloc_heap_new w (.cells #[.int .i64 a, .int .i64 b, .int .i64 c] T)
  have e : (⟨w.heap.size, 0, none⟩ : Addr).add i = ⟨w.heap.size, i, none⟩ := by unfold Addr.add; split <;> simp_all
  rw [e, Lib.cell_of_heap h]
  match i, hp with
  | 0, hp => simp at hp; subst hp; rfl
  | 1, hp => simp at hp; subst hp; rfl
  | 2, hp => simp at hp; subst hp; rfl
  | i + 3, hp => simp at hp

set_option maxRecDepth 100000 in
set_option maxHeartbeats 2000000 in
theorem choice_any (c d : T3) (w : World) :
    Calls Try.prog 20 #[.agg #[.int .i64 c.1, .int .i64 c.2.1, .int .i64 c.2.2], .agg #[.int .i64 d.1, .int .i64 d.2.1, .int .i64 d.2.2]] w fun e w' => e = .returned (.int .i64 (cmpT c d)) ∧ ∃ q os', w' = grow (w.drewN q) os' := by
  obtain ⟨c1, c2, c3⟩ := c
  obtain ⟨d1, d2, d3⟩ := d
  have C1 := Lib.hid (fun W => compare_any d3 c3 W)
  have C2 := Lib.hid (fun W => compare_any c1 d1 W)
  have C3 := Lib.hid (fun W => compare_any c2 d2 W)
  have CO : Hid (∀ W : World, Calls Try.prog 26 #[.slice (some ⟨W.heap.size, 0, none⟩) 3 3] (W.alloc (.cells #[.int .i64 (cmpI d3 c3), .int .i64 (cmpI c1 d1), .int .i64 (cmpI c2 d2)] 3)).drew fun e w' => e = .returned (.int .i64 (cmpT (c1, c2, c3) (d1, d2, d3))) ∧ w' = (W.alloc (.cells #[.int .i64 (cmpI d3 c3), .int .i64 (cmpI c1 d1), .int .i64 (cmpI c2 d2)] 3)).drew) := Lib.hid (fun W => by
    rw [cmpT_or]
    exact or_any _ 3 [cmpI d3 c3, cmpI c1 d1, cmpI c2 d2] _ (by simp) (ints3_at W _ _ _ _))
  generalize cmpT (c1, c2, c3) (d1, d2, d3) = F at CO ⊢
  generalize cmpI d3 c3 = r1 at C1 CO
  generalize cmpI c1 d1 = r2 at C2 CO
  generalize cmpI c2 d2 = r3 at C3 CO
  dsimp only
  obtain ⟨V, HV⟩ : ∃ V, Hid (V = (w.alloc (.cells #[.int .i64 c1, .int .i64 c2, .int .i64 c3] 48)).alloc (.cells #[.int .i64 d1, .int .i64 d2, .int .i64 d3] 48)) := ⟨_, Lib.hid rfl⟩
  have hg : V = grow w #[.cells #[.int .i64 c1, .int .i64 c2, .int .i64 c3] 48, .cells #[.int .i64 d1, .int .i64 d2, .int .i64 d3] 48] := by rw [HV.out, alloc_eq_grow, alloc_eq_grow, grow_grow]; rfl
  have HG := Lib.hid hg
  have hA : V.heap[w.heap.size]? = some (.cells #[.int .i64 c1, .int .i64 c2, .int .i64 c3] 48 (0, 0)) := by rw [hg]; simp [grow]
  have hD : V.heap[w.heap.size + 1]? = some (.cells #[.int .i64 d1, .int .i64 d2, .int .i64 d3] 48 (0, 0)) := by rw [hg]; simp [grow]
  have a0 : V.cell? ⟨w.heap.size, 0, none⟩ = some (.int .i64 c1) := (Lib.cell_of_heap hA 0).trans rfl
  have a1 : V.cell? ⟨w.heap.size, 1, none⟩ = some (.int .i64 c2) := (Lib.cell_of_heap hA 1).trans rfl
  have a2 : V.cell? ⟨w.heap.size, 2, none⟩ = some (.int .i64 c3) := (Lib.cell_of_heap hA 2).trans rfl
  have b0 : V.cell? ⟨w.heap.size + 1, 0, none⟩ = some (.int .i64 d1) := (Lib.cell_of_heap hD 0).trans rfl
  have b1 : V.cell? ⟨w.heap.size + 1, 1, none⟩ = some (.int .i64 d2) := (Lib.cell_of_heap hD 1).trans rfl
  have b2 : V.cell? ⟨w.heap.size + 1, 2, none⟩ = some (.int .i64 d3) := (Lib.cell_of_heap hD 2).trans rfl
  clear hg hA hD
  go_enter Try.func20, Try.ntmps20
  go_upto_region 1 with fail
  rw [← HV.out]
  go_region_held3 (fun W => W.cell? ⟨w.heap.size, 0, none⟩ = some (.int .i64 c1) ∧ W.cell? ⟨w.heap.size, 1, none⟩ = some (.int .i64 c2) ∧ W.cell? ⟨w.heap.size, 2, none⟩ = some (.int .i64 c3) ∧ W.cell? ⟨w.heap.size + 1, 0, none⟩ = some (.int .i64 d1) ∧ W.cell? ⟨w.heap.size + 1, 1, none⟩ = some (.int .i64 d2) ∧ W.cell? ⟨w.heap.size + 1, 2, none⟩ = some (.int .i64 d3))
    ((refine ⟨?_, ?_, ?_, ?_, ?_, ?_⟩ <;> first | assumption | go_keep))
    (first
      | (go_at_call 27; with_reducible refine (C1.out _).mono ?_; rintro e w1 ⟨rfl, rfl⟩)
      | (go_at_call 27; with_reducible refine (C2.out _).mono ?_; rintro e w1 ⟨rfl, rfl⟩)
      | (go_at_call 27; with_reducible refine (C3.out _).mono ?_; rintro e w1 ⟨rfl, rfl⟩)
      | (go_at_call 26; refine (CO.out _).mono ?_; rintro e w1 ⟨rfl, rfl⟩))
  go_wp2_with fail
  go_ret
  exact ⟨rfl, 1, _, by rw [alloc_eq_grow, HG.out, grow_grow, drew_grow]; rfl⟩
end Go.Proofs.Ytfidddnagfbnhaa
