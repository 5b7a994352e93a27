/-
  What a list is split into: the program's answer.
  Conditions: lists of at most 2^20 pairs.
-/
import Derived.WalkKit
import Derived.WalkMore
import Derived.IntWalk
import Derived.OwnWalk
import Derived.Lib.Hide
import Derived.BigQuiet
import Derived.Deep.QuietTactic
import Derived.Deep.Cut
import Derived.Test.YtolcdhdmonaeaaaProg
import Derived.Test.YtolcdhdmonaeaaaWvKind
import Derived.Test.YtolcdhdmonaeaaaWvMath
namespace Go.Proofs.Ytolcdhdmonaeaaa
open Go.RowKit Go.Shelf
set_option linter.unusedVariables false

/-- the kinds of a list that is split -/
abbrev kindsAt (s : Nat) : Array Value := #[.iface 57 (.pointer (some ⟨s, 0, none⟩)), .iface 58 (.pointer (some ⟨s + 1, 0, none⟩)), .iface 59 (.pointer (some ⟨s + 1 + 1, 0, none⟩))]
/-- what the three kinds hold, and a pair that lies beside them -/
structure Three (w : World) (s P : Nat) (x1 x2 : Int) (v1 v2 v3 : Value) (X1 : PL) (X2 X3 : List Int) : Prop where
  b1 : w.heap[s]? = some (.cells #[v1] 52 (0, 0))
  b2 : w.heap[s + 1]? = some (.cells #[v2] 54 (0, 0))
  b3 : w.heap[s + 1 + 1]? = some (.cells #[v3] 56 (0, 0))
  kb : w.heap[s + 1 + 1 + 1]? = some (.cells (kindsAt s) 62 (0, 0))
  pb : s + 4 ≤ P → w.heap[P]? = some (.cells #[.int .i64 x1, .int .i64 x2] 37 (0, 0))
  o1 : OwnL w (s + 4) v1 X1
  o2 : OwnI w (s + 4) v2 X2
  o3 : OwnI w (s + 4) v3 X3
  d12 : ∀ g, v1.ownBlock = some g → v2.ownBlock ≠ some g
  d13 : ∀ g, v1.ownBlock = some g → v3.ownBlock ≠ some g
  d23 : ∀ g, v2.ownBlock = some g → v3.ownBlock ≠ some g
  q1 : v1.ownBlock ≠ some P
  q2 : v2.ownBlock ≠ some P
  q3 : v3.ownBlock ≠ some P
  sz : s + 4 ≤ w.heap.size
theorem lt_heap {w : World} {b : Nat} {o : Obj} (h : w.heap[b]? = some o) : b < w.heap.size := (Array.getElem?_eq_some_iff.1 h).1
section
variable {w w' : World} {s P : Nat} {x1 x2 : Int} {v1 v2 v3 : Value} {X1 : PL} {X2 X3 : List Int} {n' : Nat}
theorem Three.kept (h : Three w s P x1 x2 v1 v2 v3 X1 X2 X3) (hB : Below w.heap.size w w') : Three w' s P x1 x2 v1 v2 v3 X1 X2 X3 :=
  ⟨(hB.block _ (lt_heap h.b1)).trans h.b1, (hB.block _ (lt_heap h.b2)).trans h.b2, (hB.block _ (lt_heap h.b3)).trans h.b3, (hB.block _ (lt_heap h.kb)).trans h.kb, fun hp => (hB.block _ (lt_heap (h.pb hp))).trans (h.pb hp), ownsRow_below h.o1 hB, ownsRow_below h.o2 hB, ownsRow_below h.o3 hB, h.d12, h.d13, h.d23, h.q1, h.q2, h.q3, Nat.le_trans h.sz hB.size⟩
/-- another pair beside them -/
theorem Three.next (h : Three w s P x1 x2 v1 v2 v3 X1 X2 X3) (y1 y2 : Int) : Three (w.alloc (.cells #[.int .i64 y1, .int .i64 y2] 37)) s w.heap.size y1 y2 v1 v2 v3 X1 X2 X3 := by
  have hk := h.kept (alloc_belowK0 w (.cells #[.int .i64 y1, .int .i64 y2] 37))
  refine ⟨hk.b1, hk.b2, hk.b3, hk.kb, fun _ => World.alloc_heap_new _ _, hk.o1, hk.o2, hk.o3, hk.d12, hk.d13, hk.d23, fun e => ?_, fun e => ?_, fun e => ?_, hk.sz⟩
  · have := (h.o1.lt _ e).2; omega
  · have := (h.o2.lt _ e).2; omega
  · have := (h.o3.lt _ e).2; omega
theorem own_far {e : TypeId} {sz base n : Nat} {v : Value} {xs : List Value} {B : Nat} {u : Value} (ho : w.ownsRow base e sz v n xs) (hk : ∀ k, k < w.heap.size → k ≠ B → some k ≠ u.ownBlock → w'.heap[k]? = w.heap[k]?) (hB : B < base) (hd : ∀ g, u.ownBlock = some g → v.ownBlock ≠ some g) : w'.ownsRow base e sz v n xs := by
  refine ⟨ho.1, ?_⟩
  rcases ho.2 with h | ⟨g, cap, cur, rfl, h1, h2, h3⟩
  · exact .inl h
  · refine .inr ⟨g, cap, cur, rfl, h1, ?_, h3⟩
    rw [hk g (lt_heap h2) (by omega) (fun e => hd g e.symm rfl)]; exact h2
theorem Three.keep1 (h : Three w s P x1 x2 v1 v2 v3 X1 X2 X3) (hP : P < w.heap.size) (hs : s + 4 ≤ P) {g cap : Nat} {cs : List Value} (hcs : cs = cellsP (X1 ++ [(x1, x2)])) (hn : n' = X1.length) (hk : KeepOut 52 37 2 s (s + 4) v1 n' cs w w' g cap) :
    Three w' s P x1 x2 (.slice (some ⟨g, 0, none⟩) (n' + 1) cap) v2 v3 (X1 ++ [(x1, x2)]) X2 X3 := by
  subst hn hcs
  have new : ∀ x, x < w.heap.size → (v1.ownBlock ≠ some x) → (Value.slice (some ⟨g, 0, none⟩) (X1.length + 1) cap).ownBlock ≠ some x := fun x hx hne e => by
    have e' : g = x := by simpa [Value.ownBlock] using e
    rcases hk.lies with h1 | h1
    · exact hne (by rw [h1, e'])
    · omega
  have far : ∀ x, x < s + 4 → some x ≠ v1.ownBlock := fun x hx e => by have := (h.o1.lt x e.symm).1; omega
  have hsz := h.sz
  refine ⟨hk.box, (hk.keep _ (by omega) (by omega) (far _ (by omega))).trans h.b2, (hk.keep _ (by omega) (by omega) (far _ (by omega))).trans h.b3, (hk.keep _ (by omega) (by omega) (far _ (by omega))).trans h.kb, fun hp => (hk.keep _ hP (by omega) (fun e => h.q1 e.symm)).trans (h.pb hp), ?_, own_far h.o2 hk.keep (by omega) h.d12, own_far h.o3 hk.keep (by omega) h.d13, fun g' e1 e2 => ?_, fun g' e1 e2 => ?_, h.d23, new P hP h.q1, h.q2, h.q3, Nat.le_trans h.sz hk.size⟩
  · have := hk.own; unfold OwnL; rw [List.length_append]; exact this
  · exact new g' ((h.o2.lt _ e2).2) (fun e => h.d12 g' e e2) e1
  · exact new g' ((h.o3.lt _ e2).2) (fun e => h.d13 g' e e2) e1
theorem Three.keep2 (h : Three w s P x1 x2 v1 v2 v3 X1 X2 X3) (hP : P < w.heap.size) (hs : s + 4 ≤ P) {g cap : Nat} {cs : List Value} {y : Int} (hcs : cs = (X2 ++ [y]).map (Value.int .i64)) (hn : n' = X2.length) (hk : KeepOut 54 3 1 (s + 1) (s + 4) v2 n' cs w w' g cap) :
    Three w' s P x1 x2 v1 (.slice (some ⟨g, 0, none⟩) (n' + 1) cap) v3 X1 (X2 ++ [y]) X3 := by
  subst hn hcs
  have new : ∀ x, x < w.heap.size → (v2.ownBlock ≠ some x) → (Value.slice (some ⟨g, 0, none⟩) (X2.length + 1) cap).ownBlock ≠ some x := fun x hx hne e => by
    have e' : g = x := by simpa [Value.ownBlock] using e
    rcases hk.lies with h1 | h1
    · exact hne (by rw [h1, e'])
    · omega
  have far : ∀ x, x < s + 4 → some x ≠ v2.ownBlock := fun x hx e => by have := (h.o2.lt x e.symm).1; omega
  have hsz := h.sz
  refine ⟨(hk.keep _ (by omega) (by omega) (far _ (by omega))).trans h.b1, hk.box, (hk.keep _ (by omega) (by omega) (far _ (by omega))).trans h.b3, (hk.keep _ (by omega) (by omega) (far _ (by omega))).trans h.kb, fun hp => (hk.keep _ hP (by omega) (fun e => h.q2 e.symm)).trans (h.pb hp), own_far h.o1 hk.keep (by omega) (fun g' e1 e2 => h.d12 g' e2 e1), ?_, own_far h.o3 hk.keep (by omega) h.d23, fun g' e1 e2 => ?_, h.d13, fun g' e1 e2 => ?_, h.q1, new P hP h.q2, h.q3, Nat.le_trans h.sz hk.size⟩
  · have := hk.own; unfold OwnI; rw [List.length_append]; exact this
  · exact new g' ((h.o1.lt _ e1).2) (fun e => h.d12 g' e1 e) e2
  · exact new g' ((h.o3.lt _ e2).2) (fun e => h.d23 g' e e2) e1
theorem Three.keep3 (h : Three w s P x1 x2 v1 v2 v3 X1 X2 X3) (hP : P < w.heap.size) (hs : s + 4 ≤ P) {g cap : Nat} {cs : List Value} {y : Int} (hcs : cs = (X3 ++ [y]).map (Value.int .i64)) (hn : n' = X3.length) (hk : KeepOut 56 3 1 (s + 1 + 1) (s + 4) v3 n' cs w w' g cap) :
    Three w' s P x1 x2 v1 v2 (.slice (some ⟨g, 0, none⟩) (n' + 1) cap) X1 X2 (X3 ++ [y]) := by
  subst hn hcs
  have new : ∀ x, x < w.heap.size → (v3.ownBlock ≠ some x) → (Value.slice (some ⟨g, 0, none⟩) (X3.length + 1) cap).ownBlock ≠ some x := fun x hx hne e => by
    have e' : g = x := by simpa [Value.ownBlock] using e
    rcases hk.lies with h1 | h1
    · exact hne (by rw [h1, e'])
    · omega
  have far : ∀ x, x < s + 4 → some x ≠ v3.ownBlock := fun x hx e => by have := (h.o3.lt x e.symm).1; omega
  have hsz := h.sz
  refine ⟨(hk.keep _ (by omega) (by omega) (far _ (by omega))).trans h.b1, (hk.keep _ (by omega) (by omega) (far _ (by omega))).trans h.b2, hk.box, (hk.keep _ (by omega) (by omega) (far _ (by omega))).trans h.kb, fun hp => (hk.keep _ hP (by omega) (fun e => h.q3 e.symm)).trans (h.pb hp), own_far h.o1 hk.keep (by omega) (fun g' e1 e2 => h.d13 g' e2 e1), own_far h.o2 hk.keep (by omega) (fun g' e1 e2 => h.d23 g' e2 e1), ?_, h.d12, fun g' e1 e2 => ?_, fun g' e1 e2 => ?_, h.q1, h.q2, new P hP h.q3, Nat.le_trans h.sz hk.size⟩
  · have := hk.own; unfold OwnI; rw [List.length_append]; exact this
  · exact new g' ((h.o1.lt _ e1).2) (fun e => h.d13 g' e1 e) e2
  · exact new g' ((h.o2.lt _ e1).2) (fun e => h.d23 g' e1 e) e2
end
theorem find_paired_holds (A : Addr) (n : Nat) (w : World) : (method (n + 1) 57 (.pointer (some A)) "tartan/weave.holds").run Try.prog w = .ok (60, .pointer (some A)) w := by kernel_rfl
theorem find_paired_keep (A : Addr) (n : Nat) (w : World) : (method (n + 1) 57 (.pointer (some A)) "tartan/weave.keep").run Try.prog w = .ok (61, .pointer (some A)) w := by kernel_rfl
theorem find_lost_holds (A : Addr) (n : Nat) (w : World) : (method (n + 1) 58 (.pointer (some A)) "tartan/weave.holds").run Try.prog w = .ok (62, .pointer (some A)) w := by kernel_rfl
theorem find_lost_keep (A : Addr) (n : Nat) (w : World) : (method (n + 1) 58 (.pointer (some A)) "tartan/weave.keep").run Try.prog w = .ok (63, .pointer (some A)) w := by kernel_rfl
theorem find_fresh_holds (A : Addr) (n : Nat) (w : World) : (method (n + 1) 59 (.pointer (some A)) "tartan/weave.holds").run Try.prog w = .ok (64, .pointer (some A)) w := by kernel_rfl
theorem find_fresh_keep (A : Addr) (n : Nat) (w : World) : (method (n + 1) 59 (.pointer (some A)) "tartan/weave.keep").run Try.prog w = .ok (65, .pointer (some A)) w := by kernel_rfl
theorem both_next (l : PL) (k : Nat) (p : Int × Int) (h : l[k]? = some p) : bothOf (l.take (k + 1)) = if (decide (0 ≤ p.1) && decide (0 ≤ p.2)) = true then bothOf (l.take k) ++ [p] else bothOf (l.take k) := by
  obtain ⟨hk, e⟩ := List.getElem?_eq_some_iff.1 h
  rw [List.take_succ_eq_append_getElem hk, e, both_app]
  unfold bothOf; rw [List.filter_cons, List.filter_nil]
  split <;> simp
theorem gone_next (l : PL) (k : Nat) (p : Int × Int) (h : l[k]? = some p) : goneOf (l.take (k + 1)) = if (decide (0 ≤ p.1) && decide (p.2 < 0)) = true then goneOf (l.take k) ++ [p.1] else goneOf (l.take k) := by
  obtain ⟨hk, e⟩ := List.getElem?_eq_some_iff.1 h
  rw [List.take_succ_eq_append_getElem hk, e, gone_app]
  unfold goneOf; rw [List.filter_cons, List.filter_nil]
  split <;> simp
theorem new_next (l : PL) (k : Nat) (p : Int × Int) (h : l[k]? = some p) : newOf (l.take (k + 1)) = if (decide (p.1 < 0) && decide (0 ≤ p.2)) = true then newOf (l.take k) ++ [p.2] else newOf (l.take k) := by
  obtain ⟨hk, e⟩ := List.getElem?_eq_some_iff.1 h
  rw [List.take_succ_eq_append_getElem hk, e, new_app]
  unfold newOf; rw [List.filter_cons, List.filter_nil]
  split <;> simp
/-- what splitting answers -/
def SplitOut (l : PL) (w : World) (e : Ending) (w' : World) : Prop := ∃ po pc ao ac bo bc, e = .returned (.tuple #[.slice po (bothOf l).length pc, .slice ao (goneOf l).length ac, .slice bo (newOf l).length bc]) ∧ PairsAt w' po (bothOf l) ∧ IntsAt w' ao (goneOf l) ∧ IntsAt w' bo (newOf l) ∧ Below w.heap.size w w'

theorem both_len (l : PL) : (bothOf l).length ≤ l.length := List.length_filter_le _ _
theorem gone_len (l : PL) : (goneOf l).length ≤ l.length := by unfold goneOf; rw [List.length_map]; exact List.length_filter_le _ _
theorem new_len (l : PL) : (newOf l).length ≤ l.length := by unfold newOf; rw [List.length_map]; exact List.length_filter_le _ _
theorem below_start (w : World) : Below w.heap.size w ((((w.alloc (.cells #[.slice none 0 0] 52)).alloc (.cells #[.slice none 0 0] 54)).alloc (.cells #[.slice none 0 0] 56)).alloc (.cells (kindsAt w.heap.size) 62)) :=
  (((((Below.refl _ w).alloc (Nat.le_refl _) _).alloc (by simp) _).alloc (by simp; omega) _).alloc (by simp; omega) _)
theorem three_start (w : World) : Three ((((w.alloc (.cells #[.slice none 0 0] 52)).alloc (.cells #[.slice none 0 0] 54)).alloc (.cells #[.slice none 0 0] 56)).alloc (.cells (kindsAt w.heap.size) 62)) w.heap.size 0 0 0 (.slice none 0 0) (.slice none 0 0) (.slice none 0 0) [] [] [] := by
  have s1 : (w.alloc (.cells #[.slice none 0 0] 52)).heap.size = w.heap.size + 1 := by simp
  have s2 : ((w.alloc (.cells #[.slice none 0 0] 52)).alloc (.cells #[.slice none 0 0] 54)).heap.size = w.heap.size + 1 + 1 := by simp
  have s3 : (((w.alloc (.cells #[.slice none 0 0] 52)).alloc (.cells #[.slice none 0 0] 54)).alloc (.cells #[.slice none 0 0] 56)).heap.size = w.heap.size + 1 + 1 + 1 := by simp
  refine ⟨?_, ?_, ?_, ?_, fun h => by omega, World.ownsRow_nil _ _ _ _, World.ownsRow_nil _ _ _ _, World.ownsRow_nil _ _ _ _, fun g h => (by cases h), fun g h => (by cases h), fun g h => (by cases h), fun h => (by cases h), fun h => (by cases h), fun h => (by cases h), by simp⟩
  · rw [Below.heap_alloc _ _ _ (by rw [s3]; omega), Below.heap_alloc _ _ _ (by rw [s2]; omega), Below.heap_alloc _ _ _ (by rw [s1]; omega)]; exact World.alloc_heap_new _ _
  · rw [Below.heap_alloc _ _ _ (by rw [s3]; omega), Below.heap_alloc _ _ _ (by rw [s2]; omega), ← s1]; exact World.alloc_heap_new _ _
  · rw [Below.heap_alloc _ _ _ (by rw [s3]; omega), ← s2]; exact World.alloc_heap_new _ _
  · conv => lhs; arg 2; rw [← s3]
    exact World.alloc_heap_new _ _
theorem own_intsAt {w : World} {base : Nat} {v : Value} {l : List Int} (h : OwnI w base v l) : ∃ ao cap, v = .slice ao l.length cap ∧ IntsAt w ao l := by
  rcases h.2 with ⟨rfl, h0⟩ | ⟨g, cap, cur, rfl, h1, h2, h3, h4, h5, h6⟩
  · have hl : l = [] := List.eq_nil_of_length_eq_zero h0
    subst hl
    exact ⟨none, 0, rfl, .inl rfl⟩
  · refine ⟨_, cap, rfl, .inr ⟨_, rfl, (World.ownsRow.lt h g rfl).2, fun i p hp => ?_⟩⟩
    exact World.ownsRow.cells h rfl i _ (by rw [List.getElem?_map, hp]; rfl)
theorem three_end {w w' : World} {s P : Nat} {x1 x2 : Int} {v1 v2 v3 : Value} {xs : PL} (h : Three w' s P x1 x2 v1 v2 v3 (bothOf xs) (goneOf xs) (newOf xs)) (hB : Below w.heap.size w w') (n : Nat) : SplitOut xs w (.returned (.tuple #[v1, v2, v3])) (w'.drewN n) := by
  have hD : Below w'.heap.size w' (w'.drewN n) := bdn (Below.refl _ _)
  have h' := h.kept hD
  obtain ⟨po, pc, rfl, hp, _, _⟩ := h'.o1.pairsAt
  obtain ⟨ao, ac, rfl, ha⟩ := own_intsAt h'.o2
  obtain ⟨bo, bc, rfl, hb⟩ := own_intsAt h'.o3
  exact ⟨po, pc, ao, ac, bo, bc, rfl, hp, ha, hb, bdn hB⟩

set_option maxRecDepth 100000 in
set_option maxHeartbeats 4000000 in
theorem split_any (ao : Option Addr) (cap : Nat) (xs : PL) (w : World) (hn : xs.length ≤ 1048576) (hR : PairsAt w ao xs) :
    Calls Try.prog 12 #[.slice ao xs.length cap] w (SplitOut xs w) := by
  have HR := Lib.hid hR
  have m1 := find_paired_holds
  have m2 := find_paired_keep
  have m3 := find_lost_holds
  have m4 := find_lost_keep
  have m5 := find_fresh_holds
  have m6 := find_fresh_keep
  obtain ⟨Q, HQ⟩ : ∃ Q, Hid (Q = SplitOut xs w) := ⟨_, Lib.hid rfl⟩
  rw [← HQ.out]
  clear hR
  go_enter Try.func12, Try.ntmps12
  have HS : Hid (Three ((((w.alloc (.cells #[.slice none 0 0] 52)).alloc (.cells #[.slice none 0 0] 54)).alloc (.cells #[.slice none 0 0] 56)).alloc (.cells (kindsAt w.heap.size) 62)) w.heap.size 0 0 0 (.slice none 0 0) (.slice none 0 0) (.slice none 0 0) [] [] []) := Lib.hid (three_start w)
  have HB0 : Hid (Below w.heap.size w ((((w.alloc (.cells #[.slice none 0 0] 52)).alloc (.cells #[.slice none 0 0] 54)).alloc (.cells #[.slice none 0 0] 56)).alloc (.cells (kindsAt w.heap.size) 62))) := Lib.hid (below_start w)
  go_wp2_with fail
  go_loopw [19] (fun i wr => ∃ (k P : Nat) (y1 y2 : Int) (v1 v2 v3 : Value), k ≤ xs.length ∧ i = .int .i64 k ∧ Hid (Three wr w.heap.size P y1 y2 v1 v2 v3 (bothOf (xs.take k)) (goneOf (xs.take k)) (newOf (xs.take k))) ∧ Hid (Below w.heap.size w wr)) (fun i _ => xs.length - (intOf i).toNat)
  case atStart => exact ⟨0, 0, 0, 0, _, _, _, Nat.zero_le _, rfl, HS, HB0⟩
  case round =>
    clear HS HB0
    obtain ⟨k, P, y1, y2, v1, v2, v3, hk, rfl, HT, HB⟩ := hrel
    by_cases hlt : k < xs.length
    · obtain ⟨⟨x1, x2⟩, hx⟩ : ∃ x, xs[k]? = some x := ⟨_, List.getElem?_eq_getElem hlt⟩
      rcases (HR.out.kept HB.out) with h0 | ⟨b, o, rfl, hA, hcell⟩
      · rw [h0] at hlt; simp at hlt
      obtain ⟨hc1, hc2⟩ := hcell k _ hx
      dsimp only at hc1 hc2
      have e1 := both_next xs k _ hx
      have e2 := gone_next xs k _ hx
      have e3 := new_next xs k _ hx
      have hL1 : (bothOf (xs.take k)).length ≤ 1048576 := Nat.le_trans (both_len _) (by rw [List.length_take]; omega)
      have hL2 : (goneOf (xs.take k)).length ≤ 1048576 := Nat.le_trans (gone_len _) (by rw [List.length_take]; omega)
      have hL3 : (newOf (xs.take k)).length ≤ 1048576 := Nat.le_trans (new_len _) (by rw [List.length_take]; omega)
      dsimp only at e1 e2 e3
      obtain ⟨Y1, Y2, Y3, HYs⟩ : ∃ Y1 Y2 Y3, Hid (Y1 = bothOf (xs.take (k + 1)) ∧ Y2 = goneOf (xs.take (k + 1)) ∧ Y3 = newOf (xs.take (k + 1))) := ⟨_, _, _, Lib.hid ⟨rfl, rfl, rfl⟩⟩
      rw [← HYs.out.1] at e1
      rw [← HYs.out.2.1] at e2
      rw [← HYs.out.2.2] at e3
      generalize bothOf (xs.take k) = X1 at HT e1 hL1
      generalize goneOf (xs.take k) = X2 at HT e2 hL2
      generalize newOf (xs.take k) = X3 at HT e3 hL3
      have HY1 : Hid ((decide (0 ≤ x1) && decide (0 ≤ x2)) = true → Y1 = X1 ++ [(x1, x2)]) := Lib.hid (fun h => by rw [e1, if_pos h])
      have HN1 : Hid ((decide (0 ≤ x1) && decide (0 ≤ x2)) = false → Y1 = X1) := Lib.hid (fun h => by rw [e1, if_neg (by rw [h]; simp)])
      have HY2 : Hid ((decide (0 ≤ x1) && decide (x2 < 0)) = true → Y2 = X2 ++ [x1]) := Lib.hid (fun h => by rw [e2, if_pos h])
      have HN2 : Hid ((decide (0 ≤ x1) && decide (x2 < 0)) = false → Y2 = X2) := Lib.hid (fun h => by rw [e2, if_neg (by rw [h]; simp)])
      have HY3 : Hid ((decide (x1 < 0) && decide (0 ≤ x2)) = true → Y3 = X3 ++ [x2]) := Lib.hid (fun h => by rw [e3, if_pos h])
      have HN3 : Hid ((decide (x1 < 0) && decide (0 ≤ x2)) = false → Y3 = X3) := Lib.hid (fun h => by rw [e3, if_neg (by rw [h]; simp)])
      obtain ⟨wo, rfl⟩ : ∃ wo : World, wo = wr := ⟨_, rfl⟩
      have hsP : w.heap.size + 4 ≤ wo.heap.size := HT.out.sz
      obtain ⟨V, HV⟩ : ∃ V, Hid (V = wo.alloc (.cells #[.int .i64 x1, .int .i64 x2] 37)) := ⟨_, Lib.hid rfl⟩
      have HT1 : Hid (Three V w.heap.size wo.heap.size x1 x2 v1 v2 v3 X1 X2 X3) := Lib.hid (by rw [HV.out]; exact HT.out.next x1 x2)
      have HB1 : Hid (Below w.heap.size w V) := Lib.hid (by rw [HV.out]; exact HB.out.alloc HB.out.size _)
      have hPV : wo.heap.size < V.heap.size := by rw [HV.out]; simp
      clear e1 e2 e3 hcell hx HT HB
      go_upto_region 8 with fail
      rw [← HV.out]
      clear HV hc1 hc2
      go_wp2_with fail
      go_loopw [25] (fun i wr => ∃ (j : Nat) (v1 v2 v3 : Value), j ≤ 3 ∧ i = .int .i64 j ∧ Hid ((j = 0 → Three wr w.heap.size wo.heap.size x1 x2 v1 v2 v3 X1 X2 X3) ∧ (j = 1 → Three wr w.heap.size wo.heap.size x1 x2 v1 v2 v3 Y1 X2 X3) ∧ (j = 2 → Three wr w.heap.size wo.heap.size x1 x2 v1 v2 v3 Y1 Y2 X3) ∧ (j = 3 → Three wr w.heap.size wo.heap.size x1 x2 v1 v2 v3 Y1 Y2 Y3)) ∧ Hid (Below w.heap.size w wr) ∧ wo.heap.size < wr.heap.size) (fun i _ => 3 - (intOf i).toNat)
      case atStart => exact ⟨0, v1, v2, v3, by omega, rfl, Lib.hid ⟨fun _ => HT1.out, fun h => by omega, fun h => by omega, fun h => by omega⟩, HB1, hPV⟩
      case round =>
        clear HT1 HB1 hPV
        obtain ⟨j, v1, v2, v3, hj3, rfl, HJ, HBi, hPl⟩ := hrel
        rcases (show j = 0 ∨ j = 1 ∨ j = 2 ∨ j = 3 by omega) with hj | hj | hj | hj
        · subst hj
          have HT := Lib.hid (HJ.out.1 rfl)
          obtain ⟨ao1, cp1, e1⟩ := own_slice HT.out.o1
          subst e1
          have hkc : wr.cell? ⟨w.heap.size + 1 + 1 + 1, 0, none⟩ = some (.iface 57 (.pointer (some ⟨w.heap.size, 0, none⟩))) := (Lib.cell_of_heap HT.out.kb 0).trans rfl
          have c0 : wr.cell? ⟨wo.heap.size, 0, none⟩ = some (.int .i64 x1) := (Lib.cell_of_heap (HT.out.pb hsP) 0).trans rfl
          have c1 : wr.cell? ⟨wo.heap.size, 1, none⟩ = some (.int .i64 x2) := (Lib.cell_of_heap (HT.out.pb hsP) 1).trans rfl
          have C := Lib.hid (holdsP_any ⟨w.heap.size, 0, none⟩ x1 x2 wr)
          obtain ⟨t, ht⟩ : ∃ t, t = (decide (0 ≤ x1) && decide (0 ≤ x2)) := ⟨_, rfl⟩
          rw [← ht] at C
          go_wp2_with fail
          refine C.out.mono ?_; rintro e w2 ⟨rfl, b1⟩
          have HT2 := Lib.hid (HT.out.kept b1)
          have HB2 := Lib.hid (HBi.out.trans (b1.mono (Nat.le_trans (by omega) HT.out.sz)))
          have hP2 : wo.heap.size < w2.heap.size := Nat.lt_of_lt_of_le hPl b1.size
          clear C b1 c0 c1 hkc HT HJ
          cases t with
          | true =>
            have HY := Lib.hid (HY1.out ht.symm)
            clear ht
            have c0 : w2.cell? ⟨wo.heap.size, 0, none⟩ = some (.int .i64 x1) := (Lib.cell_of_heap (HT2.out.pb hsP) 0).trans rfl
            have c1 : w2.cell? ⟨wo.heap.size, 1, none⟩ = some (.int .i64 x2) := (Lib.cell_of_heap (HT2.out.pb hsP) 1).trans rfl
            have C := Lib.hid (keepP_any (w.heap.size) (w.heap.size + 4) ao1 X1.length cp1 _ x1 x2 w2 HT2.out.b1 hL1 (by omega) HT2.out.sz HT2.out.o1)
            go_wp2_with fail
            refine C.out.mono ?_; rintro e w3 ⟨rfl, g, gc, K⟩
            have HT3 := Lib.hid (HT2.out.keep1 hP2 hsP (cellsP_app X1 [(x1, x2)]).symm rfl K)
            rw [← HY.out] at HT3
            have HB3 := Lib.hid (HB2.out.trans (K.under.mono (by omega)))
            have hP3 : wo.heap.size < w3.heap.size := Nat.lt_of_lt_of_le hP2 K.size
            clear K C c0 c1 HT2
            go_wp2_with fail
            go_roundw
            case rel => exact ⟨1, _, _, _, by omega, by go_num, Lib.hid ⟨fun h => by omega, fun _ => HT3.out, fun h => by omega, fun h => by omega⟩, HB3, hP3⟩
            case measure => simp [intOf]
          | false =>
            have HY := Lib.hid (HN1.out ht.symm)
            clear ht
            rw [← HY.out] at HT2
            go_wp2_with fail
            go_roundw
            case rel => exact ⟨1, _, _, _, by omega, by go_num, Lib.hid ⟨fun h => by omega, fun _ => HT2.out, fun h => by omega, fun h => by omega⟩, HB2, hP2⟩
            case measure => simp [intOf]
        · subst hj
          have HT := Lib.hid (HJ.out.2.1 rfl)
          obtain ⟨ao1, cp1, e1⟩ := own_slice HT.out.o2
          subst e1
          have hkc : wr.cell? ⟨w.heap.size + 1 + 1 + 1, 1, none⟩ = some (.iface 58 (.pointer (some ⟨w.heap.size + 1, 0, none⟩))) := (Lib.cell_of_heap HT.out.kb 1).trans rfl
          have c0 : wr.cell? ⟨wo.heap.size, 0, none⟩ = some (.int .i64 x1) := (Lib.cell_of_heap (HT.out.pb hsP) 0).trans rfl
          have c1 : wr.cell? ⟨wo.heap.size, 1, none⟩ = some (.int .i64 x2) := (Lib.cell_of_heap (HT.out.pb hsP) 1).trans rfl
          have C := Lib.hid (holdsA_any ⟨w.heap.size + 1, 0, none⟩ x1 x2 wr)
          obtain ⟨t, ht⟩ : ∃ t, t = (decide (0 ≤ x1) && decide (x2 < 0)) := ⟨_, rfl⟩
          rw [← ht] at C
          go_wp2_with fail
          refine C.out.mono ?_; rintro e w2 ⟨rfl, b1⟩
          have HT2 := Lib.hid (HT.out.kept b1)
          have HB2 := Lib.hid (HBi.out.trans (b1.mono (Nat.le_trans (by omega) HT.out.sz)))
          have hP2 : wo.heap.size < w2.heap.size := Nat.lt_of_lt_of_le hPl b1.size
          clear C b1 c0 c1 hkc HT HJ
          cases t with
          | true =>
            have HY := Lib.hid (HY2.out ht.symm)
            clear ht
            have c0 : w2.cell? ⟨wo.heap.size, 0, none⟩ = some (.int .i64 x1) := (Lib.cell_of_heap (HT2.out.pb hsP) 0).trans rfl
            have c1 : w2.cell? ⟨wo.heap.size, 1, none⟩ = some (.int .i64 x2) := (Lib.cell_of_heap (HT2.out.pb hsP) 1).trans rfl
            have C := Lib.hid (keepA_any (w.heap.size + 1) (w.heap.size + 4) ao1 X2.length cp1 _ x1 x2 w2 HT2.out.b2 hL2 (by omega) HT2.out.sz HT2.out.o2)
            go_wp2_with fail
            refine C.out.mono ?_; rintro e w3 ⟨rfl, g, gc, K⟩
            have HT3 := Lib.hid (HT2.out.keep2 hP2 hsP (List.map_append (f := Value.int .i64) (l₁ := X2) (l₂ := [x1])).symm rfl K)
            rw [← HY.out] at HT3
            have HB3 := Lib.hid (HB2.out.trans (K.under.mono (by omega)))
            have hP3 : wo.heap.size < w3.heap.size := Nat.lt_of_lt_of_le hP2 K.size
            clear K C c0 c1 HT2
            go_wp2_with fail
            go_roundw
            case rel => exact ⟨2, _, _, _, by omega, by go_num, Lib.hid ⟨fun h => by omega, fun h => by omega, fun _ => HT3.out, fun h => by omega⟩, HB3, hP3⟩
            case measure => simp [intOf]
          | false =>
            have HY := Lib.hid (HN2.out ht.symm)
            clear ht
            rw [← HY.out] at HT2
            go_wp2_with fail
            go_roundw
            case rel => exact ⟨2, _, _, _, by omega, by go_num, Lib.hid ⟨fun h => by omega, fun h => by omega, fun _ => HT2.out, fun h => by omega⟩, HB2, hP2⟩
            case measure => simp [intOf]
        · subst hj
          have HT := Lib.hid (HJ.out.2.2.1 rfl)
          obtain ⟨ao1, cp1, e1⟩ := own_slice HT.out.o3
          subst e1
          have hkc : wr.cell? ⟨w.heap.size + 1 + 1 + 1, 2, none⟩ = some (.iface 59 (.pointer (some ⟨w.heap.size + 1 + 1, 0, none⟩))) := (Lib.cell_of_heap HT.out.kb 2).trans rfl
          have c0 : wr.cell? ⟨wo.heap.size, 0, none⟩ = some (.int .i64 x1) := (Lib.cell_of_heap (HT.out.pb hsP) 0).trans rfl
          have c1 : wr.cell? ⟨wo.heap.size, 1, none⟩ = some (.int .i64 x2) := (Lib.cell_of_heap (HT.out.pb hsP) 1).trans rfl
          have C := Lib.hid (holdsB_any ⟨w.heap.size + 1 + 1, 0, none⟩ x1 x2 wr)
          obtain ⟨t, ht⟩ : ∃ t, t = (decide (x1 < 0) && decide (0 ≤ x2)) := ⟨_, rfl⟩
          rw [← ht] at C
          go_wp2_with fail
          refine C.out.mono ?_; rintro e w2 ⟨rfl, b1⟩
          have HT2 := Lib.hid (HT.out.kept b1)
          have HB2 := Lib.hid (HBi.out.trans (b1.mono (Nat.le_trans (by omega) HT.out.sz)))
          have hP2 : wo.heap.size < w2.heap.size := Nat.lt_of_lt_of_le hPl b1.size
          clear C b1 c0 c1 hkc HT HJ
          cases t with
          | true =>
            have HY := Lib.hid (HY3.out ht.symm)
            clear ht
            have c0 : w2.cell? ⟨wo.heap.size, 0, none⟩ = some (.int .i64 x1) := (Lib.cell_of_heap (HT2.out.pb hsP) 0).trans rfl
            have c1 : w2.cell? ⟨wo.heap.size, 1, none⟩ = some (.int .i64 x2) := (Lib.cell_of_heap (HT2.out.pb hsP) 1).trans rfl
            have C := Lib.hid (keepB_any (w.heap.size + 1 + 1) (w.heap.size + 4) ao1 X3.length cp1 _ x1 x2 w2 HT2.out.b3 hL3 (by omega) HT2.out.sz HT2.out.o3)
            go_wp2_with fail
            refine C.out.mono ?_; rintro e w3 ⟨rfl, g, gc, K⟩
            have HT3 := Lib.hid (HT2.out.keep3 hP2 hsP (List.map_append (f := Value.int .i64) (l₁ := X3) (l₂ := [x2])).symm rfl K)
            rw [← HY.out] at HT3
            have HB3 := Lib.hid (HB2.out.trans (K.under.mono (by omega)))
            have hP3 : wo.heap.size < w3.heap.size := Nat.lt_of_lt_of_le hP2 K.size
            clear K C c0 c1 HT2
            go_wp2_with fail
            go_roundw
            case rel => exact ⟨3, _, _, _, by omega, by go_num, Lib.hid ⟨fun h => by omega, fun h => by omega, fun h => by omega, fun _ => HT3.out⟩, HB3, hP3⟩
            case measure => simp [intOf]
          | false =>
            have HY := Lib.hid (HN3.out ht.symm)
            clear ht
            rw [← HY.out] at HT2
            go_wp2_with fail
            go_roundw
            case rel => exact ⟨3, _, _, _, by omega, by go_num, Lib.hid ⟨fun h => by omega, fun h => by omega, fun h => by omega, fun _ => HT2.out⟩, HB2, hP2⟩
            case measure => simp [intOf]
        · subst hj
          have HT := Lib.hid (HJ.out.2.2.2 rfl)
          obtain ⟨E1, E2, E3⟩ := HYs.out
          rw [E1, E2, E3] at HT
          clear HJ
          go_wp2_with fail
          go_roundw
          case rel => exact ⟨k + 1, _, _, _, _, _, _, by omega, by go_num, HT, HBi⟩
          case measure => simp [intOf]; omega
    · obtain rfl : k = xs.length := by omega
      rw [List.take_length] at HT
      obtain ⟨a1, f1⟩ := cell_of_box_l HT.out.b1
      obtain ⟨a2, f2⟩ := cell_of_box_l HT.out.b2
      obtain ⟨a3, f3⟩ := cell_of_box_l HT.out.b3
      have HE : Hid (∀ n, Q (.returned (.tuple #[v1, v2, v3])) (wr.drewN n)) := Lib.hid (fun n => by rw [HQ.out]; exact three_end HT.out HB.out n)
      go_wp2_with fail
      go_quiet (fail)
      go_wp2_with fail
      refine bodyPost_ret (v := .tuple #[v1, v2, v3]) (by simp [results, Try.results12, go_sem]) rfl ?_
      exact HE.out _
end Go.Proofs.Ytolcdhdmonaeaaa
