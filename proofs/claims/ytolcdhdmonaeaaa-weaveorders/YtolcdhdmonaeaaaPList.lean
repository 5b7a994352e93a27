/-
  A new slice of pairs that the code owns: its cells, what a store makes of it; a copy of pairs, as the program makes it.
  Conditions: lists of at most 2^38 pairs.
-/
import Derived.WalkKit
import Derived.WalkMore
import Derived.OwnWalk
import Derived.Lib.Hide
import Derived.Lib.SmallJoins
import Derived.Laws.OwnMore
import Derived.Deep.Cut
import Derived.Test.YtolcdhdmonaeaaaProg
import Derived.Test.YtolcdhdmonaeaaaPSame
namespace Go.Proofs.Ytolcdhdmonaeaaa
open Go.RowKit Go.Shelf
set_option linter.unusedVariables false

theorem ownsRow_below {w w' : World} {base : Nat} {e : TypeId} {size : Nat} {v : Value} {n : Nat} {xs : List Value} (h : w.ownsRow base e size v n xs) (hB : Below w.heap.size w w') : w'.ownsRow base e size v n xs :=
  h.kept (row := none) ⟨hB.os, hB.tape, hB.output, hB.size, fun k hk _ => hB.block k hk⟩ (by cases h' : v.ownBlock <;> simp)
/-- the cells of pairs -/
def cellsP (l : PL) : List Value := l.flatMap fun p => [.int .i64 p.1, .int .i64 p.2]
theorem cellsP_cons (p : Int × Int) (l : PL) : cellsP (p :: l) = .int .i64 p.1 :: .int .i64 p.2 :: cellsP l := rfl
theorem cellsP_length (l : PL) : (cellsP l).length = l.length * 2 := by
  induction l with
  | nil => rfl
  | cons p l ih => rw [cellsP_cons]; simp only [List.length_cons, ih]; omega
theorem cellsP_app (l m : PL) : cellsP (l ++ m) = cellsP l ++ cellsP m := by simp [cellsP]
theorem cellsP_at (l : PL) (k : Nat) (p : Int × Int) (h : l[k]? = some p) : (cellsP l)[k * 2]? = some (.int .i64 p.1) ∧ (cellsP l)[k * 2 + 1]? = some (.int .i64 p.2) := by
  induction l generalizing k with
  | nil => simp at h
  | cons q l ih =>
    cases k with
    | zero => simp at h; subst h; exact ⟨rfl, rfl⟩
    | succ k =>
      have := ih k (by simpa using h)
      rw [cellsP_cons, show (k + 1) * 2 = k * 2 + 1 + 1 from by omega]
      simpa using this
theorem cellsP_set (l : PL) (k : Nat) (a b : Int) (h : k < l.length) : ((cellsP l).set (k * 2) (.int .i64 a)).set (k * 2 + 1) (.int .i64 b) = cellsP (l.set k (a, b)) := by
  induction l generalizing k with
  | nil => simp at h
  | cons q l ih =>
    cases k with
    | zero => rfl
    | succ k =>
      have := ih k (by simpa using h)
      rw [cellsP_cons, show (k + 1) * 2 = k * 2 + 1 + 1 from by omega]
      simp only [List.set_cons_succ, this]
      rfl
theorem cellsP_zero (n : Nat) : (madeCells #[.int .i64 0, .int .i64 0] (n * 2)).toList = cellsP (List.replicate n (0, 0)) := by
  have h1 : (madeCells #[.int .i64 0, .int .i64 0] (n * 2)).toList = List.replicate (n * 2) (.int .i64 0) := by
    refine List.eq_replicate_iff.2 ⟨by simp [size_madeCells], fun b hb => ?_⟩
    simp only [madeCells, Array.toList_map, List.mem_map] at hb
    obtain ⟨i, _, rfl⟩ := hb
    have : i % 2 = 0 ∨ i % 2 = 1 := by omega
    rcases this with h | h <;> simp [h]
  have h2 : cellsP (List.replicate n (0, 0)) = List.replicate (n * 2) (.int .i64 0) := by
    refine List.eq_replicate_iff.2 ⟨by rw [cellsP_length]; simp, fun b hb => ?_⟩
    simp only [cellsP, List.mem_flatMap] at hb
    obtain ⟨p, hp, hb⟩ := hb
    rw [(List.mem_replicate.1 hp).2] at hb
    simp at hb
    exact hb
  rw [h1, h2]
/-- a slice of pairs that the code owns -/
structure OwnP (w : World) (base : Nat) (T : TypeId) (g n : Nat) (l : PL) : Prop where
  len : l.length = n
  own : w.ownsRow base T 2 (.slice (some ⟨g, 0, none⟩) n n) n (cellsP l)
theorem OwnP.lt {w : World} {base : Nat} {T : TypeId} {g n : Nat} {l : PL} (h : OwnP w base T g n l) : base ≤ g ∧ g < w.heap.size := h.own.lt g rfl
theorem OwnP.kept {w w' : World} {base : Nat} {T : TypeId} {g n : Nat} {l : PL} (h : OwnP w base T g n l) (hB : Below w.heap.size w w') : OwnP w' base T g n l := ⟨h.len, ownsRow_below h.own hB⟩
theorem OwnP.cell {w : World} {base : Nat} {T : TypeId} {g n : Nat} {l : PL} (h : OwnP w base T g n l) (k : Nat) (p : Int × Int) (hp : l[k]? = some p) : w.cell? ⟨g, k * 2, none⟩ = some (.int .i64 p.1) ∧ w.cell? ⟨g, k * 2 + 1, none⟩ = some (.int .i64 p.2) := by
  obtain ⟨hk, _⟩ := List.getElem?_eq_some_iff.1 hp
  have hl := h.len
  obtain ⟨h1, h2⟩ := cellsP_at l k p hp
  exact ⟨(h.own.cellAt (k * 2) (by omega)).trans h1, (h.own.cellAt (k * 2 + 1) (by omega)).trans h2⟩
theorem OwnP.frozen {w : World} {base : Nat} {T : TypeId} {g n : Nat} {l : PL} (h : OwnP w base T g n l) (k : Nat) : w.frozen? ⟨g, k, none⟩ = false := h.own.frozenAt k
theorem OwnP.pairs {w : World} {base : Nat} {T : TypeId} {g n : Nat} {l : PL} (h : OwnP w base T g n l) : PairsAt w (some ⟨g, 0, none⟩) l :=
  .inr ⟨g, 0, rfl, h.lt.2, fun i p hp => by have := h.cell i p hp; simpa using this⟩
theorem OwnP.store {w : World} {base : Nat} {T : TypeId} {g n : Nat} {l : PL} (h : OwnP w base T g n l) (k : Nat) (a b : Int) (hk : k < n) : OwnP ((w.setCell ⟨g, k * 2, none⟩ (.int .i64 a)).setCell ⟨g, k * 2 + 1, none⟩ (.int .i64 b)) base T g n (l.set k (a, b)) := by
  refine ⟨by simp [h.len], ?_⟩
  rw [← cellsP_set l k a b (by rw [h.len]; exact hk)]
  exact ((h.own.stored (k * 2) (.int .i64 a)).1.stored (k * 2 + 1) (.int .i64 b)).1
theorem info_parts2 {P : Program} {e : TypeId} {z : Option Value} {s b : Nat} (h : (P.info? e).map (fun i => (i.zero, i.size, i.bytes)) = some (z, s, b)) : ∃ i, P.info? e = some i ∧ i.zero = z ∧ i.size = s ∧ i.bytes = b := by
  obtain ⟨i, hi, e'⟩ := Option.map_eq_some_iff.1 h
  simp only [Prod.mk.injEq] at e'
  exact ⟨i, hi, e'⟩
/-- a new slice of pairs, a copy of which the first k are -/
def copyK (l : PL) (k : Nat) : PL := l.take k ++ List.replicate (l.length - k) (0, 0)
theorem copyK_zero (l : PL) : copyK l 0 = List.replicate l.length (0, 0) := by simp [copyK]
theorem copyK_all (l : PL) : copyK l l.length = l := by simp [copyK]
theorem copyK_next (l : PL) (k : Nat) (p : Int × Int) (h : l[k]? = some p) : (copyK l k).set k p = copyK l (k + 1) := by
  obtain ⟨hk, e⟩ := List.getElem?_eq_some_iff.1 h
  unfold copyK
  rw [List.set_append_right _ _ (by simp; omega), List.take_succ_eq_append_getElem hk, e]
  obtain ⟨m, hm⟩ : ∃ m, l.length - k = m + 1 := ⟨l.length - k - 1, by omega⟩
  rw [hm, show l.length - (k + 1) = m from by omega, List.replicate_succ]
  simp [show min k l.length = k from by omega]
theorem copyK_len (l : PL) (k : Nat) (h : k ≤ l.length) : (copyK l k).length = l.length := by simp [copyK]; omega

set_option maxRecDepth 100000 in
set_option maxHeartbeats 1000000 in
theorem list_any (ao : Option Addr) (cap : Nat) (xs : PL) (w : World) (hn : xs.length ≤ 274877906944) (hR : PairsAt w ao xs) :
    Calls Try.prog 28 #[.slice ao xs.length cap] w fun e w' => ∃ g, e = .returned (.slice (some ⟨g, 0, none⟩) xs.length xs.length) ∧ OwnP w' w.heap.size 47 g xs.length xs ∧ Below w.heap.size w w' := by
  have hinfo : (Try.prog.info? 47).map (fun i => (i.zero, i.size, i.bytes)) = some (some (.agg #[.int .i64 0, .int .i64 0]), 2, 16) := by kernel_rfl
  obtain ⟨i0, hi, hz0, hz1, hz2⟩ := info_parts2 hinfo
  have HI := Lib.hid hi
  have HRo := Lib.hid hR
  have hm : xs.length ≤ maxLen := by unfold maxLen; omega
  clear hi hinfo hR
  go_enter Try.func28, Try.ntmps28
  go_wp2_with (at_make; refine wpList_make_full _ rfl _ _ 46 rfl w.heap.size 47 i0 (.agg #[.int .i64 0, .int .i64 0]) 2 Try.underlying46 HI.out hz0 hz1 .i64 .i64 (xs.length : Int) (xs.length : Int) xs.length rfl rfl rfl rfl (by rw [hz2]; omega) hm (Nat.le_refl _) ?_; intro w1 ho hg)
  have HB : Hid (Below w.heap.size w w1) := Lib.hid ((Below.refl _ w).grown hg (Nat.le_refl _) (fun k h => by cases h))
  have HT : Hid (OwnP w1 w.heap.size 47 w.heap.size xs.length (copyK xs 0)) := Lib.hid ⟨copyK_len xs 0 (Nat.zero_le _), by rw [copyK_zero, ← cellsP_zero]; exact ho⟩
  clear ho hg
  go_wp2_with fail
  go_loopw [11] (fun i wr => ∃ (k : Nat), k ≤ xs.length ∧ i = .int .i64 k ∧ Hid (Below w.heap.size w wr) ∧ Hid (OwnP wr w.heap.size 47 w.heap.size xs.length (copyK xs k))) (fun i _ => xs.length - (intOf i).toNat)
  case atStart => exact ⟨0, Nat.zero_le _, rfl, HB, HT⟩
  case round =>
    obtain ⟨k, hk, rfl, HB, HT⟩ := hrel
    by_cases hlt : k < xs.length
    · obtain ⟨⟨x1, x2⟩, hx⟩ : ∃ x, xs[k]? = some x := ⟨_, List.getElem?_eq_getElem hlt⟩
      rcases (HRo.out.kept HB.out) with h0 | ⟨b, o, rfl, hA, hcell⟩
      · rw [h0] at hlt; simp at hlt
      obtain ⟨hc1, hc2⟩ := hcell k _ hx
      dsimp only at hc1 hc2
      obtain ⟨V, HV⟩ : ∃ V, Hid (V = wr.alloc (.cells #[.int .i64 x1, .int .i64 x2] 37)) := ⟨_, Lib.hid rfl⟩
      have hVh : V.heap[wr.heap.size]? = some (.cells #[.int .i64 x1, .int .i64 x2] 37 (0, 0)) := by rw [HV.out]; exact World.alloc_heap_new _ _
      have v0 : V.cell? ⟨wr.heap.size, 0, none⟩ = some (.int .i64 x1) := (Lib.cell_of_heap hVh 0).trans rfl
      have v1 : V.cell? ⟨wr.heap.size, 1, none⟩ = some (.int .i64 x2) := (Lib.cell_of_heap hVh 1).trans rfl
      have hb0 : Below wr.heap.size wr V := by rw [HV.out]; exact (Below.refl _ wr).alloc (Nat.le_refl _) _
      have HT1 := HT.out.kept hb0
      obtain ⟨⟨y1, y2⟩, hy⟩ : ∃ y, (copyK xs k)[k]? = some y := ⟨_, List.getElem?_eq_getElem (by rw [copyK_len xs k hk]; exact hlt)⟩
      obtain ⟨z0, z1⟩ := HT1.cell k _ hy
      have f0 := HT1.frozen (k * 2)
      have f1 := HT1.frozen (k * 2 + 1)
      have T2 := HT1.store k x1 x2 hlt
      rw [copyK_next xs k _ hx] at T2
      have HT2 := Lib.hid T2
      have HB2 := Lib.hid (((below_up HB.out hb0).setCell (p := ⟨w.heap.size, k * 2, none⟩) (Nat.le_refl _) (.int .i64 x1)).setCell (p := ⟨w.heap.size, k * 2 + 1, none⟩) (Nat.le_refl _) (.int .i64 x2))
      clear hcell hx hb0 hVh HT1 hy T2 HT HB
      go_upto_region 5 with fail
      rw [← HV.out]
      go_wp2_with fail
      go_roundw
      case rel => exact ⟨k + 1, by omega, by go_num, HB2, HT2⟩
      case measure => simp [intOf]; omega
    · obtain rfl : k = xs.length := by omega
      have T2 := HT.out
      rw [copyK_all] at T2
      have HT2 := Lib.hid T2
      clear T2 HT
      go_wp2_with fail
      go_ret
      exact ⟨w.heap.size, rfl, HT2.out, HB.out⟩
end Go.Proofs.Ytolcdhdmonaeaaa
