/-
  Texts of these rows' proofs, laid one behind the other: LcMath, LcBase, LcNum, LcNum2.
  Conditions: those of each theorem.
-/
import Derived.Test.YtdenehnneloegaaGreatDoorProg
import Derived.Deep.OwnRows
import Derived.WalkKit
import Derived.WalkMore
import Derived.IntWalk
import Derived.WalkArith
import Derived.Lib.Hide
import Derived.OwnWalk
import Derived.Deep.Cut
import Derived.Deep.Onto
import Derived.Deep.RegionHeld3
import Derived.BigQuiet
import Derived.Deep.QuietTactic
import Derived.Test.YtdenehnneloegaaGreatDoorPb6
import Derived.Maps.Own
import Derived.Maps.OwnOps
import Derived.Maps.OwnSet
import Derived.Maps.Views
import Derived.StringKeys
namespace Go.Proofs.YtdenehnneloegaaGreatDoor
set_option linter.unusedVariables false
set_option linter.unusedSectionVars false
section
variable {α β : Type} [DecidableEq α] [DecidableEq β]
/-- how long the longest common row is -/
def lcsN : List α → List α → Nat
  | [], _ => 0
  | _ :: _, [] => 0
  | x :: a, y :: b => if x = y then lcsN a b + 1 else max (lcsN a (y :: b)) (lcsN (x :: a) b)
termination_by a b => a.length + b.length
/-- the one that the document names -/
def wayC : Nat → Nat → List α → List α → List (Int × Int)
  | _, _, [], _ => []
  | _, _, _ :: _, [] => []
  | i, j, x :: a, y :: b => if x = y then ((i : Int), (j : Int)) :: wayC (i + 1) (j + 1) a b else if lcsN (x :: a) b ≤ lcsN a (y :: b) then wayC (i + 1) j a (y :: b) else wayC i (j + 1) (x :: a) b
termination_by _ _ a b => a.length + b.length
theorem lcs_nil (b : List α) : lcsN [] b = 0 := by rw [lcsN]
theorem lcs_nil2 (a : List α) : lcsN a [] = 0 := by cases a <;> rw [lcsN]
theorem lcs_cons (x y : α) (a b : List α) : lcsN (x :: a) (y :: b) = if x = y then lcsN a b + 1 else max (lcsN a (y :: b)) (lcsN (x :: a) b) := by rw [lcsN]
theorem way_nil (i j : Nat) (b : List α) : wayC i j [] b = [] := by rw [wayC]
theorem way_nil2 (i j : Nat) (a : List α) : wayC i j a [] = [] := by cases a <;> rw [wayC]
theorem way_cons (i j : Nat) (x y : α) (a b : List α) : wayC i j (x :: a) (y :: b) = if x = y then ((i : Int), (j : Int)) :: wayC (i + 1) (j + 1) a b else if lcsN (x :: a) b ≤ lcsN a (y :: b) then wayC (i + 1) j a (y :: b) else wayC i (j + 1) (x :: a) b := by rw [wayC]
theorem wayC_len (i j : Nat) (a b : List α) : (wayC i j a b).length = lcsN a b := by
  induction i, j, a, b using wayC.induct with
  | case1 i j b => rw [way_nil, lcs_nil]; rfl
  | case2 i j x a => rw [way_nil2, lcs_nil2]; rfl
  | case3 i j a x b ih => rw [way_cons, lcs_cons, if_pos rfl, if_pos rfl, List.length_cons, ih]
  | case4 i j x a y b h h2 ih => rw [way_cons, lcs_cons, if_neg h, if_neg h, if_pos h2, ih]; omega
  | case5 i j x a y b h h2 ih => rw [way_cons, lcs_cons, if_neg h, if_neg h, if_neg h2, ih]; omega
theorem lcs_le (a b : List α) : lcsN a b ≤ a.length ∧ lcsN a b ≤ b.length := by
  induction a, b using lcsN.induct with
  | case1 b => rw [lcs_nil]; simp
  | case2 x a => rw [lcs_nil2]; simp
  | case3 a x b ih => rw [lcs_cons, if_pos rfl]; simp only [List.length_cons]; omega
  | case4 x a y b h ih1 ih2 => rw [lcs_cons, if_neg h]; simp only [List.length_cons] at *; omega
theorem tail_sub {x : α} {s a : List α} (h : List.Sublist s (x :: a)) : List.Sublist s.tail a := by
  cases h with
  | cons _ h => exact (List.tail_sublist s).trans h
  | cons_cons _ h => exact h
/-- .. and none is longer -/
theorem lcs_max (a b : List α) : ∀ s, List.Sublist s a → List.Sublist s b → s.length ≤ lcsN a b := by
  induction a, b using lcsN.induct with
  | case1 b => intro s h1 _; rw [List.sublist_nil.1 h1]; simp
  | case2 x a => intro s _ h2; rw [List.sublist_nil.1 h2]; simp
  | case3 a x b ih =>
    intro s h1 h2
    have := ih _ (tail_sub h1) (tail_sub h2)
    rw [lcs_cons, if_pos rfl]
    simp only [List.length_tail] at this; omega
  | case4 x a y b h ih1 ih2 =>
    intro s h1 h2
    rw [lcs_cons, if_neg h]
    cases h1 with
    | cons _ h1 => have := ih1 _ h1 h2; omega
    | cons_cons _ h1 =>
      cases h2 with
      | cons _ h2 => have := ih2 _ (h1.cons_cons x) h2; omega
      | cons_cons _ _ => exact absurd rfl h
theorem lcs_self (a : List α) : lcsN a a = a.length := by
  have h1 := lcs_max a a a (List.Sublist.refl _) (List.Sublist.refl _)
  have h2 := (lcs_le a a).1
  omega
theorem way_self (i : Nat) (a : List α) : ∀ k, k < a.length → (wayC i i a a)[k]? = some (((i + k : Nat) : Int), ((i + k : Nat) : Int)) := by
  induction a generalizing i with
  | nil => intro k hk; simp at hk
  | cons x a ih =>
    intro k hk
    rw [way_cons, if_pos rfl]
    cases k with
    | zero => simp
    | succ k =>
      rw [List.getElem?_cons_succ, ih (i + 1) k (by simpa using hk)]
      simp only [Option.some.injEq, Prod.mk.injEq]; omega
/-- the same of texts and of what stands for them -/
theorem lcs_map (f : α → β) (a b : List α) (h : ∀ x ∈ a, ∀ y ∈ b, f x = f y → x = y) : lcsN (a.map f) (b.map f) = lcsN a b := by
  induction a, b using lcsN.induct with
  | case1 b => rw [List.map_nil, lcs_nil, lcs_nil]
  | case2 x a => rw [List.map_nil, lcs_nil2, lcs_nil2]
  | case3 a x b ih => rw [List.map_cons, List.map_cons, lcs_cons, lcs_cons, if_pos rfl, if_pos rfl, ih (fun u hu v hv => h u (by simp [hu]) v (by simp [hv]))]
  | case4 x a y b hne ih1 ih2 =>
    have hf : f x ≠ f y := fun e => hne (h x (by simp) y (by simp) e)
    have e1 := ih1 (fun u hu v hv => h u (by simp [hu]) v hv)
    have e2 := ih2 (fun u hu v hv => h u hu v (by simp [hv]))
    rw [List.map_cons] at e1 e2
    rw [List.map_cons, List.map_cons, lcs_cons, lcs_cons, if_neg hne, if_neg hf, e1, e2]
theorem way_map (f : α → β) (i j : Nat) (a b : List α) (h : ∀ x ∈ a, ∀ y ∈ b, f x = f y → x = y) : wayC i j (a.map f) (b.map f) = wayC i j a b := by
  induction i, j, a, b using wayC.induct with
  | case1 i j b => rw [List.map_nil, way_nil, way_nil]
  | case2 i j x a => rw [List.map_nil, way_nil2, way_nil2]
  | case3 i j a x b ih => rw [List.map_cons, List.map_cons, way_cons, way_cons, if_pos rfl, if_pos rfl, ih (fun u hu v hv => h u (by simp [hu]) v (by simp [hv]))]
  | case4 i j x a y b hne h2 ih =>
    have hf : f x ≠ f y := fun e => hne (h x (by simp) y (by simp) e)
    have e1 := lcs_map f (x :: a) b (fun u hu v hv => h u hu v (by simp [hv]))
    have e2 := lcs_map f a (y :: b) (fun u hu v hv => h u (by simp [hu]) v hv)
    have e3 := ih (fun u hu v hv => h u (by simp [hu]) v hv)
    rw [List.map_cons] at e1 e2 e3
    rw [List.map_cons, List.map_cons, way_cons, way_cons, if_neg hne, if_neg hf, e1, e2, if_pos h2, if_pos h2, e3]
  | case5 i j x a y b hne h2 ih =>
    have hf : f x ≠ f y := fun e => hne (h x (by simp) y (by simp) e)
    have e1 := lcs_map f (x :: a) b (fun u hu v hv => h u hu v (by simp [hv]))
    have e2 := lcs_map f a (y :: b) (fun u hu v hv => h u (by simp [hu]) v hv)
    have e3 := ih (fun u hu v hv => h u hu v (by simp [hv]))
    rw [List.map_cons] at e1 e2 e3
    rw [List.map_cons, List.map_cons, way_cons, way_cons, if_neg hne, if_neg hf, e1, e2, if_neg h2, if_neg h2, e3]
/-! step by step, by places -/
theorem drop_at {γ : Type} (a : List γ) (i : Nat) (x : γ) (h : a[i]? = some x) : a.drop i = x :: a.drop (i + 1) := by
  obtain ⟨hi, e⟩ := List.getElem?_eq_some_iff.1 h
  rw [List.drop_eq_getElem_cons hi, e]
theorem way_both (a b : List α) (i j : Nat) (x : α) (ha : a[i]? = some x) (hb : b[j]? = some x) : wayC i j (a.drop i) (b.drop j) = ((i : Int), (j : Int)) :: wayC (i + 1) (j + 1) (a.drop (i + 1)) (b.drop (j + 1)) := by
  rw [drop_at a i x ha, drop_at b j x hb, way_cons, if_pos rfl]
theorem way_a (a b : List α) (i j : Nat) (x y : α) (ha : a[i]? = some x) (hb : b[j]? = some y) (hne : x ≠ y) (h : lcsN (a.drop i) (b.drop (j + 1)) ≤ lcsN (a.drop (i + 1)) (b.drop j)) : wayC i j (a.drop i) (b.drop j) = wayC (i + 1) j (a.drop (i + 1)) (b.drop j) := by
  rw [drop_at a i x ha] at h ⊢
  rw [drop_at b j y hb] at h ⊢
  rw [way_cons, if_neg hne, if_pos h]
theorem way_b (a b : List α) (i j : Nat) (x y : α) (ha : a[i]? = some x) (hb : b[j]? = some y) (hne : x ≠ y) (h : ¬ lcsN (a.drop i) (b.drop (j + 1)) ≤ lcsN (a.drop (i + 1)) (b.drop j)) : wayC i j (a.drop i) (b.drop j) = wayC i (j + 1) (a.drop i) (b.drop (j + 1)) := by
  rw [drop_at a i x ha] at h ⊢
  rw [drop_at b j y hb] at h ⊢
  rw [way_cons, if_neg hne, if_neg h]
theorem way_end (a b : List α) (i j : Nat) (h : a.length ≤ i ∨ b.length ≤ j) : wayC i j (a.drop i) (b.drop j) = [] := by
  rcases h with h | h
  · rw [List.drop_eq_nil_of_le h, way_nil]
  · rw [List.drop_eq_nil_of_le h, way_nil2]
/-- the lengths from each place of b on -/
def rowOf (a b : List α) : List Int := (List.range (b.length + 1)).map fun j => ((lcsN a (b.drop j) : Nat) : Int)
theorem rowOf_len (a b : List α) : (rowOf a b).length = b.length + 1 := by simp [rowOf]
theorem rowOf_at (a b : List α) (j : Nat) (h : j ≤ b.length) : (rowOf a b)[j]? = some ((lcsN a (b.drop j) : Nat) : Int) := by
  unfold rowOf
  rw [List.getElem?_map, List.getElem?_range (by omega)]; rfl
theorem lcs_hit (x : α) (a b : List α) (j : Nat) (h : b[j]? = some x) : lcsN (x :: a) (b.drop j) = lcsN a (b.drop (j + 1)) + 1 := by
  rw [drop_at b j x h, lcs_cons, if_pos rfl]
theorem lcs_miss (x y : α) (a b : List α) (j : Nat) (h : b[j]? = some y) (hne : x ≠ y) : lcsN (x :: a) (b.drop j) = max (lcsN a (b.drop j)) (lcsN (x :: a) (b.drop (j + 1))) := by
  rw [drop_at b j y h, lcs_cons, if_neg hne]
/-! a common row by places -/
def Ahead (p q : Int × Int) : Prop := p.1 < q.1 ∧ p.2 < q.2
def InBoth (a b : List α) (i j : Nat) (p : Int × Int) : Prop := ∃ (s t : Nat) (x : α), p = ((s : Int), (t : Int)) ∧ i ≤ s ∧ j ≤ t ∧ a[s]? = some x ∧ b[t]? = some x
theorem way_in (i j : Nat) (a b : List α) : (∀ p ∈ wayC i j a b, ∃ (s t : Nat) (x : α), p = (((i + s : Nat) : Int), ((j + t : Nat) : Int)) ∧ a[s]? = some x ∧ b[t]? = some x) ∧ (wayC i j a b).Pairwise Ahead := by
  induction i, j, a, b using wayC.induct with
  | case1 i j b => rw [way_nil]; exact ⟨(fun p hp => by cases hp), List.Pairwise.nil⟩
  | case2 i j x a => rw [way_nil2]; exact ⟨(fun p hp => by cases hp), List.Pairwise.nil⟩
  | case3 i j a x b ih =>
    obtain ⟨h1, h2⟩ := ih
    rw [way_cons, if_pos rfl]
    refine ⟨fun p hp => ?_, List.pairwise_cons.2 ⟨fun q hq => ?_, h2⟩⟩
    · rcases List.mem_cons.1 hp with rfl | hp
      · exact ⟨0, 0, x, by simp, by simp, by simp⟩
      · obtain ⟨s, t, y, rfl, e1, e2⟩ := h1 p hp
        refine ⟨s + 1, t + 1, y, ?_, by simpa using e1, by simpa using e2⟩
        simp only [Prod.mk.injEq]; omega
    · obtain ⟨s, t, y, rfl, _, _⟩ := h1 q hq
      refine ⟨?_, ?_⟩ <;> simp only <;> omega
  | case4 i j x a y b hne h2 ih =>
    obtain ⟨h1, h3⟩ := ih
    rw [way_cons, if_neg hne, if_pos h2]
    refine ⟨fun p hp => ?_, h3⟩
    obtain ⟨s, t, z, rfl, e1, e2⟩ := h1 p hp
    exact ⟨s + 1, t, z, by rw [show i + 1 + s = i + (s + 1) from by omega], by simpa using e1, e2⟩
  | case5 i j x a y b hne h2 ih =>
    obtain ⟨h1, h3⟩ := ih
    rw [way_cons, if_neg hne, if_neg h2]
    refine ⟨fun p hp => ?_, h3⟩
    obtain ⟨s, t, z, rfl, e1, e2⟩ := h1 p hp
    exact ⟨s, t + 1, z, by rw [show j + 1 + t = j + (t + 1) from by omega], e1, by simpa using e2⟩
theorem way_both_in (a b : List α) (p : Int × Int) (h : p ∈ wayC 0 0 a b) : InBoth a b 0 0 p := by
  obtain ⟨s, t, x, rfl, e1, e2⟩ := (way_in 0 0 a b).1 p h
  exact ⟨s, t, x, by simp, by omega, by omega, e1, e2⟩
end
end Go.Proofs.YtdenehnneloegaaGreatDoor
namespace Go.Proofs.YtdenehnneloegaaGreatDoor
open Go.RowKit Go.Shelf
set_option linter.unusedVariables false
/-- a block of numbers; a block of slices of numbers -/
def TyI (w : World) (b : Nat) : Prop := ∃ cs fr, w.heap[b]? = some (.cells cs 3 fr)
def TyR (w : World) (b : Nat) : Prop := ∃ cs fr, w.heap[b]? = some (.cells cs 41 fr)
theorem TyI.lt {w : World} {b : Nat} (h : TyI w b) : b < w.heap.size := by obtain ⟨_, _, h⟩ := h; exact lt_of_heap h
theorem TyR.lt {w : World} {b : Nat} (h : TyR w b) : b < w.heap.size := by obtain ⟨_, _, h⟩ := h; exact lt_of_heap h
theorem TyI.same {w w' : World} {b : Nat} (h : TyI w b) (e : w'.heap[b]? = w.heap[b]?) : TyI w' b := by obtain ⟨c, f, h⟩ := h; exact ⟨c, f, e.trans h⟩
theorem TyR.same {w w' : World} {b : Nat} (h : TyR w b) (e : w'.heap[b]? = w.heap[b]?) : TyR w' b := by obtain ⟨c, f, h⟩ := h; exact ⟨c, f, e.trans h⟩
theorem rowIs_tyI {w : World} {b n : Nat} {f : Nat → Value} (h : w.rowIs b 3 n f) : TyI w b := by obtain ⟨c, hb, _⟩ := h; exact ⟨c, _, hb⟩
theorem rowIs_tyR {w : World} {b n : Nat} {f : Nat → Value} (h : w.rowIs b 41 n f) : TyR w b := by obtain ⟨c, hb, _⟩ := h; exact ⟨c, _, hb⟩
/-- the cells of a slice of numbers -/
def NumsAt (w : World) (ao : Option Addr) (l : List Int) : Prop := l = [] ∨ ∃ b o, ao = some ⟨b, o, none⟩ ∧ TyI w b ∧ ∀ (i : Nat) p, l[i]? = some p → w.cell? ⟨b, o + i, none⟩ = some (.int .i64 p)
theorem NumsAt.kept {w w' : World} {ao : Option Addr} {l : List Int} (h : NumsAt w ao l) (hB : Below w.heap.size w w') : NumsAt w' ao l := by
  rcases h with h | ⟨b, o, h1, h2, h3⟩
  · exact .inl h
  · exact .inr ⟨b, o, h1, h2.same (hB.block b h2.lt), fun i p hp => (hB.cell (p := ⟨b, o + i, none⟩) h2.lt).trans (h3 i p hp)⟩
/-- slices of numbers behind a slice of them -/
def GridAt (w : World) (ao : Option Addr) (rs : List (List Int)) : Prop := rs = [] ∨ ∃ g, ao = some ⟨g, 0, none⟩ ∧ TyR w g ∧ ∀ (i : Nat) r, rs[i]? = some r → ∃ ro cap, w.cell? ⟨g, i, none⟩ = some (.slice ro r.length cap) ∧ NumsAt w ro r
theorem GridAt.kept {w w' : World} {ao : Option Addr} {rs : List (List Int)} (h : GridAt w ao rs) (hB : Below w.heap.size w w') : GridAt w' ao rs := by
  rcases h with h | ⟨g, h1, h2, h3⟩
  · exact .inl h
  · refine .inr ⟨g, h1, h2.same (hB.block g h2.lt), fun i r hr => ?_⟩
    obtain ⟨ro, cap, h4, h5⟩ := h3 i r hr
    exact ⟨ro, cap, (hB.cell (p := ⟨g, i, none⟩) h2.lt).trans h4, h5.kept hB⟩
/-- a slice of numbers that lies in another block than G -/
def FarAt (w : World) (G : Nat) (v : Value) (L : List Int) : Prop := ∃ b o c, v = .slice (some ⟨b, o, none⟩) L.length c ∧ b ≠ G ∧ TyI w b ∧ ∀ (i : Nat) p, L[i]? = some p → w.cell? ⟨b, o + i, none⟩ = some (.int .i64 p)
theorem FarAt.kept {w w' : World} {G : Nat} {v : Value} {L : List Int} (h : FarAt w G v L) (hg : w.grownBy w' (some G)) : FarAt w' G v L := by
  obtain ⟨b, o, c, h1, h2, h3, h4⟩ := h
  exact ⟨b, o, c, h1, h2, h3.same (hg.block b h3.lt (by simpa using h2)), fun i p hp => cell_grown (h4 i p hp) hg (by simpa using h2)⟩
theorem FarAt.nums {w : World} {G : Nat} {v : Value} {L : List Int} (h : FarAt w G v L) : ∃ ao c, v = .slice ao L.length c ∧ NumsAt w ao L := by
  obtain ⟨b, o, c, h1, h2, h3, h4⟩ := h
  exact ⟨_, c, h1, .inr ⟨b, o, rfl, h3, h4⟩⟩
theorem far_of {w : World} {G : Nat} {ao : Option Addr} {c : Nat} {L : List Int} (h : NumsAt w ao L) (hl : 0 < L.length) (hG : w.heap.size ≤ G) : FarAt w G (.slice ao L.length c) L := by
  rcases h with h | ⟨b, o, rfl, h2, h3⟩
  · subst h; simp at hl
  · exact ⟨b, o, c, rfl, by have := h2.lt; omega, h2, h3⟩
theorem grown_up {a b c : World} {row : Option Nat} (h : a.grownBy b row) (k : b.grownBy c row) : a.grownBy c row :=
  ⟨k.os.trans h.os, k.tape.trans h.tape, k.output.trans h.output, Nat.le_trans h.size k.size, fun i hi hne => (k.block i (Nat.lt_of_lt_of_le hi h.size) hne).trans (h.block i hi hne)⟩
theorem grown_of {w w' : World} {row : Option Nat} (h : Below w.heap.size w w') : w.grownBy w' row := ⟨h.os, h.tape, h.output, h.size, fun k hk _ => h.block k hk⟩
theorem grown_put (w : World) (g i : Nat) (v : Value) : w.grownBy (w.setCell ⟨g, i, none⟩ v) (some g) :=
  ⟨rfl, rfl, rfl, by simp, fun k _ hne => heap_setCell_other w ⟨g, i, none⟩ k v (fun e => hne (by rw [e]))⟩
theorem rowIs_below {w w' : World} {b : Nat} {t : TypeId} {n : Nat} {f : Nat → Value} (h : w.rowIs b t n f) (hB : Below w.heap.size w w') : w'.rowIs b t n f := h.of_block (hB.block b h.lt)
/-- a row that is filled is a slice of numbers -/
theorem rowIs_nums {w : World} {b : Nat} {n : Nat} {f : Nat → Value} {L : List Int} (h : w.rowIs b 3 n f) (hL : L.length = n) (hf : ∀ (i : Nat) p, L[i]? = some p → f i = .int .i64 p) : NumsAt w (some ⟨b, 0, none⟩) L :=
  .inr ⟨b, 0, rfl, rowIs_tyI h, fun i p hp => by
    have hi := (List.getElem?_eq_some_iff.1 hp).1
    rw [Nat.zero_add, h.cell (by omega), hf i p hp]⟩
theorem rowIs_far {w : World} {b G : Nat} {n c : Nat} {f : Nat → Value} {L : List Int} (h : w.rowIs b 3 n f) (hL : L.length = n) (hf : ∀ (i : Nat) p, L[i]? = some p → f i = .int .i64 p) (hG : b ≠ G) : FarAt w G (.slice (some ⟨b, 0, none⟩) n c) L :=
  ⟨b, 0, c, by rw [hL], hG, rowIs_tyI h, fun i p hp => by
    have hi := (List.getElem?_eq_some_iff.1 hp).1
    rw [Nat.zero_add, h.cell (by omega), hf i p hp]⟩
/-- all blocks but those of pairs, and boxes of slices of pairs, are as they were -/
def KeepsTy (A B : World) : Prop := ∀ (k : Nat) cs T fr, A.heap[k]? = some (.cells cs T fr) → T ≠ 45 → T ≠ 26 → B.heap[k]? = some (.cells cs T fr)
theorem KeepsTy.trans {A B C : World} (h : KeepsTy A B) (k : KeepsTy B C) : KeepsTy A C := fun i cs T fr hi h1 h2 => k i cs T fr (h i cs T fr hi h1 h2) h1 h2
theorem KeepsTy.of_below {A B : World} (h : Below A.heap.size A B) : KeepsTy A B := fun i cs T fr hi _ _ => (h.block i (lt_of_heap hi)).trans hi
theorem TyI.tied {w w' : World} {b : Nat} (h : TyI w b) (k : KeepsTy w w') : w'.heap[b]? = w.heap[b]? := by obtain ⟨c, f, h⟩ := h; rw [k b c _ f h (by decide) (by decide), h]
theorem TyR.tied {w w' : World} {b : Nat} (h : TyR w b) (k : KeepsTy w w') : w'.heap[b]? = w.heap[b]? := by obtain ⟨c, f, h⟩ := h; rw [k b c _ f h (by decide) (by decide), h]
theorem NumsAt.tied {w w' : World} {ao : Option Addr} {l : List Int} (h : NumsAt w ao l) (k : KeepsTy w w') : NumsAt w' ao l := by
  rcases h with h | ⟨b, o, h1, h2, h3⟩
  · exact .inl h
  · exact .inr ⟨b, o, h1, h2.same (h2.tied k), fun i p hp => (World.cell?_of_block (w := w) (h2.tied k)).trans (h3 i p hp)⟩
theorem GridAt.tied {w w' : World} {ao : Option Addr} {rs : List (List Int)} (h : GridAt w ao rs) (k : KeepsTy w w') : GridAt w' ao rs := by
  rcases h with h | ⟨g, h1, h2, h3⟩
  · exact .inl h
  · refine .inr ⟨g, h1, h2.same (h2.tied k), fun i r hr => ?_⟩
    obtain ⟨ro, cap, h4, h5⟩ := h3 i r hr
    exact ⟨ro, cap, (World.cell?_of_block (w := w) (h2.tied k)).trans h4, h5.tied k⟩
/-- the rows of a part: the lengths from each of its places on -/
def gridOf (xs rest bs : List Int) : List (List Int) := (List.range (xs.length + 1)).map fun i => rowOf (xs.drop i ++ rest) bs
theorem gridOf_len (xs rest bs : List Int) : (gridOf xs rest bs).length = xs.length + 1 := by simp [gridOf]
theorem gridOf_at (xs rest bs : List Int) (i : Nat) (h : i ≤ xs.length) : (gridOf xs rest bs)[i]? = some (rowOf (xs.drop i ++ rest) bs) := by
  unfold gridOf
  rw [List.getElem?_map, List.getElem?_range (by omega)]; rfl
/-- a grid that comes back -/
def GridOut (rs : List (List Int)) (w : World) (e : Ending) (w' : World) : Prop := ∃ ao cap, e = .returned (.slice ao rs.length cap) ∧ GridAt w' ao rs ∧ Below w.heap.size w w'
theorem grid_of {w : World} {G n : Nat} {f : Nat → Value} {rs : List (List Int)} (h : w.rowIs G 41 n f) (hl : rs.length = n) (hf : ∀ (i : Nat) r, rs[i]? = some r → FarAt w G (f i) r) : GridAt w (some ⟨G, 0, none⟩) rs :=
  .inr ⟨G, rfl, rowIs_tyR h, fun i r hr => by
    have hi := (List.getElem?_eq_some_iff.1 hr).1
    obtain ⟨ao, c, h1, h2⟩ := (hf i r hr).nums
    exact ⟨ao, c, by rw [h.cell (by omega), h1], h2⟩⟩
end Go.Proofs.YtdenehnneloegaaGreatDoor
namespace Go.Proofs.YtdenehnneloegaaGreatDoor
open Go.RowKit Go.Shelf Go.Maps
set_option linter.unusedVariables false
abbrev Txt := List UInt8
theorem keyS (l : Txt) : WideAt.IsKeyLit (.string l) := by first | exact trivial | constructor | simp [WideAt.IsKeyLit]
/-- a map that numbers texts, in the order in which they came -/
structure KeyIs (D : DataW Unit) (K : List Txt) : Prop where
  tidy : Tidy D
  look : ∀ l, D.atKey (.string l) (.lit (.int .i64 0)) = .lit (.int .i64 (if l ∈ K then ((K.idxOf l : Nat) : Int) else 0))
  here : ∀ l, has D (.string l) = decide (l ∈ K)
  size : Go.Maps.size D = K.length
theorem KeyIs.empty : KeyIs (.map []) [] := ⟨tidy_empty, fun z => rfl, fun z => rfl, rfl⟩
theorem idx_snoc (K : List Txt) (x l : Txt) (h : l ∈ K) : (K ++ [x]).idxOf l = K.idxOf l := by rw [List.idxOf_append, if_pos h]
theorem idx_new (K : List Txt) (x : Txt) (h : x ∉ K) : (K ++ [x]).idxOf x = K.length := by rw [List.idxOf_append, if_neg h]; simp
theorem idx_pre (K K' : List Txt) (l : Txt) (hp : K <+: K') (h : l ∈ K) : K'.idxOf l = K.idxOf l := by
  obtain ⟨t, rfl⟩ := hp
  rw [List.idxOf_append, if_pos h]
theorem idx_inj (K : List Txt) (x y : Txt) (hx : x ∈ K) (hy : y ∈ K) (h : ((K.idxOf x : Nat) : Int) = ((K.idxOf y : Nat) : Int)) : x = y := by
  have h1 := List.getElem_idxOf (List.idxOf_lt_length_of_mem hx)
  have h2 := List.getElem_idxOf (List.idxOf_lt_length_of_mem hy)
  have e : K.idxOf x = K.idxOf y := by omega
  rw [← h1, ← h2]
  simp only [e]
theorem KeyIs.put {D : DataW Unit} {K : List Txt} (h : KeyIs D K) (x : Txt) (hx : x ∉ K) : KeyIs (D.put (.string x) (.lit (.int .i64 (K.length : Int)))) (K ++ [x]) := by
  refine ⟨h.tidy.put (keyS x) _, fun z => ?_, fun z => ?_, ?_⟩
  · by_cases e : z = x
    · subst e
      rw [atKey_put_same h.tidy.isMap (keyS z), if_pos (by simp), idx_new K z hx]
    · rw [atKey_put_other (fun e' => e (by injection e')), h.look]
      by_cases hz : z ∈ K
      · rw [if_pos hz, if_pos (by simp [hz]), idx_snoc K x z hz]
      · rw [if_neg hz, if_neg (by simp [hz, e])]
  · by_cases e : z = x
    · subst e
      rw [has_put_same h.tidy.isMap (keyS z)]; simp
    · rw [has_put_other (fun e' => e (by injection e')), h.here]; simp [e]
  · rw [size_put h.tidy, h.here]
    simp [hx, h.size]
set_option maxRecDepth 100000 in
theorem key_look {w : World} {b k : Nat} {D : DataW Unit} {K : List Txt} (h : w.ownsMap Tryz.prog 9 (plainElem Tryz.prog 3) b k D) (hS : KeyIs D K) (x : ByteArray) (hx : x.size ≤ maxLen) :
    (Instr.lookup 95 (.map (some b)) (.string x) true).run Tryz.prog w = .ok (.tuple #[.int .i64 (if x.data.toList ∈ K then ((K.idxOf x.data.toList : Nat) : Int) else 0), .bool (decide (x.data.toList ∈ K))]) w := by
  obtain ⟨v, ps, hrun, hv⟩ := h.look_ok (string_keyed Tryz.underlying9) Tryz.underlying95 (z := .int .i64 0) (Tryz.zeroValue3 _) (plainElem_int Tryz.underlying3 (by decide)) (Go.WideMaps.keyOf_string_mk Tryz.underlying9 hx)
  obtain ⟨c, rfl, hc, _⟩ := plainElem_int_inv Tryz.underlying3 hv
  simp only [Prod.mk.injEq] at hc
  rw [hS.look] at hc
  have e : (if x.data.toList ∈ K then ((K.idxOf x.data.toList : Nat) : Int) else 0) = c := by have := hc.1; injection this with h1; injection h1
  rw [hS.here] at hrun
  rw [e]; exact hrun
/-- what the closure makes: numbers, and the map grown -/
def NumOut (B : Nat) (K : List Txt) (kk : Nat) (ts : List Txt) (w : World) (e : Ending) (w' : World) : Prop :=
  ∃ (g : Nat) (K' : List Txt) (D' : DataW Unit), e = .returned (.slice (some ⟨g, 0, none⟩) ts.length ts.length) ∧ TyI w' g ∧ g ≠ B ∧ (∀ (i : Nat) x, ts[i]? = some x → x ∈ K' ∧ w'.cell? ⟨g, i, none⟩ = some (.int .i64 (K'.idxOf x : Nat))) ∧
    w'.ownsMap Tryz.prog 9 (plainElem Tryz.prog 3) B (kk + ts.length) D' ∧ KeyIs D' K' ∧ K <+: K' ∧ K'.length ≤ K.length + ts.length ∧ w.grownBy w' (some B)
theorem bytes_at (xs : List ByteArray) (k : Nat) (x : ByteArray) (h : xs[k]? = some x) : (bytesOf xs)[k]? = some x.data.toList := by unfold bytesOf; rw [List.getElem?_map, h]; rfl
theorem bytes_len (xs : List ByteArray) : (bytesOf xs).length = xs.length := by simp [bytesOf]
set_option maxRecDepth 100000 in
set_option maxHeartbeats 2000000 in
theorem numbered1_any (ao : Option Addr) (cap : Nat) (xs : List ByteArray) (Bx B kk : Nat) (K : List Txt) (D : DataW Unit) (w : World) (hn : xs.length ≤ 4096) (hk : kk ≤ 1000000) (hKl : K.length ≤ 1000000) (hs : ∀ c ∈ xs, c.size ≤ maxLen) (hR : StrRow w ao xs)
    (hbox : w.heap[Bx]? = some (.cells #[.map (some B)] 95 (0, 0))) (hBx : Bx ≠ B) (hno : ∀ (i : Nat) x, xs[i]? = some x → ∃ A, ao = some A ∧ A.block ≠ B) (hM : w.ownsMap Tryz.prog 9 (plainElem Tryz.prog 3) B kk D) (hK : KeyIs D K) :
    Calls Tryz.prog 143 #[.slice ao xs.length cap, .pointer (some ⟨Bx, 0, none⟩)] w (NumOut B K kk (bytesOf xs) w) := by
  have hmk : ∀ W : World, (Instr.makeSlice 41 (.int .i64 (xs.length : Int)) (.int .i64 (xs.length : Int))).run Tryz.prog W = .ok (.slice (some ⟨W.heap.size, 0, none⟩) xs.length xs.length) (W.alloc (.cells (madeCells #[.int .i64 0] xs.length) 3)) := fun W => run_make_row' (P := Tryz.prog) 41 3 (.int .i64 0) 8 Tryz.underlying41 (by kernel_rfl) rfl .i64 .i64 xs.length (by omega) (by omega) W
  have HR := Lib.hid hR
  have HS := Lib.hid hs
  have HX := Lib.hid hbox
  have HNo := Lib.hid hno
  have HM := Lib.hid hM
  have HK := Lib.hid hK
  have hlB : B < w.heap.size := hM.lt
  obtain ⟨g, hg⟩ : ∃ g, g = w.heap.size := ⟨_, rfl⟩
  have HGs := Lib.hid hg
  have hgB : g ≠ B := by omega
  clear hR hs hbox hno hM hK
  go_enter Tryz.func143, Tryz.ntmps143
  go_upto_region 2 with fail
  obtain ⟨V, HV⟩ : ∃ V, Hid (V = w.alloc (.cells (madeCells #[.int .i64 0] xs.length) 3)) := ⟨_, Lib.hid rfl⟩
  rw [← HV.out, ← hg]
  have HR1 : Hid (V.rowIs g 3 xs.length (fun _ => .int .i64 0)) := Lib.hid (by rw [HV.out, hg]; exact World.rowIs_made _ _ _ _)
  have b1 : Below w.heap.size w V := by rw [HV.out]; exact (Below.refl _ w).alloc (Nat.le_refl _) _
  have HM1 := Lib.hid (HM.out.kept (row := none) ⟨b1.os, b1.tape, b1.output, b1.size, fun k hk _ => b1.block k hk⟩ (by simp))
  have HG1 : Hid (w.grownBy V (some B)) := Lib.hid (grown_of b1)
  clear hg b1 HV hmk
  go_wp2_with fail
  go_loopw [14] (fun i wr => ∃ (k : Nat) (D1 : DataW Unit) (K1 : List Txt) (f : Nat → Value), k ≤ xs.length ∧ i = .int .i64 k ∧ Hid (w.grownBy wr (some B)) ∧ Hid (wr.ownsMap Tryz.prog 9 (plainElem Tryz.prog 3) B (kk + k) D1) ∧ Hid (KeyIs D1 K1) ∧ Hid (K <+: K1) ∧ Hid (K1.length ≤ K.length + k) ∧ Hid (wr.rowIs g 3 xs.length f) ∧ Hid (∀ (t : Nat) x, t < k → xs[t]? = some x → x.data.toList ∈ K1 ∧ f t = .int .i64 (K1.idxOf x.data.toList : Nat))) (fun i _ => xs.length - (intOf i).toNat)
  case atStart => exact ⟨0, D, K, _, Nat.zero_le _, rfl, HG1, HM1, HK, Lib.hid (List.prefix_refl _), Lib.hid (Nat.le_refl _), HR1, Lib.hid (fun t x h => by omega)⟩
  case round =>
    obtain ⟨k, D1, K1, f, hk1, rfl, HG, HM, HK, HP, HKl, HRo, HF⟩ := hrel
    clear HG1 HM1 HR1
    by_cases hlt : k < xs.length
    · obtain ⟨x, hx⟩ : ∃ x, xs[k]? = some x := ⟨_, List.getElem?_eq_getElem hlt⟩
      have hsz := HS.out x (List.mem_of_getElem? hx)
      have hlook := key_look HM.out HK.out x hsz
      have hln := HM.out.len Tryz.underlying95 3
      rw [HK.out.size] at hln
      have hkl : K1.length ≤ 1004096 := by have := HKl.out; omega
      obtain ⟨A, hA, hAB⟩ := HNo.out k x hx
      subst hA
      rcases HR.out with h0 | ⟨A', hA', hAl, hcell⟩
      · rw [h0] at hlt; simp at hlt
      cases hA'
      have hc := cell_grown (hcell k x hx) HG.out (by rw [add_block]; simpa using hAB)
      have hb := (HG.out.block Bx (lt_of_heap HX.out) (by simpa using hBx)).trans HX.out
      obtain ⟨cX, _⟩ := cell_of_box_l hb
      have c1 := HRo.out.cell hlt
      have c2 := HRo.out.frozen k
      have HXk := Lib.hid hx
      by_cases hin : x.data.toList ∈ K1
      · rw [if_pos hin, decide_eq_true hin] at hlook
        obtain ⟨U, HU⟩ : ∃ U, Hid (U = wr.setCell ⟨g, k, none⟩ (.int .i64 (K1.idxOf x.data.toList : Nat))) := ⟨_, Lib.hid rfl⟩
        have HG2 : Hid (w.grownBy U (some B)) := Lib.hid (by
          rw [HU.out]
          exact ⟨HG.out.os, HG.out.tape, HG.out.output, by simp; exact HG.out.size, fun i hi hne => (heap_setCell_other _ _ _ _ (by show i ≠ g; have := HGs.out; omega)).trans (HG.out.block i hi hne)⟩)
        have HM2 := Lib.hid ((HM.out.mono (Nat.le_succ (kk + k))).kept (row := some g) (w' := U) (by rw [HU.out]; exact grown_put _ _ _ _) (by simpa using hgB.symm))
        have HR2 : Hid (U.rowIs g 3 xs.length (fun t => if t = k then .int .i64 (K1.idxOf x.data.toList : Nat) else f t)) := Lib.hid (by rw [HU.out]; exact HRo.out.set _ _)
        have HF2 : Hid (∀ (t : Nat) x', t < k + 1 → xs[t]? = some x' → x'.data.toList ∈ K1 ∧ (if t = k then Value.int .i64 (K1.idxOf x.data.toList : Nat) else f t) = .int .i64 (K1.idxOf x'.data.toList : Nat)) := Lib.hid (fun t x' ht hx' => by
          by_cases e : t = k
          · subst e
            rw [HXk.out] at hx'; cases hx'
            exact ⟨hin, by rw [if_pos rfl]⟩
          · rw [if_neg e]; exact HF.out t x' (by omega) hx')
        have HKl2 : Hid (K1.length ≤ K.length + (k + 1)) := Lib.hid (by have := HKl.out; omega)
        generalize K1.idxOf x.data.toList = ix at hlook HU HR2 HF2
        clear hcell hx hin hln
        go_upto_region 10 with fail
        rw [← HU.out]
        clear c1 c2 cX hc hlook
        go_wp2_with fail
        go_roundw
        case rel => exact ⟨k + 1, D1, K1, _, by omega, by go_num, HG2, HM2, HK, HP, HKl2, HR2, HF2⟩
        case measure => simp [intOf]; omega
      · rw [if_neg hin, decide_eq_false hin] at hlook
        have HKey := Lib.hid (Go.WideMaps.keyOf_string_mk (P := Tryz.prog) Tryz.underlying9 hsz)
        have HKp := Lib.hid (HK.out.put x.data.toList hin)
        have HPe := Lib.hid (plainElem_int (H := Unit) (P := Tryz.prog) (e := 3) (a := (K1.length : Int)) Tryz.underlying3 (WalkArith.wf_i64 (by omega)))
        have hkm : kk + k < maxLen := by unfold maxLen; omega
        have HKB : Hid (∀ W, wr.grownBy W (some B) → (W.heap[Bx]? = some (.cells #[.map (some B)] 95 (0, 0)) ∧ W.rowIs g 3 xs.length f)) := Lib.hid (fun W hW => ⟨(hW.block Bx (lt_of_heap hb) (by simpa using hBx)).trans hb, HRo.out.of_block (hW.block g HRo.out.lt (by simpa using hgB))⟩)
        have HNx : Hid (x.data.toList ∉ K1) := Lib.hid hin
        clear hcell hx hin c1 c2 hb
        go_upto_region 9 with (at_mapUpdate; refine wpList_mapUpdate_own _ rfl _ _ _ 95 rfl 9 3 (string_keyed Tryz.underlying9) Tryz.underlying95 _ B (kk + k) D1 rfl HM.out hkm _ _ (.string x.data.toList) rfl rfl HKey.out (.lit (.int .i64 (K1.length : Int))) [] HPe.out ?_; intro w1 ho hg)
        obtain ⟨hb1, r1⟩ := HKB.out w1 hg
        have c1 := r1.cell hlt
        have c2 := r1.frozen k
        obtain ⟨U, HU⟩ : ∃ U, Hid (U = w1.setCell ⟨g, k, none⟩ (.int .i64 (K1.length : Int))) := ⟨_, Lib.hid rfl⟩
        have hgu : wr.grownBy w1 (some B) := hg
        have HG2 : Hid (w.grownBy U (some B)) := Lib.hid (by
          have h := grown_up HG.out hgu
          rw [HU.out]
          exact ⟨h.os, h.tape, h.output, by simp; exact h.size, fun i hi hne => (heap_setCell_other _ _ _ _ (by show i ≠ g; have := HGs.out; omega)).trans (h.block i hi hne)⟩)
        have HM2 := Lib.hid (ho.kept (row := some g) (w' := U) (by rw [HU.out]; exact grown_put _ _ _ _) (by simpa using hgB.symm))
        have HR2 : Hid (U.rowIs g 3 xs.length (fun t => if t = k then .int .i64 (K1.length : Int) else f t)) := Lib.hid (by rw [HU.out]; exact r1.set _ _)
        have HF2 : Hid (∀ (t : Nat) x', t < k + 1 → xs[t]? = some x' → x'.data.toList ∈ K1 ++ [x.data.toList] ∧ (if t = k then Value.int .i64 (K1.length : Int) else f t) = .int .i64 ((K1 ++ [x.data.toList]).idxOf x'.data.toList : Nat)) := Lib.hid (fun t x' ht hx' => by
          by_cases e : t = k
          · subst e
            rw [HXk.out] at hx'; cases hx'
            exact ⟨by simp, by rw [if_pos rfl, idx_new _ _ HNx.out]⟩
          · obtain ⟨h1, h2⟩ := HF.out t x' (by omega) hx'
            rw [if_neg e]; exact ⟨by simp [h1], by rw [idx_snoc _ _ _ h1]; exact h2⟩)
        have HKl2 : Hid ((K1 ++ [x.data.toList]).length ≤ K.length + (k + 1)) := Lib.hid (by have := HKl.out; simp; omega)
        have HP2 : Hid (K <+: K1 ++ [x.data.toList]) := Lib.hid (HP.out.trans (List.prefix_append _ _))
        clear ho hg hgu hb1 r1 hc cX hlook hln
        go_upto_region 10 with fail
        rw [← HU.out]
        clear c1 c2
        go_wp2_with fail
        go_roundw
        case rel => exact ⟨k + 1, _, _, _, by omega, by go_num, HG2, HM2, HKp, HP2, HKl2, HR2, HF2⟩
        case measure => simp [intOf]; omega
    · obtain rfl : k = xs.length := by omega
      have HE : Hid (NumOut B K kk (bytesOf xs) w (.returned (.slice (some ⟨g, 0, none⟩) xs.length xs.length)) wr) := Lib.hid (by
        refine ⟨g, K1, D1, by rw [bytes_len], rowIs_tyI HRo.out, hgB, fun i x hx => ?_, by rw [bytes_len]; exact HM.out, HK.out, HP.out, by rw [bytes_len]; exact HKl.out, HG.out⟩
        have hi := (List.getElem?_eq_some_iff.1 hx).1
        rw [bytes_len] at hi
        have hx2 : xs[i]? = some xs[i] := List.getElem?_eq_getElem hi
        rw [bytes_at xs i _ hx2] at hx; cases hx
        obtain ⟨h1, h2⟩ := HF.out i _ hi hx2
        exact ⟨h1, by rw [HRo.out.cell hi, h2]⟩)
      go_wp2_with fail
      go_ret
      exact HE.out
end Go.Proofs.YtdenehnneloegaaGreatDoor
namespace Go.Proofs.YtdenehnneloegaaGreatDoor
open Go.RowKit Go.Shelf Go.Maps
set_option linter.unusedVariables false
def BothOut (ts us : List Txt) (w : World) (e : Ending) (w' : World) : Prop :=
  ∃ (f : Txt → Int) (g1 g2 : Nat), e = .returned (.tuple #[.slice (some ⟨g1, 0, none⟩) ts.length ts.length, .slice (some ⟨g2, 0, none⟩) us.length us.length]) ∧ NumsAt w' (some ⟨g1, 0, none⟩) (ts.map f) ∧ NumsAt w' (some ⟨g2, 0, none⟩) (us.map f) ∧ (∀ x ∈ ts, ∀ y ∈ us, f x = f y → x = y) ∧ Below w.heap.size w w'
theorem str_grown {w w' : World} {ao : Option Addr} {xs : List ByteArray} {B : Nat} (h : StrRow w ao xs) (hB : w.heap.size ≤ B) (hb : Below w.heap.size w w') : StrRow w' ao xs ∧ ∀ (i : Nat) x, xs[i]? = some x → ∃ A, ao = some A ∧ A.block ≠ B := by
  refine ⟨h.kept hb, fun i x hx => ?_⟩
  rcases h with h | ⟨A, h1, h2, h3⟩
  · subst h; simp at hx
  · exact ⟨A, h1, by omega⟩
set_option maxRecDepth 100000 in
set_option maxHeartbeats 2000000 in
theorem numbered_any (ao bo : Option Addr) (ca cb : Nat) (xs ys : List ByteArray) (w : World) (hn : xs.length ≤ 4096) (hm : ys.length ≤ 4096) (hs : ∀ c ∈ xs, c.size ≤ maxLen) (ht : ∀ c ∈ ys, c.size ≤ maxLen) (hR : StrRow w ao xs) (hS : StrRow w bo ys) :
    Calls Tryz.prog 92 #[.slice ao xs.length ca, .slice bo ys.length cb] w (BothOut (bytesOf xs) (bytesOf ys) w) := by
  have hent := enters_of Tryz.func143 (by kernel_rfl) rfl
  have hmm := @run_makeMap Tryz.prog
  obtain ⟨B, hB⟩ : ∃ B, B = w.heap.size := ⟨_, rfl⟩
  obtain ⟨V, HV⟩ : ∃ V, Hid (V = (w.alloc (.map #[] 0)).alloc (.cells #[.map (some B)] 95)) := ⟨_, Lib.hid rfl⟩
  have HM : Hid (V.ownsMap Tryz.prog 9 (plainElem Tryz.prog 3) B 0 (.map [] : DataW Unit)) := Lib.hid (by
    rw [HV.out, hB]
    exact ownsMap_below (World.ownsMap_made w _ _ _) ((Below.refl _ _).alloc (Nat.le_refl _) _))
  have HX : Hid (V.heap[B + 1]? = some (.cells #[.map (some B)] 95 (0, 0))) := Lib.hid (by
    rw [HV.out, hB]
    have := World.alloc_heap_new (w.alloc (.map #[] 0)) (.cells #[.map (some w.heap.size)] 95)
    rwa [World.size_alloc] at this)
  have HBV : Hid (Below w.heap.size w V) := Lib.hid (by rw [HV.out]; exact ((Below.refl _ w).alloc (Nat.le_refl _) _).alloc (by simp) _)
  have R1 := str_grown (B := B) hR (by omega) HBV.out
  have C1 := Lib.hid (numbered1_any ao ca xs (B + 1) B 0 [] _ V hn (by omega) (by simp) hs R1.1 HX.out (by omega) R1.2 HM.out KeyIs.empty)
  have HS := Lib.hid hS
  have HT := Lib.hid ht
  have HB := Lib.hid hB
  rw [hB] at HV
  clear R1 hR hS hs ht HM
  go_enter Tryz.func92, Tryz.ntmps92
  go_upto_region 3 with fail
  rw [← HV.out, ← hB]
  clear hB HV hmm
  go_wp2_with fail
  refine C1.out.mono ?_
  rintro e w1 ⟨g1, K1, D1, rfl, hg1, hgB1, hcell1, hM1, hK1, hp1, hl1, hgr1⟩
  rw [bytes_len] at hM1 hl1
  have hbw1 : Below w.heap.size w w1 := ⟨hgr1.os.trans HBV.out.os, hgr1.tape.trans HBV.out.tape, hgr1.output.trans HBV.out.output, Nat.le_trans HBV.out.size hgr1.size, fun k hk => (hgr1.block k (Nat.lt_of_lt_of_le hk HBV.out.size) (by have := HB.out; intro e; injection e; omega)).trans (HBV.out.block k hk)⟩
  have hX1 : w1.heap[B + 1]? = some (.cells #[.map (some B)] 95 (0, 0)) := (hgr1.block (B + 1) (lt_of_heap HX.out) (by intro e; injection e; omega)).trans HX.out
  have R2 := str_grown (B := B) HS.out (by rw [HB.out]; exact Nat.le_refl _) hbw1
  have C2 := Lib.hid (numbered1_any bo cb ys (B + 1) B (0 + xs.length) K1 D1 w1 hm (by omega) (by simp at hl1; omega) HT.out R2.1 hX1 (by omega) R2.2 hM1 hK1)
  have H1 := Lib.hid (And.intro hg1 (And.intro hgB1 hcell1))
  have HBW := Lib.hid hbw1
  clear hg1 hgB1 hcell1 hM1 hK1 hp1 hl1 hgr1 hbw1 hX1 R2 C1 HX HBV
  go_wp2_with fail
  refine C2.out.mono ?_
  rintro e w2 ⟨g2, K2, D2, rfl, hg2, hgB2, hcell2, hM2, hK2, hp2, hl2, hgr2⟩
  have HE : Hid (BothOut (bytesOf xs) (bytesOf ys) w (.returned (.tuple #[.slice (some ⟨g1, 0, none⟩) (bytesOf xs).length (bytesOf xs).length, .slice (some ⟨g2, 0, none⟩) (bytesOf ys).length (bytesOf ys).length])) w2) := Lib.hid (by
    obtain ⟨h1, h2, h3⟩ := H1.out
    refine ⟨fun x => ((K2.idxOf x : Nat) : Int), g1, g2, rfl, .inr ⟨g1, 0, rfl, h1.same (hgr2.block g1 h1.lt (by simpa using h2)), fun i p hp => ?_⟩, .inr ⟨g2, 0, rfl, hg2, fun i p hp => ?_⟩, fun x hx y hy e => ?_, ?_⟩
    · rw [List.getElem?_map] at hp
      obtain ⟨x, hx, rfl⟩ := Option.map_eq_some_iff.1 hp
      obtain ⟨k1, k2⟩ := h3 i x hx
      rw [Nat.zero_add, idx_pre K1 K2 x hp2 k1]
      exact cell_grown k2 hgr2 (by simpa using h2)
    · rw [List.getElem?_map] at hp
      obtain ⟨x, hx, rfl⟩ := Option.map_eq_some_iff.1 hp
      rw [Nat.zero_add]; exact (hcell2 i x hx).2
    · obtain ⟨i, hi, rfl⟩ := List.getElem_of_mem hx
      obtain ⟨j, hj, rfl⟩ := List.getElem_of_mem hy
      have m1 := hp2.subset (h3 i _ (List.getElem?_eq_getElem hi)).1
      have m2 := (hcell2 j _ (List.getElem?_eq_getElem hj)).1
      exact idx_inj K2 _ _ m1 m2 e
    · have h := HBW.out
      exact ⟨hgr2.os.trans h.os, hgr2.tape.trans h.tape, hgr2.output.trans h.output, Nat.le_trans h.size hgr2.size, fun k hk => (hgr2.block k (Nat.lt_of_lt_of_le hk h.size) (by have := HB.out; intro e; injection e; omega)).trans (h.block k hk)⟩)
  clear hg2 hgB2 hcell2 hM2 hK2 hp2 hl2 hgr2
  go_wp2_with fail
  refine bodyPost_ret (v := .tuple #[.slice (some ⟨g1, 0, none⟩) (bytesOf xs).length (bytesOf xs).length, .slice (some ⟨g2, 0, none⟩) (bytesOf ys).length (bytesOf ys).length]) (by simp [results, Tryz.results92, go_sem]) rfl ?_
  exact HE.out
end Go.Proofs.YtdenehnneloegaaGreatDoor
