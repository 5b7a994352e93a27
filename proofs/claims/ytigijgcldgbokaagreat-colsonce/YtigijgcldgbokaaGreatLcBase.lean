/-
  What lies in memory: slices of numbers by block and place, and lists of such slices.
  Conditions: none.
-/
import Derived.Deep.OwnRows
import Derived.WalkKit
import Derived.WalkMore
import Derived.IntWalk
import Derived.WalkArith
import Derived.Lib.Hide
import Derived.Test.YtigijgcldgbokaaGreatProg
import Derived.Test.YtigijgcldgbokaaGreatPThroughR
import Derived.Test.YtigijgcldgbokaaGreatLcMath
namespace Go.Proofs.YtigijgcldgbokaaGreat
open Go.RowKit Go.Shelf
set_option linter.unusedVariables false

/-- a block of numbers; a block of slices of numbers -/
def TyI (w : World) (b : Nat) : Prop := ∃ cs fr, w.heap[b]? = some (.cells cs 3 fr)
def TyR (w : World) (b : Nat) : Prop := ∃ cs fr, w.heap[b]? = some (.cells cs 95 fr)
theorem TyI.lt {w : World} {b : Nat} (h : TyI w b) : b < w.heap.size := by obtain ⟨_, _, h⟩ := h; exact lt_of_heap h
theorem TyR.lt {w : World} {b : Nat} (h : TyR w b) : b < w.heap.size := by obtain ⟨_, _, h⟩ := h; exact lt_of_heap h
theorem TyI.same {w w' : World} {b : Nat} (h : TyI w b) (e : w'.heap[b]? = w.heap[b]?) : TyI w' b := by obtain ⟨c, f, h⟩ := h; exact ⟨c, f, e.trans h⟩
theorem TyR.same {w w' : World} {b : Nat} (h : TyR w b) (e : w'.heap[b]? = w.heap[b]?) : TyR w' b := by obtain ⟨c, f, h⟩ := h; exact ⟨c, f, e.trans h⟩
theorem rowIs_tyI {w : World} {b n : Nat} {f : Nat → Value} (h : w.rowIs b 3 n f) : TyI w b := by obtain ⟨c, hb, _⟩ := h; exact ⟨c, _, hb⟩
theorem rowIs_tyR {w : World} {b n : Nat} {f : Nat → Value} (h : w.rowIs b 95 n f) : TyR w b := by obtain ⟨c, hb, _⟩ := h; exact ⟨c, _, hb⟩
/-- the cells of a slice of numbers -/
def NumsAt (w : World) (ao : Option Addr) (l : List Int) : Prop := l = [] ∨ ∃ b o, ao = some ⟨b, o, none⟩ ∧ TyI w b ∧ ∀ (i : Nat) p, l[i]? = some p → w.cell? ⟨b, o + i, none⟩ = some (.int .i64 p)
theorem NumsAt.kept {w w' : World} {ao : Option Addr} {l : List Int} (h : NumsAt w ao l) (hB : Below w.heap.size w w') : NumsAt w' ao l := by
  rcases h with h | ⟨b, o, h1, h2, h3⟩
  · exact .inl h
  · exact .inr ⟨b, o, h1, h2.same (hB.block b h2.lt), fun i p hp => (hB.cell (p := ⟨b, o + i, none⟩) h2.lt).trans (h3 i p hp)⟩
/-- slices of numbers behind a slice of them -/
def GridAt (w : World) (ao : Option Addr) (rs : List (List Int)) : Prop := rs = [] ∨ ∃ g, ao = some ⟨g, 0, none⟩ ∧ TyR w g ∧ ∀ (i : Nat) r, rs[i]? = some r → ∃ ro cap, w.cell? ⟨g, i, none⟩ = some (.slice ro r.length cap) ∧ NumsAt w ro r
theorem GridAt.kept {w w' : World} {ao : Option Addr} {rs : List (List Int)} (h : GridAt w ao rs) (hB : Below w.heap.size w w') : GridAt w' ao rs := by
  rcases h with h | ⟨g, h1, h2, h3⟩
  · exact .inl h
  · refine .inr ⟨g, h1, h2.same (hB.block g h2.lt), fun i r hr => ?_⟩
    obtain ⟨ro, cap, h4, h5⟩ := h3 i r hr
    exact ⟨ro, cap, (hB.cell (p := ⟨g, i, none⟩) h2.lt).trans h4, h5.kept hB⟩
/-- a slice of numbers that lies in another block than G -/
def FarAt (w : World) (G : Nat) (v : Value) (L : List Int) : Prop := ∃ b o c, v = .slice (some ⟨b, o, none⟩) L.length c ∧ b ≠ G ∧ TyI w b ∧ ∀ (i : Nat) p, L[i]? = some p → w.cell? ⟨b, o + i, none⟩ = some (.int .i64 p)
theorem FarAt.kept {w w' : World} {G : Nat} {v : Value} {L : List Int} (h : FarAt w G v L) (hg : w.grownBy w' (some G)) : FarAt w' G v L := by
  obtain ⟨b, o, c, h1, h2, h3, h4⟩ := h
  exact ⟨b, o, c, h1, h2, h3.same (hg.block b h3.lt (by simpa using h2)), fun i p hp => cell_grown (h4 i p hp) hg (by simpa using h2)⟩
theorem FarAt.nums {w : World} {G : Nat} {v : Value} {L : List Int} (h : FarAt w G v L) : ∃ ao c, v = .slice ao L.length c ∧ NumsAt w ao L := by
  obtain ⟨b, o, c, h1, h2, h3, h4⟩ := h
  exact ⟨_, c, h1, .inr ⟨b, o, rfl, h3, h4⟩⟩
theorem far_of {w : World} {G : Nat} {ao : Option Addr} {c : Nat} {L : List Int} (h : NumsAt w ao L) (hl : 0 < L.length) (hG : w.heap.size ≤ G) : FarAt w G (.slice ao L.length c) L := by
  rcases h with h | ⟨b, o, rfl, h2, h3⟩
  · subst h; simp at hl
  · exact ⟨b, o, c, rfl, by have := h2.lt; omega, h2, h3⟩
theorem grown_up {a b c : World} {row : Option Nat} (h : a.grownBy b row) (k : b.grownBy c row) : a.grownBy c row :=
  ⟨k.os.trans h.os, k.tape.trans h.tape, k.output.trans h.output, Nat.le_trans h.size k.size, fun i hi hne => (k.block i (Nat.lt_of_lt_of_le hi h.size) hne).trans (h.block i hi hne)⟩
theorem grown_of {w w' : World} {row : Option Nat} (h : Below w.heap.size w w') : w.grownBy w' row := ⟨h.os, h.tape, h.output, h.size, fun k hk _ => h.block k hk⟩
theorem grown_put (w : World) (g i : Nat) (v : Value) : w.grownBy (w.setCell ⟨g, i, none⟩ v) (some g) :=
  ⟨rfl, rfl, rfl, by simp, fun k _ hne => heap_setCell_other w ⟨g, i, none⟩ k v (fun e => hne (by rw [e]))⟩
theorem rowIs_below {w w' : World} {b : Nat} {t : TypeId} {n : Nat} {f : Nat → Value} (h : w.rowIs b t n f) (hB : Below w.heap.size w w') : w'.rowIs b t n f := h.of_block (hB.block b h.lt)
/-- a row that is filled is a slice of numbers -/
theorem rowIs_nums {w : World} {b : Nat} {n : Nat} {f : Nat → Value} {L : List Int} (h : w.rowIs b 3 n f) (hL : L.length = n) (hf : ∀ (i : Nat) p, L[i]? = some p → f i = .int .i64 p) : NumsAt w (some ⟨b, 0, none⟩) L :=
  .inr ⟨b, 0, rfl, rowIs_tyI h, fun i p hp => by
    have hi := (List.getElem?_eq_some_iff.1 hp).1
    rw [Nat.zero_add, h.cell (by omega), hf i p hp]⟩
theorem rowIs_far {w : World} {b G : Nat} {n c : Nat} {f : Nat → Value} {L : List Int} (h : w.rowIs b 3 n f) (hL : L.length = n) (hf : ∀ (i : Nat) p, L[i]? = some p → f i = .int .i64 p) (hG : b ≠ G) : FarAt w G (.slice (some ⟨b, 0, none⟩) n c) L :=
  ⟨b, 0, c, by rw [hL], hG, rowIs_tyI h, fun i p hp => by
    have hi := (List.getElem?_eq_some_iff.1 hp).1
    rw [Nat.zero_add, h.cell (by omega), hf i p hp]⟩
/-- all blocks but those of pairs, and boxes of slices of pairs, are as they were -/
def KeepsTy (A B : World) : Prop := ∀ (k : Nat) cs T fr, A.heap[k]? = some (.cells cs T fr) → T ≠ 36 → T ≠ 28 → B.heap[k]? = some (.cells cs T fr)
theorem KeepsTy.trans {A B C : World} (h : KeepsTy A B) (k : KeepsTy B C) : KeepsTy A C := fun i cs T fr hi h1 h2 => k i cs T fr (h i cs T fr hi h1 h2) h1 h2
theorem KeepsTy.of_below {A B : World} (h : Below A.heap.size A B) : KeepsTy A B := fun i cs T fr hi _ _ => (h.block i (lt_of_heap hi)).trans hi
theorem TyI.tied {w w' : World} {b : Nat} (h : TyI w b) (k : KeepsTy w w') : w'.heap[b]? = w.heap[b]? := by obtain ⟨c, f, h⟩ := h; rw [k b c _ f h (by decide) (by decide), h]
theorem TyR.tied {w w' : World} {b : Nat} (h : TyR w b) (k : KeepsTy w w') : w'.heap[b]? = w.heap[b]? := by obtain ⟨c, f, h⟩ := h; rw [k b c _ f h (by decide) (by decide), h]
theorem NumsAt.tied {w w' : World} {ao : Option Addr} {l : List Int} (h : NumsAt w ao l) (k : KeepsTy w w') : NumsAt w' ao l := by
  rcases h with h | ⟨b, o, h1, h2, h3⟩
  · exact .inl h
  · exact .inr ⟨b, o, h1, h2.same (h2.tied k), fun i p hp => (World.cell?_of_block (w := w) (h2.tied k)).trans (h3 i p hp)⟩
theorem GridAt.tied {w w' : World} {ao : Option Addr} {rs : List (List Int)} (h : GridAt w ao rs) (k : KeepsTy w w') : GridAt w' ao rs := by
  rcases h with h | ⟨g, h1, h2, h3⟩
  · exact .inl h
  · refine .inr ⟨g, h1, h2.same (h2.tied k), fun i r hr => ?_⟩
    obtain ⟨ro, cap, h4, h5⟩ := h3 i r hr
    exact ⟨ro, cap, (World.cell?_of_block (w := w) (h2.tied k)).trans h4, h5.tied k⟩
/-- the rows of a part: the lengths from each of its places on -/
def gridOf (xs rest bs : List Int) : List (List Int) := (List.range (xs.length + 1)).map fun i => rowOf (xs.drop i ++ rest) bs
theorem gridOf_len (xs rest bs : List Int) : (gridOf xs rest bs).length = xs.length + 1 := by simp [gridOf]
theorem gridOf_at (xs rest bs : List Int) (i : Nat) (h : i ≤ xs.length) : (gridOf xs rest bs)[i]? = some (rowOf (xs.drop i ++ rest) bs) := by
  unfold gridOf
  rw [List.getElem?_map, List.getElem?_range (by omega)]; rfl
/-- a grid that comes back -/
def GridOut (rs : List (List Int)) (w : World) (e : Ending) (w' : World) : Prop := ∃ ao cap, e = .returned (.slice ao rs.length cap) ∧ GridAt w' ao rs ∧ Below w.heap.size w w'
theorem grid_of {w : World} {G n : Nat} {f : Nat → Value} {rs : List (List Int)} (h : w.rowIs G 95 n f) (hl : rs.length = n) (hf : ∀ (i : Nat) r, rs[i]? = some r → FarAt w G (f i) r) : GridAt w (some ⟨G, 0, none⟩) rs :=
  .inr ⟨G, rfl, rowIs_tyR h, fun i r hr => by
    have hi := (List.getElem?_eq_some_iff.1 hr).1
    obtain ⟨ao, c, h1, h2⟩ := (hf i r hr).nums
    exact ⟨ao, c, by rw [h.cell (by omega), h1], h2⟩⟩
end Go.Proofs.YtigijgcldgbokaaGreat
