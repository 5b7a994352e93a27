/-
  How many bytes the texts of a table have together, and whether one of them is too long: what the program answers.
  Conditions: as those of TTexts; all texts have together at most 2^60 bytes.
-/
import Derived.WalkKit
import Derived.Lib.Hide
import Derived.Test.YtmomjhnbhckhpaaDoorProg
import Derived.Test.YtmomjhnbhckhpaaDoorTTexts
namespace Go.Proofs.YtmomjhnbhckhpaaDoor
open Go.RowKit Go.Shelf
attribute [local go_sem] Oper.semAt_some

theorem heap_put {A : World} {l : Nat} {o o' : Obj} (hl : A.heap[l]? = some o) (ho : o.isCells = false) {b : Nat} {cs : Array Value} {t : TypeId} {fr : Nat × Nat} (h : A.heap[b]? = some (.cells cs t fr)) : (A.putObj l o').heap[b]? = some (.cells cs t fr) := by
  have hne : b ≠ l := by
    rintro rfl
    rw [h] at hl; cases hl; cases ho
  rw [World.putObj_heap_other hne]; exact h
theorem below_put {n : Nat} {w A : World} {l : Nat} (o' : Obj) (h : Below n w A) (hl : n ≤ l) : Below n w (A.putObj l o') :=
  ⟨h.os, h.tape, h.output, by simpa using h.size, fun k hk => (World.putObj_heap_other (by omega)).trans (h.block k hk)⟩
theorem keepsT_trans {n0 B : Nat} {X Y Z : World} (h : KeepsT n0 B X Y) (k : KeepsT n0 B Y Z) : KeepsT n0 B X Z := fun i hi => (k i hi).trans (h i hi)
theorem keepsT_put {n0 B m : Nat} (h0 : n0 ≤ m) (hB : B < m) (W : World) (l : Nat) (o' : Obj) (hl : m ≤ l) : KeepsT n0 B W (W.putObj l o') := fun i hi => World.putObj_heap_other (by omega)
theorem keepsT_below {n0 B m : Nat} (h0 : n0 ≤ m) (hB : B < m) {X Y : World} (hm : m ≤ X.heap.size) (h : Below X.heap.size X Y) : KeepsT n0 B X Y := fun i hi => h.block i (by omega)
theorem keepsT_set {n0 B : Nat} {W : World} {b j : Nat} {u : Value} (h0 : n0 ≤ b) (hB : B ≠ b) : KeepsT n0 B W (W.setCell ⟨b, j, none⟩ u) := fun i hi => heap_setCell_other W ⟨b, j, none⟩ i u (fun e => by simp at e; omega)
/-- a box beside what was there -/
def Boxd (w : World) (b : Nat) (T : TypeId) (v : Value) (W : World) : Prop := W.heap[b]? = some (.cells #[v] T (0, 0)) ∧ Below w.heap.size w W
theorem boxd_stays {w A B : World} {b : Nat} {T : TypeId} {v : Value} (h : Boxd w b T v A) (k : Below A.heap.size A B) : Boxd w b T v B := ⟨(k.block b (lt_of_heap h.1)).trans h.1, below_up h.2 k⟩
theorem boxd_apart {w A : World} {b l m : Nat} {T : TypeId} {v : Value} {o : Obj} (o' : Obj) (h : Boxd w b T v A) (hl : m ≤ l) (hm : w.heap.size ≤ m) (ho : A.heap[l]? = some o) (hc : o.isCells = false) : Boxd w b T v (A.putObj l o') := ⟨heap_put ho hc h.1, below_put o' h.2 (by omega)⟩
theorem boxd_set {w A : World} {b : Nat} {T : TypeId} {v : Value} (u : Value) (h : Boxd w b T v A) (hb : w.heap.size ≤ b) : Boxd w b T u (A.setCell ⟨b, 0, none⟩ u) :=
  ⟨by simpa using heap_setCell_same A b 0 _ T u h.1, h.2.setCell (p := ⟨b, 0, none⟩) hb u⟩
def sumT (l : List ByteArray) : Nat := (l.map ByteArray.size).sum
theorem sumT_next (l : List ByteArray) (x : ByteArray) : sumT (l ++ [x]) = sumT l + x.size := by simp [sumT]
theorem sumT_pre {a b : List ByteArray} (h : a <+: b) : sumT a ≤ sumT b := by
  obtain ⟨c, rfl⟩ := h; simp [sumT]
def longT (l : List ByteArray) : Bool := l.any fun c => decide (1000 < c.size)
theorem longT_no {l : List ByteArray} (h : ∀ c ∈ l, c.size ≤ 1000) : longT l = false := by
  unfold longT; rw [List.any_eq_false]; intro c hc; have := h c hc; simp; omega
theorem longT_yes {l pre : List ByteArray} (h : pre <+: l) (hx : ∃ c ∈ pre, 1000 < c.size) : longT l = true := by
  obtain ⟨c, hc, hs⟩ := hx
  unfold longT; rw [List.any_eq_true]; exact ⟨c, h.subset hc, by simpa using hs⟩

section
variable (ho : Option Addr) (hc : Nat) (hd : List ByteArray) (ro : Option Addr) (rc : Nat) (rs : List (List ByteArray)) (w : World)
  (hn : hd.length ≤ 1099511627776) (hn2 : rs.length ≤ 1099511627776) (hn3 : ∀ r ∈ rs, r.length ≤ 1099511627776) (hH : StrRow w ho hd) (hR : RowsAt w ro rs)
include hn hn2 hn3 hH hR

end
end Go.Proofs.YtmomjhnbhckhpaaDoor
