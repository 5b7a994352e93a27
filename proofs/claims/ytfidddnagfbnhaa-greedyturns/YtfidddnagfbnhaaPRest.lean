/-
  Those that are on one side of no pair: what the program answers.
  Conditions: lists of at most 2^38 pairs of Go integers; numbers up to 2^31 - 1.
-/
import Derived.Maps.Own
import Derived.Maps.OwnOps
import Derived.Maps.OwnSet
import Derived.Maps.Views
import Derived.IntWalk
import Derived.WalkArith
import Derived.OwnWalk
import Derived.Deep.Cut
import Derived.Deep.Onto
import Derived.Test.YtfidddnagfbnhaaProg
import Derived.Test.YtfidddnagfbnhaaPCheck
namespace Go.Proofs.Ytfidddnagfbnhaa
open Go.RowKit Go.Shelf Go.Maps
set_option linter.unusedVariables false

theorem ownsMap_below {H : Type} {P : Program} {k : TypeId} {R : Value → Option (DataW H × List MemPlace)} {b n : Nat} {D : DataW H} {w w' : World} (h : w.ownsMap P k R b n D) (hB : Below w.heap.size w w') : w'.ownsMap P k R b n D :=
  h.kept (row := none) ⟨hB.os, hB.tape, hB.output, hB.size, fun k hk _ => hB.block k hk⟩ (by simp)
/-- one more in a list, if it is not there -/
def addZ (L : List Int) (x : Int) : List Int := if x ∈ L then L else L ++ [x]
theorem addZ_mem (L : List Int) (x z : Int) : z ∈ addZ L x ↔ z ∈ L ∨ z = x := by
  unfold addZ; split
  · rename_i h; exact ⟨.inl, fun h' => h'.elim id (fun e => e ▸ h)⟩
  · simp
/-- a map that is a set of numbers -/
structure SetIs (D : DataW Unit) (L : List Int) : Prop where
  tidy : Tidy D
  look : ∀ z, D.atKey (.int .i64 z) (.lit (.bool false)) = .lit (.bool (decide (z ∈ L)))
  here : ∀ z, has D (.int .i64 z) = decide (z ∈ L)
  size : Go.Maps.size D = L.length
  nodup : L.Nodup
theorem SetIs.empty : SetIs (.map []) [] := ⟨tidy_empty, fun z => rfl, fun z => rfl, rfl, List.nodup_nil⟩
theorem keyI (x : Int) : WideAt.IsKeyLit (.int .i64 x) := by first | exact trivial | constructor | simp [WideAt.IsKeyLit]
theorem SetIs.put {D : DataW Unit} {L : List Int} (h : SetIs D L) (x : Int) : SetIs (D.put (.int .i64 x) (.lit (.bool true))) (addZ L x) := by
  refine ⟨h.tidy.put (keyI x) _, fun z => ?_, fun z => ?_, ?_, ?_⟩
  · by_cases e : z = x
    · subst e
      rw [atKey_put_same h.tidy.isMap (keyI z), decide_eq_true ((addZ_mem L z z).2 (.inr rfl))]
    · rw [atKey_put_other (fun e' => e (by injection e')), h.look]
      have : z ∈ addZ L x ↔ z ∈ L := (addZ_mem L x z).trans ⟨fun h => h.elim id (fun e' => absurd e' e), .inl⟩
      simp only [this]
  · by_cases e : z = x
    · subst e
      rw [has_put_same h.tidy.isMap (keyI z), decide_eq_true ((addZ_mem L z z).2 (.inr rfl))]
    · rw [has_put_other (fun e' => e (by injection e')), h.here]
      have : z ∈ addZ L x ↔ z ∈ L := (addZ_mem L x z).trans ⟨fun h => h.elim id (fun e' => absurd e' e), .inl⟩
      simp only [this]
  · rw [size_put h.tidy, h.here]
    unfold addZ
    by_cases hx : x ∈ L
    · simp [hx, h.size]
    · simp [hx, h.size]
  · unfold addZ; split
    · exact h.nodup
    · rename_i hx
      rw [List.nodup_append]
      exact ⟨h.nodup, by simp, fun a ha b hb e => by simp at hb; subst hb; exact hx (e ▸ ha)⟩
theorem set_look {w : World} {b k : Nat} {D : DataW Unit} {L : List Int} (h : w.ownsMap Try.prog 3 (plainElem Try.prog 4) b k D) (hS : SetIs D L) (x : Int) (hx : (Lit.int .i64 x).wf = true) :
    (Instr.lookup 54 (.map (some b)) (.int .i64 x) false).run Try.prog w = .ok (.bool (decide (x ∈ L))) w := by
  obtain ⟨c, hrun, hat⟩ := lookup_bool h (int_keyed Try.underlying3) Try.underlying54 Try.underlying4 (Try.zeroValue4 _) (keyOf_int_mk Try.underlying3 hx)
  rw [hS.look] at hat
  have : decide (x ∈ L) = c := by injection hat with h1; injection h1
  rw [this]; exact hrun
theorem sub_len : ∀ (L R : List Int), L.Nodup → (∀ x ∈ L, x ∈ R) → L.length ≤ R.length
  | [], R, _, _ => Nat.zero_le _
  | x :: L, R, hn, hs => by
    have hx := hs x (by simp)
    obtain ⟨h1, h2⟩ := List.nodup_cons.1 hn
    have := sub_len L (R.erase x) h2 (fun y hy => (List.mem_erase_of_ne (show y ≠ x from fun e => h1 (by rw [← e]; exact hy))).2 (hs y (by simp [hy])))
    rw [List.length_erase_of_mem hx] at this
    have hp : 0 < R.length := List.length_pos_of_mem hx
    simp only [List.length_cons]; omega
def upTo (k : Nat) : List Int := (List.range k).map Int.ofNat
theorem upTo_mem (k : Nat) (z : Int) : z ∈ upTo k ↔ 0 ≤ z ∧ z < k := by
  unfold upTo
  rw [List.mem_map]
  constructor
  · rintro ⟨a, ha, rfl⟩; have := List.mem_range.1 ha; exact ⟨by simp, by simpa using this⟩
  · rintro ⟨h1, h2⟩
    exact ⟨z.toNat, List.mem_range.2 (by omega), by simp; omega⟩
theorem upTo_next (k : Nat) : upTo (k + 1) = upTo k ++ [(k : Int)] := by simp [upTo, List.range_succ]
theorem upTo_len (k : Nat) : (upTo k).length = k := by simp [upTo]
/-- those below k that are not in a list -/
def outOf (S : List Int) (k : Nat) : List Int := (upTo k).filter (fun x => decide (x ∉ S))
theorem outOf_next (S : List Int) (k : Nat) : outOf S (k + 1) = if (k : Int) ∈ S then outOf S k else outOf S k ++ [(k : Int)] := by
  unfold outOf
  rw [upTo_next, List.filter_append]
  split
  · rename_i h; simp [h]
  · rename_i h; simp [h]
theorem outOf_le (S : List Int) (k : Nat) : (outOf S k).length ≤ k := by
  have := List.length_filter_le (fun x => decide (x ∉ S)) (upTo k)
  rw [upTo_len] at this; exact this
theorem outOf_none (S L : List Int) (n : Nat) (hL : L.Nodup) (hm : ∀ z, z ∈ L ↔ z ∈ S ∧ 0 ≤ z ∧ z < (n : Int)) (h : n ≤ L.length) : outOf S n = [] := by
  refine List.filter_eq_nil_iff.2 (fun z hz => ?_)
  obtain ⟨h0, h1⟩ := (upTo_mem n z).1 hz
  by_cases hs : z ∈ S
  · simp [hs]
  · exfalso
    have hzL : z ∉ L := fun h' => hs ((hm z).1 h').1
    have := sub_len (z :: L) (upTo n) (List.nodup_cons.2 ⟨hzL, hL⟩) (fun x hx => by
      rcases List.mem_cons.1 hx with rfl | hx
      · exact hz
      · exact (upTo_mem n x).2 ((hm x).1 hx).2)
    rw [upTo_len] at this; simp at this; omega
theorem set_few (S L : List Int) (n : Int) (hL : L.Nodup) (hm : ∀ z, z ∈ L ↔ z ∈ S ∧ 0 ≤ z ∧ z < n) : L.length ≤ n.toNat := by
  have := sub_len L (upTo n.toNat) hL (fun x hx => (upTo_mem _ x).2 (by have := ((hm x).1 hx).2; omega))
  rwa [upTo_len] at this
/-- numbers that come back -/
def IntsOut (l : List Int) (w : World) (e : Ending) (w' : World) : Prop := ∃ ao cap, e = .returned (.slice ao l.length cap) ∧ IntsAt w' ao l ∧ (ao = none → cap = 0) ∧ l.length ≤ cap ∧ Below w.heap.size w w'
/-- a slice of numbers that the code owns -/
def OwnI (w : World) (base : Nat) (v : Value) (l : List Int) : Prop := w.ownsRow base 3 1 v l.length (l.map (Value.int .i64))
theorem OwnI.end_ {w w' : World} {v : Value} {l : List Int} (h : OwnI w' w.heap.size v l) (hB : Below w.heap.size w w') : IntsOut l w (.returned v) w' := by
  rcases h.2 with ⟨rfl, h0⟩ | ⟨g, cap, cur, rfl, h1, h2, h3, h4, h5, h6⟩
  · have hl : l = [] := List.eq_nil_of_length_eq_zero h0
    subst hl
    exact ⟨none, 0, rfl, .inl rfl, fun _ => rfl, Nat.le_refl _, hB⟩
  · refine ⟨_, cap, rfl, .inr ⟨_, rfl, (World.ownsRow.lt h g rfl).2, fun i p hp => ?_⟩, (fun e => by cases e), h3, hB⟩
    exact World.ownsRow.cells h rfl i _ (by rw [List.getElem?_map, hp]; rfl)
theorem lit_cellI (w : World) (v : Value) : ∀ (j : Nat) u, [v][j]? = some u → (w.alloc (.cells #[v] 3)).cell? ((⟨w.heap.size, 0, none⟩ : Addr).add j) = some u := fun j u hj => by
  rw [cell_row (World.alloc_heap_new w _)]
  match j, hj with
  | 0, hj => simp at hj; subst hj; rfl
theorem own_grownI {w w' : World} {base : Nat} {V : World} {e : TypeId} {s : Nat} {v : Value} {n : Nat} {xs : List Value} {o : Obj} (hB : Below base V w) (hb : base ≤ w.heap.size) (hO : w.ownsRow base e s v n xs) (hg : (w.alloc o).grownBy w' v.ownBlock) : Below base V w' :=
  (hB.alloc hb o).grown hg (by simp; omega) (fun k h => (hO.lt k h).1)
/-- one side of a pair, as a function tells it -/
def SideFn (G : FuncId) (side : Int × Int → Int) : Prop := ∀ x1 x2 W, Calls Try.prog G #[.agg #[.int .i64 x1, .int .i64 x2]] W fun e w' => e = .returned (.int .i64 (side (x1, x2))) ∧ Below W.heap.size W w'
end Go.Proofs.Ytfidddnagfbnhaa
