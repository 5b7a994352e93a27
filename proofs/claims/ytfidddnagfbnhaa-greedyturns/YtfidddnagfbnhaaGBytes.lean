/-
  What an argument of a statement is, read out of the memory that it lies in: slices of bytes. And a slice of choices that the code owns, with room behind it.
  Conditions: none beyond the form of claims.
-/
import Derived.Test.YtfidddnagfbnhaaProg
import Derived.Test.YtfidddnagfbnhaaPOpen
import Derived.Test.YtfidddnagfbnhaaGBase
namespace Go.Proofs.Ytfidddnagfbnhaa
open Go.RowKit Go.Shelf Go.ChangeShapes Go.WideShapes Go.Deep Go.Lib
set_option linter.unusedVariables false

/-- the cells of a slice of bytes -/
def U8At (w : World) (ao : Option Addr) (ps : List Int) : Prop := ps = [] ∨ ∃ A, ao = some A ∧ A.block < w.heap.size ∧ ∀ (i : Nat) p, ps[i]? = some p → w.cell? (A.add i) = some (.int .u8 p)
theorem U8At.kept {w w' : World} {ao : Option Addr} {ps : List Int} (h : U8At w ao ps) (hB : Below w.heap.size w w') : U8At w' ao ps := by
  rcases h with h | ⟨A, h1, h2, h3⟩
  · exact .inl h
  · exact .inr ⟨A, h1, Nat.lt_of_lt_of_le h2 hB.size, fun i c hc => (hB.cell (p := A.add i) (by rw [add_block]; exact h2)).trans (h3 i c hc)⟩
/-- a slice of bytes that came in -/
structure U8Arg (w : World) (ao : Option Addr) (cap : Nat) (ps : List Int) : Prop where
  len : ps.length ≤ maxLen
  at_ : U8At w ao ps
  wf : ∀ p ∈ ps, 0 ≤ p ∧ p ≤ 255
  nil : ao = none → cap = 0
  cap : ps.length ≤ cap
section
variable {H : Type} {enc : TypeId × Value → H} {P : Program} {w : World} {base : Nat} {held : Bool}
theorem bytes8_of (W : World) (a : Addr) (len : Nat) (zs : List Int) (hcell : ∀ i, i < zs.length → W.cell? (a.add i) = some (.int .u8 (zs.getD i 0))) : U8At W (some a) (zs.take len) := by
  by_cases h0 : zs.take len = []
  · exact .inl h0
  · have hp : 0 < zs.length := by
      rcases Nat.eq_zero_or_pos zs.length with h | h
      · exact absurd (by simp [List.eq_nil_of_length_eq_zero h]) h0
      · exact h
    refine .inr ⟨a, rfl, ?_, fun i c hc => ?_⟩
    · have h := block_lt_of_cell (hcell 0 hp)
      rwa [add_block] at h
    · have hc' : zs[i]? = some c := by
        rw [List.getElem?_take] at hc
        split at hc
        · exact hc
        · cases hc
      obtain ⟨hi, e⟩ := List.getElem?_eq_some_iff.1 hc'
      rw [hcell i hi, List.getD_eq_getElem?_getD, hc']; rfl
theorem u8_wf {n : Int} (h : (Lit.int .u8 n).wf = true) : 0 ≤ n ∧ n ≤ 255 := by
  simp only [Lit.wf, Bool.and_eq_true, decide_eq_true_eq] at h
  exact ⟨h.1, h.2⟩
theorem arg_u8 {t q : TypeId} {fuel : Nat} {v : Value} {x : DataW H × List MemPlace} (ht : P.underlying t = some (.slice q)) (hq : P.underlying q = some (.int .u8)) (cq : P.cellsOf q = 1)
    (h : DataW.trod enc P w base (fun _ => true) held fuel t [v] = some x) : ∃ ao cap ps, v = .slice ao (List.length ps) cap ∧ U8Arg w ao cap ps := by
  rcases open_ints ht hq cq h with ⟨h1, _⟩ | ⟨a', l', c', zs, h1, _, hl', hm', hz', hy, hcell, hsz⟩
  · simp at h1; subst h1
    exact ⟨none, 0, [], rfl, Nat.zero_le _, .inl rfl, (fun c hc => by cases hc), fun _ => rfl, Nat.le_refl _⟩
  · simp at h1; subst h1
    simp only [if_true] at hz'
    have hln : (zs.take l').length = l' := by rw [List.length_take]; omega
    exact ⟨some a', c', zs.take l', by rw [hln], by rw [hln]; omega, bytes8_of w a' l' zs hcell, fun p hp => u8_wf (hsz p (List.mem_of_mem_take hp)), (fun h => by cases h), by rw [hln]; exact hl'⟩
end
/-- a slice of choices that the code owns, with room behind it -/
structure OwnX (w : World) (base g n cap : Nat) (xs : TL) : Prop where
  len : xs.length = n
  own : w.ownsRow base 24 3 (.slice (some ⟨g, 0, none⟩) n cap) n (cellsT xs)
theorem OwnX.lt {w : World} {base g n cap : Nat} {xs : TL} (h : OwnX w base g n cap xs) : base ≤ g ∧ g < w.heap.size := h.own.lt g rfl
theorem OwnX.kept {w w' : World} {base g n cap : Nat} {xs : TL} (h : OwnX w base g n cap xs) (hB : Below w.heap.size w w') : OwnX w' base g n cap xs := ⟨h.len, ownsRow_below h.own hB⟩
theorem OwnX.cell {w : World} {base g n cap : Nat} {xs : TL} (h : OwnX w base g n cap xs) (k : Nat) (c : T3) (hc : xs[k]? = some c) : (w.cell? ⟨g, k * 3, none⟩ = some (.int .i64 c.1) ∧ w.cell? ⟨g, k * 3 + 1, none⟩ = some (.int .i64 c.2.1) ∧ w.cell? ⟨g, k * 3 + 2, none⟩ = some (.int .i64 c.2.2)) ∧ w.frozen? ⟨g, k * 3, none⟩ = false ∧ w.frozen? ⟨g, k * 3 + 1, none⟩ = false ∧ w.frozen? ⟨g, k * 3 + 2, none⟩ = false := by
  obtain ⟨hk, _⟩ := List.getElem?_eq_some_iff.1 hc
  have hl := h.len
  obtain ⟨h1, h2, h3⟩ := cellsT_at xs k c hc
  exact ⟨⟨(h.own.cellAt (k * 3) (by omega)).trans h1, (h.own.cellAt (k * 3 + 1) (by omega)).trans h2, (h.own.cellAt (k * 3 + 2) (by omega)).trans h3⟩, h.own.frozenAt _, h.own.frozenAt _, h.own.frozenAt _⟩
theorem OwnX.store {w : World} {base g n cap : Nat} {xs : TL} (h : OwnX w base g n cap xs) (k : Nat) (a b s : Int) (hk : k < n) : OwnX (((w.setCell ⟨g, k * 3, none⟩ (.int .i64 a)).setCell ⟨g, k * 3 + 1, none⟩ (.int .i64 b)).setCell ⟨g, k * 3 + 2, none⟩ (.int .i64 s)) base g n cap (xs.set k (a, b, s)) := by
  refine ⟨by simp [h.len], ?_⟩
  rw [← cellsT_set xs k a b s (by rw [h.len]; exact hk)]
  exact (((h.own.stored (k * 3) (.int .i64 a)).1.stored (k * 3 + 1) (.int .i64 b)).1.stored (k * 3 + 2) (.int .i64 s)).1
theorem OwnX.trip {w : World} {base g n cap : Nat} {xs : TL} (h : OwnX w base g n cap xs) : TripAt w (some ⟨g, 0, none⟩) xs :=
  .inr ⟨g, 0, rfl, h.lt.2, fun i p hp => by have := (h.cell i p hp).1; simpa using this⟩
theorem swap_perm3 (a : TL) (j k : Nat) (x y : T3) (hj : a[j]? = some x) (hk : a[k]? = some y) : ((a.set j y).set k x).Perm a := by
  obtain ⟨hj1, ej⟩ := List.getElem?_eq_some_iff.1 hj
  obtain ⟨hk1, ek⟩ := List.getElem?_eq_some_iff.1 hk
  have := List.set_set_perm hj1 hk1
  rw [ej, ek] at this
  exact this
/-- choices as a source of an append -/
theorem src_trips {w : World} {ao : Option Addr} {cap : Nat} {xs : TL} (h : TripAt w ao xs) (hn : ao = none → cap = 0) : (ao = none → xs.length = 0 ∧ cap = 0) ∧ ∀ ad, ao = some ad → ∀ (j : Nat) u, (cellsT xs)[j]? = some u → w.cell? (ad.add j) = some u := by
  refine ⟨fun e => ⟨?_, hn e⟩, fun ad e j u hu => ?_⟩
  · rcases h with h | ⟨b, o, h1, _⟩
    · rw [h]; rfl
    · rw [e] at h1; cases h1
  · subst e
    rcases id h with h0 | ⟨b, o, h1, _⟩
    · subst h0; simp [cellsT] at hu
    · cases h1
      exact trip_cells h j u hu
end Go.Proofs.Ytfidddnagfbnhaa
