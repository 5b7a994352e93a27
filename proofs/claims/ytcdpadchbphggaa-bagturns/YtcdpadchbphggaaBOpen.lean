/-
  What an argument of a statement is, read out of the memory that it lies in: slices of bytes. And a slice of texts that the code owns.
  Conditions: none beyond the form of claims.
-/
import Derived.Test.YtcdpadchbphggaaProg
import Derived.Test.YtcdpadchbphggaaPOpen
import Derived.Test.YtcdpadchbphggaaBApp
import Derived.Test.YtcdpadchbphggaaBMath
namespace Go.Proofs.Ytcdpadchbphggaa
open Go.RowKit Go.Shelf Go.ChangeShapes Go.WideShapes Go.Deep Go.Lib
set_option linter.unusedVariables false

/-- the cells of a slice of bytes -/
def U8At (w : World) (ao : Option Addr) (ps : List Int) : Prop := ps = [] ∨ ∃ A, ao = some A ∧ A.block < w.heap.size ∧ ∀ (i : Nat) p, ps[i]? = some p → w.cell? (A.add i) = some (.int .u8 p)
theorem U8At.kept {w w' : World} {ao : Option Addr} {ps : List Int} (h : U8At w ao ps) (hB : Below w.heap.size w w') : U8At w' ao ps := by
  rcases h with h | ⟨A, h1, h2, h3⟩
  · exact .inl h
  · exact .inr ⟨A, h1, Nat.lt_of_lt_of_le h2 hB.size, fun i c hc => (hB.cell (p := A.add i) (by rw [add_block]; exact h2)).trans (h3 i c hc)⟩
/-- a slice of bytes that came in -/
structure U8Arg (w : World) (ao : Option Addr) (cap : Nat) (ps : List Int) : Prop where
  len : ps.length ≤ maxLen
  at_ : U8At w ao ps
  wf : ∀ p ∈ ps, 0 ≤ p ∧ p ≤ 255
  nil : ao = none → cap = 0
  cap : ps.length ≤ cap
section
variable {H : Type} {enc : TypeId × Value → H} {P : Program} {w : World} {base : Nat} {held : Bool}
theorem bytes8_of (W : World) (a : Addr) (len : Nat) (zs : List Int) (hcell : ∀ i, i < zs.length → W.cell? (a.add i) = some (.int .u8 (zs.getD i 0))) : U8At W (some a) (zs.take len) := by
  by_cases h0 : zs.take len = []
  · exact .inl h0
  · have hp : 0 < zs.length := by
      rcases Nat.eq_zero_or_pos zs.length with h | h
      · exact absurd (by simp [List.eq_nil_of_length_eq_zero h]) h0
      · exact h
    refine .inr ⟨a, rfl, ?_, fun i c hc => ?_⟩
    · have h := block_lt_of_cell (hcell 0 hp)
      rwa [add_block] at h
    · have hc' : zs[i]? = some c := by
        rw [List.getElem?_take] at hc
        split at hc
        · exact hc
        · cases hc
      obtain ⟨hi, e⟩ := List.getElem?_eq_some_iff.1 hc'
      rw [hcell i hi, List.getD_eq_getElem?_getD, hc']; rfl
theorem u8_wf {n : Int} (h : (Lit.int .u8 n).wf = true) : 0 ≤ n ∧ n ≤ 255 := by
  simp only [Lit.wf, Bool.and_eq_true, decide_eq_true_eq] at h
  exact ⟨h.1, h.2⟩
theorem arg_u8 {t q : TypeId} {fuel : Nat} {v : Value} {x : DataW H × List MemPlace} (ht : P.underlying t = some (.slice q)) (hq : P.underlying q = some (.int .u8)) (cq : P.cellsOf q = 1)
    (h : DataW.trod enc P w base (fun _ => true) held fuel t [v] = some x) : ∃ ao cap ps, v = .slice ao (List.length ps) cap ∧ U8Arg w ao cap ps := by
  rcases open_ints ht hq cq h with ⟨h1, _⟩ | ⟨a', l', c', zs, h1, _, hl', hm', hz', hy, hcell, hsz⟩
  · simp at h1; subst h1
    exact ⟨none, 0, [], rfl, Nat.zero_le _, .inl rfl, (fun c hc => by cases hc), fun _ => rfl, Nat.le_refl _⟩
  · simp at h1; subst h1
    simp only [if_true] at hz'
    have hln : (zs.take l').length = l' := by rw [List.length_take]; omega
    exact ⟨some a', c', zs.take l', by rw [hln], by rw [hln]; omega, bytes8_of w a' l' zs hcell, fun p hp => u8_wf (hsz p (List.mem_of_mem_take hp)), (fun h => by cases h), by rw [hln]; exact hl'⟩
end
/-- a slice of texts that the code owns -/
structure OwnS (w : World) (base g n cap : Nat) (xs : List ByteArray) : Prop where
  len : xs.length = n
  own : w.ownsRow base 9 1 (.slice (some ⟨g, 0, none⟩) n cap) n (xs.map Value.string)
theorem OwnS.lt {w : World} {base g n cap : Nat} {xs : List ByteArray} (h : OwnS w base g n cap xs) : base ≤ g ∧ g < w.heap.size := h.own.lt g rfl
theorem OwnS.kept {w w' : World} {base g n cap : Nat} {xs : List ByteArray} (h : OwnS w base g n cap xs) (hB : Below w.heap.size w w') : OwnS w' base g n cap xs := ⟨h.len, ownsRow_below h.own hB⟩
theorem OwnS.cell {w : World} {base g n cap : Nat} {xs : List ByteArray} (h : OwnS w base g n cap xs) (k : Nat) (c : ByteArray) (hc : xs[k]? = some c) : w.cell? ⟨g, k, none⟩ = some (.string c) ∧ w.frozen? ⟨g, k, none⟩ = false := by
  obtain ⟨hk, _⟩ := List.getElem?_eq_some_iff.1 hc
  have hl := h.len
  exact ⟨(h.own.cellAt k (by omega)).trans (by rw [List.getElem?_map, hc]; rfl), h.own.frozenAt k⟩
theorem OwnS.store {w : World} {base g n cap : Nat} {xs : List ByteArray} (h : OwnS w base g n cap xs) (k : Nat) (c : ByteArray) : OwnS (w.setCell ⟨g, k, none⟩ (.string c)) base g n cap (xs.set k c) ∧ w.grownBy (w.setCell ⟨g, k, none⟩ (.string c)) (some g) := by
  have hs := h.own.stored k (.string c)
  refine ⟨⟨by simp [h.len], ?_⟩, hs.2⟩
  rw [List.map_set]; exact hs.1
theorem OwnS.row {w : World} {base g n cap : Nat} {xs : List ByteArray} (h : OwnS w base g n cap xs) : StrRow w (some ⟨g, 0, none⟩) xs := ownB_strs h.own
theorem swap_set (zs : List ByteArray) (j k : Nat) (x y : ByteArray) (hj : zs[j]? = some x) (hk : zs[k]? = some y) : ((zs.set j y).set k x).Perm zs := swap_perm zs j k x y hj hk
end Go.Proofs.Ytcdpadchbphggaa
