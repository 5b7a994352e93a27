/-
  What an argument of a statement is, read out of the memory that it lies in: slices of strings, records, tables.
  Conditions: none beyond the form of claims.
-/
import Derived.WalkKit
import Derived.ProofKit
import Derived.OpenShut
import Derived.ShutString
import Derived.SliceStrings
import Derived.SizedLaws
import Derived.Lib.SmallJoins
import Derived.Test.YtmomjhnbhckhpaaDoorProg
import Derived.Test.YtmomjhnbhckhpaaDoorTBase
namespace Go.Proofs.YtmomjhnbhckhpaaDoor
open Go.RowKit Go.Shelf Go.ChangeShapes Go.WideShapes Go.Deep Go.Lib
set_option linter.unusedVariables false

/-- a slice of strings that came in -/
structure StrArg (w : World) (ao : Option Addr) (cap : Nat) (xs : List ByteArray) : Prop where
  len : xs.length ≤ maxLen
  row : StrRow w ao xs
  size : ∀ c ∈ xs, c.size ≤ 140737488351232
  nil : ao = none → cap = 0
  cap : xs.length ≤ cap
/-- records that came in -/
structure RowsArg (w : World) (ao : Option Addr) (cap : Nat) (rs : List (List ByteArray)) : Prop where
  len : rs.length ≤ maxLen
  rows : RowsAt w ao rs
  each : ∀ r ∈ rs, r.length ≤ maxLen ∧ ∀ c ∈ r, c.size ≤ 140737488351232
  nil : ao = none → cap = 0
  cap : rs.length ≤ cap

section
variable {H : Type} {enc : TypeId × Value → H} {P : Program} {w : World} {base : Nat} {held : Bool}
theorem slice_is {t e : TypeId} {fuel : Nat} {v : Value} {x : DataW H × List MemPlace} (ht : P.underlying t = some (.slice e)) (ce : P.cellsOf e = 1) (h : DataW.trod enc P w base (fun _ => true) held fuel t [v] = some x) : ∃ ao len cap, v = .slice ao len cap ∧ (ao = none → cap = 0) ∧ len ≤ cap := by
  rcases open_slice1 ht ce h with ⟨hcs, _⟩ | ⟨a, len', cap', m, n, V, D, Pl, hcs, hb, hl, _⟩
  · simp at hcs; exact ⟨_, _, _, hcs, fun _ => rfl, Nat.le_refl _⟩
  · simp at hcs; exact ⟨_, _, _, hcs, (fun h => by cases h), hl⟩
theorem arg_strs {t q : TypeId} {fuel : Nat} {v : Value} {x : DataW H × List MemPlace} (ht : P.underlying t = some (.slice q)) (hq : P.underlying q = some .string) (cq : P.cellsOf q = 1)
    (h : DataW.trod enc P w base (fun _ => true) held fuel t [v] = some x) (hw : ∀ n ∈ x.1.weights P t, n ≤ reachBytes) : ∃ ao cap xs, v = .slice ao xs.length cap ∧ StrArg w ao cap xs := by
  obtain ⟨ao, len, cap, rfl, hz, hc⟩ := slice_is ht cq h
  rcases open_strings ht hq cq h with ⟨h1, _⟩ | ⟨a', l', c', ss, h1, _, hl', hm', hz', hy, hcell, hsz⟩
  · simp at h1; obtain ⟨rfl, rfl, rfl⟩ := h1
    exact ⟨none, 0, [], rfl, Nat.zero_le _, .inl rfl, (fun c hc => by cases hc), fun _ => rfl, Nat.le_refl _⟩
  · simp at h1; obtain ⟨rfl, rfl, rfl⟩ := h1
    simp only [if_true] at hz'
    have hln : (ss.take len).length = len := by rw [List.length_take]; omega
    refine ⟨some a', cap, ss.take len, by rw [hln], by rw [hln]; omega, row_of w a' len ss hcell, fun c hc' => ?_, hz, by rw [hln]; exact hc⟩
    have hmem : c.data.toList.length ∈ (DataW.lit (H := H) (.string c.data.toList)).weights P q := by rw [DataW.weights]; exact List.mem_singleton.2 rfl
    have h2 : c.data.toList.length ∈ x.1.weights P t := by
      rw [hy]
      exact weights_elem ht (List.mem_map.2 ⟨c, hc', rfl⟩) hmem
    have h3 := hw _ h2
    rw [ba_size] at h3
    exact h3
theorem arg_rows {t e q : TypeId} {fuel : Nat} {v : Value} {x : DataW H × List MemPlace} (ht : P.underlying t = some (.slice e)) (he : P.underlying e = some (.slice q)) (hq : P.underlying q = some .string) (ce : P.cellsOf e = 1) (cq : P.cellsOf q = 1)
    (h : DataW.trod enc P w base (fun _ => true) held fuel t [v] = some x) (hw : ∀ n ∈ x.1.weights P t, n ≤ reachBytes) : ∃ ao cap rs, v = .slice ao rs.length cap ∧ RowsArg w ao cap rs := by
  obtain ⟨ao, len, cap, rfl, hz, hc⟩ := slice_is ht ce h
  obtain ⟨rs, rfl, h2, h3, h4, h5⟩ := open_reach ht he hq ce cq h hw
  exact ⟨ao, cap, rs, rfl, h2, h3, fun r hr => ⟨(h4 r hr).1, h5 r hr⟩, hz, hc⟩
theorem arg_table {r : Reach} {b0 : Nat} {t : TypeId} {f0 f1 : Field} {q : TypeId} {v : Value} {d : DataW H} {p : List MemPlace} (hs : P.underlying t = some (.struct #[f0, f1])) (hone : oneCellFields P #[f0, f1] = true) (hC : P.cellsOf t = 2)
    (h0 : P.underlying f0.type = some (.slice q)) (h1 : P.underlying f1.type = some (.slice f0.type)) (hq : P.underlying q = some .string) (cq : P.cellsOf q = 1) (cf : P.cellsOf f0.type = 1)
    (hv : Value.okWide P w r b0 t v) (h : DataW.Trod enc P w base (fun _ => true) held t v d p) (hw : ∀ n ∈ d.weights P t, n ≤ reachBytes) :
    ∃ ho hc hd ro rc rs, v = .agg #[.slice ho (List.length hd) hc, .slice ro (List.length rs) rc] ∧ StrArg w ho hc hd ∧ RowsArg w ro rc rs := by
  obtain ⟨v0, v1, y0, y1, n, rfl, rfl, rfl, k0, k1⟩ := Go.Joins.open_agg2 hs hone hC hv h
  have e : (DataW.agg [y0.1, y1.1] : DataW H).weights P t = DataW.weightsEach P [f0.type, f1.type] [y0.1, y1.1] := by rw [DataW.weights]; simp only [hs]; rfl
  rw [e] at hw
  obtain ⟨ho, hc, hd, rfl, A⟩ := arg_strs h0 hq cq k0 (fun n hn => hw n (DataW.weights_mem_each (j := 0) rfl rfl n hn))
  obtain ⟨ro, rc, rs, rfl, B⟩ := arg_rows h1 h0 hq cf cq k1 (fun n hn => hw n (DataW.weights_mem_each (j := 1) rfl rfl n hn))
  exact ⟨ho, hc, hd, ro, rc, rs, rfl, A, B⟩
end
end Go.Proofs.YtmomjhnbhckhpaaDoor
