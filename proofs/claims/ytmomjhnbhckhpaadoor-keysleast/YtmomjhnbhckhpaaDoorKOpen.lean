/-
  What an argument of a statement is, read out of the memory that it lies in: slices of numbers, slices of tables.
  Conditions: none beyond the form of claims.
-/
import Derived.WalkKit
import Derived.ProofKit
import Derived.OpenShut
import Derived.SizedLaws
import Derived.ChangeSlices
import Derived.ChangeArms
import Derived.Deep.SlicePairs
import Derived.Lib.SmallJoins
import Derived.Test.YtmomjhnbhckhpaaDoorProg
import Derived.Test.YtmomjhnbhckhpaaDoorTOpen
import Derived.Test.YtmomjhnbhckhpaaDoorKFew
namespace Go.Proofs.YtmomjhnbhckhpaaDoor
open Go.RowKit Go.Shelf Go.ChangeShapes Go.WideShapes Go.Deep Go.Lib
set_option linter.unusedVariables false

/-- a slice of numbers that came in -/
structure IntsArg (w : World) (ao : Option Addr) (cap : Nat) (ps : List Int) : Prop where
  len : ps.length ≤ maxLen
  ints : IntsAt w ao ps
  wf : ∀ p ∈ ps, (Lit.int .i64 p).wf = true
  nil : ao = none → cap = 0
  cap : ps.length ≤ cap
/-- a slice of tables that came in -/
structure TabsArg (w : World) (ao : Option Addr) (cap : Nat) (l : List Tab) : Prop where
  len : l.length ≤ maxLen
  tabs : TabsAt w ao l
  ok : TabsGo l
  nil : ao = none → cap = 0
  cap : l.length ≤ cap
section
variable {H : Type} {enc : TypeId × Value → H} {P : Program} {w : World} {base : Nat} {held : Bool}
theorem ints_of (W : World) (a : Addr) (len : Nat) (zs : List Int) (hcell : ∀ i, i < zs.length → W.cell? (a.add i) = some (.int .i64 (zs.getD i 0))) : IntsAt W (some a) (zs.take len) := by
  by_cases h0 : zs.take len = []
  · exact .inl h0
  · have hp : 0 < zs.length := by
      rcases Nat.eq_zero_or_pos zs.length with h | h
      · exact absurd (by simp [List.eq_nil_of_length_eq_zero h]) h0
      · exact h
    refine .inr ⟨a, rfl, ?_, fun i c hc => ?_⟩
    · have h := block_lt_of_cell (hcell 0 hp)
      rwa [add_block] at h
    · have hc' : zs[i]? = some c := by
        rw [List.getElem?_take] at hc
        split at hc
        · exact hc
        · cases hc
      obtain ⟨hi, e⟩ := List.getElem?_eq_some_iff.1 hc'
      rw [hcell i hi, List.getD_eq_getElem?_getD, hc']; rfl
theorem arg_ints {t q : TypeId} {fuel : Nat} {v : Value} {x : DataW H × List MemPlace} (ht : P.underlying t = some (.slice q)) (hq : P.underlying q = some (.int .i64)) (cq : P.cellsOf q = 1)
    (h : DataW.trod enc P w base (fun _ => true) held fuel t [v] = some x) : ∃ ao cap ps, v = .slice ao (List.length ps) cap ∧ IntsArg w ao cap ps := by
  rcases open_ints ht hq cq h with ⟨h1, _⟩ | ⟨a', l', c', zs, h1, _, hl', hm', hz', hy, hcell, hsz⟩
  · simp at h1; subst h1
    exact ⟨none, 0, [], rfl, Nat.zero_le _, .inl rfl, (fun c hc => by cases hc), fun _ => rfl, Nat.le_refl _⟩
  · simp at h1; subst h1
    simp only [if_true] at hz'
    have hln : (zs.take l').length = l' := by rw [List.length_take]; omega
    exact ⟨some a', c', zs.take l', by rw [hln], by rw [hln]; omega, ints_of w a' l' zs hcell, fun p hp => hsz p (List.mem_of_mem_take hp), (fun h => by cases h), by rw [hln]; exact hl'⟩
theorem arg_tabs {t e : TypeId} {f0 f1 : Field} {q : TypeId} {fuel : Nat} {v : Value} {x : DataW H × List MemPlace} (ht : P.underlying t = some (.slice e)) (he : P.underlying e = some (.struct #[f0, f1]))
    (ce : P.cellsOf e = 2) (o0 : f0.offset = 0) (o1 : f1.offset = 1) (c0 : P.cellsOf f0.type = 1) (c1 : P.cellsOf f1.type = 1) (h0 : P.underlying f0.type = some (.slice q)) (h1' : P.underlying f1.type = some (.slice f0.type)) (hq : P.underlying q = some .string) (cq : P.cellsOf q = 1)
    (h : DataW.trod enc P w base (fun _ => true) held fuel t [v] = some x) (hw : ∀ n ∈ x.1.weights P t, n ≤ reachBytes) : ∃ ao cap l, v = .slice ao (List.length l) cap ∧ TabsArg w ao cap l := by
  rcases open_slice ht h with ⟨h1, _⟩ | ⟨a, len, cap, m, n, D, Pl, h1, hb, hl, hm, hmm, hy, hx⟩
  · simp at h1; subst h1
    exact ⟨none, 0, [], rfl, Nat.zero_le _, .inl rfl, (fun p hp => by cases hp), fun _ => rfl, Nat.le_refl _⟩
  · simp at h1; subst h1
    simp only [if_true] at hmm
    subst hmm
    have each : ∀ i, i < len → ∃ z : (Option Addr × Nat × Option Addr × Nat) × Tab, (w.cell? (a.add (i * 2)) = some (.slice z.1.1 z.2.1.length z.1.2.1) ∧ w.cell? (a.add (i * 2 + 1)) = some (.slice z.1.2.2.1 z.2.2.length z.1.2.2.2)) ∧ StrArg w z.1.1 z.1.2.1 z.2.1 ∧ RowsArg w z.1.2.2.1 z.1.2.2.2 z.2.2 := fun i hi => by
      obtain ⟨cs', k1, k2⟩ := hx i (by omega)
      rw [ce] at k1
      obtain ⟨_, hlen, hcell⟩ := World.cells?_some k1
      obtain ⟨xs, k, k3, k4, k5, hxl, hf⟩ := DataW.trod_struct he k2
      match xs, hxl, cs', hlen with
      | [y0, y1], _, [v0, v1], _ =>
        have g0 := hf 0 f0 rfl
        have g1 := hf 1 f1 rfl
        simp [o0, o1, c0, c1] at g0 g1
        have e0 := hcell 0 (by omega)
        have e1 := hcell 1 (by omega)
        rw [add_add] at e0 e1
        have hD : D i = DataW.agg [y0.1, y1.1] := (Prod.mk.inj k4).1
        have hwe : ∀ n ∈ DataW.weightsEach P [f0.type, f1.type] [y0.1, y1.1], n ≤ reachBytes := fun n hn => hw n (by
          have ew : (DataW.agg [y0.1, y1.1] : DataW H).weights P e = DataW.weightsEach P [f0.type, f1.type] [y0.1, y1.1] := by rw [DataW.weights]; simp only [he]; rfl
          rw [hy]
          exact weights_elem ht (List.mem_map.2 ⟨i, List.mem_range.2 hi, rfl⟩) (by rw [hD, ew]; exact hn))
        obtain ⟨ho, hc, hd, rfl, A⟩ := arg_strs h0 hq cq g0 (fun n hn => hwe n (DataW.weights_mem_each (j := 0) rfl rfl n hn))
        obtain ⟨ro, rc, rs, rfl, B⟩ := arg_rows h1' h0 hq c0 cq g1 (fun n hn => hwe n (DataW.weights_mem_each (j := 1) rfl rfl n hn))
        exact ⟨((ho, hc, ro, rc), (hd, rs)), ⟨by simpa using e0, by simpa using e1⟩, A, B⟩
    obtain ⟨z, hz⟩ := choose_lt each
    have hln : ((List.range len).map fun i => (z i).2).length = len := by simp
    have hat : ∀ (i : Nat) p, ((List.range len).map fun i => (z i).2)[i]? = some p → i < len ∧ p = (z i).2 := fun i p hp => by
      rw [List.getElem?_map] at hp
      obtain ⟨j, hj, rfl⟩ := Option.map_eq_some_iff.1 hp
      obtain ⟨hi, hij⟩ := List.getElem?_eq_some_iff.1 hj
      simp only [List.length_range] at hi
      rw [List.getElem_range] at hij
      subst hij
      exact ⟨hi, rfl⟩
    refine ⟨some a, m, (List.range len).map fun i => (z i).2, by rw [hln], by rw [hln]; omega, ?_, fun p hp => ?_, (fun h => by cases h), by rw [hln]; exact hl⟩
    · by_cases hl0 : len = 0
      · subst hl0; exact .inl rfl
      · obtain ⟨⟨g0, _⟩, _⟩ := hz 0 (by omega)
        have hs : a.spot = none := by
          cases hsp : a.spot with
          | none => rfl
          | some r =>
            simp [Addr.add, World.cell?, hsp] at g0
            split at g0 <;> cases g0
        obtain ⟨b, o, s⟩ := a
        simp at hs; subst hs
        have e : ∀ j, (⟨b, o, none⟩ : Addr).add j = ⟨b, o + j, none⟩ := fun j => by unfold Addr.add; split <;> simp_all
        refine .inr ⟨b, o, rfl, by have := block_lt_of_cell g0; rwa [add_block] at this, fun i p hp => ?_⟩
        obtain ⟨hi, rfl⟩ := hat i p hp
        obtain ⟨⟨k0, k1⟩, A, B⟩ := hz i hi
        rw [e] at k0 k1
        exact ⟨_, _, _, _, k0, by rw [Nat.add_assoc]; exact k1, A.row, B.rows⟩
    · obtain ⟨i, hip⟩ := List.mem_iff_getElem?.1 hp
      obtain ⟨hi, rfl⟩ := hat i p hip
      obtain ⟨_, A, B⟩ := hz i hi
      exact ⟨⟨A.len, A.size⟩, B.len, B.each⟩
end
end Go.Proofs.YtmomjhnbhckhpaaDoor
