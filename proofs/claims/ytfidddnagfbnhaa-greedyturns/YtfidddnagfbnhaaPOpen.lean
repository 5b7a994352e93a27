/-
  What an argument of a statement is, read out of the memory that it lies in: slices of pairs of numbers, slices of numbers.
  Conditions: none beyond the form of claims.
-/
import Derived.WalkKit
import Derived.ProofKit
import Derived.OpenShut
import Derived.SizedLaws
import Derived.ChangeSlices
import Derived.ChangeArms
import Derived.Deep.SlicePairs
import Derived.Lib.SmallJoins
import Derived.Test.YtfidddnagfbnhaaProg
import Derived.Test.YtfidddnagfbnhaaPTwice
namespace Go.Proofs.Ytfidddnagfbnhaa
open Go.RowKit Go.Shelf Go.ChangeShapes Go.WideShapes Go.Deep Go.Lib
set_option linter.unusedVariables false

/-- a slice of numbers that came in -/
structure IntsArg (w : World) (ao : Option Addr) (cap : Nat) (ps : List Int) : Prop where
  len : ps.length ≤ maxLen
  ints : IntsAt w ao ps
  wf : ∀ p ∈ ps, (Lit.int .i64 p).wf = true
  nil : ao = none → cap = 0
  cap : ps.length ≤ cap
/-- a slice of pairs that came in -/
structure PairsArg (w : World) (ao : Option Addr) (cap : Nat) (l : PL) : Prop where
  len : l.length ≤ maxLen
  pairs : PairsAt w ao l
  ok : okP l
  nil : ao = none → cap = 0
  cap : l.length ≤ cap
section
variable {H : Type} {enc : TypeId × Value → H} {P : Program} {w : World} {base : Nat} {held : Bool}
theorem ints_of (W : World) (a : Addr) (len : Nat) (zs : List Int) (hcell : ∀ i, i < zs.length → W.cell? (a.add i) = some (.int .i64 (zs.getD i 0))) : IntsAt W (some a) (zs.take len) := by
  by_cases h0 : zs.take len = []
  · exact .inl h0
  · have hp : 0 < zs.length := by
      rcases Nat.eq_zero_or_pos zs.length with h | h
      · exact absurd (by simp [List.eq_nil_of_length_eq_zero h]) h0
      · exact h
    refine .inr ⟨a, rfl, ?_, fun i c hc => ?_⟩
    · have h := block_lt_of_cell (hcell 0 hp)
      rwa [add_block] at h
    · have hc' : zs[i]? = some c := by
        rw [List.getElem?_take] at hc
        split at hc
        · exact hc
        · cases hc
      obtain ⟨hi, e⟩ := List.getElem?_eq_some_iff.1 hc'
      rw [hcell i hi, List.getD_eq_getElem?_getD, hc']; rfl
theorem arg_ints {t q : TypeId} {fuel : Nat} {v : Value} {x : DataW H × List MemPlace} (ht : P.underlying t = some (.slice q)) (hq : P.underlying q = some (.int .i64)) (cq : P.cellsOf q = 1)
    (h : DataW.trod enc P w base (fun _ => true) held fuel t [v] = some x) : ∃ ao cap ps, v = .slice ao (List.length ps) cap ∧ IntsArg w ao cap ps := by
  rcases open_ints ht hq cq h with ⟨h1, _⟩ | ⟨a', l', c', zs, h1, _, hl', hm', hz', hy, hcell, hsz⟩
  · simp at h1; subst h1
    exact ⟨none, 0, [], rfl, Nat.zero_le _, .inl rfl, (fun c hc => by cases hc), fun _ => rfl, Nat.le_refl _⟩
  · simp at h1; subst h1
    simp only [if_true] at hz'
    have hln : (zs.take l').length = l' := by rw [List.length_take]; omega
    exact ⟨some a', c', zs.take l', by rw [hln], by rw [hln]; omega, ints_of w a' l' zs hcell, fun p hp => hsz p (List.mem_of_mem_take hp), (fun h => by cases h), by rw [hln]; exact hl'⟩
theorem arg_pairs {t e : TypeId} {f0 f1 : Field} {fuel : Nat} {v : Value} {x : DataW H × List MemPlace} (ht : P.underlying t = some (.slice e)) (he : P.underlying e = some (.struct #[f0, f1]))
    (ce : P.cellsOf e = 2) (o0 : f0.offset = 0) (o1 : f1.offset = 1) (c0 : P.cellsOf f0.type = 1) (c1 : P.cellsOf f1.type = 1) (u0 : P.underlying f0.type = some (.int .i64)) (u1 : P.underlying f1.type = some (.int .i64))
    (h : DataW.trod enc P w base (fun _ => true) held fuel t [v] = some x) : ∃ ao cap l, v = .slice ao (List.length l) cap ∧ PairsArg w ao cap l := by
  rcases open_slice_pairs ht he ce o0 o1 c0 c1 h with ⟨h1, _⟩ | ⟨a, len, cap, m, n, V0, V1, D0, D1, P0, P1, h1, hb, hl, hm, hmm, _, hcell⟩
  · simp at h1; subst h1
    exact ⟨none, 0, [], rfl, Nat.zero_le _, .inl rfl, (fun p hp => by cases hp), fun _ => rfl, Nat.le_refl _⟩
  · simp at h1; subst h1
    simp only [if_true] at hmm
    subst hmm
    have each : ∀ i, i < len → ∃ q : Int × Int, w.cell? (a.add (i * 2)) = some (.int .i64 q.1) ∧ w.cell? (a.add (i * 2 + 1)) = some (.int .i64 q.2) ∧ (Lit.int .i64 q.1).wf = true ∧ (Lit.int .i64 q.2).wf = true := fun i hi => by
      obtain ⟨g0, g1, t0, t1⟩ := hcell i (by omega)
      obtain ⟨n0, e0, _, w0⟩ := DataW.trod_int u0 t0
      obtain ⟨n1, e1, _, w1⟩ := DataW.trod_int u1 t1
      simp only [List.cons.injEq, and_true] at e0 e1
      exact ⟨(n0, n1), by rw [g0, e0], by rw [g1, e1], w0, w1⟩
    obtain ⟨q, hq⟩ := choose_lt each
    have hln : ((List.range len).map q).length = len := by simp
    have hat : ∀ (i : Nat) p, ((List.range len).map q)[i]? = some p → i < len ∧ p = q i := fun i p hp => by
      rw [List.getElem?_map] at hp
      obtain ⟨j, hj, rfl⟩ := Option.map_eq_some_iff.1 hp
      obtain ⟨hi, hij⟩ := List.getElem?_eq_some_iff.1 hj
      simp only [List.length_range] at hi
      rw [List.getElem_range] at hij
      subst hij
      exact ⟨hi, rfl⟩
    refine ⟨some a, m, (List.range len).map q, by rw [hln], by rw [hln]; omega, ?_, fun p hp => ?_, (fun h => by cases h), by rw [hln]; exact hl⟩
    · by_cases h0 : len = 0
      · subst h0; exact .inl rfl
      · obtain ⟨g0, _, _, _⟩ := hq 0 (by omega)
        have hs : a.spot = none := by
          cases hsp : a.spot with
          | none => rfl
          | some r =>
            simp [Addr.add, World.cell?, hsp] at g0
            split at g0 <;> cases g0
        obtain ⟨b, o, s⟩ := a
        simp at hs; subst hs
        have e : ∀ j, (⟨b, o, none⟩ : Addr).add j = ⟨b, o + j, none⟩ := fun j => by unfold Addr.add; split <;> simp_all
        refine .inr ⟨b, o, rfl, by have := block_lt_of_cell g0; rwa [add_block] at this, fun i p hp => ?_⟩
        obtain ⟨hi, rfl⟩ := hat i p hp
        obtain ⟨k0, k1, _, _⟩ := hq i hi
        rw [e] at k0 k1
        exact ⟨k0, by rw [Nat.add_assoc]; exact k1⟩
    · obtain ⟨i, hi, rfl⟩ := List.mem_map.1 hp
      obtain ⟨_, _, k2, k3⟩ := hq i (List.mem_range.1 hi)
      exact ⟨k2, k3⟩
end
end Go.Proofs.Ytfidddnagfbnhaa
