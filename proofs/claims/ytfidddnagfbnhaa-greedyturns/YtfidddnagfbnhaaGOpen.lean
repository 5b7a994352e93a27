/-
  What an argument of a statement is, read out of the memory that it lies in: slices of choices, a choice by itself.
  Conditions: none beyond the form of claims.
-/
import Derived.WalkKit
import Derived.ProofKit
import Derived.OpenShut
import Derived.SizedLaws
import Derived.ChangeSlices
import Derived.ChangeArms
import Derived.Deep.SlicePairs
import Derived.Lib.SmallJoins
import Derived.Test.YtfidddnagfbnhaaProg
import Derived.Test.YtfidddnagfbnhaaGBase
namespace Go.Proofs.Ytfidddnagfbnhaa
open Go.RowKit Go.Shelf Go.ChangeShapes Go.WideShapes Go.Deep Go.Lib
set_option linter.unusedVariables false

/-- a slice of choices that came in -/
structure TripsArg (w : World) (ao : Option Addr) (cap : Nat) (l : TL) : Prop where
  len : l.length ≤ maxLen
  trips : TripAt w ao l
  ok : okT3 l
  nil : ao = none → cap = 0
  cap : l.length ≤ cap
/-- a choice that came in -/
structure TripArg (c : T3) : Prop where
  a : (Lit.int .i64 c.1).wf = true
  b : (Lit.int .i64 c.2.1).wf = true
  s : (Lit.int .i64 c.2.2).wf = true
section
variable {H : Type} {enc : TypeId × Value → H} {P : Program} {w : World} {base : Nat} {held : Bool}
theorem arg_trips {t e : TypeId} {f0 f1 f2 : Field} {fuel : Nat} {v : Value} {x : DataW H × List MemPlace} (ht : P.underlying t = some (.slice e)) (he : P.underlying e = some (.struct #[f0, f1, f2]))
    (ce : P.cellsOf e = 3) (o0 : f0.offset = 0) (o1 : f1.offset = 1) (o2 : f2.offset = 2) (c0 : P.cellsOf f0.type = 1) (c1 : P.cellsOf f1.type = 1) (c2 : P.cellsOf f2.type = 1) (u0 : P.underlying f0.type = some (.int .i64)) (u1 : P.underlying f1.type = some (.int .i64)) (u2 : P.underlying f2.type = some (.int .i64))
    (h : DataW.trod enc P w base (fun _ => true) held fuel t [v] = some x) : ∃ ao cap l, v = .slice ao (List.length l) cap ∧ TripsArg w ao cap l := by
  rcases open_slice ht h with ⟨h1, _⟩ | ⟨a, len, cap, m, n, D, Pl, h1, hb, hl, hm, hmm, _, hx⟩
  · simp at h1; subst h1
    exact ⟨none, 0, [], rfl, Nat.zero_le _, .inl rfl, (fun p hp => by cases hp), fun _ => rfl, Nat.le_refl _⟩
  · simp at h1; subst h1
    simp only [if_true] at hmm
    subst hmm
    have each : ∀ i, i < len → ∃ q : Int × Int × Int, (w.cell? (a.add (i * 3)) = some (.int .i64 q.1) ∧ w.cell? (a.add (i * 3 + 1)) = some (.int .i64 q.2.1) ∧ w.cell? (a.add (i * 3 + 2)) = some (.int .i64 q.2.2)) ∧ (Lit.int .i64 q.1).wf = true ∧ (Lit.int .i64 q.2.1).wf = true ∧ (Lit.int .i64 q.2.2).wf = true := fun i hi => by
      obtain ⟨cs', k1, k2⟩ := hx i (by omega)
      rw [ce] at k1
      obtain ⟨_, hlen, hcell⟩ := World.cells?_some k1
      obtain ⟨xs, k, _, _, _, hxl, hf⟩ := DataW.trod_struct he k2
      match xs, hxl, cs', hlen with
      | [y0, y1, y2], _, [v0, v1, v2], _ =>
        have g0 := hf 0 f0 rfl
        have g1 := hf 1 f1 rfl
        have g2 := hf 2 f2 rfl
        simp [o0, o1, o2, c0, c1, c2] at g0 g1 g2
        have e0 := hcell 0 (by omega)
        have e1 := hcell 1 (by omega)
        have e2 := hcell 2 (by omega)
        rw [add_add] at e0 e1 e2
        obtain ⟨n0, q0, _, w0⟩ := DataW.trod_int u0 g0
        obtain ⟨n1, q1, _, w1⟩ := DataW.trod_int u1 g1
        obtain ⟨n2, q2, _, w2⟩ := DataW.trod_int u2 g2
        simp only [List.cons.injEq, and_true] at q0 q1 q2
        subst q0 q1 q2
        exact ⟨(n0, n1, n2), ⟨by simpa using e0, by simpa using e1, by simpa using e2⟩, w0, w1, w2⟩
    obtain ⟨q, hq⟩ := choose_lt each
    have hln : ((List.range len).map q).length = len := by simp
    have hat : ∀ (i : Nat) p, ((List.range len).map q)[i]? = some p → i < len ∧ p = q i := fun i p hp => by
      rw [List.getElem?_map] at hp
      obtain ⟨j, hj, rfl⟩ := Option.map_eq_some_iff.1 hp
      obtain ⟨hi, hij⟩ := List.getElem?_eq_some_iff.1 hj
      simp only [List.length_range] at hi
      rw [List.getElem_range] at hij
      subst hij
      exact ⟨hi, rfl⟩
    refine ⟨some a, m, (List.range len).map q, by rw [hln], by rw [hln]; omega, ?_, fun p hp => ?_, (fun h => by cases h), by rw [hln]; exact hl⟩
    · by_cases h0 : len = 0
      · subst h0; exact .inl rfl
      · obtain ⟨⟨g0, _⟩, _⟩ := hq 0 (by omega)
        have hs : a.spot = none := by
          cases hsp : a.spot with
          | none => rfl
          | some r =>
            simp [Addr.add, World.cell?, hsp] at g0
            split at g0 <;> cases g0
        obtain ⟨b, o, s⟩ := a
        simp at hs; subst hs
        have e : ∀ j, (⟨b, o, none⟩ : Addr).add j = ⟨b, o + j, none⟩ := fun j => by unfold Addr.add; split <;> simp_all
        refine .inr ⟨b, o, rfl, by have := block_lt_of_cell g0; rwa [add_block] at this, fun i p hp => ?_⟩
        obtain ⟨hi, rfl⟩ := hat i p hp
        obtain ⟨⟨k0, k1, k2⟩, _⟩ := hq i hi
        rw [e] at k0 k1 k2
        exact ⟨k0, by rw [Nat.add_assoc]; exact k1, by rw [Nat.add_assoc]; exact k2⟩
    · obtain ⟨i, hi, rfl⟩ := List.mem_map.1 hp
      exact (hq i (List.mem_range.1 hi)).2
theorem arg_trip {r : Reach} {b0 : Nat} {t : TypeId} {f0 f1 f2 : Field} {v : Value} {d : DataW H} {p : List MemPlace} (hs : P.underlying t = some (.struct #[f0, f1, f2])) (hone : oneCellFields P #[f0, f1, f2] = true) (hC : P.cellsOf t = 3)
    (u0 : P.underlying f0.type = some (.int .i64)) (u1 : P.underlying f1.type = some (.int .i64)) (u2 : P.underlying f2.type = some (.int .i64))
    (hv : Value.okWide P w r b0 t v) (h : DataW.Trod enc P w base (fun _ => true) held t v d p) :
    ∃ a b s, v = .agg #[.int .i64 a, .int .i64 b, .int .i64 s] ∧ TripArg (a, b, s) := by
  obtain ⟨v0, v1, v2, y0, y1, y2, n, rfl, rfl, rfl, k0, k1, k2⟩ := Go.Joins.open_agg3 hs hone hC hv h
  obtain ⟨n0, q0, _, w0⟩ := DataW.trod_int u0 k0
  obtain ⟨n1, q1, _, w1⟩ := DataW.trod_int u1 k1
  obtain ⟨n2, q2, _, w2⟩ := DataW.trod_int u2 k2
  simp only [List.cons.injEq, and_true] at q0 q1 q2
  subst q0 q1 q2
  exact ⟨n0, n1, n2, rfl, w0, w1, w2⟩
end
end Go.Proofs.Ytfidddnagfbnhaa
