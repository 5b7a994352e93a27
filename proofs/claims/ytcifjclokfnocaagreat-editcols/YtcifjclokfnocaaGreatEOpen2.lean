/-
  What an argument of a statement is, read out of the memory that it lies in: slices of numbers, edits.
  Conditions: none beyond the form of claims.
-/
import Derived.WalkKit
import Derived.ProofKit
import Derived.OpenShut
import Derived.ShutString
import Derived.SliceStrings
import Derived.SizedLaws
import Derived.ChangeSlices
import Derived.ChangeArms
import Derived.Lib.SmallJoins
import Derived.Test.YtcifjclokfnocaaGreatProg
import Derived.Test.YtcifjclokfnocaaGreatEEach
import Derived.Test.YtcifjclokfnocaaGreatTOpen
namespace Go.Proofs.YtcifjclokfnocaaGreat
open Go.RowKit Go.Shelf Go.ChangeShapes Go.WideShapes Go.Deep Go.Lib
set_option linter.unusedVariables false

/-- a slice of numbers that came in -/
structure IntsArg (w : World) (ao : Option Addr) (cap : Nat) (ps : List Int) : Prop where
  len : ps.length ≤ maxLen
  ints : IntsAt w ao ps
  wf : ∀ p ∈ ps, (Lit.int .i64 p).wf = true
  nil : ao = none → cap = 0
  cap : ps.length ≤ cap
section
variable {H : Type} {enc : TypeId × Value → H} {P : Program} {w : World} {base : Nat} {held : Bool}
theorem ints_of (W : World) (a : Addr) (len : Nat) (zs : List Int) (hcell : ∀ i, i < zs.length → W.cell? (a.add i) = some (.int .i64 (zs.getD i 0))) : IntsAt W (some a) (zs.take len) := by
  by_cases h0 : zs.take len = []
  · exact .inl h0
  · have hp : 0 < zs.length := by
      rcases Nat.eq_zero_or_pos zs.length with h | h
      · exact absurd (by simp [List.eq_nil_of_length_eq_zero h]) h0
      · exact h
    refine .inr ⟨a, rfl, ?_, fun i c hc => ?_⟩
    · have h := block_lt_of_cell (hcell 0 hp)
      rwa [add_block] at h
    · have hc' : zs[i]? = some c := by
        rw [List.getElem?_take] at hc
        split at hc
        · exact hc
        · cases hc
      obtain ⟨hi, e⟩ := List.getElem?_eq_some_iff.1 hc'
      rw [hcell i hi, List.getD_eq_getElem?_getD, hc']; rfl
theorem arg_ints {t q : TypeId} {fuel : Nat} {v : Value} {x : DataW H × List MemPlace} (ht : P.underlying t = some (.slice q)) (hq : P.underlying q = some (.int .i64)) (cq : P.cellsOf q = 1)
    (h : DataW.trod enc P w base (fun _ => true) held fuel t [v] = some x) : ∃ ao cap ps, v = .slice ao (List.length ps) cap ∧ IntsArg w ao cap ps := by
  rcases open_ints ht hq cq h with ⟨h1, _⟩ | ⟨a', l', c', zs, h1, _, hl', hm', hz', hy, hcell, hsz⟩
  · simp at h1; subst h1
    exact ⟨none, 0, [], rfl, Nat.zero_le _, .inl rfl, (fun c hc => by cases hc), fun _ => rfl, Nat.le_refl _⟩
  · simp at h1; subst h1
    simp only [if_true] at hz'
    have hln : (zs.take l').length = l' := by rw [List.length_take]; omega
    exact ⟨some a', c', zs.take l', by rw [hln], by rw [hln]; omega, ints_of w a' l' zs hcell, fun p hp => hsz p (List.mem_of_mem_take hp), (fun h => by cases h), by rw [hln]; exact hl'⟩
theorem array6 {α : Type} {cs : Array α} (h : cs.size = 6) : ∃ c0 c1 c2 c3 c4 c5, cs = #[c0, c1, c2, c3, c4, c5] := by
  obtain ⟨l⟩ := cs
  match l, h with
  | [c0, c1, c2, c3, c4, c5], _ => exact ⟨c0, c1, c2, c3, c4, c5, rfl⟩
theorem list6 {α : Type} {l : List α} (h : l.length = 6) : ∃ c0 c1 c2 c3 c4 c5, l = [c0, c1, c2, c3, c4, c5] := by
  match l, h with
  | [c0, c1, c2, c3, c4, c5], _ => exact ⟨c0, c1, c2, c3, c4, c5, rfl⟩
/-- an edit that came in -/
structure EditArg (w : World) (kd a b : Int) (tx : ByteArray) (co : Option Addr) (cc : Nat) (cells : List ByteArray) (po : Option Addr) (pc : Nat) (ps : List Int) : Prop where
  wk : (Lit.int .i64 kd).wf = true
  wa : (Lit.int .i64 a).wf = true
  wb : (Lit.int .i64 b).wf = true
  text : tx.size ≤ 140737488351232
  cells : StrArg w co cc cells
  cols : IntsArg w po pc ps
theorem arg_edit {r : Reach} {b0 : Nat} {t : TypeId} {f0 f1 f2 f3 f4 f5 : Field} {q q2 : TypeId} {v : Value} {d : DataW H} {p : List MemPlace} (hs : P.underlying t = some (.struct #[f0, f1, f2, f3, f4, f5])) (hone : oneCellFields P #[f0, f1, f2, f3, f4, f5] = true) (hC : P.cellsOf t = 6)
    (h0 : P.underlying f0.type = some (.int .i64)) (h1 : P.underlying f1.type = some (.int .i64)) (h2 : P.underlying f2.type = some (.int .i64)) (h3 : P.underlying f3.type = some .string) (h4 : P.underlying f4.type = some (.slice q)) (hq : P.underlying q = some .string) (cq : P.cellsOf q = 1)
    (h5 : P.underlying f5.type = some (.slice q2)) (hq2 : P.underlying q2 = some (.int .i64)) (cq2 : P.cellsOf q2 = 1)
    (hv : Value.okWide P w r b0 t v) (h : DataW.Trod enc P w base (fun _ => true) held t v d p) (hw : ∀ n ∈ d.weights P t, n ≤ reachBytes) :
    ∃ kd a b tx co cc cells po pc ps, v = .agg #[.int .i64 kd, .int .i64 a, .int .i64 b, .string tx, .slice co (List.length cells) cc, .slice po (List.length ps) pc] ∧ EditArg w kd a b tx co cc cells po pc ps := by
  obtain ⟨cs, rfl, hsz⟩ := okWide_struct hs hv
  obtain ⟨c0, c1, c2, c3, c4, c5, rfl⟩ := array6 (hsz.trans hC)
  obtain ⟨fuel, hf⟩ := h
  obtain ⟨xs, n, _, hx, hl, hlen, hfs⟩ := DataW.trod_struct hs hf
  obtain ⟨y0, y1, y2, y3, y4, y5, rfl⟩ := list6 hlen
  obtain ⟨o0, k0⟩ := hone_of hone 0 f0 rfl
  obtain ⟨o1, k1⟩ := hone_of hone 1 f1 rfl
  obtain ⟨o2, k2⟩ := hone_of hone 2 f2 rfl
  obtain ⟨o3, k3⟩ := hone_of hone 3 f3 rfl
  obtain ⟨o4, k4⟩ := hone_of hone 4 f4 rfl
  obtain ⟨o5, k5⟩ := hone_of hone 5 f5 rfl
  have t0 := hfs 0 f0 rfl
  have t1 := hfs 1 f1 rfl
  have t2 := hfs 2 f2 rfl
  have t3 := hfs 3 f3 rfl
  have t4 := hfs 4 f4 rfl
  have t5 := hfs 5 f5 rfl
  simp only [Prod.mk.injEq] at hx
  have hd : d = .agg [y0.1, y1.1, y2.1, y3.1, y4.1, y5.1] := by simpa using hx.1
  subst hd
  have e : (DataW.agg [y0.1, y1.1, y2.1, y3.1, y4.1, y5.1] : DataW H).weights P t = DataW.weightsEach P [f0.type, f1.type, f2.type, f3.type, f4.type, f5.type] [y0.1, y1.1, y2.1, y3.1, y4.1, y5.1] := by rw [DataW.weights]; simp only [hs]; rfl
  rw [e] at hw
  have t0' : DataW.trod enc P w base (fun _ => true) held n f0.type [c0] = some y0 := by simpa [Value.cells, o0, k0] using t0
  have t1' : DataW.trod enc P w base (fun _ => true) held n f1.type [c1] = some y1 := by simpa [Value.cells, o1, k1] using t1
  have t2' : DataW.trod enc P w base (fun _ => true) held n f2.type [c2] = some y2 := by simpa [Value.cells, o2, k2] using t2
  have t3' : DataW.trod enc P w base (fun _ => true) held n f3.type [c3] = some y3 := by simpa [Value.cells, o3, k3] using t3
  have t4' : DataW.trod enc P w base (fun _ => true) held n f4.type [c4] = some y4 := by simpa [Value.cells, o4, k4] using t4
  have t5' : DataW.trod enc P w base (fun _ => true) held n f5.type [c5] = some y5 := by simpa [Value.cells, o5, k5] using t5
  obtain ⟨n0, e0, _, w0⟩ := DataW.trod_int h0 t0'
  obtain ⟨n1, e1, _, w1⟩ := DataW.trod_int h1 t1'
  obtain ⟨n2, e2, _, w2⟩ := DataW.trod_int h2 t2'
  obtain ⟨s3, e3, x3, w3⟩ := DataW.trod_string h3 t3'
  obtain ⟨co, cc, cells, rfl, A⟩ := arg_strs h4 hq cq t4' (fun n hn => hw n (DataW.weights_mem_each (j := 4) rfl rfl n hn))
  obtain ⟨po, pc, ps, rfl, B⟩ := arg_ints h5 hq2 cq2 t5'
  simp only [List.cons.injEq, and_true] at e0 e1 e2 e3
  subst e0 e1 e2 e3
  refine ⟨n0, n1, n2, s3, co, cc, cells, po, pc, ps, rfl, w0, w1, w2, ?_, A, B⟩
  have hm : s3.data.toList.length ∈ (y3.1).weights P f3.type := by rw [x3, DataW.weights]; exact List.mem_singleton.2 rfl
  have := hw _ (DataW.weights_mem_each (j := 3) rfl rfl _ hm)
  rw [ba_size] at this
  exact this
end
end Go.Proofs.YtcifjclokfnocaaGreat
