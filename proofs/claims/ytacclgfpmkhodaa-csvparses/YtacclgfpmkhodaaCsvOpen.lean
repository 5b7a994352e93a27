/-
  A slice of slices of strings among the arguments, as records; what is known of records that are printed.
  Conditions: none.
-/
import Derived.Deep.Slices
import Derived.SliceStrings
import Derived.Test.YtacclgfpmkhodaaCsvWorks
import Derived.Test.YtacclgfpmkhodaaCsvRef2
namespace Go.Proofs.Ytacclgfpmkhodaa
open Go.ChangeShapes Go.WideShapes Go.Deep

theorem row_of (W : World) (a : Addr) (len : Nat) (ss : List ByteArray) (hcell : ∀ i, i < ss.length → W.cell? (a.add i) = some (.string (ss.getD i ByteArray.empty))) : StrRow W (some a) (ss.take len) := by
  by_cases h0 : ss.take len = []
  · exact .inl h0
  · have hp : 0 < ss.length := by
      rcases Nat.eq_zero_or_pos ss.length with h | h
      · exact absurd (by simp [List.eq_nil_of_length_eq_zero h]) h0
      · exact h
    refine .inr ⟨a, rfl, ?_, fun i c hc => ?_⟩
    · have h := block_lt_of_cell (hcell 0 hp)
      rwa [add_block] at h
    · have hc' : ss[i]? = some c := by
        rw [List.getElem?_take] at hc
        split at hc
        · exact hc
        · cases hc
      obtain ⟨hi, e⟩ := List.getElem?_eq_some_iff.1 hc'
      rw [hcell i hi, List.getD_eq_getElem?_getD, hc']; rfl
/-- the cells of records are Go strings, the records Go slices -/
def sized (rs : List (List ByteArray)) : Prop := ∀ r ∈ rs, r.length ≤ maxLen ∧ ∀ c ∈ r, c.size ≤ maxLen
theorem open_rows {H : Type} {enc : TypeId × Value → H} {P : Program} {w : World} {base : Nat} {held : Bool} {t e q : TypeId} {fuel : Nat} {ao : Option Addr} {len cap : Nat} {x : DataW H × List MemPlace} (ht : P.underlying t = some (.slice e)) (he : P.underlying e = some (.slice q)) (hq : P.underlying q = some .string)
    (ce : P.cellsOf e = 1) (cq : P.cellsOf q = 1) (h : DataW.trod enc P w base (fun _ => true) held fuel t [.slice ao len cap] = some x) :
    ∃ rs : List (List ByteArray), rs.length = len ∧ rs.length ≤ maxLen ∧ RowsAt w ao rs ∧ sized rs ∧ (ao = none → cap = 0) := by
  rcases open_slice1 ht ce h with ⟨hcs, _⟩ | ⟨a, len', cap', m, n, V, D, Pl, hcs, hb, hl, hm, hmm, _, hx⟩
  · simp at hcs; obtain ⟨rfl, rfl, rfl⟩ := hcs
    exact ⟨[], rfl, Nat.zero_le _, .inl rfl, (fun r hr => by cases hr), fun _ => rfl⟩
  · simp at hcs; obtain ⟨rfl, rfl, rfl⟩ := hcs
    simp only [if_true] at hmm
    have each : ∀ i, i < len → ∃ y : Option Addr × Nat × List ByteArray, V i = .slice y.1 y.2.2.length y.2.1 ∧ StrRow w y.1 y.2.2 ∧ y.2.2.length ≤ maxLen ∧ ∀ c ∈ y.2.2, c.size ≤ maxLen := by
      intro i hi
      rcases open_strings he hq cq (hx i (by omega)).2 with ⟨h1, _⟩ | ⟨a', l', c', ss, h1, _, hl', hm', hz, _, hcell, hsz⟩
      · simp at h1
        exact ⟨(none, 0, []), h1, .inl rfl, Nat.zero_le _, fun c hc => by cases hc⟩
      · simp at h1
        simp only [if_true] at hz
        have hln : (ss.take l').length = l' := by rw [List.length_take]; omega
        exact ⟨(some a', c', ss.take l'), by simp only; rw [hln]; exact h1, row_of w a' l' ss hcell, by simp only; rw [hln]; omega, fun c hc => hsz c (List.mem_of_mem_take hc)⟩
    obtain ⟨y, hy⟩ := choose_lt each
    refine ⟨(List.range len).map fun i => (y i).2.2, by simp, by simp; omega, ?_, ?_, fun h => by cases h⟩
    · by_cases h0 : len = 0
      · subst h0; exact .inl rfl
      · refine .inr ⟨a, rfl, ?_, fun i r hr => ?_⟩
        · have := block_lt_of_cell (hx 0 (by omega)).1
          rwa [add_block] at this
        · rw [List.getElem?_map] at hr
          obtain ⟨j, hj, rfl⟩ := Option.map_eq_some_iff.1 hr
          obtain ⟨hi, rfl⟩ := List.getElem?_eq_some_iff.1 hj
          simp only [List.length_range] at hi
          simp only [List.getElem_range]
          obtain ⟨h1, h2, _⟩ := hy i hi
          exact ⟨(y i).1, (y i).2.1, by rw [(hx i (by omega)).1, h1], h2⟩
    · intro r hr
      obtain ⟨i, hi, rfl⟩ := List.mem_map.1 hr
      obtain ⟨_, _, h3, h4⟩ := hy i (List.mem_range.1 hi)
      exact ⟨h3, h4⟩

/-! ### what is known of records that are printed -/
theorem u8_of (d : Int) (h : (Lit.int .u8 d).wf = true) : ∃ u : UInt8, d = (u.toNat : Int) := by
  simp [Lit.wf] at h
  have e1 : IntKind.u8.min = 0 := by decide
  have e2 : IntKind.u8.max = 255 := by decide
  refine ⟨UInt8.ofNat d.toNat, ?_⟩
  rw [UInt8.toNat_ofNat']
  omega
theorem print_ok (rs : List (List ByteArray)) (d : UInt8) (crlf : Bool) (t : List UInt8) (h : printL rs d crlf = (t, 0)) :
    goodI (d.toNat : Int) = true ∧ t = textL (recsOf rs) d crlf ∧ t.length ≤ 4194304 ∧ rs.length ≤ 2048 ∧ (∀ r ∈ recsOf rs, fine r) ∧ ¬ huge rs := by
  unfold printL at h
  by_cases h1 : goodI (d.toNat : Int) = false
  · rw [if_pos h1] at h; simp at h
  rw [if_neg h1] at h
  by_cases h2 : rs.any bareRow = true
  · rw [if_pos h2] at h; simp at h
  rw [if_neg h2] at h
  by_cases h3 : tooLarge rs = true
  · rw [if_pos h3] at h; simp at h
  rw [if_neg h3] at h
  by_cases h4 : 4194304 < (textL (recsOf rs) d crlf).length
  · rw [if_pos h4] at h; simp at h
  rw [if_neg h4] at h
  simp only [Prod.mk.injEq] at h
  obtain ⟨rfl, _⟩ := h
  have h5 : tooLarge rs = false := by simpa using h3
  unfold tooLarge at h5
  simp only [Bool.or_eq_false_iff, decide_eq_false_iff_not] at h5
  have h6 : ∀ r ∈ rs, ¬ 128 < r.length ∧ ∀ c ∈ r, ¬ 4096 < c.size := fun r hr => by
    have := List.any_eq_false.1 h5.2 r hr
    simp only [largeRow, Bool.or_eq_true, decide_eq_true_eq, List.any_eq_true, not_or, not_exists, not_and] at this
    exact ⟨this.1, fun c hc => this.2 c hc⟩
  refine ⟨by simpa using h1, rfl, by omega, by omega, fun r hr => ?_, fun ⟨r, hr, c, hc, h7⟩ => (h6 r hr).2 c hc h7⟩
  obtain ⟨x, hx, rfl⟩ := List.mem_map.1 hr
  refine ⟨fun e => ?_, by have := (h6 x hx).1; simp [bytesOf]; omega, fun c hc => ?_⟩
  · have h8 : x = [] := (by simpa [bytesOf] using e)
    exact h2 (List.any_eq_true.2 ⟨x, hx, by simp [bareRow, h8]⟩)
  · obtain ⟨b, hb, rfl⟩ := List.mem_map.1 hc
    have := (h6 x hx).2 b hb
    rw [ba_size]; omega
theorem print_err (rs : List (List ByteArray)) (d : UInt8) (crlf : Bool) (t : List UInt8) (e : Nat) (h : printL rs d crlf = (t, e)) (he : e ≠ 0) : t = [] := by
  unfold printL at h
  split at h
  · simp only [Prod.mk.injEq] at h; exact h.1.symm
  · split at h
    · simp only [Prod.mk.injEq] at h; exact h.1.symm
    · split at h
      · simp only [Prod.mk.injEq] at h; exact h.1.symm
      · split at h
        · simp only [Prod.mk.injEq] at h; exact h.1.symm
        · simp only [Prod.mk.injEq] at h; exact absurd h.2.symm he
theorem few_bounds (rs : List (List ByteArray)) (h : fewQ rs) (hs : sized rs) : rs.length ≤ 1099511627776 ∧ (∀ r ∈ rs, r.length ≤ 1099511627776 ∧ ∀ c ∈ r, c.size ≤ 9223372036854775807) ∧ ∀ r ∈ rs, r.length ≤ 1099511627776 := by
  have h1 := h.1
  refine ⟨by omega, fun r hr => ⟨by have := h.2.1 r hr; omega, fun c hc => ?_⟩, fun r hr => by have := h.2.1 r hr; omega⟩
  have := (hs r hr).2 c hc
  unfold maxLen at this; omega
end Go.Proofs.Ytacclgfpmkhodaa
