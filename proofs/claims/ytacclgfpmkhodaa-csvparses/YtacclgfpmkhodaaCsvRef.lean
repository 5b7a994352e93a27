/-
  What the document's reference answers: whether records are few and short; the text of records.
  Conditions: slices and texts are Go values (no longer than the model lets them be); the text of records: of records that are few and short (the statements ask about these alone).
-/
import Derived.WalkKit
import Derived.WalkMore
import Derived.Lib.Hide
import Derived.Test.YtacclgfpmkhodaaProg
import Derived.Test.YtacclgfpmkhodaaCsvMath2
namespace Go.Proofs.Ytacclgfpmkhodaa
open Go.RowKit Go.Shelf

def rowTot (r : List ByteArray) : Nat := (r.map fun c => c.size + 1).sum
def tot (rs : List (List ByteArray)) : Nat := (rs.map rowTot).sum
def fewP (rs : List (List ByteArray)) : Prop := rs.length ≤ 60 ∧ (∀ r ∈ rs, r.length ≤ 60) ∧ tot rs ≤ 8000
theorem rowTot_next (r : List ByteArray) (j : Nat) (c : ByteArray) (h : r[j]? = some c) : rowTot (r.take (j + 1)) = rowTot (r.take j) + (c.size + 1) := by
  obtain ⟨hk, e⟩ := List.getElem?_eq_some_iff.1 h
  rw [List.take_succ_eq_append_getElem hk, e]; simp [rowTot]
theorem tot_next (rs : List (List ByteArray)) (k : Nat) (r : List ByteArray) (h : rs[k]? = some r) : tot (rs.take (k + 1)) = tot (rs.take k) + rowTot r := by
  obtain ⟨hk, e⟩ := List.getElem?_eq_some_iff.1 h
  rw [List.take_succ_eq_append_getElem hk, e]; simp [tot]
theorem cell_tot (r : List ByteArray) (c : ByteArray) (h : c ∈ r) : c.size + 1 ≤ rowTot r := by
  induction r with
  | nil => cases h
  | cons x r ih =>
    simp only [rowTot, List.map_cons, List.sum_cons] at ih ⊢
    rcases List.mem_cons.1 h with rfl | h
    · omega
    · have := ih h; omega
theorem row_tot (rs : List (List ByteArray)) (r : List ByteArray) (h : r ∈ rs) : rowTot r ≤ tot rs := by
  induction rs with
  | nil => cases h
  | cons x rs ih =>
    simp only [tot, List.map_cons, List.sum_cons] at ih ⊢
    rcases List.mem_cons.1 h with rfl | h
    · omega
    · have := ih h; omega
theorem few_small (rs : List (List ByteArray)) (h : fewP rs) : ∀ r ∈ rs, r.length ≤ 60 ∧ ∀ c ∈ r, c.size ≤ 8000 := fun r hr => ⟨h.2.1 r hr, fun c hc => by
  have h1 := cell_tot r c hc
  have h2 := row_tot rs r hr
  have := h.2.2
  omega⟩
theorem sumL_le (d : UInt8) (r : List ByteArray) : sumL d (bytesOf r) + r.length ≤ 3 * rowTot r := by
  induction r with
  | nil => simp [sumL, bytesOf, rowTot]
  | cons c r ih =>
    have h1 := putL_le c.data.toList (d.toNat : Int)
    rw [ba_size] at h1
    simp only [sumL, bytesOf, rowTot, List.map_cons, List.sum_cons, List.length_cons] at ih ⊢
    omega
theorem text_le (d : UInt8) (crlf : Bool) (rs : List (List ByteArray)) : (textL (recsOf rs) d crlf).length ≤ 3 * tot rs + 2 * rs.length := by
  induction rs with
  | nil => simp [textL, recsOf]
  | cons r rs ih =>
    have h1 := write_sum d crlf (bytesOf r)
    have h2 := sumL_le d r
    have h3 : (brkL crlf).length ≤ 2 := by cases crlf <;> decide
    have h4 : (bytesOf r).length = r.length := by simp [bytesOf]
    have h5 : textL (recsOf (r :: rs)) d crlf = writeL (bytesOf r) d crlf ++ textL (recsOf rs) d crlf := by simp [textL, recsOf]
    have h6 : tot (r :: rs) = rowTot r + tot rs := by simp [tot]
    rw [h5, List.length_append, h1, h6, List.length_cons, h4]
    omega
theorem few_text (d : UInt8) (crlf : Bool) (rs : List (List ByteArray)) (h : fewP rs) : (textL (recsOf rs) d crlf).length ≤ 24120 := by
  have h1 := text_le d crlf rs
  have h2 := h.1
  have h3 := h.2.2
  omega

/-- a cell that no record may have -/
def huge (rs : List (List ByteArray)) : Prop := ∃ r ∈ rs, ∃ c ∈ r, 4096 < c.size
/-- what is known when so few are told: a cell of more than 2^62 bytes can hide in a sum that runs over -/
def fewQ (rs : List (List ByteArray)) : Prop := rs.length ≤ 60 ∧ (∀ r ∈ rs, r.length ≤ 60) ∧ (tot rs ≤ 8000 ∨ huge rs)

end Go.Proofs.Ytacclgfpmkhodaa
