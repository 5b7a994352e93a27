/-
  What the document's reference answers for the text of records.
  Conditions: records that are few and short (the statements ask about these alone).
-/
import Derived.WalkKit
import Derived.WalkMore
import Derived.Lib.Hide
import Derived.Test.YtacclgfpmkhodaaProg
import Derived.Test.YtacclgfpmkhodaaCsvRef
namespace Go.Proofs.Ytacclgfpmkhodaa
open Go.RowKit Go.Shelf

theorem few_row (r : List ByteArray) (h : r.length ≤ 60) : decide (128 < r.length) = false := decide_eq_false (by omega)
theorem any_next (r : List ByteArray) (j : Nat) (c : ByteArray) (h : r[j]? = some c) : ((r.take (j + 1)).any fun c => decide (4096 < c.size)) = (((r.take j).any fun c => decide (4096 < c.size)) || decide (4096 < c.size)) := by
  obtain ⟨hk, e⟩ := List.getElem?_eq_some_iff.1 h
  rw [List.take_succ_eq_append_getElem hk, e]; simp
theorem any_rows (rs : List (List ByteArray)) (k : Nat) (r : List ByteArray) (h : rs[k]? = some r) (p : List ByteArray → Bool) : (rs.take (k + 1)).any p = ((rs.take k).any p || p r) := by
  obtain ⟨hk, e⟩ := List.getElem?_eq_some_iff.1 h
  rw [List.take_succ_eq_append_getElem hk, e]; simp
theorem print_bare (rs : List (List ByteArray)) (d : UInt8) (crlf : Bool) (hg : goodI (d.toNat : Int) = true) (k : Nat) (r : List ByteArray) (h : rs[k]? = some r) (h0 : r.length = 0) : printL rs d crlf = ([], 1) := by
  unfold printL; rw [if_neg (by simp [hg]), if_pos]
  exact List.any_eq_true.2 ⟨r, List.mem_of_getElem? h, by simp [bareRow, h0]⟩

end Go.Proofs.Ytacclgfpmkhodaa
