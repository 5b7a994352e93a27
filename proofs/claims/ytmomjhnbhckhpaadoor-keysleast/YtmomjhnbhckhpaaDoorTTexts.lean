/-
  All names and cells of a table are told one by one; how many bytes they have together, and whether one is too long.
  Conditions: tables of at most 2^40 names and rows of at most 2^40 cells; all texts have together at most 2^60 bytes.
-/
import Derived.WalkKit
import Derived.Lib.Hide
import Derived.Test.YtmomjhnbhckhpaaDoorProg
import Derived.Test.YtmomjhnbhckhpaaDoorTBase
import Derived.Test.YtmomjhnbhckhpaaDoorCsvRange
namespace Go.Proofs.YtmomjhnbhckhpaaDoor
open Go.RowKit Go.Shelf

def KeepsT (n0 B : Nat) (W W' : World) : Prop := ∀ k, k < n0 ∨ k = B → W'.heap[k]? = W.heap[k]?
theorem cell_same {W W' : World} (A : Addr) (h : W'.heap[A.block]? = W.heap[A.block]?) : W'.cell? A = W.cell? A := by unfold World.cell?; rw [h]
/-- a table in the world -/
abbrev TabO (ho : Option Addr) (hn hc : Nat) (ro : Option Addr) (rn rc : Nat) : Obj := .cells #[.slice ho hn hc, .slice ro rn rc] 25
def allT (hd : List ByteArray) (rs : List (List ByteArray)) : List ByteArray := hd ++ rs.flatten
theorem pre_head (hd : List ByteArray) (rs : List (List ByteArray)) (k : Nat) (x : ByteArray) (h : hd[k]? = some x) : hd.take (k + 1) = hd.take k ++ [x] ∧ hd.take k ++ [x] <+: allT hd rs := by
  obtain ⟨hk, e⟩ := List.getElem?_eq_some_iff.1 h
  have e1 : hd.take (k + 1) = hd.take k ++ [x] := by rw [List.take_succ_eq_append_getElem hk, e]
  refine ⟨e1, ?_⟩
  rw [← e1, allT]
  exact (List.take_prefix _ _).trans (List.prefix_append _ _)
theorem pre_row (hd : List ByteArray) (rs : List (List ByteArray)) (k j : Nat) (r : List ByteArray) (x : ByteArray) (hr : rs[k]? = some r) (h : r[j]? = some x) :
    hd ++ (rs.take k).flatten ++ r.take (j + 1) = hd ++ (rs.take k).flatten ++ r.take j ++ [x] ∧ hd ++ (rs.take k).flatten ++ r.take j ++ [x] <+: allT hd rs := by
  obtain ⟨hk, e⟩ := List.getElem?_eq_some_iff.1 hr
  obtain ⟨hj, e'⟩ := List.getElem?_eq_some_iff.1 h
  have e1 : hd ++ (rs.take k).flatten ++ r.take (j + 1) = hd ++ (rs.take k).flatten ++ r.take j ++ [x] := by rw [List.take_succ_eq_append_getElem hj, e']; simp
  refine ⟨e1, ?_⟩
  rw [← e1, allT]
  have e2 : rs.flatten = (rs.take k).flatten ++ (r ++ (rs.drop (k + 1)).flatten) := by
    conv => lhs; rw [← List.take_append_drop k rs]
    rw [List.flatten_append, List.drop_eq_getElem_cons hk, e]; simp
  rw [e2, List.append_assoc]
  refine List.prefix_append_right_inj _ |>.2 (List.prefix_append_right_inj _ |>.2 ?_)
  exact (List.take_prefix _ _).trans (List.prefix_append _ _)
theorem row_end (hd : List ByteArray) (rs : List (List ByteArray)) (k : Nat) (r : List ByteArray) (hr : rs[k]? = some r) : hd ++ (rs.take k).flatten ++ r.take r.length = hd ++ (rs.take (k + 1)).flatten := by
  obtain ⟨hk, e⟩ := List.getElem?_eq_some_iff.1 hr
  rw [List.take_succ_eq_append_getElem hk, e]; simp

end Go.Proofs.YtmomjhnbhckhpaaDoor
