/-
  What the program and the document's reference write for a record.
  Conditions: the record's cells are a slice of strings, at most 1000 of them, each at most 10000 bytes long (the statements ask about far fewer and shorter ones).
-/
import Derived.WalkKit
import Derived.WalkMore
import Derived.Lib.Hide
import Derived.Test.YtacclgfpmkhodaaProg
import Derived.Test.YtacclgfpmkhodaaLexWrite
namespace Go.Proofs.Ytacclgfpmkhodaa
open Go.RowKit Go.Shelf

def bytesOf (xs : List ByteArray) : List (List UInt8) := xs.map fun c => c.data.toList
/-- the cells of a slice of strings -/
def StrRow (w : World) (ao : Option Addr) (xs : List ByteArray) : Prop := xs = [] ∨ ∃ A, ao = some A ∧ A.block < w.heap.size ∧ ∀ i c, xs[i]? = some c → w.cell? (A.add i) = some (.string c)
theorem StrRow.kept {w w' : World} {ao : Option Addr} {xs : List ByteArray} (h : StrRow w ao xs) (hB : Below w.heap.size w w') : StrRow w' ao xs := by
  rcases h with h | ⟨A, h1, h2, h3⟩
  · exact .inl h
  · exact .inr ⟨A, h1, Nat.lt_of_lt_of_le h2 hB.size, fun i c hc => (hB.cell (p := A.add i) (by rw [add_block]; exact h2)).trans (h3 i c hc)⟩
theorem restL_le (d : UInt8) (r : List (List UInt8)) (h : ∀ c ∈ r, c.length ≤ 10000) : (restL d r).length ≤ 20003 * r.length := by
  induction r with
  | nil => simp [restL]
  | cons c r ih =>
    have h1 := putL_le c (d.toNat : Int)
    have h2 := h c (by simp)
    have h3 := ih (fun c hc => h c (by simp [hc]))
    simp only [restL, List.flatMap_cons, List.length_append, List.length_cons] at h3 ⊢
    omega
theorem recL_le (d : UInt8) (r : List (List UInt8)) (h : ∀ c ∈ r, c.length ≤ 10000) : (recL d r).length ≤ 20003 * r.length := by
  cases r with
  | nil => simp [recL]
  | cons c r =>
    have h1 := putL_le c (d.toNat : Int)
    have h2 := h c (by simp)
    have h3 := restL_le d r (fun c hc => h c (by simp [hc]))
    simp only [recL, List.length_append, List.length_cons]
    omega
theorem bytes_take (xs : List ByteArray) (k : Nat) (c : ByteArray) (hc : xs[k]? = some c) : bytesOf (xs.take (k + 1)) = bytesOf (xs.take k) ++ [c.data.toList] := by
  obtain ⟨hk, e⟩ := List.getElem?_eq_some_iff.1 hc
  rw [List.take_succ_eq_append_getElem hk, e]; simp [bytesOf]
theorem rec_next (d : UInt8) (xs : List ByteArray) (k : Nat) (c : ByteArray) (hc : xs[k]? = some c) :
    recL d (bytesOf (xs.take (k + 1))) = recL d (bytesOf (xs.take k)) ++ (if decide (0 < k) = true then [d] else []) ++ putL c.data.toList (d.toNat : Int) := by
  obtain ⟨hk, e⟩ := List.getElem?_eq_some_iff.1 hc
  rw [bytes_take xs k c hc, recL_snoc]
  congr 2
  cases k with
  | zero => simp [bytesOf]
  | succ k => cases xs with
    | nil => simp at hk
    | cons x y => simp [bytesOf]
theorem bytes_le (xs : List ByteArray) (k : Nat) (h : ∀ c ∈ xs, c.size ≤ 10000) : ∀ c ∈ bytesOf (xs.take k), c.length ≤ 10000 := by
  intro c hc
  simp only [bytesOf, List.mem_map] at hc
  obtain ⟨x, hx, rfl⟩ := hc
  rw [ba_size]; exact h x (List.mem_of_mem_take hx)
theorem rec_le (d : UInt8) (xs : List ByteArray) (k : Nat) (hn : xs.length ≤ 1000) (h : ∀ c ∈ xs, c.size ≤ 10000) : (recL d (bytesOf (xs.take k))).length ≤ 20003000 := by
  have h1 := recL_le d _ (bytes_le xs k h)
  have h2 : (bytesOf (xs.take k)).length ≤ 1000 := by simp [bytesOf]; omega
  omega

set_option maxHeartbeats 2000000 in
theorem each_any (B b : Nat) (d : UInt8) (ao : Option Addr) (cap : Nat) (xs : List ByteArray) (w : World) (hn : xs.length ≤ 1000) (hx : ∀ c ∈ xs, c.size ≤ 10000) (hBw : B ≤ w.heap.size)
    (hR : xs = [] ∨ ∃ A, ao = some A ∧ A.block < B ∧ ∀ i c, xs[i]? = some c → w.cell? (A.add i) = some (.string c)) (h : RecOf B b [] d false w) :
    Calls Try.prog 35 #[.slice ao xs.length cap, .func (.func 36) #[.pointer (some ⟨b, 0, none⟩)] #[]] w fun e w' => e = .returned (.tuple #[]) ∧ RecOf B b (recL d (bytesOf xs)) d (decide (0 < xs.length)) w' ∧ Below B w w' := by
  have H := Lib.hid h
  clear h
  rcases hR with rfl | ⟨A, rfl, hA, hcell⟩
  · go_enter Try.func35, Try.ntmps35
    go_wp2_with fail
    go_loopw [8] (fun i wr => i = .int .i64 0 ∧ wr = w) (fun _ _ => 0)
    case atStart => exact ⟨rfl, rfl⟩
    case round =>
      obtain ⟨rfl, rfl⟩ := hrel
      go_wp2_with fail
      go_end0
      exact ⟨rfl, H.out, Below.refl _ _⟩
  · have HC := Lib.hid hcell
    have HX := Lib.hid hx
    clear hcell hx
    go_enter Try.func35, Try.ntmps35
    go_wp2_with fail
    go_loopw [8] (fun i wr => ∃ k : Nat, k ≤ xs.length ∧ i = .int .i64 k ∧ Hid (RecOf B b (recL d (bytesOf (xs.take k))) d (decide (0 < k)) wr) ∧ Hid (Below B w wr)) (fun i _ => xs.length - (intOf i).toNat)
    case atStart => exact ⟨0, Nat.zero_le _, rfl, H, Lib.hid (Below.refl _ _)⟩
    case round =>
      obtain ⟨k, hk, rfl, HR, HB⟩ := hrel
      by_cases hlt : k < xs.length
      · have hc := HC.out k xs[k] (List.getElem?_eq_getElem hlt)
        have hc' := (HB.out.cell (p := A.add k) (by rw [add_block]; exact hA)).trans hc
        have HN := Lib.hid (rec_next d xs k xs[k] (List.getElem?_eq_getElem hlt))
        have C := Lib.hid (add_any B b _ d _ xs[k] wr HR.out (by have := rec_le d xs k hn HX.out; omega) (by have := HX.out xs[k] (List.getElem_mem hlt); omega) (Nat.le_trans hBw HB.out.size))
        clear hc
        rw [← HN.out] at C
        generalize xs[k] = x at hc' C
        go_wp2_with fail
        refine C.out.mono ?_; rintro e w1 ⟨rfl, h1, b1⟩
        have H1 := Lib.hid h1
        have B1 := Lib.hid (HB.out.trans b1)
        clear h1 b1 HR HB C HN
        go_wp2_with fail
        go_roundw
        case rel => exact ⟨k + 1, by omega, by go_num, Lib.hid (by simpa using H1.out), B1⟩
        case measure => simp [intOf]; omega
      · obtain rfl : k = xs.length := by omega
        go_wp2_with fail
        go_end0
        refine ⟨rfl, ?_, HB.out⟩
        have := HR.out
        rwa [List.take_length] at this
end Go.Proofs.Ytacclgfpmkhodaa
