/-
  Whether an edit is so small that it is looked at.
  Conditions: texts of at most 2^47 bytes (the form of claims knows no longer ones).
-/
import Derived.WalkKit
import Derived.WalkMore
import Derived.Lib.Hide
import Derived.Test.YtcifjclokfnocaaGreatProg
import Derived.Test.YtcifjclokfnocaaGreatEOpen
namespace Go.Proofs.YtcifjclokfnocaaGreat
open Go.RowKit Go.Shelf
set_option linter.unusedVariables false

/-- an edit that is small -/
structure FewE (tx : ByteArray) (cells : List ByteArray) (ps : List Int) : Prop where
  text : tx.size ≤ 4000
  len : cells.length ≤ 61
  size : ∀ c ∈ cells, c.size ≤ 4000
  cols : ps.length ≤ 60
theorem sum_mem {l : List ByteArray} {c : ByteArray} (h : c ∈ l) : c.size ≤ sumT l := by
  obtain ⟨a, b, rfl⟩ := List.append_of_mem h
  simp [sumT]; omega
theorem sum_take {l : List ByteArray} {k : Nat} {c : ByteArray} (h : l[k]? = some c) : sumT (l.take (k + 1)) = sumT (l.take k) + c.size := by
  obtain ⟨hk, e⟩ := List.getElem?_eq_some_iff.1 h
  rw [List.take_succ_eq_append_getElem hk, e]; simp [sumT]
theorem FewE.ti {tx : ByteArray} {cells : List ByteArray} {ps : List Int} (h : FewE tx cells ps) : tiR cells := ⟨by have := h.len; omega, fun c hc => by have := h.size c hc; omega⟩

set_option maxRecDepth 100000 in
set_option maxHeartbeats 4000000 in
theorem few5_any (kd a b : Int) (tx : ByteArray) (co : Option Addr) (cells : List ByteArray) (cc : Nat) (po : Option Addr) (ps : List Int) (pc : Nat) (w : World) (ht : tx.size ≤ 140737488351232) (hn : cells.length ≤ maxLen) (hm : ps.length ≤ maxLen) (hs : ∀ c ∈ cells, c.size ≤ 140737488351232) (hC : StrRow w co cells) :
    Calls Tryz.prog 6 #[.agg #[.int .i64 kd, .int .i64 a, .int .i64 b, .string tx, .slice co cells.length cc, .slice po ps.length pc]] w fun e w' => ∃ f : Bool, e = .returned (.bool f) ∧ (f = true → FewE tx cells ps) ∧ Below w.heap.size w w' := by
  obtain ⟨W, HW⟩ : ∃ W, Hid (W = w.alloc (.cells #[.int .i64 kd, .int .i64 a, .int .i64 b, .string tx, .slice co cells.length cc, .slice po ps.length pc] 28)) := ⟨_, Lib.hid rfl⟩
  have hB : Below w.heap.size w W := by rw [HW.out]; exact one_below _ _
  have hN : W.heap[w.heap.size]? = some (.cells #[.int .i64 kd, .int .i64 a, .int .i64 b, .string tx, .slice co cells.length cc, .slice po ps.length pc] 28 (0, 0)) := by rw [HW.out]; exact World.alloc_heap_new w _
  have c3 : W.cell? ⟨w.heap.size, 3, none⟩ = some (.string tx) := (Lib.cell_of_heap hN 3).trans rfl
  have c4 : W.cell? ⟨w.heap.size, 4, none⟩ = some (.slice co cells.length cc) := (Lib.cell_of_heap hN 4).trans rfl
  have c5 : W.cell? ⟨w.heap.size, 5, none⟩ = some (.slice po ps.length pc) := (Lib.cell_of_heap hN 5).trans rfl
  have HB := Lib.hid hB
  have HC := Lib.hid (hC.kept hB)
  have HS := Lib.hid hs
  unfold maxLen at hn hm
  clear hB hN hC hs
  go_enter Tryz.func6, Tryz.ntmps6
  go_wp2_with fail
  rw [← HW.out]
  go_loopw [3, 4] (fun n i wr => ∃ k t : Nat, k ≤ cells.length ∧ k ≤ 61 ∧ n = .int .i64 t ∧ i = .int .i64 k ∧ wr = W ∧ Hid (t = tx.size + sumT (cells.take k) ∧ t ≤ (k + 1) * 140737488351232)) (fun _ i _ => cells.length - (intOf i).toNat)
  case atStart => exact ⟨0, tx.size, Nat.zero_le _, Nat.zero_le _, rfl, rfl, rfl, Lib.hid ⟨by simp [sumT], by omega⟩⟩
  case round =>
    obtain ⟨k, t, hk, hk2, rfl, rfl, hww, HT⟩ := hrel
    subst hww
    by_cases hlt : k < cells.length
    · by_cases h60 : k ≤ 60
      · obtain ⟨x, hx⟩ : ∃ x, cells[k]? = some x := ⟨_, List.getElem?_eq_getElem hlt⟩
        have hxs := HS.out x (List.mem_of_getElem? hx)
        have HT' : Hid (t + x.size = tx.size + sumT (cells.take (k + 1)) ∧ t + x.size ≤ (k + 1 + 1) * 140737488351232) := Lib.hid ⟨by rw [sum_take hx, HT.out.1]; omega, by have := HT.out.2; omega⟩
        rcases HC.out with h0 | ⟨A, rfl, hA, hcell⟩
        · rw [h0] at hlt; simp at hlt
        have hcx := hcell k x hx
        have htb : t ≤ 8725724278030336 := by have := HT.out.2; omega
        clear hcell hx
        go_wp2_with fail
        go_roundw
        case rel => exact ⟨k + 1, t + x.size, by omega, by omega, by go_num, by go_num, by first | rfl | trivial, HT'⟩
        case measure => simp [intOf]; omega
      · go_wp2_with fail
        go_ret
        exact ⟨false, rfl, (fun h => by cases h), HB.out⟩
    · obtain rfl : k = cells.length := by omega
      have ht1 := HT.out.1
      rw [List.take_length] at ht1
      have HT1 := Lib.hid ht1
      clear ht1
      by_cases h4 : t ≤ 4000
      · have hd4 : decide ((t : Int) ≤ 4000) = true := decide_eq_true (by omega)
        have HF : Hid (ps.length ≤ 60 → FewE tx cells ps) := Lib.hid (fun h => ⟨by have := HT1.out; omega, hk2, fun c hc => by have := HT1.out; have := sum_mem hc; omega, h⟩)
        go_wp2_with fail
        go_ret
        refine ⟨decide ((ps.length : Int) ≤ 60), rfl, fun h => HF.out (by have := of_decide_eq_true h; omega), HB.out⟩
      · have hd4 : decide ((t : Int) ≤ 4000) = false := decide_eq_false (by omega)
        go_wp2_with fail
        go_ret
        exact ⟨false, rfl, (fun h => by cases h), HB.out⟩
end Go.Proofs.YtcifjclokfnocaaGreat
