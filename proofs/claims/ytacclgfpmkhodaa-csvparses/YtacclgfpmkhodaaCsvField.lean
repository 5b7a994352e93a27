/-
  A field that must fit in and may not be too large; whether there is room for one more record; the function that tells the records.
  Conditions: the text is at most 2^40 bytes long (the statements ask about far shorter ones).
-/
import Derived.WalkKit
import Derived.WalkMore
import Derived.Lib.Hide
import Derived.Test.YtacclgfpmkhodaaProg
import Derived.Test.YtacclgfpmkhodaaCsvPrint
import Derived.Test.YtacclgfpmkhodaaCsvRange
namespace Go.Proofs.Ytacclgfpmkhodaa
open Go.RowKit Go.Shelf

theorem field_cell_le (l : List UInt8) (a : Int) (d : Int) : (fieldOut l a d).1.length ≤ l.length := by
  obtain ⟨t, n, k, e, h⟩ : ∃ t n k e, fieldOut l a d = (t, n, k, e) := ⟨_, _, _, _, rfl⟩
  rw [h]
  by_cases he : e = 0
  · subst he
    obtain ⟨i, j, _, _, _, _, _, _, h1 | h1, _⟩ := field_good l a d t n k h
    · have := congrArg List.length h1; simp at this; simp only; omega
    · have := congrArg List.length h1; simp [quoted_length] at this; simp only; omega
  · rw [(field_err l a d t n k e h he).1]; simp

set_option maxHeartbeats 1000000 in
theorem csvField_any (s : ByteArray) (a : Nat) (d : Int) (fits : Bool) (w : World) (hs : s.size ≤ 1099511627776) (ha : a ≤ s.size) :
    Calls Try.prog 28 #[.string s, .int .i64 a, .int .u8 d, .bool fits] w fun e w' => e = .returned (fieldV (cellOut s.data.toList a d fits)) ∧ Below w.heap.size w w' := by
  cases fits with
  | false =>
    have E := Lib.hid (show cellOut s.data.toList a d false = ([], (a : Int), 0, 7) from rfl)
    go_enter Try.func28, Try.ntmps28
    go_wp2_with fail
    refine bodyPost_ret (results_tmp4 rfl _ _ _) rfl ?_
    exact ⟨ret_field (by rw [E.out]) (by rw [E.out]) (by rw [E.out]; rfl) (by rw [E.out]; rfl), Below.refl _ _⟩
  | true =>
    have C := Lib.hid (fun w => field_any s (a : Int) d w hs (by omega) (by omega))
    have hle := field_cell_le s.data.toList (a : Int) d
    rw [ba_size] at hle
    have E := Lib.hid (show cellOut s.data.toList a d true = if 4096 < (fieldOut s.data.toList (a : Int) d).1.length then ([], (a : Int), 0, 7) else fieldOut s.data.toList (a : Int) d from rfl)
    generalize cellOut s.data.toList a d true = y at E ⊢
    obtain ⟨x, Hx⟩ : ∃ x, Hid (x = fieldOut s.data.toList (a : Int) d) := ⟨_, Lib.hid rfl⟩
    rw [← Hx.out] at C E hle
    clear Hx
    obtain ⟨t, n, k, e⟩ := x
    simp only [fieldV] at C
    simp only at hle
    obtain ⟨T, HT⟩ : ∃ T : ByteArray, Hid (T = ⟨t.toArray⟩) := ⟨_, Lib.hid rfl⟩
    have hTs : T.size = t.length := by rw [HT.out]; exact ba_mk_size t
    rw [← HT.out] at C
    have L := Lib.hid (fun W => largeS_any T 0 4096 W (by omega))
    by_cases hb : decide (4096 < T.size + 0) = true
    · have E2 := Lib.hid (show y = ([], (a : Int), 0, 7) by rw [E.out, if_pos]; have := of_decide_eq_true hb; simp only; omega)
      rw [hb] at L
      clear hb hTs hle
      go_enter Try.func28, Try.ntmps28
      go_wp2_with fail
      refine (C.out _).mono ?_; rintro e1 w1 ⟨rfl, b1⟩
      go_wp2_with fail
      refine (L.out _).mono ?_; rintro e2 w2 ⟨rfl, rfl⟩
      go_wp2_with fail
      refine bodyPost_ret (results_tmp4 rfl _ _ _) rfl ?_
      exact ⟨ret_field (by rw [E2.out]) (by rw [E2.out]) (by rw [E2.out]; rfl) (by rw [E2.out]; rfl), b1⟩
    · have hb' : decide (4096 < T.size + 0) = false := by simpa using hb
      have E2 := Lib.hid (show y = (t, n, k, e) by rw [E.out, if_neg]; have := of_decide_eq_false hb'; simp only; omega)
      rw [hb'] at L
      clear hb hb' hTs hle
      go_enter Try.func28, Try.ntmps28
      go_wp2_with fail
      refine (C.out _).mono ?_; rintro e1 w1 ⟨rfl, b1⟩
      go_wp2_with fail
      refine (L.out _).mono ?_; rintro e2 w2 ⟨rfl, rfl⟩
      go_wp2_with fail
      refine bodyPost_ret (results_tmp4 rfl _ _ _) rfl ?_
      exact ⟨ret_field (by rw [E2.out, HT.out]) (by rw [E2.out]) (by rw [E2.out]) (by rw [E2.out]), b1⟩

theorem notb (n m : Nat) : (!decide (m < n + 1)) = decide (n < m) := by
  by_cases h : n < m
  · rw [decide_eq_true h, decide_eq_false (by omega)]; rfl
  · rw [decide_eq_false h, decide_eq_true (by omega)]; rfl
theorem room_any (Bl : Nat) (ao : Option Addr) (n cap : Nat) (w : World) (hn : n ≤ 1099511627776) (hc : w.cell? ⟨Bl, 0, none⟩ = some (.slice ao n cap)) :
    Calls Try.prog 12 #[.pointer (some ⟨Bl, 0, none⟩)] w fun e w' => e = .returned (.bool (decide (n < 2048))) ∧ w = w' := by
  have C := Lib.hid (fun W => largeL_any ao n cap 1 2048 W hn (by decide))
  have E := Lib.hid (notb n 2048)
  go_enter Try.func12, Try.ntmps12
  go_wp2_with fail
  refine (C.out _).mono ?_; rintro e1 w1 ⟨rfl, rfl⟩
  go_wp2_with fail
  go_ret
  exact ⟨by rw [← E.out]; rfl, rfl⟩

def ptr (B : Nat) : Value := .pointer (some ⟨B, 0, none⟩)
theorem three_new (w : World) (o p q : Obj) : (((w.alloc o).alloc p).alloc q).heap.size = w.heap.size + 3 ∧ (((w.alloc o).alloc p).alloc q).heap[w.heap.size]? = some o ∧ (((w.alloc o).alloc p).alloc q).heap[w.heap.size + 1]? = some p ∧
    (((w.alloc o).alloc p).alloc q).heap[w.heap.size + 2]? = some q ∧ Below w.heap.size w (((w.alloc o).alloc p).alloc q) := by
  obtain ⟨h1, h2, h3⟩ := two_new w o p
  refine ⟨by simp, ?_, ?_, ?_, (two_below w o p).alloc (by simp; omega) q⟩
  · rw [Below.heap_alloc _ _ _ (by rw [h1]; omega)]; exact h2
  · rw [Below.heap_alloc _ _ _ (by rw [h1]; omega)]; exact h3
  · have := World.alloc_heap_new ((w.alloc o).alloc p) q
    rwa [h1] at this
set_option maxHeartbeats 1000000 in
theorem records_any (B : Nat) (s : ByteArray) (d : Int) (r : Value) (hr : r = .func (.func 12) #[] #[ptr B]) (w : World) :
    Calls Try.prog 14 #[.string s, .int .u8 d, r] w fun e w' => e = .returned (.func (.func 26) #[] #[ptr w.heap.size, ptr (w.heap.size + 2), ptr (w.heap.size + 1)]) ∧
      w'.heap.size = w.heap.size + 3 ∧ w'.cell? ⟨w.heap.size, 0, none⟩ = some (.string s) ∧ w'.cell? ⟨w.heap.size + 1, 0, none⟩ = some (.int .u8 d) ∧ w'.cell? ⟨w.heap.size + 2, 0, none⟩ = some r ∧ Below w.heap.size w w' := by
  subst hr
  go_enter Try.func14, Try.ntmps14
  go_wp2_with fail
  go_ret
  obtain ⟨h1, h2, h3, h4, h5⟩ := three_new w (.cells #[.string s] 9) (.cells #[.int .u8 d] 5) (.cells #[.func (.func 12) #[] #[ptr B]] 22)
  exact ⟨rfl, h1, (cell_of_box_l h2).1, (cell_of_box_l h3).1, (cell_of_box_l h4).1, h5⟩
end Go.Proofs.Ytacclgfpmkhodaa
