/-
  What each of the program's tests for what stops a field answers, and the rows of them.
  Conditions: the text is at most 2^40 bytes long (the statements ask about far shorter ones).
-/
import Derived.WalkKit
import Derived.WalkMore
import Derived.RegionTactic
import Derived.ChangeAlike
import Derived.Lib.Hide
import Derived.Test.YtacclgfpmkhodaaProg
import Derived.Test.YtacclgfpmkhodaaLexRef2
namespace Go.Proofs.Ytacclgfpmkhodaa
open Go.RowKit Go.Shelf

def endV (n k e : Int) (b : Bool) : Value := .tuple #[.agg #[.int .i64 n, .int .i64 k, .int .i64 e], .bool b]

set_option maxHeartbeats 1000000 in
theorem test1 (k : Nat) (Bs : Nat) (s : ByteArray) (w : World) (hB : Bs < w.heap.size) (hc : w.cell? ⟨Bs, 0, none⟩ = some (.string s)) :
    Calls Try.prog 59 #[.int .i64 k, .pointer (some ⟨Bs, 0, none⟩)] w fun e w' => e = .returned (endV 0 3 0 (decide ((s.size : Int) ≤ k))) ∧ Below w.heap.size w w' := by
  have hc' : (w.alloc (.cells #[.int .i64 0, .int .i64 0, .int .i64 0] 85)).cell? ⟨Bs, 0, none⟩ = some (.string s) := cell_alloc_l _ hc
  go_enter Try.func59, Try.ntmps59
  go_wp2_with fail
  go_region
  all_goals (go_wp2_with fail)
  all_goals (refine bodyPost_ret (v := endV 0 3 0 (decide ((s.size : Int) ≤ k))) (by simp [results, endV, Try.results59, go_sem]) rfl ⟨rfl, ?_⟩)
  all_goals exact ((Below.refl _ w).alloc (Nat.le_refl _) _).drew

set_option maxHeartbeats 1000000 in
theorem test2 (k : Nat) (d : Int) (Bs Bd : Nat) (s : ByteArray) (w : World) (hB : Bs < w.heap.size) (hc : w.cell? ⟨Bs, 0, none⟩ = some (.string s)) (hBd : Bd < w.heap.size) (hcD : w.cell? ⟨Bd, 0, none⟩ = some (.int .u8 d)) (hk : k < s.size) :
    Calls Try.prog 60 #[.int .i64 k, .pointer (some ⟨Bs, 0, none⟩), .pointer (some ⟨Bd, 0, none⟩)] w fun e w' => e = .returned (endV 1 1 0 ((s[k].toNat : Int) == d)) ∧ Below w.heap.size w w' := by
  have hc' : (w.alloc (.cells #[.int .i64 0, .int .i64 0, .int .i64 0] 85)).cell? ⟨Bs, 0, none⟩ = some (.string s) := cell_alloc_l _ hc
  have hcD' : (w.alloc (.cells #[.int .i64 0, .int .i64 0, .int .i64 0] 85)).cell? ⟨Bd, 0, none⟩ = some (.int .u8 d) := cell_alloc_l _ hcD
  go_enter Try.func60, Try.ntmps60
  go_wp2_with fail
  go_region
  all_goals (go_wp2_with fail)
  all_goals (refine bodyPost_ret (v := endV 1 1 0 ((s[k].toNat : Int) == d)) (by simp [results, endV, Try.results60, go_sem]) rfl ⟨rfl, ?_⟩)
  all_goals exact ((Below.refl _ w).alloc (Nat.le_refl _) _).drew

set_option maxHeartbeats 1000000 in
theorem test4 (k : Nat) (Bs : Nat) (s : ByteArray) (w : World) (hB : Bs < w.heap.size) (hc : w.cell? ⟨Bs, 0, none⟩ = some (.string s)) (hk : k < s.size) :
    Calls Try.prog 63 #[.int .i64 k, .pointer (some ⟨Bs, 0, none⟩)] w fun e w' => e = .returned (endV 0 0 3 ((s[k].toNat : Int) == 34)) ∧ Below w.heap.size w w' := by
  have hc' : (w.alloc (.cells #[.int .i64 0, .int .i64 0, .int .i64 0] 85)).cell? ⟨Bs, 0, none⟩ = some (.string s) := cell_alloc_l _ hc
  go_enter Try.func63, Try.ntmps63
  go_wp2_with fail
  go_region
  all_goals (go_wp2_with fail)
  all_goals (refine bodyPost_ret (v := endV 0 0 3 ((s[k].toNat : Int) == 34)) (by simp [results, endV, Try.results63, go_sem]) rfl ⟨rfl, ?_⟩)
  all_goals exact ((Below.refl _ w).alloc (Nat.le_refl _) _).drew

set_option maxHeartbeats 1000000 in
theorem test5 (k : Nat) (Bs : Nat) (s : ByteArray) (w : World) (hB : Bs < w.heap.size) (hc : w.cell? ⟨Bs, 0, none⟩ = some (.string s)) (hk : k < s.size) :
    Calls Try.prog 64 #[.int .i64 k, .pointer (some ⟨Bs, 0, none⟩)] w fun e w' => e = .returned (endV 0 0 6 ((s[k].toNat : Int) == 13)) ∧ Below w.heap.size w w' := by
  have hc' : (w.alloc (.cells #[.int .i64 0, .int .i64 0, .int .i64 0] 85)).cell? ⟨Bs, 0, none⟩ = some (.string s) := cell_alloc_l _ hc
  go_enter Try.func64, Try.ntmps64
  go_wp2_with fail
  go_region
  all_goals (go_wp2_with fail)
  all_goals (refine bodyPost_ret (v := endV 0 0 6 ((s[k].toNat : Int) == 13)) (by simp [results, endV, Try.results64, go_sem]) rfl ⟨rfl, ?_⟩)
  all_goals exact ((Below.refl _ w).alloc (Nat.le_refl _) _).drew

set_option maxHeartbeats 1000000 in
theorem break_any (s : ByteArray) (a : Int) (w : World) (hs : s.size ≤ 1099511627776) (ha : -9223372036854775808 ≤ a) (ha' : a ≤ 9223372036854775807) :
    Calls Try.prog 62 #[.string s, .int .i64 a] w fun e w' => e = .returned (.int .i64 (brkI s.data.toList a : Int)) ∧ w = w' := by
  by_cases h0 : a < 0
  · have H := Lib.hid (brkI_neg s.data.toList a h0)
    go_enter Try.func62, Try.ntmps62
    go_wp2_with fail
    go_ret
    exact ⟨ret_int (by rw [H.out]; rfl), rfl⟩
  obtain ⟨k, rfl⟩ : ∃ k : Nat, a = (k : Int) := ⟨a.toNat, by omega⟩
  rw [brkI_nat]
  clear h0 ha
  by_cases h1 : s.size ≤ k
  · have H := Lib.hid (brk_out s k h1)
    go_enter Try.func62, Try.ntmps62
    go_wp2_with fail
    go_ret
    exact ⟨ret_int (by rw [H.out]; rfl), rfl⟩
  have hlt : k < s.size := by omega
  clear h1 ha'
  by_cases hc : s[k] = 10
  · have H := Lib.hid (brk_feed s k hlt hc)
    have q1 := b10y _ hc
    clear hc
    go_enter Try.func62, Try.ntmps62
    go_wp2_with fail
    go_ret
    exact ⟨ret_int (by rw [H.out]; rfl), rfl⟩
  have q1 := b10n _ hc
  by_cases hd : s[k] = 13
  · have q2 := b13y _ hd
    by_cases h2 : k + 1 < s.size
    · by_cases he : s[k + 1] = 10
      · have H := Lib.hid (brk_two s k h2 hd he)
        have q3 := b10y _ he
        clear hc hd he
        go_enter Try.func62, Try.ntmps62
        go_wp2_with fail
        go_ret
        exact ⟨ret_int (by rw [H.out]; rfl), rfl⟩
      · have H := Lib.hid (brk_other s k h2 hd he)
        have q3 := b10n _ he
        clear hc hd he
        go_enter Try.func62, Try.ntmps62
        go_wp2_with fail
        go_ret
        exact ⟨ret_int (by rw [H.out]; rfl), rfl⟩
    · have H := Lib.hid (brk_lone s k (by omega) hd)
      clear hc hd
      go_enter Try.func62, Try.ntmps62
      go_wp2_with fail
      go_ret
      exact ⟨ret_int (by rw [H.out]; rfl), rfl⟩
  · have H := Lib.hid (brk_none s k hlt hc hd)
    have q2 := b13n _ hd
    clear hc hd
    go_enter Try.func62, Try.ntmps62
    go_wp2_with fail
    go_ret
    exact ⟨ret_int (by rw [H.out]; rfl), rfl⟩
set_option maxHeartbeats 1000000 in
theorem test3 (k : Nat) (Bs : Nat) (s : ByteArray) (w : World) (_ : Bs < w.heap.size) (hc : w.cell? ⟨Bs, 0, none⟩ = some (.string s)) (hs : s.size ≤ 1099511627776) (hk : k ≤ s.size) :
    Calls Try.prog 61 #[.int .i64 k, .pointer (some ⟨Bs, 0, none⟩)] w fun e w' => e = .returned (endV (brk s.data.toList k : Int) 2 0 (decide (0 < (brk s.data.toList k : Int)))) ∧ Below w.heap.size w w' := by
  have hc' : (w.alloc (.cells #[.int .i64 0, .int .i64 0, .int .i64 0] 85)).cell? ⟨Bs, 0, none⟩ = some (.string s) := cell_alloc_l _ hc
  have C := Lib.hid (fun w => break_any s (k : Int) w hs (by omega) (by omega))
  rw [brkI_nat] at C
  generalize brk s.data.toList k = n at C
  clear hk
  go_enter Try.func61, Try.ntmps61
  go_wp2_with fail
  refine (C.out _).mono ?_; rintro e _ ⟨rfl, rfl⟩
  go_wp2_with fail
  refine bodyPost_ret (v := endV (n : Int) 2 0 (decide (0 < (n : Int)))) (by simp [results, endV, Try.results61, go_sem]) rfl ⟨rfl, ?_⟩
  exact ((Below.refl _ w).alloc (Nat.le_refl _) _)

end Go.Proofs.Ytacclgfpmkhodaa
