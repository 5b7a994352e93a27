/-
  The walk of the statement LexEnds: at every text, every place and every byte between fields it answers true.
  Conditions: none but that the text is a Go string and the place a Go int.
-/
import Derived.WalkKit
import Derived.WalkSmall
import Derived.Lib.Hide
import Derived.Deep.QuietTactic
import Derived.BigQuiet
import Derived.Lib.QuietBelow
import Derived.Test.YtijjfklcmgdchaaProg
import Derived.Test.YtijjfklcmgdchaaWLexFields
import Derived.Test.YtijjfklcmgdchaaLexMath2
set_option linter.unusedVariables false
namespace Go.Proofs.Ytijjfklcmgdchaa
open Go.RowKit Go.Shelf

theorem str_ne {a b : ByteArray} (h : a.data.toList ≠ b.data.toList) : (a.toList == b.toList) = false := by
  rw [ba_toList, ba_toList]; simpa using h
theorem quoted_ne (t : List UInt8) : quoted t ≠ t := fun h => by
  have h1 := congrArg List.length h
  have h2 := quoted_length t
  omega
/-- a string that is the cell, or the cell in quotes -/
def CellOr (X c Q : ByteArray) : Prop := X = c ∨ ((X.toList == c.toList) = false ∧ X = Q)

set_option maxRecDepth 100000 in
set_option maxHeartbeats 4000000 in
theorem ends_text (s c : ByteArray) (i : Nat) (d : Int) (w : World) (hs : s.size ≤ 2000) (hij : i ≤ s.size)
    (A1 : Hid (∀ w, Calls Try.prog 8 #[.string s, .int .i64 (i : Int), .int .u8 d] w fun e w' => e = .returned (.tuple #[.string c, .int .i64 (s.size : Int), .int .i64 3, .int .i64 0]) ∧ Below w.heap.size w w'))
    (Q : ByteArray) (A2 : Hid (∀ w, Calls Try.prog 16 #[.string c] w fun e w' => e = .returned (.string Q) ∧ Below w.heap.size w w'))
    (hX : CellOr (s.extract i s.size) c Q)  :
    Calls Try.prog 6 #[.string s, .int .i64 (i : Int), .int .u8 d] w fun e w' => e = .returned (.bool true) ∧ Below w.heap.size w w' := by
  have hi1 : (i : Int) ≤ (s.size : Int) := by omega
  rcases hX with hX | ⟨hX, hX2⟩
  · have HX := Lib.hid hX
    clear hX
    have heq : ((s.extract i s.size).toList == c.toList) = true := by rw [HX.out]; simp
    go_enter Try.func6, Try.ntmps6
    go_wp2_with fail
    refine (lworks_any _).mono ?_; rintro e w1 ⟨rfl, b1⟩
    go_wp2_with fail
    refine (A1.out _).mono ?_; rintro e w2 ⟨rfl, b2⟩
    replace b2 := below_up b1 b2; clear b1 A1
    go_wp2_with fail
    refine wp_region_quiet_below (by kernel_rfl) (by kernel_rfl) ?_
    repeat (first | go_big_quiet_step (exact Calls.regrown_of (A2.out _)) | quiet_step (exact Calls.regrown_of (A2.out _)))
    refine wpQuiet_nil ?_
    intro _ hw'
    obtain ⟨⟨dq, osq⟩, hw''⟩ := hw'
    subst hw''
    go_wp2_with fail
    go_ret
    exact ⟨rfl, below_up b2 (below_regrown w2 dq osq)⟩
  · have HX := Lib.hid hX
    clear hX
    have HX2 := Lib.hid hX2
    clear hX2
    have hne : ((s.extract i s.size).toList == c.toList) = false := HX.out
    have heq : ((s.extract i s.size).toList == Q.toList) = true := by rw [HX2.out]; simp
    go_enter Try.func6, Try.ntmps6
    go_wp2_with fail
    refine (lworks_any _).mono ?_; rintro e w1 ⟨rfl, b1⟩
    go_wp2_with fail
    refine (A1.out _).mono ?_; rintro e w2 ⟨rfl, b2⟩
    replace b2 := below_up b1 b2; clear b1 A1
    go_wp2_with fail
    refine wp_region_quiet_below (by kernel_rfl) (by kernel_rfl) ?_
    repeat (first | go_big_quiet_step (exact Calls.regrown_of (A2.out _)) | quiet_step (exact Calls.regrown_of (A2.out _)))
    refine wpQuiet_nil ?_
    intro _ hw'
    obtain ⟨⟨dq, osq⟩, hw''⟩ := hw'
    subst hw''
    go_wp2_with fail
    go_ret
    exact ⟨rfl, below_up b2 (below_regrown w2 dq osq)⟩

set_option maxRecDepth 100000 in
set_option maxHeartbeats 4000000 in
theorem ends_field (s c : ByteArray) (i j : Nat) (d : Int) (w : World) (hs : s.size ≤ 2000) (hij : i ≤ j) (hj : j ≤ s.size)
    (A1 : Hid (∀ w, Calls Try.prog 8 #[.string s, .int .i64 (i : Int), .int .u8 d] w fun e w' => e = .returned (.tuple #[.string c, .int .i64 (j + 1 : Int), .int .i64 1, .int .i64 0]) ∧ Below w.heap.size w w'))
    (Q : ByteArray) (A2 : Hid (∀ w, Calls Try.prog 16 #[.string c] w fun e w' => e = .returned (.string Q) ∧ Below w.heap.size w w'))
    (hX : CellOr (s.extract i j) c Q) (hlt : j < s.size) (hd : ((s[j].toNat : Int) == d) = true) :
    Calls Try.prog 6 #[.string s, .int .i64 (i : Int), .int .u8 d] w fun e w' => e = .returned (.bool true) ∧ Below w.heap.size w w' := by
  have hi1 : (i : Int) ≤ (j : Int) := by omega
  have hj1 : (j : Int) ≤ (s.size : Int) := by omega
  rcases hX with hX | ⟨hX, hX2⟩
  · have HX := Lib.hid hX
    clear hX
    have heq : ((s.extract i j).toList == c.toList) = true := by rw [HX.out]; simp
    go_enter Try.func6, Try.ntmps6
    go_wp2_with fail
    refine (lworks_any _).mono ?_; rintro e w1 ⟨rfl, b1⟩
    go_wp2_with fail
    refine (A1.out _).mono ?_; rintro e w2 ⟨rfl, b2⟩
    replace b2 := below_up b1 b2; clear b1 A1
    go_wp2_with fail
    go_ret
    exact ⟨rfl, b2⟩
  · have HX := Lib.hid hX
    clear hX
    have HX2 := Lib.hid hX2
    clear hX2
    have hne : ((s.extract i j).toList == c.toList) = false := HX.out
    have heq : ((s.extract i j).toList == Q.toList) = true := by rw [HX2.out]; simp
    go_enter Try.func6, Try.ntmps6
    go_wp2_with fail
    refine (lworks_any _).mono ?_; rintro e w1 ⟨rfl, b1⟩
    go_wp2_with fail
    refine (A1.out _).mono ?_; rintro e w2 ⟨rfl, b2⟩
    replace b2 := below_up b1 b2; clear b1 A1
    go_wp2_with fail
    refine (A2.out _).mono ?_; rintro e w3 ⟨rfl, b3⟩
    replace b2 := below_up b2 b3
    go_wp2_with fail
    go_ret
    exact ⟨rfl, b2⟩

set_option maxRecDepth 100000 in
set_option maxHeartbeats 4000000 in
theorem ends_line1a (s : ByteArray) (d : Int) (w : World) (hs : s.size ≤ 2000)
    (A1 : Hid (∀ w, Calls Try.prog 8 #[.string s, .int .i64 0, .int .u8 d] w fun e w' => e = .returned (.tuple #[.string ByteArray.empty, .int .i64 1, .int .i64 2, .int .i64 0]) ∧ Below w.heap.size w w'))
    (hlt : 0 < s.size) (A3 : Hid (∀ w, Calls Try.prog 10 #[.string s, .int .i64 0] w fun e w' => e = .returned (.int .i64 1) ∧ w = w')) :
    Calls Try.prog 6 #[.string s, .int .i64 0, .int .u8 d] w fun e w' => e = .returned (.bool true) ∧ Below w.heap.size w w' := by
  go_enter Try.func6, Try.ntmps6
  go_wp2_with fail
  refine (lworks_any _).mono ?_; rintro e w1 ⟨rfl, b1⟩
  go_wp2_with fail
  refine (A1.out _).mono ?_; rintro e w2 ⟨rfl, b2⟩
  replace b2 := below_up b1 b2; clear b1 A1
  go_wp2_with fail
  refine (A3.out _).mono ?_; rintro e _ ⟨rfl, rfl⟩
  go_wp2_with fail
  go_ret
  exact ⟨rfl, b2⟩

set_option maxRecDepth 100000 in
set_option maxHeartbeats 4000000 in
theorem ends_line1b (s c : ByteArray) (i j : Nat) (d : Int) (w : World) (hs : s.size ≤ 2000) (hij : i ≤ j) (hj : j ≤ s.size)
    (A1 : Hid (∀ w, Calls Try.prog 8 #[.string s, .int .i64 (i : Int), .int .u8 d] w fun e w' => e = .returned (.tuple #[.string c, .int .i64 (j + 1 : Int), .int .i64 2, .int .i64 0]) ∧ Below w.heap.size w w'))
    (Q : ByteArray) (A2 : Hid (∀ w, Calls Try.prog 16 #[.string c] w fun e w' => e = .returned (.string Q) ∧ Below w.heap.size w w'))
    (hX : CellOr (s.extract i j) c Q) (hlt : j < s.size) (h0 : 0 < j) (hd : ((s[j - 1].toNat : Int) == 13) = false) (A3 : Hid (∀ w, Calls Try.prog 10 #[.string s, .int .i64 (j : Int)] w fun e w' => e = .returned (.int .i64 1) ∧ w = w')) :
    Calls Try.prog 6 #[.string s, .int .i64 (i : Int), .int .u8 d] w fun e w' => e = .returned (.bool true) ∧ Below w.heap.size w w' := by
  have hi1 : (i : Int) ≤ (j : Int) := by omega
  have hj1 : (j : Int) ≤ (s.size : Int) := by omega
  rcases hX with hX | ⟨hX, hX2⟩
  · have HX := Lib.hid hX
    clear hX
    have heq : ((s.extract i j).toList == c.toList) = true := by rw [HX.out]; simp
    go_enter Try.func6, Try.ntmps6
    go_wp2_with fail
    refine (lworks_any _).mono ?_; rintro e w1 ⟨rfl, b1⟩
    go_wp2_with fail
    refine (A1.out _).mono ?_; rintro e w2 ⟨rfl, b2⟩
    replace b2 := below_up b1 b2; clear b1 A1
    go_wp2_with fail
    refine (A3.out _).mono ?_; rintro e _ ⟨rfl, rfl⟩
    go_wp2_with fail
    go_ret
    exact ⟨rfl, b2⟩
  · have HX := Lib.hid hX
    clear hX
    have HX2 := Lib.hid hX2
    clear hX2
    have hne : ((s.extract i j).toList == c.toList) = false := HX.out
    have heq : ((s.extract i j).toList == Q.toList) = true := by rw [HX2.out]; simp
    go_enter Try.func6, Try.ntmps6
    go_wp2_with fail
    refine (lworks_any _).mono ?_; rintro e w1 ⟨rfl, b1⟩
    go_wp2_with fail
    refine (A1.out _).mono ?_; rintro e w2 ⟨rfl, b2⟩
    replace b2 := below_up b1 b2; clear b1 A1
    go_wp2_with fail
    refine (A3.out _).mono ?_; rintro e _ ⟨rfl, rfl⟩
    go_wp2_with fail
    refine (A2.out _).mono ?_; rintro e w3 ⟨rfl, b3⟩
    replace b2 := below_up b2 b3
    go_wp2_with fail
    go_ret
    exact ⟨rfl, b2⟩

set_option maxRecDepth 100000 in
set_option maxHeartbeats 4000000 in
theorem ends_line1c (s : ByteArray) (j : Nat) (d : Int) (w : World) (hs : s.size ≤ 2000)
    (A1 : Hid (∀ w, Calls Try.prog 8 #[.string s, .int .i64 (j : Int), .int .u8 d] w fun e w' => e = .returned (.tuple #[.string ByteArray.empty, .int .i64 ((j : Int) + 1), .int .i64 2, .int .i64 0]) ∧ Below w.heap.size w w'))
    (hlt : j < s.size) (hj1 : (j : Int) ≤ (s.size : Int)) (h0 : 0 < j) (hd : ((s[j - 1].toNat : Int) == 13) = true) (A3 : Hid (∀ w, Calls Try.prog 10 #[.string s, .int .i64 (j : Int)] w fun e w' => e = .returned (.int .i64 1) ∧ w = w')) :
    Calls Try.prog 6 #[.string s, .int .i64 (j : Int), .int .u8 d] w fun e w' => e = .returned (.bool true) ∧ Below w.heap.size w w' := by
  go_enter Try.func6, Try.ntmps6
  go_wp2_with fail
  refine (lworks_any _).mono ?_; rintro e w1 ⟨rfl, b1⟩
  go_wp2_with fail
  refine (A1.out _).mono ?_; rintro e w2 ⟨rfl, b2⟩
  replace b2 := below_up b1 b2; clear b1 A1
  go_wp2_with fail
  refine (A3.out _).mono ?_; rintro e _ ⟨rfl, rfl⟩
  go_wp2_with fail
  go_ret
  exact ⟨rfl, b2⟩

set_option maxRecDepth 100000 in
set_option maxHeartbeats 4000000 in
theorem ends_line2 (s c : ByteArray) (i j : Nat) (d : Int) (w : World) (hs : s.size ≤ 2000) (hij : i ≤ j) (hj : j ≤ s.size)
    (A1 : Hid (∀ w, Calls Try.prog 8 #[.string s, .int .i64 (i : Int), .int .u8 d] w fun e w' => e = .returned (.tuple #[.string c, .int .i64 (j + 2 : Int), .int .i64 2, .int .i64 0]) ∧ Below w.heap.size w w'))
    (Q : ByteArray) (A2 : Hid (∀ w, Calls Try.prog 16 #[.string c] w fun e w' => e = .returned (.string Q) ∧ Below w.heap.size w w'))
    (hX : CellOr (s.extract i j) c Q) (hlt : j + 1 < s.size) (hd : ((s[j].toNat : Int) == 13) = true) (A3 : Hid (∀ w, Calls Try.prog 10 #[.string s, .int .i64 (j : Int)] w fun e w' => e = .returned (.int .i64 2) ∧ w = w')) :
    Calls Try.prog 6 #[.string s, .int .i64 (i : Int), .int .u8 d] w fun e w' => e = .returned (.bool true) ∧ Below w.heap.size w w' := by
  have hi1 : (i : Int) ≤ (j : Int) := by omega
  have hj1 : (j : Int) ≤ (s.size : Int) := by omega
  rcases hX with hX | ⟨hX, hX2⟩
  · have HX := Lib.hid hX
    clear hX
    have heq : ((s.extract i j).toList == c.toList) = true := by rw [HX.out]; simp
    go_enter Try.func6, Try.ntmps6
    go_wp2_with fail
    refine (lworks_any _).mono ?_; rintro e w1 ⟨rfl, b1⟩
    go_wp2_with fail
    refine (A1.out _).mono ?_; rintro e w2 ⟨rfl, b2⟩
    replace b2 := below_up b1 b2; clear b1 A1
    go_wp2_with fail
    refine (A3.out _).mono ?_; rintro e _ ⟨rfl, rfl⟩
    go_wp2_with fail
    go_ret
    exact ⟨rfl, b2⟩
  · have HX := Lib.hid hX
    clear hX
    have HX2 := Lib.hid hX2
    clear hX2
    have hne : ((s.extract i j).toList == c.toList) = false := HX.out
    have heq : ((s.extract i j).toList == Q.toList) = true := by rw [HX2.out]; simp
    go_enter Try.func6, Try.ntmps6
    go_wp2_with fail
    refine (lworks_any _).mono ?_; rintro e w1 ⟨rfl, b1⟩
    go_wp2_with fail
    refine (A1.out _).mono ?_; rintro e w2 ⟨rfl, b2⟩
    replace b2 := below_up b1 b2; clear b1 A1
    go_wp2_with fail
    refine (A3.out _).mono ?_; rintro e _ ⟨rfl, rfl⟩
    go_wp2_with fail
    refine (A2.out _).mono ?_; rintro e w3 ⟨rfl, b3⟩
    replace b2 := below_up b2 b3
    go_wp2_with fail
    go_ret
    exact ⟨rfl, b2⟩

end Go.Proofs.Ytijjfklcmgdchaa
