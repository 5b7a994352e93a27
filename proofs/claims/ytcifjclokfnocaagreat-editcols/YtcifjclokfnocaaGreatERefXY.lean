/-
  The document's reference: what is wrong with an edit of columns.
  Conditions: tables of at most 1000 columns and rows.
  The document's reference: what is wrong with an edit of columns.
  Conditions: tables of at most 1000 columns and rows.
-/
import Derived.WalkKit
import Derived.WalkMore
import Derived.Lib.Hide
import Derived.Deep.QuietTactic
import Derived.BigQuiet
import Derived.Lib.QuietBelow
import Derived.IntWalk
import Derived.Test.YtcifjclokfnocaaGreatProg
import Derived.Test.YtcifjclokfnocaaGreatERefW
namespace Go.Proofs.YtcifjclokfnocaaGreat
open Go.RowKit Go.Shelf
set_option linter.unusedVariables false

/-- what is wrong with an edit of columns (of kinds 0 to 3) -/
def wrongC (kd a b : Int) (n m cn : Nat) : Int :=
  if kd = 0 then (if inI a ((n : Int) + 1) then (if cn = m then 0 else 9) else 11)
  else if kd = 3 then (if inI a n && inI b n then 0 else 11)
  else (if inI a n then 0 else 11)

set_option maxRecDepth 100000 in
set_option maxHeartbeats 8000000 in
theorem rwrong0 (ho ro : Option Addr) (n m hc rc : Nat) (a b : Int) (tx : ByteArray) (co : Option Addr) (cn cc : Nat) (po : Option Addr) (pn pc : Nat) (w : World) (hn : n ≤ 1000) (hm : m ≤ 1000) :
    Calls Tryz.prog 24 #[.agg #[.slice ho n hc, .slice ro m rc], .agg #[.int .i64 0, .int .i64 a, .int .i64 b, .string tx, .slice co cn cc, .slice po pn pc]] w fun e w' => e = .returned (.int .i64 (wrongC 0 a b n m cn)) ∧ Below w.heap.size w w' := by
  obtain ⟨W, HW⟩ : ∃ W, Hid (W = (w.alloc (TabO ho n hc ro m rc)).alloc (EdO 0 a b tx co cn cc po pn pc)) := ⟨_, Lib.hid rfl⟩
  have HW2 : Hid (W = (w.alloc (Obj.cells #[Value.slice ho n hc, Value.slice ro m rc] 25)).alloc (Obj.cells #[Value.int .i64 0, Value.int .i64 a, Value.int .i64 b, Value.string tx, Value.slice co cn cc, Value.slice po pn pc] 28)) := Lib.hid HW.out
  have hB : Below w.heap.size w W := by rw [HW.out]; exact two_below _ _ _
  have hN := two_new w (TabO ho n hc ro m rc) (EdO 0 a b tx co cn cc po pn pc)
  rw [← HW.out] at hN
  obtain ⟨p0, p1⟩ := tabs hN.2.1
  obtain ⟨e0, e1, e2, e3, e4, e5⟩ := edcells hN.2.2
  have HB := Lib.hid hB
  clear hB hN HW
  go_enter Tryz.func24, Tryz.ntmps24
  go_wp2_with fail
  rw [← HW2.out]
  go_quiet (fail)
  go_wp2_with fail
  go_quiet ((go_at_call 59; exact rin_p _ _ _ _ _))
  go_wp2_with fail
  refine (rin_i _ _ _).mono ?_; rintro e w2 ⟨rfl, rfl⟩
  cases hz : inI a ((n : Int) + 1) with
  | false =>
    go_wp2_with fail
    go_ret
    exact ⟨ret_num (by simp [wrongC, hz]), bdn HB.out⟩
  | true =>
    by_cases hm2 : cn = m
    · have hd : ((cn : Int) != (m : Int)) = false := by simp [hm2]
      go_wp2_with fail
      go_ret
      exact ⟨ret_num (by simp [wrongC, hz, hm2]), bdn HB.out⟩
    · have hd : ((cn : Int) != (m : Int)) = true := by rw [bne_iff_ne]; omega
      go_wp2_with fail
      go_ret
      exact ⟨ret_num (by simp [wrongC, hz, hm2]), bdn HB.out⟩
set_option maxRecDepth 100000 in
set_option maxHeartbeats 8000000 in
theorem rwrong1 (ho ro : Option Addr) (n m hc rc : Nat) (a b : Int) (tx : ByteArray) (co : Option Addr) (cn cc : Nat) (po : Option Addr) (pn pc : Nat) (w : World) (hn : n ≤ 1000) (hm : m ≤ 1000) :
    Calls Tryz.prog 24 #[.agg #[.slice ho n hc, .slice ro m rc], .agg #[.int .i64 1, .int .i64 a, .int .i64 b, .string tx, .slice co cn cc, .slice po pn pc]] w fun e w' => e = .returned (.int .i64 (wrongC 1 a b n m cn)) ∧ Below w.heap.size w w' := by
  obtain ⟨W, HW⟩ : ∃ W, Hid (W = (w.alloc (TabO ho n hc ro m rc)).alloc (EdO 1 a b tx co cn cc po pn pc)) := ⟨_, Lib.hid rfl⟩
  have HW2 : Hid (W = (w.alloc (Obj.cells #[Value.slice ho n hc, Value.slice ro m rc] 25)).alloc (Obj.cells #[Value.int .i64 1, Value.int .i64 a, Value.int .i64 b, Value.string tx, Value.slice co cn cc, Value.slice po pn pc] 28)) := Lib.hid HW.out
  have hB : Below w.heap.size w W := by rw [HW.out]; exact two_below _ _ _
  have hN := two_new w (TabO ho n hc ro m rc) (EdO 1 a b tx co cn cc po pn pc)
  rw [← HW.out] at hN
  obtain ⟨p0, p1⟩ := tabs hN.2.1
  obtain ⟨e0, e1, e2, e3, e4, e5⟩ := edcells hN.2.2
  have HB := Lib.hid hB
  clear hB hN HW
  go_enter Tryz.func24, Tryz.ntmps24
  go_wp2_with fail
  rw [← HW2.out]
  go_quiet (fail)
  go_wp2_with fail
  go_quiet ((go_at_call 59; exact rin_p _ _ _ _ _))
  cases hr : inI a n with
  | false =>
    go_wp2_with fail
    go_ret
    exact ⟨ret_num (by simp [wrongC, hr]), bdn HB.out⟩
  | true =>
    go_wp2_with fail
    go_ret
    exact ⟨ret_num (by simp [wrongC, hr]), bdn HB.out⟩
set_option maxRecDepth 100000 in
set_option maxHeartbeats 8000000 in
theorem rwrong2 (ho ro : Option Addr) (n m hc rc : Nat) (a b : Int) (tx : ByteArray) (co : Option Addr) (cn cc : Nat) (po : Option Addr) (pn pc : Nat) (w : World) (hn : n ≤ 1000) (hm : m ≤ 1000) :
    Calls Tryz.prog 24 #[.agg #[.slice ho n hc, .slice ro m rc], .agg #[.int .i64 2, .int .i64 a, .int .i64 b, .string tx, .slice co cn cc, .slice po pn pc]] w fun e w' => e = .returned (.int .i64 (wrongC 2 a b n m cn)) ∧ Below w.heap.size w w' := by
  obtain ⟨W, HW⟩ : ∃ W, Hid (W = (w.alloc (TabO ho n hc ro m rc)).alloc (EdO 2 a b tx co cn cc po pn pc)) := ⟨_, Lib.hid rfl⟩
  have HW2 : Hid (W = (w.alloc (Obj.cells #[Value.slice ho n hc, Value.slice ro m rc] 25)).alloc (Obj.cells #[Value.int .i64 2, Value.int .i64 a, Value.int .i64 b, Value.string tx, Value.slice co cn cc, Value.slice po pn pc] 28)) := Lib.hid HW.out
  have hB : Below w.heap.size w W := by rw [HW.out]; exact two_below _ _ _
  have hN := two_new w (TabO ho n hc ro m rc) (EdO 2 a b tx co cn cc po pn pc)
  rw [← HW.out] at hN
  obtain ⟨p0, p1⟩ := tabs hN.2.1
  obtain ⟨e0, e1, e2, e3, e4, e5⟩ := edcells hN.2.2
  have HB := Lib.hid hB
  clear hB hN HW
  go_enter Tryz.func24, Tryz.ntmps24
  go_wp2_with fail
  rw [← HW2.out]
  go_quiet (fail)
  go_wp2_with fail
  go_quiet ((go_at_call 59; exact rin_p _ _ _ _ _))
  cases hr : inI a n with
  | false =>
    go_wp2_with fail
    go_ret
    exact ⟨ret_num (by simp [wrongC, hr]), bdn HB.out⟩
  | true =>
    go_wp2_with fail
    go_ret
    exact ⟨ret_num (by simp [wrongC, hr]), bdn HB.out⟩
set_option maxRecDepth 100000 in
set_option maxHeartbeats 8000000 in
theorem rwrong3 (ho ro : Option Addr) (n m hc rc : Nat) (a b : Int) (tx : ByteArray) (co : Option Addr) (cn cc : Nat) (po : Option Addr) (pn pc : Nat) (w : World) (hn : n ≤ 1000) (hm : m ≤ 1000) :
    Calls Tryz.prog 24 #[.agg #[.slice ho n hc, .slice ro m rc], .agg #[.int .i64 3, .int .i64 a, .int .i64 b, .string tx, .slice co cn cc, .slice po pn pc]] w fun e w' => e = .returned (.int .i64 (wrongC 3 a b n m cn)) ∧ Below w.heap.size w w' := by
  obtain ⟨W, HW⟩ : ∃ W, Hid (W = (w.alloc (TabO ho n hc ro m rc)).alloc (EdO 3 a b tx co cn cc po pn pc)) := ⟨_, Lib.hid rfl⟩
  have HW2 : Hid (W = (w.alloc (Obj.cells #[Value.slice ho n hc, Value.slice ro m rc] 25)).alloc (Obj.cells #[Value.int .i64 3, Value.int .i64 a, Value.int .i64 b, Value.string tx, Value.slice co cn cc, Value.slice po pn pc] 28)) := Lib.hid HW.out
  have hB : Below w.heap.size w W := by rw [HW.out]; exact two_below _ _ _
  have hN := two_new w (TabO ho n hc ro m rc) (EdO 3 a b tx co cn cc po pn pc)
  rw [← HW.out] at hN
  obtain ⟨p0, p1⟩ := tabs hN.2.1
  obtain ⟨e0, e1, e2, e3, e4, e5⟩ := edcells hN.2.2
  have HB := Lib.hid hB
  clear hB hN HW
  go_enter Tryz.func24, Tryz.ntmps24
  go_wp2_with fail
  rw [← HW2.out]
  go_quiet (fail)
  go_wp2_with fail
  go_quiet ((go_at_call 59; exact rin_p _ _ _ _ _))
  cases hr : inI a n with
  | false =>
    go_wp2_with fail
    go_ret
    exact ⟨ret_num (by simp [wrongC, hr]), bdn HB.out⟩
  | true =>
  go_wp2_with fail
  refine (rin_i _ _ _).mono ?_; rintro e w2 ⟨rfl, rfl⟩
  cases hz : inI b n with
  | false =>
    go_wp2_with fail
    go_ret
    exact ⟨ret_num (by simp [wrongC, hr, hz]), bdn HB.out⟩
  | true =>
    go_wp2_with fail
    go_ret
    exact ⟨ret_num (by simp [wrongC, hr, hz]), bdn HB.out⟩
end Go.Proofs.YtcifjclokfnocaaGreat
namespace Go.Proofs.YtcifjclokfnocaaGreat
open Go.RowKit Go.Shelf
set_option linter.unusedVariables false

/-- what is wrong with places of columns -/
def wrongP (ps : List Int) (n : Nat) : Int := if ps.all (fun p => inI p n) then 0 else 11
set_option maxRecDepth 100000 in
set_option maxHeartbeats 8000000 in
theorem rwrong8 (ho ro : Option Addr) (n m hc rc : Nat) (kd a b : Int) (tx : ByteArray) (co : Option Addr) (cn cc : Nat) (po : Option Addr) (ps : List Int) (pc : Nat) (w : World) (hk : kd < 0 ∨ 7 < kd) (hn : n ≤ 1000) (hm : m ≤ 1000) (hl : ps.length ≤ 1000) (hP : IntsAt w po ps) :
    Calls Tryz.prog 24 #[.agg #[.slice ho n hc, .slice ro m rc], .agg #[.int .i64 kd, .int .i64 a, .int .i64 b, .string tx, .slice co cn cc, .slice po ps.length pc]] w fun e w' => e = .returned (.int .i64 (wrongP ps n)) ∧ Below w.heap.size w w' := by
  obtain ⟨W, HW⟩ : ∃ W, Hid (W = (w.alloc (TabO ho n hc ro m rc)).alloc (EdO kd a b tx co cn cc po ps.length pc)) := ⟨_, Lib.hid rfl⟩
  have HW2 : Hid (W = (w.alloc (Obj.cells #[Value.slice ho n hc, Value.slice ro m rc] 25)).alloc (Obj.cells #[Value.int .i64 kd, Value.int .i64 a, Value.int .i64 b, Value.string tx, Value.slice co cn cc, Value.slice po ps.length pc] 28)) := Lib.hid HW.out
  have hB : Below w.heap.size w W := by rw [HW.out]; exact two_below _ _ _
  have hN := two_new w (TabO ho n hc ro m rc) (EdO kd a b tx co cn cc po ps.length pc)
  rw [← HW.out] at hN
  obtain ⟨p0, p1⟩ := tabs hN.2.1
  obtain ⟨e0, e1, e2, e3, e4, e5⟩ := edcells hN.2.2
  have HP := Lib.hid (hP.kept hB)
  have HB := Lib.hid hB
  have c0 : (kd == 0) = false := by rw [beq_eq_false_iff_ne]; omega
  have c1 : (kd == 1) = false := by rw [beq_eq_false_iff_ne]; omega
  have c2 : (kd == 2) = false := by rw [beq_eq_false_iff_ne]; omega
  have c3 : (kd == 3) = false := by rw [beq_eq_false_iff_ne]; omega
  have c4 : (kd == 4) = false := by rw [beq_eq_false_iff_ne]; omega
  have c5 : (kd == 5) = false := by rw [beq_eq_false_iff_ne]; omega
  have c6 : (kd == 6) = false := by rw [beq_eq_false_iff_ne]; omega
  have c7 : (kd == 7) = false := by rw [beq_eq_false_iff_ne]; omega
  clear hB hN HW
  go_enter Tryz.func24, Tryz.ntmps24
  go_wp2_with fail
  rw [← HW2.out]
  go_quiet (fail)
  go_wp2_with fail
  go_quiet ((go_at_call 59; exact rin_p _ _ _ _ _))
  go_wp2_with fail
  go_loopw [9] (fun i wr => ∃ (k m : Nat), k ≤ ps.length ∧ i = .int .i64 k ∧ wr = W.drewN m ∧ Hid (∀ p ∈ ps.take k, inI p n = true)) (fun i _ => ps.length - (intOf i).toNat)
  case atStart => exact ⟨0, _, Nat.zero_le _, rfl, rfl, Lib.hid (fun p hp => by simp at hp)⟩
  case round =>
    obtain ⟨k, m1, hkl, rfl, rfl, HA⟩ := hrel
    by_cases hlt : k < ps.length
    · obtain ⟨p, hp⟩ : ∃ p, ps[k]? = some p := ⟨_, List.getElem?_eq_getElem hlt⟩
      rcases HP.out with h0 | ⟨A, rfl, hA, hcell⟩
      · rw [h0] at hlt; simp at hlt
      have hcp : (W.drewN m1).cell? (A.add k) = some (.int .i64 p) := hcell k p hp
      have HPP := Lib.hid hp
      clear hcell hp
      go_wp2_with fail
      refine (rin_i _ _ _).mono ?_; rintro e w2 ⟨rfl, rfl⟩
      cases hz : inI p n with
      | false =>
        go_wp2_with fail
        go_ret
        refine ⟨ret_num ?_, bdn HB.out⟩
        unfold wrongP; rw [if_neg (fun h => by have := List.all_eq_true.1 h p (List.mem_of_getElem? HPP.out); rw [hz] at this; cases this)]
      | true =>
        have HA2 : Hid (∀ q ∈ ps.take (k + 1), inI q n = true) := Lib.hid (fun q hq => by
          obtain ⟨hk', e⟩ := List.getElem?_eq_some_iff.1 HPP.out
          rw [List.take_succ_eq_append_getElem hk', e] at hq
          rcases List.mem_append.1 hq with hq | hq
          · exact HA.out q hq
          · simp at hq; rw [hq]; exact hz)
        go_wp2_with fail
        go_roundw
        case rel => exact ⟨k + 1, m1, by omega, by go_num, rfl, HA2⟩
        case measure => simp [intOf]; omega
    · have hd : decide ((k : Int) < (ps.length : Int)) = false := decide_eq_false (by omega)
      go_wp2_with fail
      go_ret
      refine ⟨ret_num ?_, bdn HB.out⟩
      unfold wrongP; rw [if_pos (List.all_eq_true.2 (fun q hq => HA.out q (by rw [List.take_of_length_le (by omega)]; exact hq)))]
end Go.Proofs.YtcifjclokfnocaaGreat
