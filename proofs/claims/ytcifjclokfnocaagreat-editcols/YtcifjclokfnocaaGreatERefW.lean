/-
  The document's reference: lists of texts and rows with one more, and with one less; whether a place is one of so many; what is wrong with an edit of rows.
  Conditions: lists of at most 2^38 elements.
-/
import Derived.WalkKit
import Derived.WalkMore
import Derived.Lib.Hide
import Derived.Deep.RegionWith
import Derived.Deep.QuietTactic
import Derived.BigQuiet
import Derived.Lib.QuietBelow
import Derived.IntWalk
import Derived.Test.YtcifjclokfnocaaGreatProg
import Derived.Test.YtcifjclokfnocaaGreatRPutS
import Derived.Test.YtcifjclokfnocaaGreatRPutR
import Derived.Test.YtcifjclokfnocaaGreatEDo
namespace Go.Proofs.YtcifjclokfnocaaGreat
open Go.RowKit Go.Shelf
set_option linter.unusedVariables false

/-- what a call leaves that makes rows -/
def RNew (rs : List (List ByteArray)) (w : World) (e : Ending) (w' : World) : Prop :=
  ∃ (ao : Option Addr) (cap : Cap ao rs.length), e = .returned (.slice ao rs.length cap.1) ∧ (RowsAt w' ao rs ∧ ∀ A, ao = some A → w.heap.size ≤ A.block) ∧ Below w.heap.size w w'
theorem VOut.rnew {L : List RowL} {w w' : World} {e : Ending} (h : VOut (.ok (L.map RowL.val)) w e w') (hr : ∀ x ∈ L, StrRow w x.ro x.r) : RNew (L.map RowL.r) w e w' := by
  obtain ⟨ao, cap, h1, h2, h3⟩ := h
  have hl : (L.map RowL.val).length = (L.map RowL.r).length := by simp
  exact ⟨ao, ⟨cap.1, Nat.le_trans (Nat.le_of_eq hl.symm) cap.2.1, cap.2.2⟩, by rw [h1]; exact congrArg (fun n => Ending.returned (Value.slice ao n cap.1)) hl, ⟨RowsL.rows ⟨h2.1, fun x hx => (hr x hx).kept h3⟩, h2.2⟩, h3⟩
theorem rput_s (ao : Option Addr) (xs : List ByteArray) (cp : Nat) (j : Nat) (x : ByteArray) (w : World) (hj : j ≤ xs.length) (hn : xs.length ≤ 274877906944) (hc : StrRow w ao xs) :
    Calls Tryz.prog 62 #[.slice ao xs.length cp, .int .i64 j, .string x] w (SNew (.ok (xs.take j ++ x :: xs.drop j)) w) := by
  have hl : (xs.map Value.string).length = xs.length := by simp
  have h := rputS ao (xs.map Value.string) cp j x w (by rw [hl]; exact hj) (by rw [hl]; omega) hc.cells (strs_form xs)
  rw [hl] at h
  refine h.mono fun e w' q => VOut.strs (r := .ok (xs.take j ++ x :: xs.drop j)) ?_
  show VOut (.ok ((xs.take j ++ x :: xs.drop j).map Value.string)) w e w'
  rw [List.map_append, List.map_cons, List.map_take, List.map_drop]; exact q
theorem rout_s (ao : Option Addr) (xs : List ByteArray) (cp : Nat) (j : Nat) (w : World) (hj : j < xs.length) (hn : xs.length ≤ 274877906944) (hc : StrRow w ao xs) :
    Calls Tryz.prog 63 #[.slice ao xs.length cp, .int .i64 j] w (SNew (.ok (xs.take j ++ xs.drop (j + 1))) w) := by
  have hl : (xs.map Value.string).length = xs.length := by simp
  have h := routS ao (xs.map Value.string) cp j w (by rw [hl]; exact hj) (by rw [hl]; omega) hc.cells (strs_form xs)
  rw [hl] at h
  refine h.mono fun e w' q => VOut.strs (r := .ok (xs.take j ++ xs.drop (j + 1))) ?_
  show VOut (.ok ((xs.take j ++ xs.drop (j + 1)).map Value.string)) w e w'
  rw [List.map_append, List.map_take, List.map_drop]; exact q
theorem rput_r (ao : Option Addr) (rs : List (List ByteArray)) (cp : Nat) (j : Nat) (xo : Option Addr) (x : List ByteArray) (xc : Cap xo x.length) (w : World) (hj : j ≤ rs.length) (hn : rs.length ≤ 274877906944) (hc : RowsAt w ao rs) (hx : StrRow w xo x) :
    Calls Tryz.prog 65 #[.slice ao rs.length cp, .int .i64 j, .slice xo x.length xc.1] w (RNew (rs.take j ++ x :: rs.drop j) w) := by
  obtain ⟨L, rfl, hL⟩ := rows_list hc
  have hl : (L.map RowL.val).length = (L.map RowL.r).length := by simp
  have h := rputR ao (L.map RowL.val) cp j xo x.length xc.1 w (by rw [hl]; exact hj) (by rw [hl]; omega) hL.cells (vals_form L)
  rw [hl] at h
  refine h.mono fun e w' q => ?_
  have e1 : (L.map RowL.r).take j ++ x :: (L.map RowL.r).drop j = (L.take j ++ (⟨xo, x, xc⟩ : RowL) :: L.drop j).map RowL.r := by rw [List.map_append, List.map_cons, List.map_take, List.map_drop]
  rw [e1]
  refine VOut.rnew ?_ (fun z hz => ?_)
  · rw [List.map_append, List.map_cons, List.map_take, List.map_drop]; exact q
  · rcases List.mem_append.1 hz with hz | hz
    · exact hL.each z (List.mem_of_mem_take hz)
    · rcases List.mem_cons.1 hz with rfl | hz
      · exact hx
      · exact hL.each z (List.mem_of_mem_drop hz)
theorem rout_r (ao : Option Addr) (rs : List (List ByteArray)) (cp : Nat) (j : Nat) (w : World) (hj : j < rs.length) (hn : rs.length ≤ 274877906944) (hc : RowsAt w ao rs) :
    Calls Tryz.prog 66 #[.slice ao rs.length cp, .int .i64 j] w (RNew (rs.take j ++ rs.drop (j + 1)) w) := by
  obtain ⟨L, rfl, hL⟩ := rows_list hc
  have hl : (L.map RowL.val).length = (L.map RowL.r).length := by simp
  have h := routR ao (L.map RowL.val) cp j w (by rw [hl]; exact hj) (by rw [hl]; omega) hL.cells (vals_form L)
  rw [hl] at h
  refine h.mono fun e w' q => ?_
  have e1 : (L.map RowL.r).take j ++ (L.map RowL.r).drop (j + 1) = (L.take j ++ L.drop (j + 1)).map RowL.r := by rw [List.map_append, List.map_take, List.map_drop]
  rw [e1]
  refine VOut.rnew ?_ (fun z hz => ?_)
  · rw [List.map_append, List.map_take, List.map_drop]; exact q
  · rcases List.mem_append.1 hz with hz | hz
    · exact hL.each z (List.mem_of_mem_take hz)
    · exact hL.each z (List.mem_of_mem_drop hz)

theorem rin_any (a n : Int) (w : World) : Calls Tryz.prog 59 #[.int .i64 a, .int .i64 n] w fun e w' => e = .returned (.bool (decide (0 ≤ a) && decide (a < n))) ∧ w' = w := by
  by_cases h : 0 ≤ a
  · have h' : decide (0 ≤ a) = true := decide_eq_true h
    go_enter Tryz.func59, Tryz.ntmps59
    go_wp2_with fail
    go_ret
    exact ⟨by simp [h], rfl⟩
  · have h' : decide (0 ≤ a) = false := decide_eq_false h
    go_enter Tryz.func59, Tryz.ntmps59
    go_wp2_with fail
    go_ret
    exact ⟨by simp, rfl⟩
theorem bdn {B : Nat} {a w : World} (h : Below B a w) {n : Nat} : Below B a (w.drewN n) := ⟨h.os, h.tape, h.output, h.size, h.block⟩
theorem ret_num {a b : Int} (h : a = b) : Ending.returned (Value.int .i64 a) = Ending.returned (Value.int .i64 b) := by rw [h]
def inI (a n : Int) : Bool := decide (0 ≤ a) && decide (a < n)
theorem rin_i (a n : Int) (w : World) : Calls Tryz.prog 59 #[.int .i64 a, .int .i64 n] w fun e w' => e = .returned (.bool (inI a n)) ∧ w' = w := rin_any a n w
theorem rin_q (a n : Int) (w : World) (k : Nat) : Calls Tryz.prog 59 #[.int .i64 a, .int .i64 n] (w.drewN k) fun e w' => e = .returned (.bool (inI a n)) ∧ ∃ m, w' = w.drewN m := (rin_any a n (w.drewN k)).mono fun e w' h => ⟨h.1, k, h.2⟩
theorem rin_p (a n : Int) (w : World) (j k : Nat) : Calls Tryz.prog 59 #[.int .i64 a, .int .i64 n] (w.drewN (j + k)) fun e w' => e = .returned (.bool (inI a n)) ∧ ∃ m, w' = w.drewN (j + m) := (rin_any a n (w.drewN (j + k))).mono fun e w' h => ⟨h.1, k, h.2⟩
/-- what is wrong with an edit of rows -/
def wrongR (kd a b : Int) (n m : Nat) : Int :=
  if kd = 4 then (if inI a ((m : Int) + 1) then 0 else 11)
  else if kd = 5 then (if inI a m then 0 else 11)
  else if kd = 6 then (if inI a m && inI b m then 0 else 11)
  else (if inI a m && inI b n then 0 else 11)

set_option maxRecDepth 100000 in
set_option maxHeartbeats 8000000 in
theorem rwrong4 (ho ro : Option Addr) (n m hc rc : Nat) (a b : Int) (tx : ByteArray) (co : Option Addr) (cn cc : Nat) (po : Option Addr) (pn pc : Nat) (w : World) (hn : n ≤ 1000) (hm : m ≤ 1000) :
    Calls Tryz.prog 24 #[.agg #[.slice ho n hc, .slice ro m rc], .agg #[.int .i64 4, .int .i64 a, .int .i64 b, .string tx, .slice co cn cc, .slice po pn pc]] w fun e w' => e = .returned (.int .i64 (wrongR 4 a b n m)) ∧ Below w.heap.size w w' := by
  obtain ⟨W, HW⟩ : ∃ W, Hid (W = (w.alloc (TabO ho n hc ro m rc)).alloc (EdO 4 a b tx co cn cc po pn pc)) := ⟨_, Lib.hid rfl⟩
  have HW2 : Hid (W = (w.alloc (Obj.cells #[Value.slice ho n hc, Value.slice ro m rc] 25)).alloc (Obj.cells #[Value.int .i64 4, Value.int .i64 a, Value.int .i64 b, Value.string tx, Value.slice co cn cc, Value.slice po pn pc] 28)) := Lib.hid HW.out
  have hB : Below w.heap.size w W := by rw [HW.out]; exact two_below _ _ _
  have hN := two_new w (TabO ho n hc ro m rc) (EdO 4 a b tx co cn cc po pn pc)
  rw [← HW.out] at hN
  obtain ⟨p0, p1⟩ := tabs hN.2.1
  obtain ⟨e0, e1, e2, e3, e4, e5⟩ := edcells hN.2.2
  have HB := Lib.hid hB
  clear hB hN HW
  go_enter Tryz.func24, Tryz.ntmps24
  go_wp2_with fail
  rw [← HW2.out]
  go_quiet (fail)
  go_wp2_with fail
  go_quiet ((go_at_call 59; exact rin_p _ _ _ _ _))
  go_wp2_with fail
  refine (rin_i _ _ _).mono ?_; rintro e w2 ⟨rfl, rfl⟩
  cases hz : inI a ((m : Int) + 1) with
  | false =>
    go_wp2_with fail
    go_ret
    exact ⟨ret_num (by simp [wrongR, hz]), bdn HB.out⟩
  | true =>
    go_wp2_with fail
    go_ret
    exact ⟨ret_num (by simp [wrongR, hz]), bdn HB.out⟩
set_option maxRecDepth 100000 in
set_option maxHeartbeats 8000000 in
theorem rwrong5 (ho ro : Option Addr) (n m hc rc : Nat) (a b : Int) (tx : ByteArray) (co : Option Addr) (cn cc : Nat) (po : Option Addr) (pn pc : Nat) (w : World) (hn : n ≤ 1000) (hm : m ≤ 1000) :
    Calls Tryz.prog 24 #[.agg #[.slice ho n hc, .slice ro m rc], .agg #[.int .i64 5, .int .i64 a, .int .i64 b, .string tx, .slice co cn cc, .slice po pn pc]] w fun e w' => e = .returned (.int .i64 (wrongR 5 a b n m)) ∧ Below w.heap.size w w' := by
  obtain ⟨W, HW⟩ : ∃ W, Hid (W = (w.alloc (TabO ho n hc ro m rc)).alloc (EdO 5 a b tx co cn cc po pn pc)) := ⟨_, Lib.hid rfl⟩
  have HW2 : Hid (W = (w.alloc (Obj.cells #[Value.slice ho n hc, Value.slice ro m rc] 25)).alloc (Obj.cells #[Value.int .i64 5, Value.int .i64 a, Value.int .i64 b, Value.string tx, Value.slice co cn cc, Value.slice po pn pc] 28)) := Lib.hid HW.out
  have hB : Below w.heap.size w W := by rw [HW.out]; exact two_below _ _ _
  have hN := two_new w (TabO ho n hc ro m rc) (EdO 5 a b tx co cn cc po pn pc)
  rw [← HW.out] at hN
  obtain ⟨p0, p1⟩ := tabs hN.2.1
  obtain ⟨e0, e1, e2, e3, e4, e5⟩ := edcells hN.2.2
  have HB := Lib.hid hB
  clear hB hN HW
  go_enter Tryz.func24, Tryz.ntmps24
  go_wp2_with fail
  rw [← HW2.out]
  go_quiet (fail)
  go_wp2_with fail
  go_quiet ((go_at_call 59; exact rin_p _ _ _ _ _))
  cases hr : inI a m with
  | false =>
    go_wp2_with fail
    go_ret
    exact ⟨ret_num (by simp [wrongR, hr]), bdn HB.out⟩
  | true =>
    go_wp2_with fail
    go_ret
    exact ⟨ret_num (by simp [wrongR, hr]), bdn HB.out⟩
set_option maxRecDepth 100000 in
set_option maxHeartbeats 8000000 in
theorem rwrong6 (ho ro : Option Addr) (n m hc rc : Nat) (a b : Int) (tx : ByteArray) (co : Option Addr) (cn cc : Nat) (po : Option Addr) (pn pc : Nat) (w : World) (hn : n ≤ 1000) (hm : m ≤ 1000) :
    Calls Tryz.prog 24 #[.agg #[.slice ho n hc, .slice ro m rc], .agg #[.int .i64 6, .int .i64 a, .int .i64 b, .string tx, .slice co cn cc, .slice po pn pc]] w fun e w' => e = .returned (.int .i64 (wrongR 6 a b n m)) ∧ Below w.heap.size w w' := by
  obtain ⟨W, HW⟩ : ∃ W, Hid (W = (w.alloc (TabO ho n hc ro m rc)).alloc (EdO 6 a b tx co cn cc po pn pc)) := ⟨_, Lib.hid rfl⟩
  have HW2 : Hid (W = (w.alloc (Obj.cells #[Value.slice ho n hc, Value.slice ro m rc] 25)).alloc (Obj.cells #[Value.int .i64 6, Value.int .i64 a, Value.int .i64 b, Value.string tx, Value.slice co cn cc, Value.slice po pn pc] 28)) := Lib.hid HW.out
  have hB : Below w.heap.size w W := by rw [HW.out]; exact two_below _ _ _
  have hN := two_new w (TabO ho n hc ro m rc) (EdO 6 a b tx co cn cc po pn pc)
  rw [← HW.out] at hN
  obtain ⟨p0, p1⟩ := tabs hN.2.1
  obtain ⟨e0, e1, e2, e3, e4, e5⟩ := edcells hN.2.2
  have HB := Lib.hid hB
  clear hB hN HW
  go_enter Tryz.func24, Tryz.ntmps24
  go_wp2_with fail
  rw [← HW2.out]
  go_quiet (fail)
  go_wp2_with fail
  go_quiet ((go_at_call 59; exact rin_p _ _ _ _ _))
  cases hr : inI a m with
  | false =>
    go_wp2_with fail
    go_ret
    exact ⟨ret_num (by simp [wrongR, hr]), bdn HB.out⟩
  | true =>
  go_wp2_with fail
  refine (rin_i _ _ _).mono ?_; rintro e w2 ⟨rfl, rfl⟩
  cases hz : inI b m with
  | false =>
    go_wp2_with fail
    go_ret
    exact ⟨ret_num (by simp [wrongR, hr, hz]), bdn HB.out⟩
  | true =>
    go_wp2_with fail
    go_ret
    exact ⟨ret_num (by simp [wrongR, hr, hz]), bdn HB.out⟩
set_option maxRecDepth 100000 in
set_option maxHeartbeats 8000000 in
theorem rwrong7 (ho ro : Option Addr) (n m hc rc : Nat) (a b : Int) (tx : ByteArray) (co : Option Addr) (cn cc : Nat) (po : Option Addr) (pn pc : Nat) (w : World) (hn : n ≤ 1000) (hm : m ≤ 1000) :
    Calls Tryz.prog 24 #[.agg #[.slice ho n hc, .slice ro m rc], .agg #[.int .i64 7, .int .i64 a, .int .i64 b, .string tx, .slice co cn cc, .slice po pn pc]] w fun e w' => e = .returned (.int .i64 (wrongR 7 a b n m)) ∧ Below w.heap.size w w' := by
  obtain ⟨W, HW⟩ : ∃ W, Hid (W = (w.alloc (TabO ho n hc ro m rc)).alloc (EdO 7 a b tx co cn cc po pn pc)) := ⟨_, Lib.hid rfl⟩
  have HW2 : Hid (W = (w.alloc (Obj.cells #[Value.slice ho n hc, Value.slice ro m rc] 25)).alloc (Obj.cells #[Value.int .i64 7, Value.int .i64 a, Value.int .i64 b, Value.string tx, Value.slice co cn cc, Value.slice po pn pc] 28)) := Lib.hid HW.out
  have hB : Below w.heap.size w W := by rw [HW.out]; exact two_below _ _ _
  have hN := two_new w (TabO ho n hc ro m rc) (EdO 7 a b tx co cn cc po pn pc)
  rw [← HW.out] at hN
  obtain ⟨p0, p1⟩ := tabs hN.2.1
  obtain ⟨e0, e1, e2, e3, e4, e5⟩ := edcells hN.2.2
  have HB := Lib.hid hB
  clear hB hN HW
  go_enter Tryz.func24, Tryz.ntmps24
  go_wp2_with fail
  rw [← HW2.out]
  go_quiet (fail)
  go_wp2_with fail
  go_quiet ((go_at_call 59; exact rin_p _ _ _ _ _))
  cases hr : inI a m with
  | false =>
    go_wp2_with fail
    go_ret
    exact ⟨ret_num (by simp [wrongR, hr]), bdn HB.out⟩
  | true =>
  go_wp2_with fail
  refine (rin_i _ _ _).mono ?_; rintro e w2 ⟨rfl, rfl⟩
  cases hz : inI b n with
  | false =>
    go_wp2_with fail
    go_ret
    exact ⟨ret_num (by simp [wrongR, hr, hz]), bdn HB.out⟩
  | true =>
    go_wp2_with fail
    go_ret
    exact ⟨ret_num (by simp [wrongR, hr, hz]), bdn HB.out⟩
end Go.Proofs.YtcifjclokfnocaaGreat
