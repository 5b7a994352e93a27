/-
  Texts of these rows' proofs, laid one behind the other: RwAlignOk, RwOpen.
  Conditions: those of each theorem.
-/
import Derived.WalkKit
import Derived.WalkMore
import Derived.IntWalk
import Derived.OwnWalk
import Derived.Deep.RegionHeld3
import Derived.Lib.Hide
import Derived.Test.YtdenehnneloegaaGreatDoorProg
import Derived.Test.YtdenehnneloegaaGreatDoorPb29
import Derived.Test.YtdenehnneloegaaGreatDoorPb40
import Derived.Test.YtdenehnneloegaaGreatDoorPb41
import Derived.Test.YtdenehnneloegaaGreatDoorPb46
import Derived.ProofKit
import Derived.OpenShut
import Derived.SizedLaws
import Derived.ChangeSlices
import Derived.ChangeArms
import Derived.Lib.SmallJoins
import Derived.Test.YtdenehnneloegaaGreatDoorPb4
namespace Go.Proofs.YtdenehnneloegaaGreatDoor
open Go.RowKit Go.Shelf Go.Deep
set_option linter.unusedVariables false
theorem ints3R_at (w : World) (a b c : Int) (T : TypeId) : IntsAt (w.alloc (.cells #[.int .i64 a, .int .i64 b, .int .i64 c] T)) (some ⟨w.heap.size, 0, none⟩) [a, b, c] := by
  refine .inr ⟨_, rfl, by simp, fun i p hp => ?_⟩
  have h := World.alloc_heap_new w (.cells #[.int .i64 a, .int .i64 b, .int .i64 c] T)
  have e : (⟨w.heap.size, 0, none⟩ : Addr).add i = ⟨w.heap.size, i, none⟩ := by unfold Addr.add; split <;> simp_all
  rw [e, Lib.cell_of_heap h]
  match i, hp with
  | 0, hp => simp at hp; subst hp; rfl
  | 1, hp => simp at hp; subst hp; rfl
  | 2, hp => simp at hp; subst hp; rfl
  | i + 3, hp => simp at hp
/-- the first error of three -/
theorem or3_any (a b c : Int) (w : World) : Calls Tryz.prog 28 #[.slice (some ⟨w.heap.size, 0, none⟩) 3 3] (w.alloc (.cells #[.int .i64 a, .int .i64 b, .int .i64 c] 29)) fun e w' => e = .returned (.int .i64 (if (if a ≠ 0 then a else b) ≠ 0 then (if a ≠ 0 then a else b) else c)) ∧ Below w.heap.size w w' := by
  refine (orE_any (some ⟨w.heap.size, 0, none⟩) 3 [a, b, c] _ (by simp) (ints3R_at w a b c 29)).mono ?_
  rintro e w' ⟨rfl, rfl⟩
  refine ⟨?_, one_below _ _⟩
  simp only [orL]
  by_cases h : a = 0
  · subst h
    by_cases h2 : b = 0
    · subst h2
      by_cases h3 : c = 0
      · subst h3; rfl
      · simp [h3]
    · simp [h2]
  · simp [h]
/-- the boxes of both tables, of pairs and of names -/
abbrev PairsO (lo : Option Addr) (n lc : Nat) : Obj := .cells #[.slice lo n lc] 26
abbrev NamesO (no : Option Addr) (n nc : Nat) : Obj := .cells #[.slice no n nc] 22
theorem boxes_four (w : World) (o1 o2 : Obj) (lo : Option Addr) (n lc : Nat) (no : Option Addr) (m nc : Nat) :
    Below w.heap.size w ((((w.alloc o1).alloc o2).alloc (PairsO lo n lc)).alloc (NamesO no m nc)) ∧ ((((w.alloc o1).alloc o2).alloc (PairsO lo n lc)).alloc (NamesO no m nc)).heap[w.heap.size]? = ((w.alloc o1).alloc o2).heap[w.heap.size]? ∧ ((((w.alloc o1).alloc o2).alloc (PairsO lo n lc)).alloc (NamesO no m nc)).heap[w.heap.size + 1]? = ((w.alloc o1).alloc o2).heap[w.heap.size + 1]? ∧ ((((w.alloc o1).alloc o2).alloc (PairsO lo n lc)).alloc (NamesO no m nc)).heap[w.heap.size + 1 + 1]? = some (.cells #[.slice lo n lc] 26 (0, 0)) ∧ ((((w.alloc o1).alloc o2).alloc (PairsO lo n lc)).alloc (NamesO no m nc)).heap[w.heap.size + 1 + 1 + 1]? = some (.cells #[.slice no m nc] 22 (0, 0)) := by
  have s2 : ((w.alloc o1).alloc o2).heap.size = w.heap.size + 1 + 1 := by simp
  have s3 : (((w.alloc o1).alloc o2).alloc (PairsO lo n lc)).heap.size = w.heap.size + 1 + 1 + 1 := by simp
  have e3 := World.alloc_heap_new ((w.alloc o1).alloc o2) (PairsO lo n lc)
  have e4 := World.alloc_heap_new (((w.alloc o1).alloc o2).alloc (PairsO lo n lc)) (NamesO no m nc)
  rw [s2] at e3
  rw [s3] at e4
  refine ⟨((two_below _ _ _).alloc (two_below _ _ _).size _).alloc (by rw [s3]; omega) _, ?_, ?_, ?_, e4⟩
  · rw [Below.heap_alloc _ _ _ (by rw [s3]; omega), Below.heap_alloc _ _ _ (by rw [s2]; omega)]
  · rw [Below.heap_alloc _ _ _ (by rw [s3]; omega), Below.heap_alloc _ _ _ (by rw [s2]; omega)]
  · rw [Below.heap_alloc _ _ _ (by rw [s3]; omega)]; exact e3
section
variable (ho : Option Addr) (hc : Nat) (ha : List ByteArray) (ro : Option Addr) (rc : Nat) (ra : List (List ByteArray)) (bo : Option Addr) (bc : Nat) (hb : List ByteArray) (so : Option Addr) (sc : Nat) (rb : List (List ByteArray)) (lo : Option Addr) (lc : Nat) (l : PL) (no : Option Addr) (nc : Nat) (names : List ByteArray)
set_option maxRecDepth 100000 in
set_option maxHeartbeats 2000000 in
theorem way1_any (A B N : Nat) (w : World) (hA : TabR w ho hc ha ro rc ra) (hB : TabR w bo bc hb so sc rb) (hN : NamesIn w no nc names) (hpow : Pow w)
    (h1 : w.heap[A]? = some (TabO ho ha.length hc ro ra.length rc)) (h2 : w.heap[B]? = some (TabO bo hb.length bc so rb.length sc)) (h3 : w.heap[N]? = some (.cells #[.slice no names.length nc] 22 (0, 0))) :
    Calls Tryz.prog 75 #[.pointer (some ⟨A, 0, none⟩), .pointer (some ⟨B, 0, none⟩), .pointer (some ⟨N, 0, none⟩)] w (PairsOut (byKeyU (useAB ha ra hb rb names) ha ra hb rb names) w) := by
  have C := Lib.hid (by_key_ok ho hc ha ro rc ra bo bc hb so sc rb no nc names w hA hB hN hpow)
  obtain ⟨a0, a1⟩ := tabs h1
  obtain ⟨b0, b1⟩ := tabs h2
  obtain ⟨n0, _⟩ := cell_of_box_l h3
  generalize byKeyU (useAB ha ra hb rb names) ha ra hb rb names = R at C ⊢
  clear hA hB hN hpow h1 h2 h3
  go_enter Tryz.func75, Tryz.ntmps75
  go_wp2_with fail
  refine C.out.mono ?_; rintro e w1 ⟨ao, cap, rfl, h4, h5, h6, h7⟩
  have HE : Hid (PairsOut R w (.returned (.slice ao R.length cap)) w1) := Lib.hid ⟨ao, cap, rfl, h4, h5, h6, h7⟩
  clear h4 h5 h6 h7 C
  go_wp2_with fail
  go_ret
  exact HE.out
set_option maxRecDepth 100000 in
set_option maxHeartbeats 2000000 in
theorem way2_any (A B N : Nat) (w : World) (hA : TabR w ho hc ha ro rc ra) (hB : TabR w bo bc hb so sc rb) (hP : PairsIn w lo lc l) (hpow : Pow w)
    (h1 : w.heap[A]? = some (TabO ho ha.length hc ro ra.length rc)) (h2 : w.heap[B]? = some (TabO bo hb.length bc so rb.length sc)) (h3 : w.heap[N]? = some (.cells #[.slice lo l.length lc] 26 (0, 0))) :
    Calls Tryz.prog 76 #[.pointer (some ⟨A, 0, none⟩), .pointer (some ⟨B, 0, none⟩), .pointer (some ⟨N, 0, none⟩)] w (PairsOut (byLookU ha ra hb rb l) w) := by
  have C := Lib.hid (by_look_ok ho hc ha ro rc ra bo bc hb so sc rb lo lc l w hA hB hP hpow)
  obtain ⟨a0, a1⟩ := tabs h1
  obtain ⟨b0, b1⟩ := tabs h2
  obtain ⟨n0, _⟩ := cell_of_box_l h3
  generalize byLookU ha ra hb rb l = R at C ⊢
  clear hA hB hP hpow h1 h2 h3
  go_enter Tryz.func76, Tryz.ntmps76
  go_wp2_with fail
  refine C.out.mono ?_; rintro e w1 ⟨ao, cap, rfl, h4, h5, h6, h7⟩
  have HE : Hid (PairsOut R w (.returned (.slice ao R.length cap)) w1) := Lib.hid ⟨ao, cap, rfl, h4, h5, h6, h7⟩
  clear h4 h5 h6 h7 C
  go_wp2_with fail
  go_ret
  exact HE.out
/-- a closure that answers with these pairs, in whatever world comes behind this one -/
def WayIs (R : PL) (W : World) (v : Value) : Prop := ∃ (F : FuncId) (x y z : Value), v = .func (.func F) #[] #[x, y, z] ∧ (F = 75 ∨ F = 76) ∧ Calls Tryz.prog F #[x, y, z] W (PairsOut R W)
set_option maxRecDepth 100000 in
set_option maxHeartbeats 4000000 in
theorem way_any (w : World) (hA : TabR w ho hc ha ro rc ra) (hB : TabR w bo bc hb so sc rb) (hP : PairsIn w lo lc l) (hN : NamesIn w no nc names) (hpow : Pow w) :
    Calls Tryz.prog 29 #[.agg #[.slice ho ha.length hc, .slice ro ra.length rc], .agg #[.slice bo hb.length bc, .slice so rb.length sc], .slice lo l.length lc, .slice no names.length nc] w fun e w' => ∃ v, e = .returned v ∧ WayIs (if (useAB ha ra hb rb names && pairedB ha hb l names) = true then byKeyU (useAB ha ra hb rb names) ha ra hb rb names else byLookU ha ra hb rb l) w' v ∧ Below w.heap.size w w' := by
  obtain ⟨W, HW⟩ : ∃ W, Hid (W = (((w.alloc (TabO ho ha.length hc ro ra.length rc)).alloc (TabO bo hb.length bc so rb.length sc)).alloc (PairsO lo l.length lc)).alloc (NamesO no names.length nc)) := ⟨_, Lib.hid rfl⟩
  have hX := boxes_four w (TabO ho ha.length hc ro ra.length rc) (TabO bo hb.length bc so rb.length sc) lo l.length lc no names.length nc
  have hY := two_new w (TabO ho ha.length hc ro ra.length rc) (TabO bo hb.length bc so rb.length sc)
  rw [← HW.out] at hX
  obtain ⟨hBW, x1, x2, x3, x4⟩ := hX
  have y1 := x1.trans hY.2.1
  have y2 := x2.trans hY.2.2
  have HB0 := Lib.hid hBW
  have blk : Hid (∀ V, Below W.heap.size W V → V.heap[w.heap.size]? = some (TabO ho ha.length hc ro ra.length rc) ∧ V.heap[w.heap.size + 1]? = some (TabO bo hb.length bc so rb.length sc) ∧ V.heap[w.heap.size + 1 + 1]? = some (.cells #[.slice lo l.length lc] 26 (0, 0)) ∧ V.heap[w.heap.size + 1 + 1 + 1]? = some (.cells #[.slice no names.length nc] 22 (0, 0))) :=
    Lib.hid (fun V h => ⟨(h.block _ (lt_of_heap y1)).trans y1, (h.block _ (lt_of_heap y2)).trans y2, (h.block _ (lt_of_heap x3)).trans x3, (h.block _ (lt_of_heap x4)).trans x4⟩)
  have box : Hid (∀ V, Below W.heap.size W V → (V.cell? ⟨w.heap.size, 0, none⟩ = some (.slice ho ha.length hc) ∧ V.cell? ⟨w.heap.size, 1, none⟩ = some (.slice ro ra.length rc)) ∧ (V.cell? ⟨w.heap.size + 1, 0, none⟩ = some (.slice bo hb.length bc) ∧ V.cell? ⟨w.heap.size + 1, 1, none⟩ = some (.slice so rb.length sc)) ∧ V.cell? ⟨w.heap.size + 1 + 1, 0, none⟩ = some (.slice lo l.length lc) ∧ V.cell? ⟨w.heap.size + 1 + 1 + 1, 0, none⟩ = some (.slice no names.length nc)) :=
    Lib.hid (fun V h => by obtain ⟨q1, q2, q3, q4⟩ := blk.out V h; exact ⟨tabs q1, tabs q2, (cell_of_box_l q3).1, (cell_of_box_l q4).1⟩)
  have HA : Hid (∀ V, Below W.heap.size W V → TabR V ho hc ha ro rc ra) := Lib.hid (fun V h => hA.kept (below_up hBW h))
  have HBt : Hid (∀ V, Below W.heap.size W V → TabR V bo bc hb so sc rb) := Lib.hid (fun V h => hB.kept (below_up hBW h))
  have HPt : Hid (∀ V, Below W.heap.size W V → PairsIn V lo lc l) := Lib.hid (fun V h => hP.kept (below_up hBW h))
  have HNm : Hid (∀ V, Below W.heap.size W V → NamesIn V no nc names) := Lib.hid (fun V h => hN.kept (below_up hBW h))
  have HPw : Hid (∀ V, Below W.heap.size W V → Pow V) := Lib.hid (fun V h => hpow.kept (below_up hBW h))
  have b1 := one_below W (TwoO ho ha.length hc ro ra.length rc bo hb.length bc so rb.length sc)
  have HB1 := Lib.hid b1
  have CU : Hid (Calls Tryz.prog 19 #[.slice (some ⟨W.heap.size, 0, none⟩) 2 2, .slice no names.length nc] (W.alloc (TwoO ho ha.length hc ro ra.length rc bo hb.length bc so rb.length sc)) fun e w' => e = .returned (.bool (useAB ha ra hb rb names)) ∧ Below (W.alloc (TwoO ho ha.length hc ro ra.length rc bo hb.length bc so rb.length sc)).heap.size (W.alloc (TwoO ho ha.length hc ro ra.length rc bo hb.length bc so rb.length sc)) w') :=
    Lib.hid (usable_ok (some ⟨W.heap.size, 0, none⟩) 2 ho hc ha ro rc ra bo bc hb so sc rb no nc names _ (HA.out _ b1) (HBt.out _ b1) (HNm.out _ b1) (HPw.out _ b1) (tabs_two (hA.tab.row.kept hBW) (hA.tab.rows.kept hBW) (hB.tab.row.kept hBW) (hB.tab.rows.kept hBW)))
  have CT := Lib.hid (fun V (h : Below W.heap.size W V) => rtogether_any ho hc ha ro ra.length rc bo bc hb so rb.length sc lo lc l no nc names V (by have := hA.h12; omega) (by have := hB.h12; omega) (by have := hP.len; omega) (by have := hN.len; omega) (HA.out V h).tab.row (HBt.out V h).tab.row (HPt.out V h).pairs (HNm.out V h).row)
  have CW1 := Lib.hid (fun V (h : Below W.heap.size W V) => way1_any ho hc ha ro rc ra bo bc hb so sc rb no nc names w.heap.size (w.heap.size + 1) (w.heap.size + 1 + 1 + 1) V (HA.out V h) (HBt.out V h) (HNm.out V h) (HPw.out V h) (blk.out V h).1 (blk.out V h).2.1 (blk.out V h).2.2.2)
  have CW2 := Lib.hid (fun V (h : Below W.heap.size W V) => way2_any ho hc ha ro rc ra bo bc hb so sc rb lo lc l w.heap.size (w.heap.size + 1) (w.heap.size + 1 + 1) V (HA.out V h) (HBt.out V h) (HPt.out V h) (HPw.out V h) (blk.out V h).1 (blk.out V h).2.1 (blk.out V h).2.2.1)
  obtain ⟨⟨a0, a1⟩, ⟨c0, c1⟩, p0, n0⟩ := box.out W (Below.refl _ _)
  have n1 := (box.out _ b1).2.2.2
  clear hA hB hP hN hpow hBW hY x1 x2 x3 x4 y1 y2 b1 HA HBt HPt HNm HPw blk
  generalize byKeyU (useAB ha ra hb rb names) ha ra hb rb names = R1 at CW1 ⊢
  generalize byLookU ha ra hb rb l = R2 at CW2 ⊢
  generalize useAB ha ra hb rb names = us at CU ⊢
  generalize pairedB ha hb l names = pr at CT ⊢
  cases us with
  | false =>
    clear CT CW1
    go_enter Tryz.func29, Tryz.ntmps29
    go_upto_region 2 with fail
    rw [show (((w.alloc (TabO ho ha.length hc ro ra.length rc)).alloc (TabO bo hb.length bc so rb.length sc)).alloc (PairsO lo l.length lc)).alloc (NamesO no names.length nc) = W from HW.out.symm]
    go_wp2_with fail
    refine CU.out.mono ?_; rintro e w2 ⟨rfl, b2⟩
    have HB2 := Lib.hid (below_up HB1.out b2)
    clear b2 CU
    go_wp2_with fail
    go_ret
    exact ⟨_, rfl, ⟨_, _, _, _, rfl, .inr rfl, CW2.out _ HB2.out⟩, below_up HB0.out HB2.out⟩
  | true =>
    go_enter Tryz.func29, Tryz.ntmps29
    go_upto_region 2 with fail
    rw [show (((w.alloc (TabO ho ha.length hc ro ra.length rc)).alloc (TabO bo hb.length bc so rb.length sc)).alloc (PairsO lo l.length lc)).alloc (NamesO no names.length nc) = W from HW.out.symm]
    go_wp2_with fail
    refine CU.out.mono ?_; rintro e w2 ⟨rfl, b2⟩
    have HB2 := Lib.hid (below_up HB1.out b2)
    have CT' := Lib.hid (CT.out w2 HB2.out)
    clear b2 CU CT a0 a1 c0 c1 p0 n0 n1
    obtain ⟨⟨a0, a1⟩, ⟨c0, c1⟩, p0, n0⟩ := box.out w2 HB2.out
    go_wp2_with fail
    refine CT'.out.mono ?_; rintro e w3 ⟨rfl, b3⟩
    have HB3 := Lib.hid (below_up HB2.out b3)
    clear b3 CT' a0 a1 c0 c1 p0 n0
    cases pr with
    | false =>
      clear CW1
      go_wp2_with fail
      go_ret
      exact ⟨_, rfl, ⟨_, _, _, _, rfl, .inr rfl, CW2.out _ HB3.out⟩, below_up HB0.out HB3.out⟩
    | true =>
      clear CW2
      go_wp2_with fail
      go_ret
      exact ⟨_, rfl, ⟨_, _, _, _, rfl, .inl rfl, CW1.out _ HB3.out⟩, below_up HB0.out HB3.out⟩
end
set_option maxRecDepth 100000 in
set_option maxHeartbeats 8000000 in
theorem rows_ok : RowsOK := by
  intro ho hc ha ro rc ra bo bc hb so sc rb lo lc l no nc names w hA hB hP hN hpow
  obtain ⟨W, HW⟩ : ∃ W, Hid (W = (w.alloc (TabO ho ha.length hc ro ra.length rc)).alloc (TabO bo hb.length bc so rb.length sc)) := ⟨_, Lib.hid rfl⟩
  have hBW : Below w.heap.size w W := by rw [HW.out]; exact two_below _ _ _
  have HB0 := Lib.hid hBW
  have hNw := two_new w (TabO ho ha.length hc ro ra.length rc) (TabO bo hb.length bc so rb.length sc)
  rw [← HW.out] at hNw
  have box : Hid (∀ V, Below W.heap.size W V → (V.cell? ⟨w.heap.size, 0, none⟩ = some (.slice ho ha.length hc) ∧ V.cell? ⟨w.heap.size, 1, none⟩ = some (.slice ro ra.length rc)) ∧ V.cell? ⟨w.heap.size + 1, 0, none⟩ = some (.slice bo hb.length bc) ∧ V.cell? ⟨w.heap.size + 1, 1, none⟩ = some (.slice so rb.length sc)) := Lib.hid (fun V hV => ⟨tabs ((hV.block _ (lt_of_heap hNw.2.1)).trans hNw.2.1), tabs ((hV.block _ (lt_of_heap hNw.2.2)).trans hNw.2.2)⟩)
  have C1 := Lib.hid (fun V (h : Below W.heap.size W V) => tcheck_in (hA.kept (below_up hBW h)).tab)
  have C2 := Lib.hid (fun V (h : Below W.heap.size W V) => tcheck_in (hB.kept (below_up hBW h)).tab)
  have C3 := Lib.hid (fun V (h : Below W.heap.size W V) => pcheck_any lo lc l (ha.length : Int) (hb.length : Int) V (by have := hP.len; omega) hP.ok (hP.kept (below_up hBW h)).pairs)
  have CW := Lib.hid (fun V (h : Below W.heap.size W V) => way_any ho hc ha ro rc ra bo bc hb so sc rb lo lc l no nc names V (hA.kept (below_up hBW h)) (hB.kept (below_up hBW h)) (hP.kept (below_up hBW h)) (hN.kept (below_up hBW h)) (hpow.kept (below_up hBW h)))
  have HE0 : Hid ((if (if checkI ha ra ≠ 0 then checkI ha ra else checkI hb rb) ≠ 0 then (if checkI ha ra ≠ 0 then checkI ha ra else checkI hb rb) else checkP l ha.length hb.length) = rowsE ha ra hb rb l) := Lib.hid rfl
  have HR0 : Hid (rowsE ha ra hb rb l ≠ 0 → rowsL (useAB ha ra hb rb names) ha ra hb rb l names = []) := Lib.hid (fun h => if_pos h)
  have HR1 : Hid (rowsE ha ra hb rb l = 0 → rowsL (useAB ha ra hb rb names) ha ra hb rb l names = if (useAB ha ra hb rb names && pairedB ha hb l names) = true then byKeyU (useAB ha ra hb rb names) ha ra hb rb names else byLookU ha ra hb rb l) := Lib.hid (fun h => by unfold rowsL; rw [if_neg (by simp [h])])
  obtain ⟨⟨a0, a1⟩, b0, b1⟩ := box.out W (Below.refl _ _)
  clear hA hB hP hN hpow hBW hNw
  generalize (if (useAB ha ra hb rb names && pairedB ha hb l names) = true then byKeyU (useAB ha ra hb rb names) ha ra hb rb names else byLookU ha ra hb rb l) = X at CW HR1
  generalize rowsL (useAB ha ra hb rb names) ha ra hb rb l names = R at HR0 HR1 ⊢
  generalize rowsE ha ra hb rb l = E at HE0 HR0 HR1 ⊢
  generalize checkI ha ra = E1 at C1 HE0
  generalize checkI hb rb = E2 at C2 HE0
  generalize checkP l ha.length hb.length = E3 at C3 HE0
  have HBel : Hid (Below W.heap.size W W.drew) := Lib.hid ((Below.refl _ W).drew)
  go_enter Tryz.func11, Tryz.ntmps11
  go_upto_region 1 with fail
  rw [show (w.alloc (Obj.cells #[Value.slice ho ha.length hc, Value.slice ro ra.length rc] 25)).alloc (Obj.cells #[Value.slice bo hb.length bc, Value.slice so rb.length sc] 25) = W from HW.out.symm]
  go_region_held3 (fun V => (V.cell? ⟨w.heap.size, 0, none⟩ = some (.slice ho ha.length hc) ∧ V.cell? ⟨w.heap.size, 1, none⟩ = some (.slice ro ra.length rc)) ∧ V.cell? ⟨w.heap.size + 1, 0, none⟩ = some (.slice bo hb.length bc) ∧ V.cell? ⟨w.heap.size + 1, 1, none⟩ = some (.slice so rb.length sc)) ((refine ⟨⟨?_, ?_⟩, ?_, ?_⟩ <;> first | assumption | go_keep))
    (first
      | (go_at_call 21; refine (C1.out _ HBel.out).mono ?_; rintro e w2 ⟨rfl, b2⟩; have HBel := Lib.hid (below_up HBel.out b2); obtain ⟨⟨a0, a1⟩, b0, b1⟩ := box.out w2 HBel.out; clear b2 C1)
      | (go_at_call 21; refine (C2.out _ HBel.out).mono ?_; rintro e w3 ⟨rfl, b2⟩; have HBel := Lib.hid (below_up HBel.out b2); obtain ⟨⟨a0, a1⟩, b0, b1⟩ := box.out w3 HBel.out; clear b2 C2)
      | (go_at_call 18; refine (C3.out _ HBel.out).mono ?_; rintro e w4 ⟨rfl, b2⟩; have HBel := Lib.hid (below_up HBel.out b2); obtain ⟨⟨a0, a1⟩, b0, b1⟩ := box.out w4 HBel.out; clear b2 C3)
      | (go_at_call 28; refine (or3_any E1 E2 E3 w4).mono ?_; rintro e w5 ⟨rfl, b2⟩; rw [HE0.out]; have HBel := Lib.hid (below_up HBel.out b2); obtain ⟨⟨a0, a1⟩, b0, b1⟩ := box.out w5 HBel.out; clear b2))
  rename_i hHeld
  clear hHeld HE0 box
  have D4 := Lib.hid (CW.out w5 HBel.out)
  clear CW
  by_cases hE : E = 0
  · subst hE
    have HRe := Lib.hid (HR1.out rfl)
    clear HR0 HR1
    go_wp2_with fail
    refine D4.out.mono ?_; rintro e w6 ⟨v, rfl, ⟨F, x, y, z, rfl, hF, hW6⟩, b6⟩
    have HB6 := Lib.hid (below_up HBel.out b6)
    have CX := Lib.hid hW6
    clear hW6 b6 D4 a0 a1 b0 b1
    have fin : ∀ e w7, PairsOut X w6 e w7 → ∃ ao cap, e = .returned (.slice ao X.length cap) ∧ Hid (AlignOut 0 R w (.returned (.tuple #[.slice ao X.length cap, .int .i64 0])) w7) := by
      rintro e w7 ⟨ao, cap, rfl, k1, k2, k3, k4⟩
      exact ⟨ao, cap, rfl, Lib.hid (by rw [HRe.out]; exact ⟨ao, cap, rfl, k1, k2, k3, below_up HB0.out (below_up HB6.out k4)⟩)⟩
    have FIN := Lib.hid fin
    clear fin HRe
    rcases hF with rfl | rfl
    · go_wp2_with fail
      refine CX.out.mono ?_; rintro e w7 h7
      obtain ⟨ao, cap, rfl, HE⟩ := FIN.out e w7 h7
      clear h7 CX
      go_wp2_with fail
      refine bodyPost_ret (v := .tuple #[.slice ao X.length cap, .int .i64 0]) (by simp [results, Tryz.results11, go_sem]) rfl ?_
      exact HE.out
    · go_wp2_with fail
      refine CX.out.mono ?_; rintro e w7 h7
      obtain ⟨ao, cap, rfl, HE⟩ := FIN.out e w7 h7
      clear h7 CX
      go_wp2_with fail
      refine bodyPost_ret (v := .tuple #[.slice ao X.length cap, .int .i64 0]) (by simp [results, Tryz.results11, go_sem]) rfl ?_
      exact HE.out
  · have hbE : (E != 0) = true := by simp [hE]
    have HE : Hid (AlignOut E R w (.returned (.tuple #[.slice none 0 0, .int .i64 E])) w5) := Lib.hid (by rw [HR0.out hE]; exact ⟨none, 0, rfl, .inl rfl, fun _ => rfl, Nat.le_refl _, below_up HB0.out HBel.out⟩)
    clear HR0 HR1 D4
    go_wp2_with fail
    refine bodyPost_ret (v := .tuple #[.slice none 0 0, .int .i64 E]) (by simp [results, Tryz.results11, go_sem]) rfl ?_
    exact HE.out
end Go.Proofs.YtdenehnneloegaaGreatDoor
namespace Go.Proofs.YtdenehnneloegaaGreatDoor
open Go.RowKit Go.Shelf Go.ChangeShapes Go.WideShapes Go.Deep Go.Lib
set_option linter.unusedVariables false
section
variable {H : Type} {enc : TypeId × Value → H} {P : Program} {w : World} {base : Nat} {held : Bool}
theorem strs_room {t q : TypeId} {fuel : Nat} {v : Value} {x : DataW H × List MemPlace} (ht : P.underlying t = some (.slice q)) (hq : P.underlying q = some .string) (cq : P.cellsOf q = 1) (bq : P.bytesOf q = 16)
    (h : DataW.trod enc P w base (fun _ => true) held fuel t [v] = some x) (hw : ∀ n ∈ x.1.weights P t, n ≤ reachBytes) : ∀ ao n cap, v = .slice ao n cap → n * 16 ≤ 140737488351232 := by
  intro ao n cap hv
  rcases open_strings ht hq cq h with ⟨h1, _⟩ | ⟨a', l', c', ss, h1, _, hl', hm', hz', hy, hcell, hsz⟩
  · simp at h1; rw [hv] at h1; injection h1 with _ e _; omega
  · simp at h1; rw [hv] at h1; injection h1 with e1 e2 e3
    subst e2
    have hm : ∀ es sp, x.1 = .slice es sp → (es.length + sp.length) * 16 ≤ reachBytes := fun es sp e => hw _ (by
      rw [e, DataW.weights]; simp only [ht, bq]; exact List.mem_cons_self)
    have := hm _ _ (by rw [hy])
    simp only [if_true] at hz'
    have hln : (ss.take n).length = n := by rw [List.length_take]; omega
    rw [show (strs (ss.take n) : List (DataW H)).length = (ss.take n).length from by simp [strs], hln] at this
    have h2 : n * 16 ≤ reachBytes := Nat.le_trans (Nat.mul_le_mul_right _ (Nat.le_add_right _ _)) this
    exact h2
theorem arg_tableH {r : Reach} {b0 : Nat} {t : TypeId} {f0 f1 : Field} {q : TypeId} {v : Value} {d : DataW H} {p : List MemPlace} (hs : P.underlying t = some (.struct #[f0, f1])) (hone : oneCellFields P #[f0, f1] = true) (hC : P.cellsOf t = 2)
    (h0 : P.underlying f0.type = some (.slice q)) (h1 : P.underlying f1.type = some (.slice f0.type)) (hq : P.underlying q = some .string) (cq : P.cellsOf q = 1) (cf : P.cellsOf f0.type = 1) (bq : P.bytesOf q = 16)
    (hv : Value.okWide P w r b0 t v) (h : DataW.Trod enc P w base (fun _ => true) held t v d p) (hw : ∀ n ∈ d.weights P t, n ≤ reachBytes) :
    ∃ ho hc hd ro rc rs, v = .agg #[.slice ho (List.length hd) hc, .slice ro (List.length rs) rc] ∧ StrArg w ho hc hd ∧ RowsArg w ro rc rs ∧ List.length hd ≤ 8796093022208 := by
  obtain ⟨v0, v1, y0, y1, n, rfl, rfl, rfl, k0, k1⟩ := Go.Joins.open_agg2 hs hone hC hv h
  have e : (DataW.agg [y0.1, y1.1] : DataW H).weights P t = DataW.weightsEach P [f0.type, f1.type] [y0.1, y1.1] := by rw [DataW.weights]; simp only [hs]; rfl
  rw [e] at hw
  have w0 := fun n hn => hw n (DataW.weights_mem_each (j := 0) rfl rfl n hn)
  have hroom := strs_room h0 hq cq bq k0 w0
  obtain ⟨ho, hc, hd, rfl, A⟩ := arg_strs h0 hq cq k0 w0
  obtain ⟨ro, rc, rs, rfl, B⟩ := arg_rows h1 h0 hq cf cq k1 (fun n hn => hw n (DataW.weights_mem_each (j := 1) rfl rfl n hn))
  exact ⟨ho, hc, hd, ro, rc, rs, rfl, A, B, by have := hroom _ _ _ rfl; omega⟩
end
end Go.Proofs.YtdenehnneloegaaGreatDoor
