/-
  The examples of the document that the statements ask for first are so.
  Conditions: none.
-/
import Derived.WalkKit
import Derived.WalkMore
import Derived.Lib.Hide
import Derived.Test.YtcifjclokfnocaaGreatProg
import Derived.Test.YtcifjclokfnocaaGreatEFunA
import Derived.Test.YtcifjclokfnocaaGreatEFunC
namespace Go.Proofs.YtcifjclokfnocaaGreat
open Go.RowKit Go.Shelf
set_option linter.unusedVariables false

/-- a table in a box -/
structure Held (b : Nat) (ho : Option Addr) (hd : List ByteArray) (hc : Cap ho hd.length) (ro : Option Addr) (rs : List (List ByteArray)) (rc : Cap ro rs.length) (V : World) : Prop where
  box : V.heap[b]? = some (TabO ho hd.length hc.1 ro rs.length rc.1)
  head : StrRow V ho hd
  rows : RowsAt V ro rs
section
variable {b : Nat} {ho : Option Addr} {hd : List ByteArray} {hc : Cap ho hd.length} {ro : Option Addr} {rs : List (List ByteArray)} {rc : Cap ro rs.length} {V V' : World}
theorem Held.kept (h : Held b ho hd hc ro rs rc V) (k : Below V.heap.size V V') : Held b ho hd hc ro rs rc V' := ⟨(k.block _ (lt_of_heap h.box)).trans h.box, h.head.kept k, h.rows.kept k⟩
theorem Held.cells (h : Held b ho hd hc ro rs rc V) : V.cell? ⟨b, 0, none⟩ = some (.slice ho hd.length hc.1) ∧ V.cell? ⟨b, 1, none⟩ = some (.slice ro rs.length rc.1) := tabs h.box
end
abbrev c1 : ByteArray := ⟨#[49]⟩
abbrev c2 : ByteArray := ⟨#[50]⟩
abbrev c9 : ByteArray := ⟨#[57]⟩
abbrev cA : ByteArray := ⟨#[97]⟩
abbrev cB : ByteArray := ⟨#[98]⟩
abbrev cX : ByteArray := ⟨#[120]⟩
theorem ex1 : turnR (colsH (fun xs => movL xs 0 1)) (colsR (fun xs => movL xs 0 1)) [cA, cB] [[c1, c2]] = .ok ([cB, cA], [[c2, c1]]) := by kernel_rfl
theorem ex2 : turnR (colsH (fun xs => delL xs 0)) (colsR (fun xs => delL xs 0)) [cA, cB] [[c1, c2]] = .ok ([cB], [[c2]]) := by kernel_rfl
theorem ex3 : turnR (colsH (fun xs => delL xs 0)) (colsR (fun xs => delL xs 0)) [cB] [[c2]] = .error 8 := by kernel_rfl
theorem ex4 : turnR (fun xs => setL xs 0 cB) (fun rs => .ok rs) [cA, cB] [[c1, c2]] = .error 10 := by kernel_rfl
theorem ex5 : turnR (fun xs => .ok xs) (fun rs => insL rs 0 [cX]) [cA, cB] [[c1, c2]] = .error 9 := by kernel_rfl
theorem ex6 : turnR (fun xs => .ok xs) (fun rs => turL rs 0 (fun r => setL r 1 c9)) [cA, cB] [[c1, c2]] = .ok ([cA, cB], [[c1, c9]]) := by kernel_rfl
theorem ex7 : turnR (colsH (fun xs => pickL xs [1])) (colsR (fun xs => pickL xs [1])) [cA, cB] [[c1, c2]] = .ok ([cB], [[c2]]) := by kernel_rfl
theorem tex : tiT [cA, cB] [[c1, c2]] := ⟨⟨by decide, by decide⟩, by decide, fun r hr => by simp at hr; subst hr; exact ⟨by decide, by decide⟩⟩
theorem tex2 : tiT [cB] [[c2]] := ⟨⟨by decide, by decide⟩, by decide, fun r hr => by simp at hr; subst hr; exact ⟨by decide, by decide⟩⟩
/-- what a call that is done leaves in a box -/
def DoneOut (hd : List ByteArray) (rs : List (List ByteArray)) (w : World) (e : Ending) (w' : World) : Prop :=
  ∃ (ho : Option Addr) (hc : Cap ho hd.length) (ro : Option Addr) (rc : Cap ro rs.length), e = .returned (.tuple #[.agg #[.slice ho hd.length hc.1, .slice ro rs.length rc.1], .int .i64 0]) ∧ StrRow w' ho hd ∧ RowsAt w' ro rs ∧ Below w.heap.size w w'
def FailOut (x : Int) (w : World) (e : Ending) (w' : World) : Prop :=
  ∃ (ho : Option Addr) (hc : Cap ho 0) (ro : Option Addr) (rc : Cap ro 0), e = .returned (.tuple #[.agg #[.slice ho 0 hc.1, .slice ro 0 rc.1], .int .i64 x]) ∧ Below w.heap.size w w'
theorem TabOut.done {X : Except Int Tab} {h : List ByteArray} {r : List (List ByteArray)} {w w' : World} {e : Ending} (q : TabOut X w e w') (hx : X = .ok (h, r)) : DoneOut h r w e w' := by
  subst hx
  obtain ⟨a, b, c, d, h1, h2, h3, h4, _⟩ := q
  exact ⟨a, b, c, d, h1, h2, h3, h4⟩
theorem TabOut.fail {X : Except Int Tab} {x : Int} {w w' : World} {e : Ending} (q : TabOut X w e w') (hx : X = .error x) : FailOut x w e w' := by
  subst hx; exact q
theorem held_new {w : World} {ho : Option Addr} {hd : List ByteArray} {hc : Cap ho hd.length} {ro : Option Addr} {rs : List (List ByteArray)} {rc : Cap ro rs.length} (h1 : StrRow w ho hd) (h2 : RowsAt w ro rs) : Held w.heap.size ho hd hc ro rs rc (w.alloc (TabO ho hd.length hc.1 ro rs.length rc.1)) :=
  ⟨World.alloc_heap_new w _, h1.kept (one_below _ _), h2.kept (one_below _ _)⟩

section
variable (ho ro : Option Addr) (hc : Cap ho 2) (rc : Cap ro 1) (w : World) (hH : StrRow w ho [cA, cB]) (hR : RowsAt w ro [[c1, c2]])
include hH hR
theorem wMove : Calls Tryz.prog 10 #[.agg #[.slice ho 2 hc.1, .slice ro 1 rc.1], .int .i64 0, .int .i64 1] w fun e w' => ∃ mo mc no nc, e = .returned (.tuple #[.agg #[.slice mo 2 mc, .slice no 1 nc], .int .i64 0]) ∧ StrRow w' mo [cB, cA] ∧ Below w.heap.size w w' :=
  (eMoveCol ho ro [cA, cB] [[c1, c2]] hc rc 0 1 w tex hH hR).mono fun e w' q => by
    obtain ⟨a, b, c, d, h1, h2, h3, h4⟩ := q.done ex1
    exact ⟨a, b.1, c, d.1, h1, h2, h4⟩
theorem wDel : Calls Tryz.prog 11 #[.agg #[.slice ho 2 hc.1, .slice ro 1 rc.1], .int .i64 0] w fun e w' => ∃ (mo : Option Addr) (mc : Cap mo 1) (no : Option Addr) (nc : Cap no 1), e = .returned (.tuple #[.agg #[.slice mo 1 mc.1, .slice no 1 nc.1], .int .i64 0]) ∧ StrRow w' mo [cB] ∧ RowsAt w' no [[c2]] ∧ Below w.heap.size w w' :=
  (eDeleteCol ho ro [cA, cB] [[c1, c2]] hc rc 0 w tex hH hR).mono fun e w' q => by
    obtain ⟨a, b, c, d, h1, h2, h3, h4⟩ := q.done ex2
    exact ⟨a, b, c, d, h1, h2, h3, h4⟩
theorem wRename : Calls Tryz.prog 12 #[.agg #[.slice ho 2 hc.1, .slice ro 1 rc.1], .int .i64 0, .string cB] w fun e w' => ∃ mo mc no nc, e = .returned (.tuple #[.agg #[.slice mo 0 mc, .slice no 0 nc], .int .i64 10]) ∧ Below w.heap.size w w' :=
  (eRenameCol ho ro [cA, cB] [[c1, c2]] hc rc 0 cB w tex hH hR (by decide)).mono fun e w' q => by
    obtain ⟨a, b, c, d, h1, h2⟩ := q.fail ex4
    exact ⟨a, b.1, c, d.1, h1, h2⟩
theorem wInsert (xo : Option Addr) (xc : Cap xo 1) (hx : StrRow w xo [cX]) : Calls Tryz.prog 13 #[.agg #[.slice ho 2 hc.1, .slice ro 1 rc.1], .int .i64 0, .slice xo 1 xc.1] w fun e w' => ∃ mo mc no nc, e = .returned (.tuple #[.agg #[.slice mo 0 mc, .slice no 0 nc], .int .i64 9]) ∧ Below w.heap.size w w' :=
  (eInsertRow ho ro [cA, cB] [[c1, c2]] hc rc 0 xo [cX] xc w tex hH hR hx ⟨by decide, by decide⟩).mono fun e w' q => by
    obtain ⟨a, b, c, d, h1, h2⟩ := q.fail ex5
    exact ⟨a, b.1, c, d.1, h1, h2⟩
theorem wSet : Calls Tryz.prog 14 #[.agg #[.slice ho 2 hc.1, .slice ro 1 rc.1], .int .i64 0, .int .i64 1, .string c9] w fun e w' => ∃ mo mc no nc, e = .returned (.tuple #[.agg #[.slice mo 2 mc, .slice no 1 nc], .int .i64 0]) ∧ RowsAt w' no [[c1, c9]] ∧ Below w.heap.size w w' :=
  (eSet ho ro [cA, cB] [[c1, c2]] hc rc 0 1 c9 w tex hH hR (by decide)).mono fun e w' q => by
    obtain ⟨a, b, c, d, h1, h2, h3, h4⟩ := q.done ex6
    exact ⟨a, b.1, c, d.1, h1, h3, h4⟩
theorem wPick (po : Option Addr) (pc : Nat) (hp : IntsAt w po [1]) : Calls Tryz.prog 15 #[.agg #[.slice ho 2 hc.1, .slice ro 1 rc.1], .slice po 1 pc] w fun e w' => ∃ mo mc no nc, e = .returned (.tuple #[.agg #[.slice mo 1 mc, .slice no 1 nc], .int .i64 0]) ∧ Below w.heap.size w w' :=
  (eProject ho ro [cA, cB] [[c1, c2]] hc rc po [1] pc w tex hH hR hp (by decide)).mono fun e w' q => by
    obtain ⟨a, b, c, d, h1, h2, h3, h4⟩ := q.done ex7
    exact ⟨a, b.1, c, d.1, h1, h4⟩
end
theorem wDel2 (ho ro : Option Addr) (hc : Cap ho 1) (rc : Cap ro 1) (w : World) (hH : StrRow w ho [cB]) (hR : RowsAt w ro [[c2]]) : Calls Tryz.prog 11 #[.agg #[.slice ho 1 hc.1, .slice ro 1 rc.1], .int .i64 0] w fun e w' => ∃ mo mc no nc, e = .returned (.tuple #[.agg #[.slice mo 0 mc, .slice no 0 nc], .int .i64 8]) ∧ Below w.heap.size w w' :=
  (eDeleteCol ho ro [cB] [[c2]] hc rc 0 w tex2 hH hR).mono fun e w' q => by
    obtain ⟨a, b, c, d, h1, h2⟩ := q.fail ex3
    exact ⟨a, b.1, c, d.1, h1, h2⟩
def c2c (A : Addr) : Cap (some A) 2 := ⟨2, Nat.le_refl _, fun e => by cases e⟩
def c1c (A : Addr) : Cap (some A) 1 := ⟨1, Nat.le_refl _, fun e => by cases e⟩
theorem bk_kept {V V' : World} {n : Nat} {o : Obj} (h : V.heap[n]? = some o) (k : Below V.heap.size V V') : V'.heap[n]? = some o := (k.block _ (lt_of_heap h)).trans h
theorem mk_kept {V V' : World} {n : Nat} {o : Obj} {ao : Option Addr} {xs : List ByteArray} (h : V.heap[n]? = some o ∧ StrRow V ao xs) (k : Below V.heap.size V V') : V'.heap[n]? = some o ∧ StrRow V' ao xs := ⟨bk_kept h.1 k, h.2.kept k⟩
theorem sk_kept {V V' : World} {n : Nat} {o : Obj} {ao : Option Addr} {rs : List (List ByteArray)} (h : V.heap[n]? = some o ∧ RowsAt V ao rs) (k : Below V.heap.size V V') : V'.heap[n]? = some o ∧ RowsAt V' ao rs := ⟨bk_kept h.1 k, h.2.kept k⟩
theorem ints_one (w : World) (T : TypeId) : IntsAt (w.alloc (.cells #[.int .i64 1] T)) (some ⟨w.heap.size, 0, none⟩) [1] :=
  .inr ⟨_, rfl, by simp, fun i c hc => by rw [new_cell]; match i, hc with | 0, hc => simp at hc; subst hc; rfl⟩
/-- the table of the examples, in its box, and a world behind w -/
structure ExT (w : World) (n : Nat) (ho ro : Option Addr) (V : World) : Prop where
  box : V.heap[n]? = some (TabO ho 2 2 ro 1 1)
  head : StrRow V ho [cA, cB]
  rows : RowsAt V ro [[c1, c2]]
  below : Below w.heap.size w V
theorem ExT.kept {w : World} {n : Nat} {ho ro : Option Addr} {V V' : World} (h : ExT w n ho ro V) (k : Below V.heap.size V V') : ExT w n ho ro V' := ⟨(k.block _ (lt_of_heap h.box)).trans h.box, h.head.kept k, h.rows.kept k, below_up h.below k⟩

set_option maxRecDepth 100000 in
set_option maxHeartbeats 8000000 in
theorem eworks_any (w : World) : Calls Tryz.prog 4 #[] w fun e w' => e = .returned (.bool true) ∧ Below w.heap.size w w' := by
  obtain ⟨W, HW⟩ : ∃ W, Hid (W = (((w.alloc (.cells #[.string cA, .string cB] 9)).alloc (.cells #[.string c1, .string c2] 9)).alloc (.cells #[.slice (some ⟨w.heap.size + 1, 0, none⟩) 2 2] 22)).alloc (TabO (some ⟨w.heap.size, 0, none⟩) 2 2 (some ⟨w.heap.size + 1 + 1, 0, none⟩) 1 1)) := ⟨_, Lib.hid rfl⟩
  have HW2 : Hid (W = (((w.alloc (Obj.cells #[Value.string ⟨#[97]⟩, Value.string ⟨#[98]⟩] 9)).alloc (Obj.cells #[Value.string ⟨#[49]⟩, Value.string ⟨#[50]⟩] 9)).alloc (Obj.cells #[Value.slice (some ⟨w.heap.size + 1, 0, none⟩) 2 2] 22)).alloc (Obj.cells #[Value.slice (some ⟨w.heap.size, 0, none⟩) 2 2, Value.slice (some ⟨w.heap.size + 1 + 1, 0, none⟩) 1 1] 25)) := Lib.hid HW.out
  have hX : ExT w (w.heap.size + 1 + 1 + 1) (some ⟨w.heap.size, 0, none⟩) (some ⟨w.heap.size + 1 + 1, 0, none⟩) W := by
    have a1 := new_row w [cA, cB] 9
    have a2 := new_row (w.alloc (.cells #[.string cA, .string cB] 9)) [c1, c2] 9
    rw [World.size_alloc] at a2
    have a3 := rows_one _ _ [c1, c2] ⟨2, Nat.le_refl _, fun e => by cases e⟩ 22 a2
    rw [World.size_alloc, World.size_alloc] at a3
    have b1 := one_below w (.cells #[.string cA, .string cB] 9)
    have b2 := one_below (w.alloc (.cells #[.string cA, .string cB] 9)) (.cells #[.string c1, .string c2] 9)
    have b3 := one_below ((w.alloc (.cells #[.string cA, .string cB] 9)).alloc (.cells #[.string c1, .string c2] 9)) (.cells #[.slice (some ⟨w.heap.size + 1, 0, none⟩) 2 2] 22)
    have b4 := one_below (((w.alloc (.cells #[.string cA, .string cB] 9)).alloc (.cells #[.string c1, .string c2] 9)).alloc (.cells #[.slice (some ⟨w.heap.size + 1, 0, none⟩) 2 2] 22)) (TabO (some ⟨w.heap.size, 0, none⟩) 2 2 (some ⟨w.heap.size + 1 + 1, 0, none⟩) 1 1)
    rw [HW.out]
    refine ⟨?_, ((a1.kept b2).kept b3).kept b4, a3.kept b4, below_up (below_up (below_up b1 b2) b3) b4⟩
    have h := World.alloc_heap_new (((w.alloc (.cells #[.string cA, .string cB] 9)).alloc (.cells #[.string c1, .string c2] 9)).alloc (.cells #[.slice (some ⟨w.heap.size + 1, 0, none⟩) 2 2] 22)) (TabO (some ⟨w.heap.size, 0, none⟩) 2 2 (some ⟨w.heap.size + 1 + 1, 0, none⟩) 1 1)
    simpa only [World.size_alloc] using h
  have HX := Lib.hid hX
  clear hX
  have C := Lib.hid (wMove _ _ (c2c _) (c1c _) W HX.out.head HX.out.rows)
  go_enter Tryz.func4, Tryz.ntmps4
  go_wp2_with fail
  rw [← HW2.out]
  clear HW HW2
  refine C.out.mono ?_; rintro e u1 ⟨mo, mc, no, nc, rfl, hm, b1⟩
  have HX := Lib.hid ((HX.out.kept b1).kept (one_below u1 (TabO mo 2 mc no 1 nc)))
  have HM : Hid ((u1.alloc (TabO mo 2 mc no 1 nc)).heap[u1.heap.size]? = some (TabO mo 2 mc no 1 nc) ∧ StrRow (u1.alloc (TabO mo 2 mc no 1 nc)) mo [cB, cA]) := Lib.hid ⟨World.alloc_heap_new u1 _, hm.kept (one_below _ _)⟩
  clear hm b1 C
  obtain ⟨k0, k1⟩ := tabs HX.out.box
  have lB := lt_of_heap HX.out.box
  have C := Lib.hid (wDel _ _ (c2c _) (c1c _) _ HX.out.head HX.out.rows)
  go_wp2_with fail
  refine C.out.mono ?_; rintro e u2 ⟨mo2, mc2, no2, nc2, rfl, hd2, hr2, b2⟩
  have HX := Lib.hid ((HX.out.kept b2).kept (one_below u2 (TabO mo2 1 mc2.1 no2 1 nc2.1)))
  have HM := Lib.hid (mk_kept HM.out (below_up b2 (one_below u2 (TabO mo2 1 mc2.1 no2 1 nc2.1))))
  have HD : Hid ((u2.alloc (TabO mo2 1 mc2.1 no2 1 nc2.1)).heap[u2.heap.size]? = some (TabO mo2 1 mc2.1 no2 1 nc2.1) ∧ StrRow (u2.alloc (TabO mo2 1 mc2.1 no2 1 nc2.1)) mo2 [cB] ∧ RowsAt (u2.alloc (TabO mo2 1 mc2.1 no2 1 nc2.1)) no2 [[c2]]) := Lib.hid ⟨World.alloc_heap_new u2 _, hd2.kept (one_below _ _), hr2.kept (one_below _ _)⟩
  clear C k0 k1 lB hd2 hr2 b2
  obtain ⟨d0, d1⟩ := tabs HD.out.1
  obtain ⟨k0, k1⟩ := tabs HX.out.box
  have lB := lt_of_heap HX.out.box
  have C := Lib.hid (wDel2 _ _ mc2 nc2 _ HD.out.2.1 HD.out.2.2)
  go_wp2_with fail
  refine C.out.mono ?_; rintro e u3 ⟨mo3, mc3, no3, nc3, rfl, b3⟩
  have HX := Lib.hid ((HX.out.kept b3).kept (one_below u3 (TabO mo3 0 mc3 no3 0 nc3)))
  have HM := Lib.hid (mk_kept HM.out (below_up b3 (one_below u3 (TabO mo3 0 mc3 no3 0 nc3))))
  have HD := Lib.hid (bk_kept HD.out.1 (below_up b3 (one_below u3 (TabO mo3 0 mc3 no3 0 nc3))))
  clear C k0 k1 lB b3 d0 d1
  obtain ⟨k0, k1⟩ := tabs HX.out.box
  have lB := lt_of_heap HX.out.box
  have C := Lib.hid (wRename _ _ (c2c _) (c1c _) _ HX.out.head HX.out.rows)
  go_wp2_with fail
  refine C.out.mono ?_; rintro e u4 ⟨mo4, mc4, no4, nc4, rfl, b4⟩
  have HX := Lib.hid ((HX.out.kept b4).kept (one_below u4 (TabO mo4 0 mc4 no4 0 nc4)))
  have HM := Lib.hid (mk_kept HM.out (below_up b4 (one_below u4 (TabO mo4 0 mc4 no4 0 nc4))))
  have HD := Lib.hid (bk_kept HD.out (below_up b4 (one_below u4 (TabO mo4 0 mc4 no4 0 nc4))))
  clear C k0 k1 lB b4
  have a5 := new_row (u4.alloc (TabO mo4 0 mc4 no4 0 nc4)) [cX] 9
  have q5 := one_below (u4.alloc (TabO mo4 0 mc4 no4 0 nc4)) (.cells #[.string cX] 9)
  have HX5 := Lib.hid (HX.out.kept q5)
  have HM := Lib.hid (mk_kept HM.out q5)
  have HD := Lib.hid (bk_kept HD.out q5)
  rw [World.size_alloc] at a5
  obtain ⟨k0, k1⟩ := tabs HX.out.box
  have lB := lt_of_heap HX.out.box
  have C := Lib.hid (wInsert _ _ (c2c _) (c1c _) _ HX5.out.head HX5.out.rows _ (c1c _) a5)
  go_wp2_with fail
  refine C.out.mono ?_; rintro e u5 ⟨mo5, mc5, no5, nc5, rfl, b5⟩
  have HX := Lib.hid ((HX5.out.kept b5).kept (one_below u5 (TabO mo5 0 mc5 no5 0 nc5)))
  have HM := Lib.hid (mk_kept HM.out (below_up b5 (one_below u5 (TabO mo5 0 mc5 no5 0 nc5))))
  have HD := Lib.hid (bk_kept HD.out (below_up b5 (one_below u5 (TabO mo5 0 mc5 no5 0 nc5))))
  clear C k0 k1 lB b5 a5 q5 HX5
  obtain ⟨k0, k1⟩ := tabs HX.out.box
  have lB := lt_of_heap HX.out.box
  have C := Lib.hid (wSet _ _ (c2c _) (c1c _) _ HX.out.head HX.out.rows)
  go_wp2_with fail
  refine C.out.mono ?_; rintro e u6 ⟨mo6, mc6, no6, nc6, rfl, hr6, b6⟩
  have HX := Lib.hid ((HX.out.kept b6).kept (one_below u6 (TabO mo6 2 mc6 no6 1 nc6)))
  have HM := Lib.hid (mk_kept HM.out (below_up b6 (one_below u6 (TabO mo6 2 mc6 no6 1 nc6))))
  have HD := Lib.hid (bk_kept HD.out (below_up b6 (one_below u6 (TabO mo6 2 mc6 no6 1 nc6))))
  have HS : Hid ((u6.alloc (TabO mo6 2 mc6 no6 1 nc6)).heap[u6.heap.size]? = some (TabO mo6 2 mc6 no6 1 nc6) ∧ RowsAt (u6.alloc (TabO mo6 2 mc6 no6 1 nc6)) no6 [[c1, c9]]) := Lib.hid ⟨World.alloc_heap_new u6 _, hr6.kept (one_below _ _)⟩
  clear C k0 k1 lB b6 hr6
  have a7 := ints_one (u6.alloc (TabO mo6 2 mc6 no6 1 nc6)) 3
  have q7 := one_below (u6.alloc (TabO mo6 2 mc6 no6 1 nc6)) (.cells #[.int .i64 1] 3)
  have HX7 := Lib.hid (HX.out.kept q7)
  have HM := Lib.hid (mk_kept HM.out q7)
  have HD := Lib.hid (bk_kept HD.out q7)
  have HS := Lib.hid (sk_kept HS.out q7)
  rw [World.size_alloc] at a7
  obtain ⟨k0, k1⟩ := tabs HX.out.box
  have lB := lt_of_heap HX.out.box
  have C := Lib.hid (wPick _ _ (c2c _) (c1c _) _ HX7.out.head HX7.out.rows _ 1 a7)
  go_wp2_with fail
  refine C.out.mono ?_; rintro e u7 ⟨mo7, mc7, no7, nc7, rfl, b7⟩
  have HX := Lib.hid ((HX7.out.kept b7).kept (one_below u7 (TabO mo7 1 mc7 no7 1 nc7)))
  have HM := Lib.hid (mk_kept HM.out (below_up b7 (one_below u7 (TabO mo7 1 mc7 no7 1 nc7))))
  have HD := Lib.hid (bk_kept HD.out (below_up b7 (one_below u7 (TabO mo7 1 mc7 no7 1 nc7))))
  have HS := Lib.hid (sk_kept HS.out (below_up b7 (one_below u7 (TabO mo7 1 mc7 no7 1 nc7))))
  have HP : Hid ((u7.alloc (TabO mo7 1 mc7 no7 1 nc7)).heap[u7.heap.size]? = some (TabO mo7 1 mc7 no7 1 nc7)) := Lib.hid (World.alloc_heap_new u7 _)
  clear C k0 k1 lB b7 a7 q7 HX7
  have a8 := new_row (u7.alloc (TabO mo7 1 mc7 no7 1 nc7)) [cB, cA] 9
  have q8 := one_below (u7.alloc (TabO mo7 1 mc7 no7 1 nc7)) (.cells #[.string cB, .string cA] 9)
  rw [World.size_alloc] at a8
  have HX := Lib.hid (HX.out.kept q8)
  obtain ⟨m0, m1⟩ := tabs HM.out.1
  have HM := Lib.hid (mk_kept HM.out q8)
  have HD := Lib.hid (bk_kept HD.out q8)
  have HS := Lib.hid (sk_kept HS.out q8)
  have HP := Lib.hid (bk_kept HP.out q8)
  have C := Lib.hid (rrow_any _ _ mc 2 [cB, cA] [cB, cA] _ (by decide) HM.out.2 a8)
  rw [show sameRow [cB, cA] [cB, cA] = true from by decide] at C
  clear a8 q8
  go_wp2_with fail
  refine C.out.mono ?_; rintro e u8 ⟨rfl, b8⟩
  have HB := Lib.hid (HX.out.kept b8).below
  have HS := Lib.hid (sk_kept HS.out b8)
  obtain ⟨d0, d1⟩ := tabs (bk_kept HD.out b8)
  obtain ⟨s0, s1⟩ := tabs HS.out.1
  obtain ⟨p0, p1⟩ := tabs (bk_kept HP.out b8)
  have C := Lib.hid (tcell_any mo6 2 mc6 no6 nc6 [[c1, c9]] 0 1 u8 (by decide) (by decide) HS.out.2)
  rw [show cellL [[c1, c9]] 0 1 = c9 from by decide] at C
  clear b8
  go_wp2_with fail
  refine C.out.mono ?_; rintro e u9 ⟨rfl, b9⟩
  have HB := Lib.hid (below_up HB.out b9)
  have p2 := (b9.cell (p := ⟨u7.heap.size, 0, none⟩) (block_lt_of_cell p0)).trans p0
  clear b9
  go_wp2_with fail
  go_ret
  exact ⟨rfl, HB.out⟩
end Go.Proofs.YtcifjclokfnocaaGreat
