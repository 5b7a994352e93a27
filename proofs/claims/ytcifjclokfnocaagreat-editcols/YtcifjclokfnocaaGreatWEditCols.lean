/-
  The walk of the statement EditCols.
  Conditions: none beyond the form of claims.
-/
import Derived.WalkKit
import Derived.WalkMore
import Derived.Lib.Hide
import Derived.Test.YtcifjclokfnocaaGreatProg
import Derived.Test.YtcifjclokfnocaaGreatECols
namespace Go.Proofs.YtcifjclokfnocaaGreat
open Go.RowKit Go.Shelf
set_option linter.unusedVariables false

theorem TabQ.shape {X : Except Int Tab} {w w' : World} {e : Ending} (h : TabQ X w e w') : ∃ qo qn qc so sn sc x, e = .returned (.tuple #[.agg #[.slice qo qn qc, .slice so sn sc], .int .i64 x]) := by
  cases X with
  | error x => obtain ⟨a, b, c, d, h1, h2⟩ := h; exact ⟨_, _, _, _, _, _, _, h1⟩
  | ok t => obtain ⟨a, b, c, d, h1, h2, h3, h4⟩ := h; exact ⟨_, _, _, _, _, _, _, h1⟩
theorem TabQ.below {X : Except Int Tab} {w w' : World} {e : Ending} (h : TabQ X w e w') : Below w.heap.size w w' := by
  cases X with
  | error x => obtain ⟨a, b, c, d, h1, h2⟩ := h; exact h2
  | ok t => obtain ⟨a, b, c, d, h1, h2, h3, h4⟩ := h; exact h4
theorem TabQ.parts {X : Except Int Tab} {w w' : World} {qo so : Option Addr} {qn qc sn sc : Nat} {x : Int} (q : TabQ X w (.returned (.tuple #[.agg #[.slice qo qn qc, .slice so sn sc], .int .i64 x])) w') :
    (X = .error x ∧ qn = 0 ∧ sn = 0) ∨ ∃ h r, X = .ok (h, r) ∧ x = 0 ∧ qn = h.length ∧ sn = r.length ∧ (h.length ≤ qc ∧ (qo = none → qc = 0)) ∧ (r.length ≤ sc ∧ (so = none → sc = 0)) ∧ StrRow w' qo h ∧ RowsAt w' so r := by
  cases X with
  | error y =>
    obtain ⟨a, b, c, d, h1, _⟩ := q
    injection h1 with h1
    injection h1 with h1
    have e1 : Value.int IntKind.i64 x = Value.int IntKind.i64 y := by have := congrArg (fun a => a[1]?) h1; injection this
    have e2 : Value.agg #[.slice qo qn qc, .slice so sn sc] = Value.agg #[.slice a 0 b.1, .slice c 0 d.1] := by have := congrArg (fun a => a[0]?) h1; injection this
    injection e1 with _ e1
    injection e2 with e2
    have e3 : Value.slice qo qn qc = Value.slice a 0 b.1 := by have := congrArg (fun a => a[0]?) e2; injection this
    have e4 : Value.slice so sn sc = Value.slice c 0 d.1 := by have := congrArg (fun a => a[1]?) e2; injection this
    injection e3 with _ e3 _
    injection e4 with _ e4 _
    exact .inl ⟨by rw [e1], e3, e4⟩
  | ok t =>
    obtain ⟨h, r⟩ := t
    obtain ⟨a, b, c, d, h1, h2, h3, _⟩ := q
    injection h1 with h1
    injection h1 with h1
    have e1 : Value.int IntKind.i64 x = Value.int IntKind.i64 0 := by have := congrArg (fun a => a[1]?) h1; injection this
    have e2 : Value.agg #[.slice qo qn qc, .slice so sn sc] = Value.agg #[.slice a h.length b.1, .slice c r.length d.1] := by have := congrArg (fun a => a[0]?) h1; injection this
    injection e1 with _ e1
    injection e2 with e2
    have e3 : Value.slice qo qn qc = Value.slice a h.length b.1 := by have := congrArg (fun a => a[0]?) e2; injection this
    have e4 : Value.slice so sn sc = Value.slice c r.length d.1 := by have := congrArg (fun a => a[1]?) e2; injection this
    injection e3 with e30 e31 e32
    injection e4 with e40 e41 e42
    subst e30 e40
    exact .inr ⟨h, r, rfl, e1, e31, e41, by rw [e32]; exact b.2, by rw [e42]; exact d.2, h2, h3⟩

set_option maxRecDepth 100000 in
set_option maxHeartbeats 8000000 in
theorem walkEditCols (ho : Option Addr) (hc : Nat) (hd : List ByteArray) (ro : Option Addr) (rc : Nat) (rs : List (List ByteArray)) (kd a b : Int) (tx : ByteArray) (co : Option Addr) (cc : Nat) (cells : List ByteArray) (po : Option Addr) (pc : Nat) (ps : List Int) (w : World)
    (hA : StrArg w ho hc hd) (hB : RowsArg w ro rc rs) (hG : EditArg w kd a b tx co cc cells po pc ps) :
    Calls Tryz.prog 3 #[.agg #[.slice ho hd.length hc, .slice ro rs.length rc], .agg #[.int .i64 kd, .int .i64 a, .int .i64 b, .string tx, .slice co cells.length cc, .slice po ps.length pc]] w fun e w' => e = .returned (.bool true) ∧ Below w.heap.size w w' := by
  obtain ⟨W, HW⟩ : ∃ W, Hid (W = (w.alloc (TabO ho hd.length hc ro rs.length rc)).alloc (EdO kd a b tx co cells.length cc po ps.length pc)) := ⟨_, Lib.hid rfl⟩
  have HW2 : Hid (W = (w.alloc (Obj.cells #[Value.slice ho hd.length hc, Value.slice ro rs.length rc] 25)).alloc (Obj.cells #[Value.int .i64 kd, Value.int .i64 a, Value.int .i64 b, Value.string tx, Value.slice co cells.length cc, Value.slice po ps.length pc] 28)) := Lib.hid HW.out
  have hb0 : Below w.heap.size w W := by rw [HW.out]; exact two_below _ _ _
  have hN2 := two_new w (TabO ho hd.length hc ro rs.length rc) (EdO kd a b tx co cells.length cc po ps.length pc)
  rw [← HW.out] at hN2
  have g0 := hN2.2.1
  have g1 := hN2.2.2
  have HA := Lib.hid hA
  have HB := Lib.hid hB
  have HG := Lib.hid hG
  have B0 := Lib.hid hb0
  have box : Hid (∀ V, Below W.heap.size W V → V.cell? ⟨w.heap.size, 0, none⟩ = some (.slice ho hd.length hc) ∧ V.cell? ⟨w.heap.size, 1, none⟩ = some (.slice ro rs.length rc)) := Lib.hid (fun V hV => tabs ((hV.block _ (lt_of_heap g0)).trans g0))
  have boxx := Lib.hid (fun V (hV : Below W.heap.size W V) => edcells ((hV.block _ (lt_of_heap g1)).trans g1))
  clear hA hB hb0 hN2 g0 g1 hG
  go_enter Tryz.func3, Tryz.ntmps3
  go_wp2_with fail
  rw [← HW2.out]
  refine (eworks_any _).mono ?_; rintro e w1 ⟨rfl, b1⟩
  obtain ⟨p0, p1⟩ := box.out w1 b1
  have X1 := below_up B0.out b1
  have B1 := Lib.hid b1
  have C1 := Lib.hid (rfew_any ho hc hd ro rc rs w1 HA.out.len HB.out.len HB.out.each HA.out.size (HA.out.row.kept X1) (HB.out.rows.kept X1))
  clear b1 X1 HW HW2
  go_wp2_with fail
  refine C1.out.mono ?_; rintro e w2 ⟨fl, rfl, hb, b2⟩
  have B2 := Lib.hid (below_up B1.out b2)
  clear b2 p0 p1 C1 B1
  cases fl with
  | false =>
    go_wp2_with fail
    go_ret
    exact ⟨rfl, below_up B0.out B2.out⟩
  | true =>
  have HT := Lib.hid (few_ti (hb rfl))
  clear hb
  have HH : Hid (∀ V, Below W.heap.size W V → StrRow V ho hd) := Lib.hid (fun V hV => HA.out.row.kept (below_up B0.out hV))
  have HR : Hid (∀ V, Below W.heap.size W V → RowsAt V ro rs) := Lib.hid (fun V hV => HB.out.rows.kept (below_up B0.out hV))
  have HX : Hid (∀ V, Below W.heap.size W V → StrRow V co cells ∧ IntsAt V po ps) := Lib.hid (fun V hV => ⟨HG.out.cells.row.kept (below_up B0.out hV), HG.out.cols.ints.kept (below_up B0.out hV)⟩)
  have F1 := Lib.hid (few5_any kd a b tx co cells cc po ps pc w2 HG.out.text HG.out.cells.len HG.out.cols.len HG.out.cells.size (HX.out _ B2.out).1)
  obtain ⟨x0, x1, x2, x3, x4, x5⟩ := boxx.out w2 B2.out
  go_wp2_with fail
  refine F1.out.mono ?_; rintro e w3 ⟨fl, rfl, hb, b3⟩
  have B3 := Lib.hid (below_up B2.out b3)
  clear b3 F1 x0 x1 x2 x3 x4 x5 B2
  cases fl with
  | false =>
    go_wp2_with fail
    go_ret
    exact ⟨rfl, below_up B0.out B3.out⟩
  | true =>
  have HF := Lib.hid (hb rfl)
  clear hb
  obtain ⟨x0, x1, x2, x3, x4, x5⟩ := boxx.out w3 B3.out
  obtain ⟨p0, p1⟩ := box.out w3 B3.out
  by_cases hk : 3 < kd ∧ kd < 8
  case pos =>
    have hd1 : decide (3 < kd) = true := decide_eq_true hk.1
    have hd2 : decide (kd < 8) = true := decide_eq_true hk.2
    go_wp2_with fail
    go_ret
    exact ⟨rfl, below_up B0.out B3.out⟩
  have HK := Lib.hid hk
  have C := Lib.hid (do_any ho ro hd rs HA.out.cp HB.out.cp kd a b tx co cells HG.out.cp po ps pc w3 HT.out (HH.out _ B3.out) (HR.out _ B3.out) HF.out (HX.out _ B3.out).1 (HX.out _ B3.out).2)
  have D : Hid (∀ V, Below W.heap.size W V → Calls Tryz.prog 8 #[.agg #[.slice ho hd.length hc, .slice ro rs.length rc], .agg #[.int .i64 kd, .int .i64 a, .int .i64 b, .string tx, .slice co cells.length cc, .slice po ps.length pc]] V (TabQ (doR kd a b tx cells ps hd rs) V)) := Lib.hid (fun V hV => rdo_cols ho ro hd rs HA.out.cp HB.out.cp kd a b tx co cells HG.out.cp po ps pc V HT.out (HH.out _ hV) (HR.out _ hV) (by have := HF.out.text; omega) (HX.out _ hV).1 HF.out.ti HK.out (HX.out _ hV).2 (by have := HF.out.cols; omega))
  have HS : Hid (∀ h r, doR kd a b tx cells ps hd rs = .ok (h, r) → tiT h r) := Lib.hid (fun h r e => by
    have key : ∀ (gh : List ByteArray → Except Int (List ByteArray)) (g : List (List ByteArray) → Except Int (List (List ByteArray))), turnR gh g hd rs = .ok (h, r) → tiT h r := fun gh g e => check_ti (turn_is e).2.2.2
    have hk := HK.out
    rcases (show kd = 0 ∨ kd = 1 ∨ kd = 2 ∨ kd = 3 ∨ (kd < 0 ∨ 7 < kd) by omega) with rfl | rfl | rfl | rfl | h8
    · exact key (fun xs => insL xs a tx) (addR a cells) e
    · exact key (colsH (fun xs => delL xs a)) (colsR (fun xs => delL xs a)) e
    · exact key (fun xs => setL xs a tx) (fun rs => .ok rs) e
    · exact key (colsH (fun xs => movL xs a b)) (colsR (fun xs => movL xs a b)) e
    · unfold doR at e
      rw [if_neg (by omega), if_neg (by omega), if_neg (by omega), if_neg (by omega), if_neg (by omega), if_neg (by omega), if_neg (by omega), if_neg (by omega)] at e
      exact key _ _ e)
  generalize doR kd a b tx cells ps hd rs = X at C D HS
  have hsp : kd ≤ 3 ∨ (3 < kd ∧ 8 ≤ kd) := by have := HK.out; omega
  clear hk HK
  have hgd : (decide (3 < kd) = false) ∨ (decide (3 < kd) = true ∧ decide (kd < 8) = false) := by
    rcases hsp with h | ⟨h, h'⟩
    · exact .inl (decide_eq_false (by omega))
    · exact .inr ⟨decide_eq_true h, decide_eq_false (by omega)⟩
  clear hsp
  rcases hgd with hd1 | ⟨hd1, hd2⟩
  all_goals
    go_wp2_with fail
    refine C.out.mono ?_; intro e w5 q
    have b5 := q.below
    obtain ⟨qo, qn, qc, so, sn, sc, x, rfl⟩ := q.shape
    have B6 := Lib.hid (below_up (below_up B3.out b5) (one_below w5 (TabO qo qn qc so sn sc)))
    have HN6 := Lib.hid (World.alloc_heap_new w5 (TabO qo qn qc so sn sc))
    have Q := Lib.hid q
    clear q b5 C x0 x1 x2 x3 x4 x5 p0 p1
    obtain ⟨x0, x1, x2, x3, x4, x5⟩ := boxx.out _ B6.out
    obtain ⟨p0, p1⟩ := box.out _ B6.out
    have C := Lib.hid (D.out _ B6.out)
    go_wp2_with fail
    refine C.out.mono ?_; intro e w7 q
    have b7 := q.below
    obtain ⟨uo, un, uc, vo, vn, vc, x', rfl⟩ := q.shape
    have b8 := below_up b7 (one_below w7 (TabO uo un uc vo vn vc))
    have D8 := Lib.hid b8
    have B8 := Lib.hid (below_up B6.out b8)
    have HN8 := Lib.hid (World.alloc_heap_new w7 (TabO uo un uc vo vn vc))
    have Q2 := Lib.hid q
    clear q b7 b8 C x0 x1 x2 x3 x4 x5 p0 p1
    rcases Q.out.parts with ⟨rfl, rfl, rfl⟩ | ⟨h1, r1, rfl, rfl, rfl, rfl, k1, k2, k3, k4⟩
    · rcases Q2.out.parts with ⟨hx, rfl, rfl⟩ | ⟨h2, r2, hx, _⟩
      case inr => cases hx
      injection hx with hx
      subst hx
      obtain ⟨q0, q1⟩ := tabs (bk_kept HN6.out D8.out)
      obtain ⟨u0, u1⟩ := tabs HN8.out
      have S := Lib.hid (rsameT_any qo uo qc uc [] [] so vo sc vc [] [] (w7.alloc (TabO uo 0 uc vo 0 vc)) (by simp) (by simp) (fun r hr => by cases hr) (.inl rfl) (.inl rfl) (.inl rfl) (.inl rfl))
      rw [same_refl] at S
      simp only [List.length_nil] at S
      go_wp2_with fail
      refine S.out.mono ?_; rintro e w9 ⟨rfl, b9⟩
      have B9 := Lib.hid (below_up B8.out b9)
      clear b9 q0 q1 u0 u1
      go_wp2_with fail
      go_ret
      exact ⟨by simp, below_up B0.out B9.out⟩
    · rcases Q2.out.parts with ⟨hx, _⟩ | ⟨h2, r2, hx, rfl, rfl, rfl, l1, l2, l3, l4⟩
      case inl => cases hx
      injection hx with hx
      injection hx with ha hb
      subst ha
      subst hb
      have ht := HS.out h1 r1 rfl
      obtain ⟨q0, q1⟩ := tabs (bk_kept HN6.out D8.out)
      obtain ⟨u0, u1⟩ := tabs HN8.out
      have S := Lib.hid (rsameT_any qo uo qc uc h1 h1 so vo sc vc r1 r1 (w7.alloc (TabO uo h1.length uc vo r1.length vc)) (by have := ht.1.1; omega) (by have := ht.2.1; omega) (fun r hr => by have := (ht.2.2 r hr).1; omega) ((k3.kept (one_below _ _)).kept D8.out) (l3.kept (one_below _ _)) ((k4.kept (one_below _ _)).kept D8.out) (l4.kept (one_below _ _)))
      rw [same_refl] at S
      clear ht k1 k2 k3 k4 l1 l2 l3 l4 HS D
      go_wp2_with fail
      refine S.out.mono ?_; rintro e w9 ⟨rfl, b9⟩
      have B9 := Lib.hid (below_up B8.out b9)
      clear b9 q0 q1 u0 u1
      go_wp2_with fail
      go_ret
      exact ⟨by simp, below_up B0.out B9.out⟩
end Go.Proofs.YtcifjclokfnocaaGreat
