/-
  An edit, by its kind: what the statements' function makes of a table.
  Conditions: tables of at most 1000 rows of at most 1000 cells of at most 10000 bytes, edits as small (the statements ask about far smaller ones).
-/
import Derived.WalkKit
import Derived.WalkMore
import Derived.WalkLawsBesides
import Derived.Lib.Hide
import Derived.Test.YtcifjclokfnocaaGreatProg
import Derived.Test.YtcifjclokfnocaaGreatEFew
import Derived.Test.YtcifjclokfnocaaGreatEOpen2
namespace Go.Proofs.YtcifjclokfnocaaGreat
open Go.RowKit Go.Shelf
set_option linter.unusedVariables false

/-- what an edit makes of a table -/
def doR (kd a b : Int) (tx : ByteArray) (cells : List ByteArray) (ps : List Int) (hd : List ByteArray) (rs : List (List ByteArray)) : Except Int Tab :=
  if kd = 0 then turnR (fun xs => insL xs a tx) (addR a cells) hd rs
  else if kd = 1 then turnR (colsH (fun xs => delL xs a)) (colsR (fun xs => delL xs a)) hd rs
  else if kd = 2 then turnR (fun xs => setL xs a tx) (fun rs => .ok rs) hd rs
  else if kd = 3 then turnR (colsH (fun xs => movL xs a b)) (colsR (fun xs => movL xs a b)) hd rs
  else if kd = 4 then turnR (fun xs => .ok xs) (fun rs => insL rs a cells) hd rs
  else if kd = 5 then turnR (fun xs => .ok xs) (fun rs => delL rs a) hd rs
  else if kd = 6 then turnR (fun xs => .ok xs) (fun rs => movL rs a b) hd rs
  else if kd = 7 then turnR (fun xs => .ok xs) (fun rs => turL rs a (fun r => setL r b tx)) hd rs
  else turnR (colsH (fun xs => pickL xs ps)) (colsR (fun xs => pickL xs ps)) hd rs
abbrev EdO (kd a b : Int) (tx : ByteArray) (co : Option Addr) (m cc : Nat) (po : Option Addr) (k pc : Nat) : Obj := .cells #[.int .i64 kd, .int .i64 a, .int .i64 b, .string tx, .slice co m cc, .slice po k pc] 28
theorem edcells {V : World} {n : Nat} {kd a b : Int} {tx : ByteArray} {co : Option Addr} {m cc : Nat} {po : Option Addr} {k pc : Nat} (h : V.heap[n]? = some (EdO kd a b tx co m cc po k pc)) :
    V.cell? ⟨n, 0, none⟩ = some (.int .i64 kd) ∧ V.cell? ⟨n, 1, none⟩ = some (.int .i64 a) ∧ V.cell? ⟨n, 2, none⟩ = some (.int .i64 b) ∧ V.cell? ⟨n, 3, none⟩ = some (.string tx) ∧ V.cell? ⟨n, 4, none⟩ = some (.slice co m cc) ∧ V.cell? ⟨n, 5, none⟩ = some (.slice po k pc) :=
  ⟨(Lib.cell_of_heap h 0).trans rfl, (Lib.cell_of_heap h 1).trans rfl, (Lib.cell_of_heap h 2).trans rfl, (Lib.cell_of_heap h 3).trans rfl, (Lib.cell_of_heap h 4).trans rfl, (Lib.cell_of_heap h 5).trans rfl⟩
def EditArg.cp {w : World} {kd a b : Int} {tx : ByteArray} {co : Option Addr} {cc : Nat} {cells : List ByteArray} {po : Option Addr} {pc : Nat} {ps : List Int} (h : EditArg w kd a b tx co cc cells po pc ps) : Cap co cells.length := ⟨cc, h.cells.cap, h.cells.nil⟩

set_option maxRecDepth 100000 in
set_option maxHeartbeats 8000000 in
theorem do_any (ho ro : Option Addr) (hd : List ByteArray) (rs : List (List ByteArray)) (hc : Cap ho hd.length) (rc : Cap ro rs.length) (kd a b : Int) (tx : ByteArray) (co : Option Addr) (cells : List ByteArray) (cc : Cap co cells.length) (po : Option Addr) (ps : List Int) (pc : Nat) (w : World)
    (ht : tiT hd rs) (hH : StrRow w ho hd) (hR : RowsAt w ro rs) (hF : FewE tx cells ps) (hC : StrRow w co cells) (hP : IntsAt w po ps) :
    Calls Tryz.prog 7 #[.agg #[.slice ho hd.length hc.1, .slice ro rs.length rc.1], .agg #[.int .i64 kd, .int .i64 a, .int .i64 b, .string tx, .slice co cells.length cc.1, .slice po ps.length pc]] w (TabOut (doR kd a b tx cells ps hd rs) w) := by
  obtain ⟨W, HW⟩ : ∃ W, Hid (W = ((w.alloc (TabO ho hd.length hc.1 ro rs.length rc.1)).alloc (EdO kd a b tx co cells.length cc.1 po ps.length pc)).alloc (.cells #[.slice none 0 0, .slice none 0 0] 25)) := ⟨_, Lib.hid rfl⟩
  have hB : Below w.heap.size w W := by rw [HW.out]; exact ((one_below _ _).alloc (by simp) _).alloc (by simp; omega) _
  have hN := two_new w (TabO ho hd.length hc.1 ro rs.length rc.1) (EdO kd a b tx co cells.length cc.1 po ps.length pc)
  have g0 : W.heap[w.heap.size]? = some (TabO ho hd.length hc.1 ro rs.length rc.1) := by rw [HW.out]; exact al_old _ hN.2.1
  have g1 : W.heap[w.heap.size + 1]? = some (EdO kd a b tx co cells.length cc.1 po ps.length pc) := by rw [HW.out]; exact al_old _ hN.2.2
  have g2 : W.heap[w.heap.size + 1 + 1]? = some (.cells #[.slice none 0 0, .slice none 0 0] 25 (0, 0)) := by
    rw [HW.out]
    have h := World.alloc_heap_new ((w.alloc (TabO ho hd.length hc.1 ro rs.length rc.1)).alloc (EdO kd a b tx co cells.length cc.1 po ps.length pc)) (.cells #[.slice none 0 0, .slice none 0 0] 25)
    simpa only [World.size_alloc] using h
  obtain ⟨p0, p1⟩ := tabs g0
  obtain ⟨e0, e1, e2, e3, e4, e5⟩ := edcells g1
  have HG2 := Lib.hid g2
  have HB := Lib.hid hB
  have hlt : w.heap.size + 1 + 1 < W.heap.size := lt_of_heap g2
  have hH' := hH.kept hB
  have hR' := hR.kept hB
  have hC' := hC.kept hB
  have hP' := hP.kept hB
  have htx : tx.size ≤ 10000 := by have := hF.text; omega
  have hps : ps.length ≤ 1000 := by have := hF.cols; omega
  have hti := hF.ti
  have C0 := Lib.hid (eInsertCol ho ro hd rs hc rc a tx co cells cc W ht hH' hR' htx hC' hti)
  have C1 := Lib.hid (eDeleteCol ho ro hd rs hc rc a W ht hH' hR')
  have C2 := Lib.hid (eRenameCol ho ro hd rs hc rc a tx W ht hH' hR' htx)
  have C3 := Lib.hid (eMoveCol ho ro hd rs hc rc a b W ht hH' hR')
  have C4 := Lib.hid (eInsertRow ho ro hd rs hc rc a co cells cc W ht hH' hR' hC' hti)
  have C5 := Lib.hid (eDeleteRow ho ro hd rs hc rc a W ht hH' hR')
  have C6 := Lib.hid (eMoveRow ho ro hd rs hc rc a b W ht hH' hR')
  have C7 := Lib.hid (eSet ho ro hd rs hc rc a b tx W ht hH' hR' htx)
  have C8 := Lib.hid (eProject ho ro hd rs hc rc po ps pc W ht hH' hR' hP' hps)
  have HW2 : Hid (W = ((w.alloc (Obj.cells #[Value.slice ho hd.length hc.1, Value.slice ro rs.length rc.1] 25)).alloc (Obj.cells #[Value.int .i64 kd, Value.int .i64 a, Value.int .i64 b, Value.string tx, Value.slice co cells.length cc.1, Value.slice po ps.length pc] 28)).alloc (Obj.cells #[Value.slice none 0 0, Value.slice none 0 0] 25)) := Lib.hid HW.out
  clear hB hN g0 g1 g2 ht hH hR hC hP hF hti hH' hR' hC' hP' HW
  by_cases h0 : kd = 0
  · unfold doR
    rw [if_pos h0]
    have b0 : (kd == 0) = true := by simp [h0]
    clear C1 C2 C3 C4 C5 C6 C7 C8 h0
    go_enter Tryz.func7, Tryz.ntmps7
    go_wp2_with fail
    rw [← HW2.out]
    refine C0.out.mono ?_; intro e w2 q2
    have TB := q2.below
    obtain ⟨qo, qn, qc, so, sn, sc, x, rfl⟩ := q2.shape
    have hz := bk_kept HG2.out TB
    obtain ⟨z0, z1, f0, f1⟩ := zcells hz
    have Q := Lib.hid (TabOut.stored q2 HB.out hz (by omega) hlt)
    clear q2 TB hz
    go_wp2_with fail
    exact bodyPost_ret (v := .tuple #[.agg #[.slice qo qn qc, .slice so sn sc], .int .i64 x]) (by simp [results, Tryz.results7, go_sem, z0, z1]) rfl Q.out
  by_cases h1 : kd = 1
  · unfold doR
    rw [if_neg h0]
    rw [if_pos h1]
    have b0 : (kd == 0) = false := by simp [h0]
    have b1 : (kd == 1) = true := by simp [h1]
    clear C0 C2 C3 C4 C5 C6 C7 C8 h0 h1
    go_enter Tryz.func7, Tryz.ntmps7
    go_wp2_with fail
    rw [← HW2.out]
    refine C1.out.mono ?_; intro e w2 q2
    have TB := q2.below
    obtain ⟨qo, qn, qc, so, sn, sc, x, rfl⟩ := q2.shape
    have hz := bk_kept HG2.out TB
    obtain ⟨z0, z1, f0, f1⟩ := zcells hz
    have Q := Lib.hid (TabOut.stored q2 HB.out hz (by omega) hlt)
    clear q2 TB hz
    go_wp2_with fail
    exact bodyPost_ret (v := .tuple #[.agg #[.slice qo qn qc, .slice so sn sc], .int .i64 x]) (by simp [results, Tryz.results7, go_sem, z0, z1]) rfl Q.out
  by_cases h2 : kd = 2
  · unfold doR
    rw [if_neg h0]
    rw [if_neg h1]
    rw [if_pos h2]
    have b0 : (kd == 0) = false := by simp [h0]
    have b1 : (kd == 1) = false := by simp [h1]
    have b2 : (kd == 2) = true := by simp [h2]
    clear C0 C1 C3 C4 C5 C6 C7 C8 h0 h1 h2
    go_enter Tryz.func7, Tryz.ntmps7
    go_wp2_with fail
    rw [← HW2.out]
    refine C2.out.mono ?_; intro e w2 q2
    have TB := q2.below
    obtain ⟨qo, qn, qc, so, sn, sc, x, rfl⟩ := q2.shape
    have hz := bk_kept HG2.out TB
    obtain ⟨z0, z1, f0, f1⟩ := zcells hz
    have Q := Lib.hid (TabOut.stored q2 HB.out hz (by omega) hlt)
    clear q2 TB hz
    go_wp2_with fail
    exact bodyPost_ret (v := .tuple #[.agg #[.slice qo qn qc, .slice so sn sc], .int .i64 x]) (by simp [results, Tryz.results7, go_sem, z0, z1]) rfl Q.out
  by_cases h3 : kd = 3
  · unfold doR
    rw [if_neg h0]
    rw [if_neg h1]
    rw [if_neg h2]
    rw [if_pos h3]
    have b0 : (kd == 0) = false := by simp [h0]
    have b1 : (kd == 1) = false := by simp [h1]
    have b2 : (kd == 2) = false := by simp [h2]
    have b3 : (kd == 3) = true := by simp [h3]
    clear C0 C1 C2 C4 C5 C6 C7 C8 h0 h1 h2 h3
    go_enter Tryz.func7, Tryz.ntmps7
    go_wp2_with fail
    rw [← HW2.out]
    refine C3.out.mono ?_; intro e w2 q2
    have TB := q2.below
    obtain ⟨qo, qn, qc, so, sn, sc, x, rfl⟩ := q2.shape
    have hz := bk_kept HG2.out TB
    obtain ⟨z0, z1, f0, f1⟩ := zcells hz
    have Q := Lib.hid (TabOut.stored q2 HB.out hz (by omega) hlt)
    clear q2 TB hz
    go_wp2_with fail
    exact bodyPost_ret (v := .tuple #[.agg #[.slice qo qn qc, .slice so sn sc], .int .i64 x]) (by simp [results, Tryz.results7, go_sem, z0, z1]) rfl Q.out
  by_cases h4 : kd = 4
  · unfold doR
    rw [if_neg h0]
    rw [if_neg h1]
    rw [if_neg h2]
    rw [if_neg h3]
    rw [if_pos h4]
    have b0 : (kd == 0) = false := by simp [h0]
    have b1 : (kd == 1) = false := by simp [h1]
    have b2 : (kd == 2) = false := by simp [h2]
    have b3 : (kd == 3) = false := by simp [h3]
    have b4 : (kd == 4) = true := by simp [h4]
    clear C0 C1 C2 C3 C5 C6 C7 C8 h0 h1 h2 h3 h4
    go_enter Tryz.func7, Tryz.ntmps7
    go_wp2_with fail
    rw [← HW2.out]
    refine C4.out.mono ?_; intro e w2 q2
    have TB := q2.below
    obtain ⟨qo, qn, qc, so, sn, sc, x, rfl⟩ := q2.shape
    have hz := bk_kept HG2.out TB
    obtain ⟨z0, z1, f0, f1⟩ := zcells hz
    have Q := Lib.hid (TabOut.stored q2 HB.out hz (by omega) hlt)
    clear q2 TB hz
    go_wp2_with fail
    exact bodyPost_ret (v := .tuple #[.agg #[.slice qo qn qc, .slice so sn sc], .int .i64 x]) (by simp [results, Tryz.results7, go_sem, z0, z1]) rfl Q.out
  by_cases h5 : kd = 5
  · unfold doR
    rw [if_neg h0]
    rw [if_neg h1]
    rw [if_neg h2]
    rw [if_neg h3]
    rw [if_neg h4]
    rw [if_pos h5]
    have b0 : (kd == 0) = false := by simp [h0]
    have b1 : (kd == 1) = false := by simp [h1]
    have b2 : (kd == 2) = false := by simp [h2]
    have b3 : (kd == 3) = false := by simp [h3]
    have b4 : (kd == 4) = false := by simp [h4]
    have b5 : (kd == 5) = true := by simp [h5]
    clear C0 C1 C2 C3 C4 C6 C7 C8 h0 h1 h2 h3 h4 h5
    go_enter Tryz.func7, Tryz.ntmps7
    go_wp2_with fail
    rw [← HW2.out]
    refine C5.out.mono ?_; intro e w2 q2
    have TB := q2.below
    obtain ⟨qo, qn, qc, so, sn, sc, x, rfl⟩ := q2.shape
    have hz := bk_kept HG2.out TB
    obtain ⟨z0, z1, f0, f1⟩ := zcells hz
    have Q := Lib.hid (TabOut.stored q2 HB.out hz (by omega) hlt)
    clear q2 TB hz
    go_wp2_with fail
    exact bodyPost_ret (v := .tuple #[.agg #[.slice qo qn qc, .slice so sn sc], .int .i64 x]) (by simp [results, Tryz.results7, go_sem, z0, z1]) rfl Q.out
  by_cases h6 : kd = 6
  · unfold doR
    rw [if_neg h0]
    rw [if_neg h1]
    rw [if_neg h2]
    rw [if_neg h3]
    rw [if_neg h4]
    rw [if_neg h5]
    rw [if_pos h6]
    have b0 : (kd == 0) = false := by simp [h0]
    have b1 : (kd == 1) = false := by simp [h1]
    have b2 : (kd == 2) = false := by simp [h2]
    have b3 : (kd == 3) = false := by simp [h3]
    have b4 : (kd == 4) = false := by simp [h4]
    have b5 : (kd == 5) = false := by simp [h5]
    have b6 : (kd == 6) = true := by simp [h6]
    clear C0 C1 C2 C3 C4 C5 C7 C8 h0 h1 h2 h3 h4 h5 h6
    go_enter Tryz.func7, Tryz.ntmps7
    go_wp2_with fail
    rw [← HW2.out]
    refine C6.out.mono ?_; intro e w2 q2
    have TB := q2.below
    obtain ⟨qo, qn, qc, so, sn, sc, x, rfl⟩ := q2.shape
    have hz := bk_kept HG2.out TB
    obtain ⟨z0, z1, f0, f1⟩ := zcells hz
    have Q := Lib.hid (TabOut.stored q2 HB.out hz (by omega) hlt)
    clear q2 TB hz
    go_wp2_with fail
    exact bodyPost_ret (v := .tuple #[.agg #[.slice qo qn qc, .slice so sn sc], .int .i64 x]) (by simp [results, Tryz.results7, go_sem, z0, z1]) rfl Q.out
  by_cases h7 : kd = 7
  · unfold doR
    rw [if_neg h0]
    rw [if_neg h1]
    rw [if_neg h2]
    rw [if_neg h3]
    rw [if_neg h4]
    rw [if_neg h5]
    rw [if_neg h6]
    rw [if_pos h7]
    have b0 : (kd == 0) = false := by simp [h0]
    have b1 : (kd == 1) = false := by simp [h1]
    have b2 : (kd == 2) = false := by simp [h2]
    have b3 : (kd == 3) = false := by simp [h3]
    have b4 : (kd == 4) = false := by simp [h4]
    have b5 : (kd == 5) = false := by simp [h5]
    have b6 : (kd == 6) = false := by simp [h6]
    have b7 : (kd == 7) = true := by simp [h7]
    clear C0 C1 C2 C3 C4 C5 C6 C8 h0 h1 h2 h3 h4 h5 h6 h7
    go_enter Tryz.func7, Tryz.ntmps7
    go_wp2_with fail
    rw [← HW2.out]
    refine C7.out.mono ?_; intro e w2 q2
    have TB := q2.below
    obtain ⟨qo, qn, qc, so, sn, sc, x, rfl⟩ := q2.shape
    have hz := bk_kept HG2.out TB
    obtain ⟨z0, z1, f0, f1⟩ := zcells hz
    have Q := Lib.hid (TabOut.stored q2 HB.out hz (by omega) hlt)
    clear q2 TB hz
    go_wp2_with fail
    exact bodyPost_ret (v := .tuple #[.agg #[.slice qo qn qc, .slice so sn sc], .int .i64 x]) (by simp [results, Tryz.results7, go_sem, z0, z1]) rfl Q.out
  unfold doR
  rw [if_neg h0]
  rw [if_neg h1]
  rw [if_neg h2]
  rw [if_neg h3]
  rw [if_neg h4]
  rw [if_neg h5]
  rw [if_neg h6]
  rw [if_neg h7]
  have b0 : (kd == 0) = false := by simp [h0]
  have b1 : (kd == 1) = false := by simp [h1]
  have b2 : (kd == 2) = false := by simp [h2]
  have b3 : (kd == 3) = false := by simp [h3]
  have b4 : (kd == 4) = false := by simp [h4]
  have b5 : (kd == 5) = false := by simp [h5]
  have b6 : (kd == 6) = false := by simp [h6]
  have b7 : (kd == 7) = false := by simp [h7]
  clear C0 C1 C2 C3 C4 C5 C6 C7 h0 h1 h2 h3 h4 h5 h6 h7
  go_enter Tryz.func7, Tryz.ntmps7
  go_wp2_with fail
  rw [← HW2.out]
  refine C8.out.mono ?_; intro e w2 q2
  have TB := q2.below
  obtain ⟨qo, qn, qc, so, sn, sc, x, rfl⟩ := q2.shape
  have hz := bk_kept HG2.out TB
  obtain ⟨z0, z1, f0, f1⟩ := zcells hz
  have Q := Lib.hid (TabOut.stored q2 HB.out hz (by omega) hlt)
  clear q2 TB hz
  go_wp2_with fail
  exact bodyPost_ret (v := .tuple #[.agg #[.slice qo qn qc, .slice so sn sc], .int .i64 x]) (by simp [results, Tryz.results7, go_sem, z0, z1]) rfl Q.out
end Go.Proofs.YtcifjclokfnocaaGreat
