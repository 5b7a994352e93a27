/-
  The walk of the statement BagAdds.
  Conditions: none beyond the form of claims.
-/
import Derived.WalkKit
import Derived.WalkMore
import Derived.IntWalk
import Derived.Lib.Hide
import Derived.Test.YtcdpadchbphggaaProg
import Derived.Test.YtcdpadchbphggaaPOpen
import Derived.Test.YtcdpadchbphggaaTOpen
import Derived.Test.YtcdpadchbphggaaBApp
namespace Go.Proofs.Ytcdpadchbphggaa
open Go.RowKit Go.Shelf
set_option linter.unusedVariables false

set_option maxRecDepth 100000 in
set_option maxHeartbeats 8000000 in
theorem walkBagAdds (ao : Option Addr) (ca : Nat) (xs : List ByteArray) (bo : Option Addr) (cb : Nat) (ys : List ByteArray) (s : ByteArray) (w : World) (hA : StrArg w ao ca xs) (hB : StrArg w bo cb ys) (hs : s.size ≤ 140737488351232) :
    Calls Try.prog 5 #[.slice ao xs.length ca, .slice bo ys.length cb, .string s] w fun e w' => e = .returned (.bool true) ∧ Below w.heap.size w w' := by
  have hinfo : (Try.prog.info? 9).map (fun i => (i.zero, i.size, i.bytes)) = some (some (.string ⟨#[]⟩), 1, 16) := by kernel_rfl
  obtain ⟨i0, hi, hz0, hz1, hz2⟩ := info_parts2 hinfo
  have HIn := Lib.hid hi
  have HA := Lib.hid hA
  have HB := Lib.hid hB
  have HS : Hid (s.size ≤ maxLen) := Lib.hid (by unfold maxLen; omega)
  have C0 := Lib.hid (bworks_any w)
  clear hA hB hs hi hinfo
  by_cases h1 : xs.length ≤ 60
  · by_cases h2 : ys.length ≤ 60
    · have S1 := Lib.hid (fun V (h : Below w.heap.size w V) => srcB_of (HA.out.row.kept h) HA.out.nil)
      have S2 := Lib.hid (fun V (h : Below w.heap.size w V) => srcB_of (HB.out.row.kept h) HB.out.nil)
      have C1 := Lib.hid (fun V (h : Below w.heap.size w V) => over_any ao bo ca cb xs ys V (by omega) (by omega) HA.out.mx HB.out.mx (HA.out.row.kept h) (HB.out.row.kept h))
      have C2 := Lib.hid (fun jo ko jc kc V (h : StrRow V jo ([s] ++ xs)) (k : StrRow V ko (ys ++ [s])) => over_any jo ko jc kc ([s] ++ xs) (ys ++ [s]) V (by simp; omega) (by simp; omega) (maxB_app (maxB_one HS.out) HA.out.mx) (maxB_app HB.out.mx (maxB_one HS.out)) h k)
      have C3 := Lib.hid (fun jo jc V (h : Below w.heap.size w V) (k : StrRow V jo ([s] ++ xs)) => over_any jo bo jc cb ([s] ++ xs) ys V (by simp; omega) (by omega) (maxB_app (maxB_one HS.out) HA.out.mx) HB.out.mx k (HB.out.row.kept h))
      have C4 := Lib.hid (fun V (h : Below w.heap.size w V) => bcount_any ao ca xs s V (by omega) HA.out.mx HS.out (HA.out.row.kept h))
      have C5 := Lib.hid (fun V (h : Below w.heap.size w V) => bcount_any bo cb ys s V (by omega) HB.out.mx HS.out (HB.out.row.kept h))
      have C6 := Lib.hid (fun V (h : Below w.heap.size w V) => over_any ao ao ca ca xs xs V (by omega) (by omega) HA.out.mx HA.out.mx (HA.out.row.kept h) (HA.out.row.kept h))
      have C7 := Lib.hid (fun jo jc V (k : StrRow V jo ([s] ++ xs)) => bcount_any jo jc ([s] ++ xs) s V (by simp; omega) (maxB_app (maxB_one HS.out) HA.out.mx) HS.out k)
      have e1 : bytesOf ([s] ++ xs) = s.data.toList :: bytesOf xs := by simp [bytesOf]
      have e2 : bytesOf (ys ++ [s]) = bytesOf ys ++ [s.data.toList] := by simp [bytesOf]
      rw [e1, e2, over_both] at C2
      rw [e1, overL] at C3
      rw [over_self, bytes_len] at C6
      rw [e1, show cntN s.data.toList (s.data.toList :: bytesOf xs) = 1 + cntN s.data.toList (bytesOf xs) by simp [cntN], Nat.add_comm] at C7
      simp only [List.length_append, List.length_cons, List.length_nil, Nat.zero_add, Int.natCast_add, Int.natCast_one] at C2 C7
      simp only [List.length_append, List.length_cons, List.length_nil, Nat.zero_add] at C3
      have q1 := over_le1 (bytesOf xs) (bytesOf ys)
      have q2 := over_le2 (bytesOf xs) (bytesOf ys)
      have q3 := cnt_le s.data.toList (bytesOf xs)
      rw [bytes_len] at q1 q2 q3
      clear e1 e2
      generalize overL (bytesOf xs) (bytesOf ys) = n at C1 C2 C3 q1 q2
      generalize cntN s.data.toList (bytesOf xs) = k1 at C3 C4 C7 q3
      generalize cntN s.data.toList (bytesOf ys) = k2 at C3 C5
      obtain ⟨m, hmn, hnm⟩ : ∃ m : Nat, (∀ (ts : Array TypeId) (t : TypeId) (W : World), (Builtin.min_ ts t #[.int .i64 (xs.length : Int), .int .i64 (ys.length : Int)]).run Try.prog W = .ok (.int .i64 (m : Int)) W) ∧ n ≤ m := by
        refine ⟨min xs.length ys.length, fun ts t W => ?_, by omega⟩
        rw [run_min_int2]
        have : (if (ys.length : Int) < (xs.length : Int) then (ys.length : Int) else (xs.length : Int)) = ((min xs.length ys.length : Nat) : Int) := by split <;> omega
        rw [this]
      have w1 : IntKind.i64.wrap ((n : Int) + 1) = (n : Int) + 1 := IntWalk.i64_in _ (by omega)
      have w2 : IntKind.i64.wrap ((k1 : Int) + 1) = (k1 : Int) + 1 := IntWalk.i64_in _ (by omega)
      by_cases hk : k1 < k2
      · rw [if_pos hk] at C3
        simp only [Int.natCast_add, Int.natCast_one] at C3
        go_enter Try.func5, Try.ntmps5
        go_wp2_with fail
        refine C0.out.mono ?_; rintro e W ⟨rfl, b0⟩
        have B := Lib.hid b0
        clear b0 C0
        go_wp2_with fail
        refine (C1.out W B.out).mono ?_; rintro e W1 ⟨rfl, b⟩
        have B := Lib.hid (below_up B.out b)
        clear b C1
        have HO0 : Hid ((W1.alloc (.cells #[.string s] 9)).ownsRow W1.heap.size 9 1 (.slice (some ⟨W1.heap.size, 0, none⟩) 1 1) 1 ([s].map Value.string)) := Lib.hid (own_litB W1 [s] 1 _ 9 (Nat.le_refl _) rfl (by decide))
        have HU0 : Hid (Below W1.heap.size W1 (W1.alloc (.cells #[.string s] 9))) := Lib.hid (alloc_belowB W1 _)
        have BE := Lib.hid (below_up B.out HU0.out)
        have HB0 := Lib.hid HU0.out.size
        go_wp2_with (at_builtin; refine wpList_append_B rfl _ _ 22 rfl W1.heap.size 9 i0 (.string ⟨#[]⟩) 1 16 Try.underlying22 HIn.out hz0 hz1 hz2 rfl (by decide) _ _ _ rfl HO0.out ao xs.length ca (xs.map Value.string) rfl ?c0 (by simp) ?c1 (onesB _) ?c3 ?c4 ?c5 ?_)
        case c0 => exact (S1.out _ BE.out).1
        case c1 => exact (S1.out _ BE.out).2
        case c3 => unfold maxLen; omega
        case c4 => omega
        case c5 => exact HB0.out
        intro v1 W2 ho hg
        have HU1 := Lib.hid (appB_below HU0.out HO0.out hg HB0.out)
        have B := Lib.hid (below_up B.out HU1.out)
        rw [show Value.string s :: List.map Value.string xs = ([s] ++ xs).map Value.string from rfl] at ho
        obtain ⟨jo, jc, rfl⟩ := own_slice ho
        have Hj := Lib.hid (ownB_strs ho)
        clear ho hg HO0 HU0 HB0 BE HU1
        have HO0 : Hid ((W2.alloc (.cells #[] 9)).ownsRow W2.heap.size 9 1 (.slice (some ⟨W2.heap.size, 0, none⟩) 0 0) 0 []) := Lib.hid (World.ownsRow_made W2 #[] 0 (Nat.le_refl _) (Nat.zero_le _) rfl)
        have HU0 : Hid (Below W2.heap.size W2 (W2.alloc (.cells #[] 9))) := Lib.hid (alloc_belowB W2 _)
        have BE := Lib.hid (below_up B.out HU0.out)
        have HB0 := Lib.hid HU0.out.size
        go_wp2_with (at_builtin; refine wpList_append_B rfl _ _ 22 rfl W2.heap.size 9 i0 (.string ⟨#[]⟩) 1 16 Try.underlying22 HIn.out hz0 hz1 hz2 rfl (by decide) _ _ _ rfl HO0.out bo ys.length cb (ys.map Value.string) rfl ?c0 (by simp) ?c1 (onesB _) ?c3 ?c4 ?c5 ?_)
        case c0 => exact (S2.out _ BE.out).1
        case c1 => exact (S2.out _ BE.out).2
        case c3 => unfold maxLen; omega
        case c4 => omega
        case c5 => exact HB0.out
        intro v1 W3 ho hg
        (try rw [Nat.zero_add, List.nil_append] at ho)
        have HU1 := Lib.hid (appB_below HU0.out HO0.out hg HB0.out)
        obtain ⟨ko, kc, rfl⟩ := own_slice ho
        have HO1 := Lib.hid (ownsRow_below ho (alloc_belowB W3 (.cells #[.string s] 9)))
        have HN1 : Hid (StrRow (W3.alloc (.cells #[.string s] 9)) (some ⟨W3.heap.size, 0, none⟩) [s]) := Lib.hid (new_row W3 [s] 9)
        have HU2 : Hid (Below W2.heap.size W2 (W3.alloc (.cells #[.string s] 9))) := Lib.hid (below_up HU1.out (alloc_belowB W3 _))
        have HB2 := Lib.hid HU2.out.size
        have HN2 := Lib.hid (srcB_of (cap := 1) HN1.out (fun e => by cases e))
        clear ho hg HO0 HU0 HB0 BE HU1
        (try rw [Nat.zero_add])
        go_wp2_with (at_builtin; refine wpList_append_B rfl _ _ 22 rfl W2.heap.size 9 i0 (.string ⟨#[]⟩) 1 16 Try.underlying22 HIn.out hz0 hz1 hz2 rfl (by decide) _ _ _ rfl HO1.out (some ⟨W3.heap.size, 0, none⟩) 1 1 ([s].map Value.string) rfl ?c0 (by simp) ?c1 (onesB _) ?c3 ?c4 ?c5 ?_)
        case c0 => exact HN2.out.1
        case c1 => exact HN2.out.2
        case c3 => unfold maxLen; omega
        case c4 => omega
        case c5 => exact HB2.out
        intro v1 W4 ho hg
        have HU3 := Lib.hid (appB_below HU2.out HO1.out hg HB2.out)
        have B := Lib.hid (below_up B.out HU3.out)
        rw [show List.map Value.string ys ++ [Value.string s] = (ys ++ [s]).map Value.string by simp] at ho
        obtain ⟨lo, lc, rfl⟩ := own_slice ho
        have Hl := Lib.hid (ownB_strs ho)
        have Hj := Lib.hid (Hj.out.kept HU3.out)
        clear ho hg HO1 HN1 HU2 HB2 HN2 HU3
        have D2 := Lib.hid (C2.out jo lo jc lc W4 Hj.out Hl.out)
        clear Hj Hl C2
        go_wp2_with fail
        refine D2.out.mono ?_; rintro e W5 ⟨rfl, b⟩
        have B := Lib.hid (below_up B.out b)
        clear b D2
        have HO0 : Hid ((W5.alloc (.cells #[.string s] 9)).ownsRow W5.heap.size 9 1 (.slice (some ⟨W5.heap.size, 0, none⟩) 1 1) 1 ([s].map Value.string)) := Lib.hid (own_litB W5 [s] 1 _ 9 (Nat.le_refl _) rfl (by decide))
        have HU0 : Hid (Below W5.heap.size W5 (W5.alloc (.cells #[.string s] 9))) := Lib.hid (alloc_belowB W5 _)
        have BE := Lib.hid (below_up B.out HU0.out)
        have HB0 := Lib.hid HU0.out.size
        go_wp2_with (at_builtin; refine wpList_append_B rfl _ _ 22 rfl W5.heap.size 9 i0 (.string ⟨#[]⟩) 1 16 Try.underlying22 HIn.out hz0 hz1 hz2 rfl (by decide) _ _ _ rfl HO0.out ao xs.length ca (xs.map Value.string) rfl ?c0 (by simp) ?c1 (onesB _) ?c3 ?c4 ?c5 ?_)
        case c0 => exact (S1.out _ BE.out).1
        case c1 => exact (S1.out _ BE.out).2
        case c3 => unfold maxLen; omega
        case c4 => omega
        case c5 => exact HB0.out
        intro v1 W6 ho hg
        have HU1 := Lib.hid (appB_below HU0.out HO0.out hg HB0.out)
        have B := Lib.hid (below_up B.out HU1.out)
        rw [show Value.string s :: List.map Value.string xs = ([s] ++ xs).map Value.string from rfl] at ho
        obtain ⟨jo, jc, rfl⟩ := own_slice ho
        have Hj := Lib.hid (ownB_strs ho)
        clear ho hg HO0 HU0 HB0 BE HU1
        have D3 := Lib.hid (C3.out jo jc W6 B.out Hj.out)
        clear Hj C3
        go_wp2_with fail
        refine D3.out.mono ?_; rintro e W7 ⟨rfl, b⟩
        have B := Lib.hid (below_up B.out b)
        clear b D3
        go_wp2_with fail
        refine (C4.out W7 B.out).mono ?_; rintro e W8 ⟨rfl, b⟩
        have B := Lib.hid (below_up B.out b)
        clear b
        go_wp2_with fail
        refine (C5.out W8 B.out).mono ?_; rintro e W9 ⟨rfl, b⟩
        have B := Lib.hid (below_up B.out b)
        clear b C5
        go_wp2_with fail
        refine (C6.out W9 B.out).mono ?_; rintro e W10 ⟨rfl, b⟩
        have B := Lib.hid (below_up B.out b)
        clear b C6
        have HO0 : Hid ((W10.alloc (.cells #[.string s] 9)).ownsRow W10.heap.size 9 1 (.slice (some ⟨W10.heap.size, 0, none⟩) 1 1) 1 ([s].map Value.string)) := Lib.hid (own_litB W10 [s] 1 _ 9 (Nat.le_refl _) rfl (by decide))
        have HU0 : Hid (Below W10.heap.size W10 (W10.alloc (.cells #[.string s] 9))) := Lib.hid (alloc_belowB W10 _)
        have BE := Lib.hid (below_up B.out HU0.out)
        have HB0 := Lib.hid HU0.out.size
        go_wp2_with (at_builtin; refine wpList_open (by first | rfl | simp [go_sem, Region.wanted, yielded]) ?_; refine wpList_append_B rfl _ _ 22 rfl W10.heap.size 9 i0 (.string ⟨#[]⟩) 1 16 Try.underlying22 HIn.out hz0 hz1 hz2 rfl (by decide) _ _ _ rfl HO0.out ao xs.length ca (xs.map Value.string) rfl ?c0 (by simp) ?c1 (onesB _) ?c3 ?c4 ?c5 ?_)
        case c0 => exact (S1.out _ BE.out).1
        case c1 => exact (S1.out _ BE.out).2
        case c3 => unfold maxLen; omega
        case c4 => omega
        case c5 => exact HB0.out
        intro v1 W11 ho hg
        have HU1 := Lib.hid (appB_below HU0.out HO0.out hg HB0.out)
        have B := Lib.hid (below_up B.out HU1.out)
        rw [show Value.string s :: List.map Value.string xs = ([s] ++ xs).map Value.string from rfl] at ho
        obtain ⟨jo, jc, rfl⟩ := own_slice ho
        have Hj := Lib.hid (ownB_strs ho)
        clear ho hg HO0 HU0 HB0 BE HU1
        have D7 := Lib.hid (C7.out jo jc W11 Hj.out)
        clear Hj C7
        go_wp2_with fail
        refine D7.out.mono ?_; rintro e W12 ⟨rfl, b⟩
        have B := Lib.hid (below_up B.out b)
        clear b D7
        go_wp2_with fail
        refine (C4.out W12 B.out).mono ?_; rintro e W13 ⟨rfl, b⟩
        have B := Lib.hid (below_up B.out b)
        clear b C4
        go_wp2_with fail
        go_ret
        exact ⟨rfl, B.out⟩
      · rw [if_neg hk, Nat.add_zero] at C3
        go_enter Try.func5, Try.ntmps5
        go_wp2_with fail
        refine C0.out.mono ?_; rintro e W ⟨rfl, b0⟩
        have B := Lib.hid b0
        clear b0 C0
        go_wp2_with fail
        refine (C1.out W B.out).mono ?_; rintro e W1 ⟨rfl, b⟩
        have B := Lib.hid (below_up B.out b)
        clear b C1
        have HO0 : Hid ((W1.alloc (.cells #[.string s] 9)).ownsRow W1.heap.size 9 1 (.slice (some ⟨W1.heap.size, 0, none⟩) 1 1) 1 ([s].map Value.string)) := Lib.hid (own_litB W1 [s] 1 _ 9 (Nat.le_refl _) rfl (by decide))
        have HU0 : Hid (Below W1.heap.size W1 (W1.alloc (.cells #[.string s] 9))) := Lib.hid (alloc_belowB W1 _)
        have BE := Lib.hid (below_up B.out HU0.out)
        have HB0 := Lib.hid HU0.out.size
        go_wp2_with (at_builtin; refine wpList_append_B rfl _ _ 22 rfl W1.heap.size 9 i0 (.string ⟨#[]⟩) 1 16 Try.underlying22 HIn.out hz0 hz1 hz2 rfl (by decide) _ _ _ rfl HO0.out ao xs.length ca (xs.map Value.string) rfl ?c0 (by simp) ?c1 (onesB _) ?c3 ?c4 ?c5 ?_)
        case c0 => exact (S1.out _ BE.out).1
        case c1 => exact (S1.out _ BE.out).2
        case c3 => unfold maxLen; omega
        case c4 => omega
        case c5 => exact HB0.out
        intro v1 W2 ho hg
        have HU1 := Lib.hid (appB_below HU0.out HO0.out hg HB0.out)
        have B := Lib.hid (below_up B.out HU1.out)
        rw [show Value.string s :: List.map Value.string xs = ([s] ++ xs).map Value.string from rfl] at ho
        obtain ⟨jo, jc, rfl⟩ := own_slice ho
        have Hj := Lib.hid (ownB_strs ho)
        clear ho hg HO0 HU0 HB0 BE HU1
        have HO0 : Hid ((W2.alloc (.cells #[] 9)).ownsRow W2.heap.size 9 1 (.slice (some ⟨W2.heap.size, 0, none⟩) 0 0) 0 []) := Lib.hid (World.ownsRow_made W2 #[] 0 (Nat.le_refl _) (Nat.zero_le _) rfl)
        have HU0 : Hid (Below W2.heap.size W2 (W2.alloc (.cells #[] 9))) := Lib.hid (alloc_belowB W2 _)
        have BE := Lib.hid (below_up B.out HU0.out)
        have HB0 := Lib.hid HU0.out.size
        go_wp2_with (at_builtin; refine wpList_append_B rfl _ _ 22 rfl W2.heap.size 9 i0 (.string ⟨#[]⟩) 1 16 Try.underlying22 HIn.out hz0 hz1 hz2 rfl (by decide) _ _ _ rfl HO0.out bo ys.length cb (ys.map Value.string) rfl ?c0 (by simp) ?c1 (onesB _) ?c3 ?c4 ?c5 ?_)
        case c0 => exact (S2.out _ BE.out).1
        case c1 => exact (S2.out _ BE.out).2
        case c3 => unfold maxLen; omega
        case c4 => omega
        case c5 => exact HB0.out
        intro v1 W3 ho hg
        (try rw [Nat.zero_add, List.nil_append] at ho)
        have HU1 := Lib.hid (appB_below HU0.out HO0.out hg HB0.out)
        obtain ⟨ko, kc, rfl⟩ := own_slice ho
        have HO1 := Lib.hid (ownsRow_below ho (alloc_belowB W3 (.cells #[.string s] 9)))
        have HN1 : Hid (StrRow (W3.alloc (.cells #[.string s] 9)) (some ⟨W3.heap.size, 0, none⟩) [s]) := Lib.hid (new_row W3 [s] 9)
        have HU2 : Hid (Below W2.heap.size W2 (W3.alloc (.cells #[.string s] 9))) := Lib.hid (below_up HU1.out (alloc_belowB W3 _))
        have HB2 := Lib.hid HU2.out.size
        have HN2 := Lib.hid (srcB_of (cap := 1) HN1.out (fun e => by cases e))
        clear ho hg HO0 HU0 HB0 BE HU1
        (try rw [Nat.zero_add])
        go_wp2_with (at_builtin; refine wpList_append_B rfl _ _ 22 rfl W2.heap.size 9 i0 (.string ⟨#[]⟩) 1 16 Try.underlying22 HIn.out hz0 hz1 hz2 rfl (by decide) _ _ _ rfl HO1.out (some ⟨W3.heap.size, 0, none⟩) 1 1 ([s].map Value.string) rfl ?c0 (by simp) ?c1 (onesB _) ?c3 ?c4 ?c5 ?_)
        case c0 => exact HN2.out.1
        case c1 => exact HN2.out.2
        case c3 => unfold maxLen; omega
        case c4 => omega
        case c5 => exact HB2.out
        intro v1 W4 ho hg
        have HU3 := Lib.hid (appB_below HU2.out HO1.out hg HB2.out)
        have B := Lib.hid (below_up B.out HU3.out)
        rw [show List.map Value.string ys ++ [Value.string s] = (ys ++ [s]).map Value.string by simp] at ho
        obtain ⟨lo, lc, rfl⟩ := own_slice ho
        have Hl := Lib.hid (ownB_strs ho)
        have Hj := Lib.hid (Hj.out.kept HU3.out)
        clear ho hg HO1 HN1 HU2 HB2 HN2 HU3
        have D2 := Lib.hid (C2.out jo lo jc lc W4 Hj.out Hl.out)
        clear Hj Hl C2
        go_wp2_with fail
        refine D2.out.mono ?_; rintro e W5 ⟨rfl, b⟩
        have B := Lib.hid (below_up B.out b)
        clear b D2
        have HO0 : Hid ((W5.alloc (.cells #[.string s] 9)).ownsRow W5.heap.size 9 1 (.slice (some ⟨W5.heap.size, 0, none⟩) 1 1) 1 ([s].map Value.string)) := Lib.hid (own_litB W5 [s] 1 _ 9 (Nat.le_refl _) rfl (by decide))
        have HU0 : Hid (Below W5.heap.size W5 (W5.alloc (.cells #[.string s] 9))) := Lib.hid (alloc_belowB W5 _)
        have BE := Lib.hid (below_up B.out HU0.out)
        have HB0 := Lib.hid HU0.out.size
        go_wp2_with (at_builtin; refine wpList_append_B rfl _ _ 22 rfl W5.heap.size 9 i0 (.string ⟨#[]⟩) 1 16 Try.underlying22 HIn.out hz0 hz1 hz2 rfl (by decide) _ _ _ rfl HO0.out ao xs.length ca (xs.map Value.string) rfl ?c0 (by simp) ?c1 (onesB _) ?c3 ?c4 ?c5 ?_)
        case c0 => exact (S1.out _ BE.out).1
        case c1 => exact (S1.out _ BE.out).2
        case c3 => unfold maxLen; omega
        case c4 => omega
        case c5 => exact HB0.out
        intro v1 W6 ho hg
        have HU1 := Lib.hid (appB_below HU0.out HO0.out hg HB0.out)
        have B := Lib.hid (below_up B.out HU1.out)
        rw [show Value.string s :: List.map Value.string xs = ([s] ++ xs).map Value.string from rfl] at ho
        obtain ⟨jo, jc, rfl⟩ := own_slice ho
        have Hj := Lib.hid (ownB_strs ho)
        clear ho hg HO0 HU0 HB0 BE HU1
        have D3 := Lib.hid (C3.out jo jc W6 B.out Hj.out)
        clear Hj C3
        go_wp2_with fail
        refine D3.out.mono ?_; rintro e W7 ⟨rfl, b⟩
        have B := Lib.hid (below_up B.out b)
        clear b D3
        go_wp2_with fail
        refine (C4.out W7 B.out).mono ?_; rintro e W8 ⟨rfl, b⟩
        have B := Lib.hid (below_up B.out b)
        clear b
        go_wp2_with fail
        refine (C5.out W8 B.out).mono ?_; rintro e W9 ⟨rfl, b⟩
        have B := Lib.hid (below_up B.out b)
        clear b C5
        go_wp2_with fail
        refine (C6.out W9 B.out).mono ?_; rintro e W10 ⟨rfl, b⟩
        have B := Lib.hid (below_up B.out b)
        clear b C6
        have HO0 : Hid ((W10.alloc (.cells #[.string s] 9)).ownsRow W10.heap.size 9 1 (.slice (some ⟨W10.heap.size, 0, none⟩) 1 1) 1 ([s].map Value.string)) := Lib.hid (own_litB W10 [s] 1 _ 9 (Nat.le_refl _) rfl (by decide))
        have HU0 : Hid (Below W10.heap.size W10 (W10.alloc (.cells #[.string s] 9))) := Lib.hid (alloc_belowB W10 _)
        have BE := Lib.hid (below_up B.out HU0.out)
        have HB0 := Lib.hid HU0.out.size
        go_wp2_with (at_builtin; refine wpList_open (by first | rfl | simp [go_sem, Region.wanted, yielded]) ?_; refine wpList_append_B rfl _ _ 22 rfl W10.heap.size 9 i0 (.string ⟨#[]⟩) 1 16 Try.underlying22 HIn.out hz0 hz1 hz2 rfl (by decide) _ _ _ rfl HO0.out ao xs.length ca (xs.map Value.string) rfl ?c0 (by simp) ?c1 (onesB _) ?c3 ?c4 ?c5 ?_)
        case c0 => exact (S1.out _ BE.out).1
        case c1 => exact (S1.out _ BE.out).2
        case c3 => unfold maxLen; omega
        case c4 => omega
        case c5 => exact HB0.out
        intro v1 W11 ho hg
        have HU1 := Lib.hid (appB_below HU0.out HO0.out hg HB0.out)
        have B := Lib.hid (below_up B.out HU1.out)
        rw [show Value.string s :: List.map Value.string xs = ([s] ++ xs).map Value.string from rfl] at ho
        obtain ⟨jo, jc, rfl⟩ := own_slice ho
        have Hj := Lib.hid (ownB_strs ho)
        clear ho hg HO0 HU0 HB0 BE HU1
        have D7 := Lib.hid (C7.out jo jc W11 Hj.out)
        clear Hj C7
        go_wp2_with fail
        refine D7.out.mono ?_; rintro e W12 ⟨rfl, b⟩
        have B := Lib.hid (below_up B.out b)
        clear b D7
        go_wp2_with fail
        refine (C4.out W12 B.out).mono ?_; rintro e W13 ⟨rfl, b⟩
        have B := Lib.hid (below_up B.out b)
        clear b C4
        go_wp2_with fail
        go_ret
        exact ⟨rfl, B.out⟩
    · go_enter Try.func5, Try.ntmps5
      go_wp2_with fail
      refine C0.out.mono ?_; rintro e W ⟨rfl, b0⟩
      have B := Lib.hid b0
      clear b0 C0
      go_wp2_with fail
      go_ret
      exact ⟨rfl, B.out⟩
  · go_enter Try.func5, Try.ntmps5
    go_wp2_with fail
    refine C0.out.mono ?_; rintro e W ⟨rfl, b0⟩
    have B := Lib.hid b0
    clear b0 C0
    go_wp2_with fail
    go_ret
    exact ⟨rfl, B.out⟩
end Go.Proofs.Ytcdpadchbphggaa
