/-
  Two pieces of a list change places: what the library's own functions make.
  Conditions: lists of at most 2^38 pairs.
-/
import Derived.WalkKit
import Derived.WalkMore
import Derived.IntWalk
import Derived.RegionTactic
import Derived.BigRegion
import Derived.Lib.Hide
import Derived.Deep.Cut
import Derived.Test.YtpejdnmfagjfhaaProg
import Derived.Test.YtpejdnmfagjfhaaPIns
namespace Go.Proofs.Ytpejdnmfagjfhaa
open Go.RowKit Go.Shelf
set_option linter.unusedVariables false

theorem set2 (L1 L2 L3 : PL) (x y : Int × Int) : ((L1 ++ x :: (L2 ++ y :: L3)).set L1.length y).set (L1.length + 1 + L2.length) x = L1 ++ y :: (L2 ++ x :: L3) := by
  rw [List.set_append_right _ _ (Nat.le_refl _), Nat.sub_self, List.set_cons_zero, List.set_append_right _ _ (by omega), show L1.length + 1 + L2.length - L1.length = L2.length + 1 from by omega, List.set_cons_succ, List.set_append_right _ _ (Nat.le_refl _), Nat.sub_self, List.set_cons_zero]
/-- two pieces X and Y, of which the first i have changed places -/
def midL (P X M Y R : PL) (i : Nat) : PL := P ++ (Y.take i ++ X.drop i) ++ M ++ (X.take i ++ Y.drop i) ++ R
theorem mid_form (P X M Y R : PL) (i : Nat) (x y : Int × Int) (hx : X[i]? = some x) (hy : Y[i]? = some y) :
    midL P X M Y R i = (P ++ Y.take i) ++ x :: ((X.drop (i + 1) ++ M ++ X.take i) ++ y :: (Y.drop (i + 1) ++ R)) ∧ midL P X M Y R (i + 1) = (P ++ Y.take i) ++ y :: ((X.drop (i + 1) ++ M ++ X.take i) ++ x :: (Y.drop (i + 1) ++ R)) := by
  obtain ⟨h1, e1⟩ := List.getElem?_eq_some_iff.1 hx
  obtain ⟨h2, e2⟩ := List.getElem?_eq_some_iff.1 hy
  constructor
  · unfold midL; rw [List.drop_eq_getElem_cons h1, List.drop_eq_getElem_cons h2, e1, e2]; simp
  · unfold midL; rw [List.take_succ_eq_append_getElem h1, List.take_succ_eq_append_getElem h2, e1, e2]; simp
theorem mid_step (P X M Y R : PL) (i a b : Nat) (x y : Int × Int) (hx : X[i]? = some x) (hy : Y[i]? = some y) (ha : a = P.length + i) (hb : b = P.length + X.length + M.length + i) :
    (midL P X M Y R i)[a]? = some x ∧ (midL P X M Y R i)[b]? = some y ∧ ((midL P X M Y R i).set a y).set b x = midL P X M Y R (i + 1) := by
  obtain ⟨e1, e2⟩ := mid_form P X M Y R i x y hx hy
  have h1 := (List.getElem?_eq_some_iff.1 hx).1
  have h2 := (List.getElem?_eq_some_iff.1 hy).1
  have l1 : (P ++ Y.take i).length = a := by simp; omega
  have l2 : (P ++ Y.take i).length + 1 + (X.drop (i + 1) ++ M ++ X.take i).length = b := by simp; omega
  refine ⟨?_, ?_, ?_⟩
  · rw [e1, ← l1, List.getElem?_append_right (Nat.le_refl _), Nat.sub_self]; rfl
  · rw [e1, ← l2, List.getElem?_append_right (by omega), show (P ++ Y.take i).length + 1 + (X.drop (i + 1) ++ M ++ X.take i).length - (P ++ Y.take i).length = (X.drop (i + 1) ++ M ++ X.take i).length + 1 from by omega, List.getElem?_cons_succ, List.getElem?_append_right (Nat.le_refl _), Nat.sub_self]; rfl
  · rw [e1, e2, ← l2, ← l1]; exact set2 _ _ _ x y
theorem mid_zero (P X M Y R : PL) : midL P X M Y R 0 = P ++ X ++ M ++ Y ++ R := by simp [midL]
theorem mid_all (P X M Y R : PL) (h : X.length = Y.length) : midL P X M Y R X.length = P ++ Y ++ M ++ X ++ R := by
  unfold midL
  rw [List.drop_length, List.take_length, List.take_of_length_le (by omega), List.drop_eq_nil_of_le (show Y.length ≤ X.length by omega)]; simp

set_option maxRecDepth 100000 in
set_option maxHeartbeats 2000000 in
theorem swapRange_any (base g n : Nat) (P X M Y R : PL) (a b c : Nat) (cmp : Value) (w : World) (hn : n ≤ 274877906944) (ha : a = P.length) (hb : b = P.length + X.length + M.length) (hX : X.length = c) (hY : Y.length = c) (hO : OwnP w base 42 g n (P ++ X ++ M ++ Y ++ R)) :
    Calls Try.prog 50 #[.slice (some ⟨g, 0, none⟩) n n, .int .i64 a, .int .i64 b, .int .i64 c, cmp] w fun e w' => e = .returned (.tuple #[]) ∧ OwnP w' base 42 g n (P ++ Y ++ M ++ X ++ R) ∧ w.grownBy w' (some g) := by
  have hl := hO.len
  simp only [List.length_append] at hl
  have hnb : b + c ≤ n := by omega
  have hab : a + c ≤ b := by omega
  have HO0 : Hid (OwnP w base 42 g n (midL P X M Y R 0)) := Lib.hid (by rw [mid_zero]; exact hO)
  have HAll : Hid (midL P X M Y R c = P ++ Y ++ M ++ X ++ R) := Lib.hid (by rw [← hX]; exact mid_all P X M Y R (by omega))
  have HSt := Lib.hid (fun i x y (h1 : X[i]? = some x) (h2 : Y[i]? = some y) => mid_step P X M Y R i (a + i) (b + i) x y h1 h2 (by omega) (by omega))
  have HX := Lib.hid hX
  have HY := Lib.hid hY
  clear hO hl ha hb hX hY
  generalize P ++ Y ++ M ++ X ++ R = E at HAll ⊢
  go_enter Try.func50, Try.ntmps50
  go_wp2_with fail
  go_loopw [10] (fun i wr => ∃ k : Nat, k ≤ c ∧ i = .int .i64 k ∧ Hid (OwnP wr base 42 g n (midL P X M Y R k)) ∧ Hid (w.grownBy wr (some g))) (fun i _ => c - (intOf i).toNat)
  case atStart => exact ⟨0, Nat.zero_le _, rfl, HO0, Lib.hid ⟨rfl, rfl, rfl, Nat.le_refl _, fun _ _ _ => rfl⟩⟩
  case round =>
    obtain ⟨k, hk, rfl, HO, HGr⟩ := hrel
    by_cases hlt : k < c
    · obtain ⟨⟨x1, x2⟩, hx⟩ : ∃ x, X[k]? = some x := ⟨_, List.getElem?_eq_getElem (by rw [HX.out]; exact hlt)⟩
      obtain ⟨⟨y1, y2⟩, hy⟩ : ∃ y, Y[k]? = some y := ⟨_, List.getElem?_eq_getElem (by rw [HY.out]; exact hlt)⟩
      obtain ⟨s1, s2, s3⟩ := HSt.out k _ _ hx hy
      obtain ⟨q, hq⟩ : ∃ q, q = a + k := ⟨_, rfl⟩
      obtain ⟨m, hm⟩ : ∃ m, m = b + k := ⟨_, rfl⟩
      rw [← hq, ← hm] at s3
      rw [← hq] at s1
      rw [← hm] at s2
      have e1 : (a : Int) + (k : Int) = (q : Int) := by omega
      have e2 : (b : Int) + (k : Int) = (m : Int) := by omega
      have w1 : IntKind.i64.wrap ((a : Int) + (k : Int)) = (q : Int) := by rw [IntWalk.i64_in _ (by omega)]; exact e1
      have w2 : IntKind.i64.wrap ((b : Int) + (k : Int)) = (m : Int) := by rw [IntWalk.i64_in _ (by omega)]; exact e2
      have w3 : IntKind.i64.wrap (q : Int) = (q : Int) := IntWalk.i64_in _ (by omega)
      have w4 : IntKind.i64.wrap (m : Int) = (m : Int) := IntWalk.i64_in _ (by omega)
      have hqn : q < n := by omega
      have hmn : m < n := by omega
      obtain ⟨hc1, hc2⟩ := HO.out.cell q _ s1
      obtain ⟨hd1, hd2⟩ := HO.out.cell m _ s2
      dsimp only at hc1 hc2 hd1 hd2
      have f1 := HO.out.frozen (q * 2)
      have f2 := HO.out.frozen (q * 2 + 1)
      have f3 := HO.out.frozen (m * 2)
      have f4 := HO.out.frozen (m * 2 + 1)
      have n1 : ¬ m * 2 = q * 2 := by omega
      have n2 : ¬ m * 2 = q * 2 + 1 := by omega
      have n3 : ¬ m * 2 + 1 = q * 2 := by omega
      have n4 : ¬ m * 2 + 1 = q * 2 + 1 := by omega
      have O3 := HO.out.swap q m y1 y2 x1 x2 hqn hmn
      rw [s3] at O3
      have HO3 := Lib.hid (O3.kept (bdn (n := 1) (Below.refl _ _)))
      have HG3 := Lib.hid (grown_trans (grown_trans HGr.out (grown_swap wr g q m (.int .i64 y1) (.int .i64 y2) (.int .i64 x1) (.int .i64 x2))) (grown_drewN _ 1 _))
      clear O3 s1 s2 s3 hx hy hq hm HO HO0
      go_upto_region 3 with fail
      go_region
      go_wp2_with fail
      go_roundw
      case rel => exact ⟨k + 1, by omega, by go_num, HO3, HG3⟩
      case measure => simp [intOf]; omega
    · obtain rfl : k = c := by omega
      have HO3 : Hid (OwnP wr base 42 g n E) := Lib.hid (by have := HO.out; rw [HAll.out] at this; exact this)
      go_wp2_with fail
      go_end0
      exact ⟨rfl, HO3.out, HGr.out⟩
end Go.Proofs.Ytpejdnmfagjfhaa
