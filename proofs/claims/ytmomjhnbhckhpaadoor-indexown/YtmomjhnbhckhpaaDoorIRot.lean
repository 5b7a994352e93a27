/-
  Two pieces change places, at numbers with ranks.
  Conditions: lists of at most 2^30 numbers; the comparison is told by ranks, and makes memory alone.
-/
import Derived.WalkKit
import Derived.WalkMore
import Derived.IntWalk
import Derived.RegionTactic
import Derived.BigRegion
import Derived.Lib.Hide
import Derived.StillTailTactics
import Derived.BigQuiet
import Derived.Deep.QuietTactic
import Derived.Deep.Cut
import Derived.Deep.CutRange
import Derived.Test.YtmomjhnbhckhpaaDoorProg
import Derived.Test.YtmomjhnbhckhpaaDoorIZ
import Derived.Test.YtmomjhnbhckhpaaDoorPRot
namespace Go.Proofs.YtmomjhnbhckhpaaDoor
open Go.RowKit Go.Shelf
set_option linter.unusedVariables false

set_option maxRecDepth 100000 in
set_option maxHeartbeats 2000000 in
theorem swapRangeZ_any (w0 : World) (Kg : Int × Int → Prop) (base g n : Nat) (P X M Y R : PL) (a b c : Nat) (cmp : Value) (w : World) (hn : n ≤ 274877906944) (ha : a = P.length) (hb : b = P.length + X.length + M.length) (hX : X.length = c) (hY : Y.length = c) (hO : OwnZ w0 Kg w base g n (P ++ X ++ M ++ Y ++ R)) :
    Calls Tryd.prog 103 #[.slice (some ⟨g, 0, none⟩) n n, .int .i64 a, .int .i64 b, .int .i64 c, cmp] w fun e w' => e = .returned (.tuple #[]) ∧ OwnZ w0 Kg w' base g n (P ++ Y ++ M ++ X ++ R) ∧ w.grownBy w' (some g) := by
  have hl := hO.len
  simp only [List.length_append] at hl
  have hnb : b + c ≤ n := by omega
  have hab : a + c ≤ b := by omega
  have HO0 : Hid (OwnZ w0 Kg w base g n (midL P X M Y R 0)) := Lib.hid (by rw [mid_zero]; exact hO)
  have HAll : Hid (midL P X M Y R c = P ++ Y ++ M ++ X ++ R) := Lib.hid (by rw [← hX]; exact mid_all P X M Y R (by omega))
  have HSt := Lib.hid (fun i x y (h1 : X[i]? = some x) (h2 : Y[i]? = some y) => mid_step P X M Y R i (a + i) (b + i) x y h1 h2 (by omega) (by omega))
  have HX := Lib.hid hX
  have HY := Lib.hid hY
  clear hO hl ha hb hX hY
  generalize P ++ Y ++ M ++ X ++ R = E at HAll ⊢
  go_enter Tryd.func103, Tryd.ntmps103
  go_wp2_with fail
  go_loopw [10] (fun i wr => ∃ k : Nat, k ≤ c ∧ i = .int .i64 k ∧ Hid (OwnZ w0 Kg wr base g n (midL P X M Y R k)) ∧ Hid (w.grownBy wr (some g))) (fun i _ => c - (intOf i).toNat)
  case atStart => exact ⟨0, Nat.zero_le _, rfl, HO0, Lib.hid ⟨rfl, rfl, rfl, Nat.le_refl _, fun _ _ _ => rfl⟩⟩
  case round =>
    obtain ⟨k, hk, rfl, HO, HGr⟩ := hrel
    by_cases hlt : k < c
    · obtain ⟨⟨x1, x2⟩, hx⟩ : ∃ x, X[k]? = some x := ⟨_, List.getElem?_eq_getElem (by rw [HX.out]; exact hlt)⟩
      obtain ⟨⟨y1, y2⟩, hy⟩ : ∃ y, Y[k]? = some y := ⟨_, List.getElem?_eq_getElem (by rw [HY.out]; exact hlt)⟩
      obtain ⟨s1, s2, s3⟩ := HSt.out k _ _ hx hy
      obtain ⟨q, hq⟩ : ∃ q, q = a + k := ⟨_, rfl⟩
      obtain ⟨m, hm⟩ : ∃ m, m = b + k := ⟨_, rfl⟩
      rw [← hq, ← hm] at s3
      rw [← hq] at s1
      rw [← hm] at s2
      have e1 : (a : Int) + (k : Int) = (q : Int) := by omega
      have e2 : (b : Int) + (k : Int) = (m : Int) := by omega
      have w1 : IntKind.i64.wrap ((a : Int) + (k : Int)) = (q : Int) := by rw [IntWalk.i64_in _ (by omega)]; exact e1
      have w2 : IntKind.i64.wrap ((b : Int) + (k : Int)) = (m : Int) := by rw [IntWalk.i64_in _ (by omega)]; exact e2
      have w3 : IntKind.i64.wrap (q : Int) = (q : Int) := IntWalk.i64_in _ (by omega)
      have w4 : IntKind.i64.wrap (m : Int) = (m : Int) := IntWalk.i64_in _ (by omega)
      have hqn : q < n := by omega
      have hmn : m < n := by omega
      have hc1 := HO.out.cell q _ s1
      have kc := HO.out.at q _ s1
      have hd1 := HO.out.cell m _ s2
      have kd := HO.out.at m _ s2
      dsimp only at hc1 hd1
      have f1 := HO.out.frozen q
      have f3 := HO.out.frozen m
      have n1 : ¬ m = q := by omega
      have O3 := HO.out.swap q m y1 y2 x1 x2 hqn hmn kd kc
      rw [s3] at O3
      have HO3 := Lib.hid (O3.kept (bdn (n := 1) (Below.refl _ _)))
      have HG3 := Lib.hid (grown_trans (grown_trans HGr.out (grown_swapZ wr g q m (.int .i64 y1) (.int .i64 x1))) (grown_drewN _ 1 _))
      clear O3 s1 s2 s3 hx hy hq hm HO HO0
      go_upto_region 3 with fail
      go_region
      go_wp2_with fail
      go_roundw
      case rel => exact ⟨k + 1, by omega, by go_num, HO3, HG3⟩
      case measure => simp [intOf]; omega
    · obtain rfl : k = c := by omega
      have HO3 : Hid (OwnZ w0 Kg wr base g n E) := Lib.hid (by have := HO.out; rw [HAll.out] at this; exact this)
      go_wp2_with fail
      go_end0
      exact ⟨rfl, HO3.out, HGr.out⟩
end Go.Proofs.YtmomjhnbhckhpaaDoor
