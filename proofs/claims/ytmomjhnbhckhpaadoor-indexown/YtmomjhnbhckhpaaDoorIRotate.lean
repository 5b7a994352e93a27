/-
  A piece changes places with the one behind it, at numbers with ranks.
  Conditions: lists of at most 2^30 numbers; the comparison is told by ranks, and makes memory alone.
-/
import Derived.WalkKit
import Derived.WalkMore
import Derived.IntWalk
import Derived.RegionTactic
import Derived.BigRegion
import Derived.Lib.Hide
import Derived.StillTailTactics
import Derived.BigQuiet
import Derived.Deep.QuietTactic
import Derived.Deep.Cut
import Derived.Deep.CutRange
import Derived.Test.YtmomjhnbhckhpaaDoorProg
import Derived.Test.YtmomjhnbhckhpaaDoorIRot
import Derived.Test.YtmomjhnbhckhpaaDoorPRotate
namespace Go.Proofs.YtmomjhnbhckhpaaDoor
open Go.RowKit Go.Shelf
set_option linter.unusedVariables false

set_option maxRecDepth 100000 in
set_option maxHeartbeats 600000 in
theorem rotateZ_any (w0 : World) (Kg : Int × Int → Prop) (base g n : Nat) (P A B R : PL) (a m b : Nat) (cmp : Value) (w : World) (hn : n ≤ 274877906944) (ha : a = P.length) (hm : m = P.length + A.length) (hb : b = P.length + A.length + B.length) (hA0 : 0 < A.length) (hB0 : 0 < B.length) (hO : OwnZ w0 Kg w base g n (P ++ A ++ B ++ R)) :
    Calls Tryd.prog 82 #[.slice (some ⟨g, 0, none⟩) n n, .int .i64 a, .int .i64 m, .int .i64 b, cmp] w fun e w' => e = .returned (.tuple #[]) ∧ OwnZ w0 Kg w' base g n (P ++ B ++ A ++ R) ∧ w.grownBy w' (some g) := by
  have hl := hO.len
  simp only [List.length_append] at hl
  have hbn : b ≤ n := by omega
  have ham : a < m := by omega
  have hmb : m < b := by omega
  obtain ⟨u, hu⟩ : ∃ u, u = m - a := ⟨_, rfl⟩
  obtain ⟨v, hv⟩ : ∃ v, v = b - m := ⟨_, rfl⟩
  have HE : Hid (∃ (z : Nat) (Pre U V Post : PL), z = m - u ∧ Pre.length = z ∧ U.length = u ∧ V.length = v ∧ P ++ A ++ B ++ R = Pre ++ U ++ V ++ Post ∧ P ++ B ++ A ++ R = Pre ++ V ++ U ++ Post) := Lib.hid ⟨a, P, A, B, R, by omega, by omega, by omega, by omega, rfl, rfl⟩
  have HO0 := Lib.hid hO
  have C := Lib.hid (fun P X M Y R a b c W h1 h2 h3 h4 h5 => swapRangeZ_any w0 Kg base g n P X M Y R a b c cmp W hn h1 h2 h3 h4 h5)
  have s1 : (m : Int) - (a : Int) = (u : Int) := by omega
  have s2 : (b : Int) - (m : Int) = (v : Int) := by omega
  have w1 : IntKind.i64.wrap ((m : Int) - (a : Int)) = (u : Int) := by rw [IntWalk.i64_in _ (by omega)]; exact s1
  have w2 : IntKind.i64.wrap ((b : Int) - (m : Int)) = (v : Int) := by rw [IntWalk.i64_in _ (by omega)]; exact s2
  have hu0 : 0 < u := by omega
  have hv0 : 0 < v := by omega
  have hum : u ≤ m := by omega
  have hvn : m + v ≤ n := by omega
  clear hO hl ha hm hb hA0 hB0 hu hv
  generalize P ++ A ++ B ++ R = D0 at HE HO0
  generalize P ++ B ++ A ++ R = T at HE ⊢
  go_enter Tryd.func82, Tryd.ntmps82
  go_wp2_with fail
  clear s1 s2 w1 w2
  go_loopw [10, 11] (fun x y wr => ∃ (i j : Nat) (D : PL), 0 < i ∧ 0 < j ∧ i ≤ m ∧ m + j ≤ n ∧ x = .int .i64 i ∧ y = .int .i64 j ∧ Hid (OwnZ w0 Kg wr base g n D) ∧ Hid (w.grownBy wr (some g)) ∧ Hid (∃ (z : Nat) (Pre U V Post : PL), z = m - i ∧ Pre.length = z ∧ U.length = i ∧ V.length = j ∧ D = Pre ++ U ++ V ++ Post ∧ T = Pre ++ V ++ U ++ Post)) (fun x y _ => (intOf x).toNat + (intOf y).toNat)
  case atStart => exact ⟨u, v, D0, hu0, hv0, hum, hvn, rfl, rfl, HO0, Lib.hid ⟨rfl, rfl, rfl, Nat.le_refl _, fun _ _ _ => rfl⟩, HE⟩
  case round =>
    obtain ⟨i, j, D, hi, hj, him, hjn, rfl, rfl, HO, HGr, HF⟩ := hrel
    clear HO0 HE
    obtain ⟨z, Pre, U, V, Post, hz, l1, l2, l3, e1, e2⟩ := HF.out
    have hs1 : (m : Int) - (i : Int) = (z : Int) := by omega
    have hw1 : IntKind.i64.wrap ((m : Int) - (i : Int)) = (z : Int) := by rw [IntWalk.i64_in _ (by omega)]; exact hs1
    by_cases hij : i = j
    · have hb1 : ((i : Int) != (j : Int)) = false := by rw [int_bne]; simpa using hij
      have C1 := Lib.hid (C.out Pre U [] V Post z m i wr l1.symm (by simp; omega) l2 (by omega) (by have := HO.out; rw [e1] at this; simpa using this))
      have HT : Hid (Pre ++ V ++ [] ++ U ++ Post = T) := Lib.hid (by rw [e2]; simp)
      rw [HT.out] at C1
      clear HF e1 e2 l1 l2 l3 HO hz C
      subst hij
      go_wp2_with fail
      refine C1.out.mono ?_; rintro e w2 ⟨rfl, h1, h2⟩
      have H1 := Lib.hid h1
      have H2 := Lib.hid (grown_trans HGr.out h2)
      clear h1 h2
      go_wp2_with fail
      go_end0
      exact ⟨rfl, H1.out, H2.out⟩
    · have hb1 : ((i : Int) != (j : Int)) = true := by rw [int_bne]; simpa using hij
      rcases Nat.lt_or_ge j i with hlt | hge
      · have hgt : (j : Int) < (i : Int) := by omega
        have hU : U = U.take j ++ U.drop j := (List.take_append_drop j U).symm
        have C1 := Lib.hid (C.out Pre (U.take j) (U.drop j) V Post z m j wr l1.symm (by simp; omega) (by simp; omega) l3 (by have := HO.out; rw [e1, hU] at this; simpa using this))
        obtain ⟨t, ht⟩ : ∃ t, t = i - j := ⟨_, rfl⟩
        have HF2 : Hid (∃ (z : Nat) (Pre' U' V' Post' : PL), z = m - t ∧ Pre'.length = z ∧ U'.length = t ∧ V'.length = j ∧ Pre ++ V ++ U.drop j ++ U.take j ++ Post = Pre' ++ U' ++ V' ++ Post' ∧ T = Pre' ++ V' ++ U' ++ Post') := Lib.hid ⟨m - t, Pre ++ V, U.drop j, U.take j, Post, rfl, by simp; omega, by simp; omega, by simp; omega, by simp, by
          have h3 : Pre ++ V ++ U ++ Post = Pre ++ V ++ (U.take j ++ U.drop j) ++ Post := by rw [List.take_append_drop]
          rw [e2, h3]; simp⟩
        have s3 : (i : Int) - (j : Int) = (t : Int) := by omega
        have w3 : IntKind.i64.wrap ((i : Int) - (j : Int)) = (t : Int) := by rw [IntWalk.i64_in _ (by omega)]; exact s3
        have ht0 : 0 < t := by omega
        have htm : t ≤ m := by omega
        have hti : t < i := by omega
        generalize Pre ++ V ++ U.drop j ++ U.take j ++ Post = D2 at C1 HF2
        clear HF e1 e2 l1 l2 l3 HO hU hij hz ht C
        go_wp2_with fail
        refine C1.out.mono ?_; rintro e w2 ⟨rfl, h1, h2⟩
        have H1 := Lib.hid h1
        have H2 := Lib.hid (grown_trans HGr.out h2)
        clear h1 h2
        go_wp2_with fail
        go_roundw
        case rel => exact ⟨t, j, D2, ht0, hj, htm, hjn, by first | rfl | go_num, rfl, H1, H2, HF2⟩
        case measure => simp [intOf]; omega
      · have hgt : ¬ (j : Int) < (i : Int) := by omega
        have hlt : i < j := by omega
        obtain ⟨t, ht⟩ : ∃ t, t = j - i := ⟨_, rfl⟩
        obtain ⟨y, hy⟩ : ∃ y, y = m + t := ⟨_, rfl⟩
        have hV : V = V.take t ++ V.drop t := (List.take_append_drop _ V).symm
        have C1 := Lib.hid (C.out Pre U (V.take t) (V.drop t) Post z y i wr l1.symm (by simp; omega) l2 (by simp; omega) (by have := HO.out; rw [e1, hV] at this; simpa using this))
        have HF2 : Hid (∃ (z : Nat) (Pre' U' V' Post' : PL), z = m - i ∧ Pre'.length = z ∧ U'.length = i ∧ V'.length = t ∧ Pre ++ V.drop t ++ V.take t ++ U ++ Post = Pre' ++ U' ++ V' ++ Post' ∧ T = Pre' ++ V' ++ U' ++ Post') := Lib.hid ⟨z, Pre, V.drop t, V.take t, U ++ Post, hz, l1, by simp; omega, by simp; omega, by simp, by
          have h3 : Pre ++ V ++ U ++ Post = Pre ++ (V.take t ++ V.drop t) ++ U ++ Post := by rw [List.take_append_drop]
          rw [e2, h3]; simp⟩
        have s3 : (j : Int) - (i : Int) = (t : Int) := by omega
        have w3 : IntKind.i64.wrap ((j : Int) - (i : Int)) = (t : Int) := by rw [IntWalk.i64_in _ (by omega)]; exact s3
        have s4 : (m : Int) + (j : Int) - (i : Int) = (y : Int) := by omega
        have w4 : IntKind.i64.wrap ((m : Int) + (j : Int) - (i : Int)) = (y : Int) := by rw [IntWalk.i64_in _ (by omega)]; exact s4
        have w5 : IntKind.i64.wrap ((m : Int) + (j : Int)) = (m : Int) + (j : Int) := IntWalk.i64_in _ (by omega)
        have ht0 : 0 < t := by omega
        have htn : m + t ≤ n := by omega
        have htj : t < j := by omega
        generalize Pre ++ V.drop t ++ V.take t ++ U ++ Post = D2 at C1 HF2
        clear HF e1 e2 l1 l2 l3 HO hV hij hz ht hy C
        go_wp2_with fail
        refine C1.out.mono ?_; rintro e w2 ⟨rfl, h1, h2⟩
        have H1 := Lib.hid h1
        have H2 := Lib.hid (grown_trans HGr.out h2)
        clear h1 h2
        go_wp2_with fail
        go_roundw
        case rel => exact ⟨i, t, D2, hi, ht0, him, htn, rfl, by first | rfl | go_num, H1, H2, HF2⟩
        case measure => simp [intOf]; omega
end Go.Proofs.YtmomjhnbhckhpaaDoor
