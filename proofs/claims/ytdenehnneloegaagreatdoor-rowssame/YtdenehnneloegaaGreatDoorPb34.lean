/-
  Texts of these rows' proofs, laid one behind the other: ISym2, IRot, IRotate.
  Conditions: those of each theorem.
-/
import Derived.WalkKit
import Derived.WalkMore
import Derived.IntWalk
import Derived.RegionTactic
import Derived.BigRegion
import Derived.Lib.Hide
import Derived.StillTailTactics
import Derived.BigQuiet
import Derived.Deep.QuietTactic
import Derived.Deep.Cut
import Derived.Deep.CutRange
import Derived.Test.YtdenehnneloegaaGreatDoorProg
import Derived.Test.YtdenehnneloegaaGreatDoorPb32
import Derived.Test.YtdenehnneloegaaGreatDoorPb7
namespace Go.Proofs.YtdenehnneloegaaGreatDoor
open Go.RowKit Go.Shelf
set_option linter.unusedVariables false
set_option maxRecDepth 100000 in
set_option maxHeartbeats 1000000 in
theorem symZ2_any (w0 : World) (Kg : Int × Int → Prop) (G : FuncId) (cap0 : Value) (hent : ∀ args w, (callFunc G args).run Tryz.prog w = .ok (.enter G args) w) (base g n : Nat) (hC : CmpOK w0 g Kg G cap0) (P A R : PL) (y : Int × Int) (a m b : Nat) (w : World) (hn : n ≤ 274877906944) (ha : a = P.length) (hm : m = a + A.length) (hb : b = m + 1) (hA2 : A.length ≠ 1) (hA : Sorted A) (hO : OwnZ w0 Kg w base g n (P ++ A ++ [y] ++ R)) :
    Calls Tryz.prog 187 #[.slice (some ⟨g, 0, none⟩) n n, .int .i64 a, .int .i64 m, .int .i64 b, .func (.func G) #[] #[cap0]] w fun e w' => e = .returned (.tuple #[]) ∧ OwnZ w0 Kg w' base g n (P ++ sortB (A ++ [y]) ++ R) ∧ w.grownBy w' (some g) := by
  have hl := hO.len
  simp only [List.length_append, List.length_cons, List.length_nil] at hl
  have C := Lib.hid hC
  obtain ⟨x1, x2⟩ := y
  have hmn : m < n := by omega
  have ham : a ≤ m := by omega
  have hsub : (b : Int) - (m : Int) = 1 := by omega
  have hws : IntKind.i64.wrap ((b : Int) - (m : Int)) = 1 := by rw [IntWalk.i64_in _ (by omega)]; exact hsub
  obtain ⟨z, hz⟩ : ∃ z, z = m - a := ⟨_, rfl⟩
  have hs0 : (m : Int) - (a : Int) = (z : Int) := by omega
  have hw0 : IntKind.i64.wrap ((m : Int) - (a : Int)) = (z : Int) := by rw [IntWalk.i64_in _ (by omega)]; exact hs0
  have hz1 : ((z : Int) == 1) = false := by simp; omega
  have hz2 : ¬ (z : Int) = 1 := by omega
  have hz3 : ¬ z = 1 := by omega
  have HAt : Hid ((P ++ A ++ [(x1, x2)] ++ R)[m]? = some (x1, x2)) := Lib.hid (by
    rw [List.append_assoc, List.getElem?_append_right (by simp; omega)]
    simp only [List.length_append]; rw [show m - (P.length + A.length) = 0 from by omega]; rfl)
  have HBt : Hid (∀ (h t : Nat) q, h = a + t → A[t]? = some q → (P ++ A ++ [(x1, x2)] ++ R)[h]? = some q) := Lib.hid (fun h t q hh hq => by
    have h1 := (List.getElem?_eq_some_iff.1 hq).1
    rw [List.append_assoc, List.getElem?_append_left (by simp; omega), List.getElem?_append_right (by omega), show h - P.length = t from by omega]; exact hq)
  have HOne := Lib.hid (fun c h1 h2 h3 => sortB_last A (x1, x2) c hA h1 h2 h3)
  have HPl := Lib.hid ha
  have HMl : Hid (m = a + A.length) := Lib.hid hm
  have HO0 := Lib.hid hO
  have HD : Hid (∀ c, c ≤ A.length → P ++ A ++ [(x1, x2)] ++ R = wayL (P ++ A.take c) (A.drop c) (x1, x2) (A.drop c).length R ∧ P ++ (A.take c ++ (x1, x2) :: A.drop c) ++ R = wayL (P ++ A.take c) (A.drop c) (x1, x2) 0 R) := Lib.hid (fun c hc => by
    constructor
    · have e : P ++ A ++ [(x1, x2)] ++ R = P ++ (A.take c ++ A.drop c) ++ [(x1, x2)] ++ R := by rw [List.take_append_drop]
      rw [e]
      unfold wayL
      rw [List.take_length, List.drop_length]
      simp only [List.append_assoc]
    · simp [wayL])
  clear hO hl ha hm hb hA hz hC
  generalize P ++ A ++ [(x1, x2)] ++ R = D at HAt HBt HO0 HD
  go_enter Tryz.func187, Tryz.ntmps187
  go_wp2_with fail
  clear hsub hws hs0 hw0 hz1 hz2 hz3
  go_loopw [14, 15] (fun u v wr => ∃ (i j : Nat), a ≤ i ∧ i ≤ j ∧ j ≤ m ∧ u = .int .i64 i ∧ v = .int .i64 j ∧ Hid (OwnZ w0 Kg wr base g n D) ∧ Hid (w.grownBy wr (some g)) ∧ Hid (i = a ∨ ∃ q, A[i - a - 1]? = some q ∧ q.2 ≤ x2) ∧ Hid (j = m ∨ ∃ q, A[j - a]? = some q ∧ x2 < q.2)) (fun u v _ => (intOf v).toNat - (intOf u).toNat)
  case atStart => exact ⟨a, m, Nat.le_refl _, ham, Nat.le_refl _, rfl, rfl, HO0, Lib.hid ⟨rfl, rfl, rfl, Nat.le_refl _, fun _ _ _ => rfl⟩, Lib.hid (.inl rfl), Lib.hid (.inl rfl)⟩
  case round =>
    obtain ⟨i, j, hmi, hij, hjb, rfl, rfl, HO, HGr, HI, HJ⟩ := hrel
    clear HO0
    by_cases hlt : i < j
    · obtain ⟨h, hh⟩ : ∃ h, h = (i + j) / 2 := ⟨_, rfl⟩
      have hz : ((i : Int) + (j : Int)) / 2 = (h : Int) := by omega
      have h1 : i ≤ h := by omega
      have h2 : h < j := by omega
      obtain ⟨⟨y1, y2⟩, hy⟩ : ∃ q, A[h - a]? = some q := ⟨_, List.getElem?_eq_getElem (by have := HMl.out; omega)⟩
      have hc1 := HO.out.cell h _ (HBt.out h (h - a) _ (by omega) hy)
      have kc := HO.out.at h _ (HBt.out h (h - a) _ (by omega) hy)
      have hd1 := HO.out.cell m _ HAt.out
      have kd := HO.out.at m _ HAt.out
      dsimp only at hc1 hd1
      have hhn : h < n := by omega
      have C1 := Lib.hid (C.out x1 x2 y1 y2 kd kc wr.drew (grown_trans HO.out.grown (grown_drewN wr 1 _)))
      have hneg := cmpI_neg x2 y2
      have HY := Lib.hid hy
      clear hh hy
      generalize cmpI x2 y2 = cc at hneg C1
      go_upto_region 17 with fail
      go_still_tail 9, (by kernel_rfl)
      rw [show ({ heap := wr.heap, tape := wr.tape, drawn := wr.drawn + 1, os := wr.os, output := wr.output } : World) = wr.drew from rfl]
      by_cases hlt2 : x2 < y2
      · have hc0 : cc < 0 := by rw [decide_eq_true hlt2] at hneg; exact of_decide_eq_true hneg
        have hcd : decide (cc < 0) = true := decide_eq_true hc0
        have hce : (!decide (cc < 0)) = false := by rw [hcd]; rfl
        have HJ2 : Hid (h = m ∨ ∃ q, A[h - a]? = some q ∧ x2 < q.2) := Lib.hid (.inr ⟨_, HY.out, hlt2⟩)
        clear hneg hlt2
        go_wp2_with fail
        refine C1.out.mono ?_; rintro e w2 ⟨rfl, b1⟩
        have b2 : Below wr.heap.size wr w2 := below_up (bdn (n := 1) (Below.refl _ wr)) b1
        have HO2 := Lib.hid (HO.out.kept b2)
        have HG2 := Lib.hid (grown_trans HGr.out (grown_below b2))
        clear b1 b2 hc1 hd1 HO HGr
        go_wp2_with fail
        go_roundw
        case rel => exact ⟨i, h, hmi, h1, by omega, rfl, by first | rfl | go_num, HO2, HG2, HI, HJ2⟩
        case measure => simp [intOf]; omega
      · have hc0 : ¬ cc < 0 := by rw [decide_eq_false hlt2] at hneg; exact of_decide_eq_false hneg
        have hcd : decide (cc < 0) = false := decide_eq_false hc0
        have hce : (!decide (cc < 0)) = true := by rw [hcd]; rfl
        have HI2 : Hid (h + 1 = a ∨ ∃ q, A[h + 1 - a - 1]? = some q ∧ q.2 ≤ x2) := Lib.hid (.inr ⟨_, by rw [show h + 1 - a - 1 = h - a from by omega]; exact HY.out, by show y2 ≤ x2; omega⟩)
        clear hneg hlt2
        go_wp2_with fail
        refine C1.out.mono ?_; rintro e w2 ⟨rfl, b1⟩
        have b2 : Below wr.heap.size wr w2 := below_up (bdn (n := 1) (Below.refl _ wr)) b1
        have HO2 := Lib.hid (HO.out.kept b2)
        have HG2 := Lib.hid (grown_trans HGr.out (grown_below b2))
        clear b1 b2 hc1 hd1 HO HGr
        go_wp2_with fail
        go_roundw
        case rel => exact ⟨h + 1, j, by omega, by omega, hjb, by go_num, rfl, HO2, HG2, HI2, HJ⟩
        case measure => simp [intOf]; omega
    · obtain rfl : i = j := by omega
      obtain ⟨c, hc⟩ : ∃ c, c = i - a := ⟨_, rfl⟩
      have hcB : c ≤ A.length := by have := HMl.out; omega
      have hE := HOne.out c hcB (by
        rcases HI.out with h | ⟨q, h3, h4⟩
        · exact .inl (by omega)
        · rcases Nat.eq_zero_or_pos c with h0 | h0
          · exact .inl h0
          · exact .inr ⟨q, by rw [show c - 1 = i - a - 1 from by omega]; exact h3, h4⟩) (by
        rcases HJ.out with h | ⟨q, h3, h4⟩
        · exact .inl (by have := HMl.out; omega)
        · exact .inr ⟨q, by rw [hc]; exact h3, h4⟩)
      obtain ⟨d1, d2⟩ := HD.out c hcB
      rw [← hE] at d2
      have HD2 := Lib.hid d2
      obtain ⟨Q, HQ⟩ : ∃ Q, Hid (Q = P ++ A.take c) := ⟨_, Lib.hid rfl⟩
      obtain ⟨S, HS⟩ : ∃ S, Hid (S = A.drop c) := ⟨_, Lib.hid rfl⟩
      rw [← HQ.out, ← HS.out] at d1
      rw [← HQ.out, ← HS.out] at HD2
      have HQl : Hid (Q.length = i) := Lib.hid (by rw [HQ.out]; simp; have := HPl.out; omega)
      have HSl : Hid (i + S.length = m) := Lib.hid (by rw [HS.out]; simp; have := HMl.out; omega)
      have HO1 : Hid (OwnZ w0 Kg wr base g n (wayL Q S (x1, x2) S.length R)) := Lib.hid (by rw [← d1]; exact HO.out)
      clear d1 d2 hE hc HI HJ HO hlt HOne HD
      go_wp2_with fail
      obtain ⟨wo, rfl⟩ : ∃ wo : World, wo = wr := ⟨_, rfl⟩
      go_loopw [17] (fun u wr => ∃ (t k : Nat), t ≤ S.length ∧ k = i + t ∧ u = .int .i64 k ∧ Hid (OwnZ w0 Kg wr base g n (wayL Q S (x1, x2) t R)) ∧ Hid (w.grownBy wr (some g))) (fun u _ => (intOf u).toNat)
      case atStart => exact ⟨S.length, m, Nat.le_refl _, HSl.out.symm, rfl, HO1, HGr⟩
      case round =>
        obtain ⟨t, k, ht, hk, rfl, HO, HGr⟩ := hrel
        clear HO1
        by_cases hlt : i < k
        · obtain ⟨t', ht'⟩ : ∃ t', t = t' + 1 := ⟨t - 1, by omega⟩
          subst ht'
          obtain ⟨⟨y1, y2⟩, hy⟩ : ∃ q, S[t']? = some q := ⟨_, List.getElem?_eq_getElem (by omega)⟩
          have s0 := way_here Q S (x1, x2) (t' + 1) R ht
          have s1 := way_ahead Q S (x1, x2) (y1, y2) t' R ht hy
          have s2 := way_swap Q S (x1, x2) (y1, y2) t' R ht hy
          obtain ⟨k1, hk1⟩ : ∃ k1, k1 = i + t' := ⟨_, rfl⟩
          rw [HQl.out] at s0 s1 s2
          rw [← hk] at s0 s2
          rw [← hk1] at s1 s2
          have hc1 := HO.out.cell k _ s0
          have kc := HO.out.at k _ s0
          have hd1 := HO.out.cell k1 _ s1
          have kd := HO.out.at k1 _ s1
          dsimp only at hc1 hd1
          have hkm : k ≤ m := by have := HSl.out; omega
          have hadd : (k : Int) - 1 = (k1 : Int) := by omega
          have hwa : IntKind.i64.wrap ((k : Int) - 1) = (k1 : Int) := by rw [IntWalk.i64_in _ (by omega)]; exact hadd
          have hwk : IntKind.i64.wrap (k1 : Int) = (k1 : Int) := IntWalk.i64_in _ (by omega)
          have hkn : k < n := by omega
          have hk1n : k1 < n := by omega
          have f1 := HO.out.frozen k
          have f3 := HO.out.frozen k1
          have n1 : ¬ k1 = k := by omega
          have O3 := HO.out.swap k k1 y1 y2 x1 x2 hkn hk1n kd kc
          rw [s2] at O3
          have HO3 := Lib.hid (O3.kept (bdn (n := 1) (Below.refl _ _)))
          have HG3 := Lib.hid (grown_trans (grown_trans HGr.out (grown_swapZ wr g k k1 (.int .i64 y1) (.int .i64 x1))) (grown_drewN _ 1 _))
          have HK1 := Lib.hid hk1
          have HK := Lib.hid hk
          have hkk : k1 < k := by omega
          clear O3 s0 s1 s2 hy HO hk hk1
          go_upto_region 23 with fail
          go_region
          go_wp2_with fail
          go_roundw
          case rel => exact ⟨t', k1, by omega, HK1.out, by first | rfl | go_num, HO3, HG3⟩
          case measure => simp [intOf]; omega
        · have hic : t = 0 := by omega
          have HO3 : Hid (OwnZ w0 Kg wr base g n (P ++ sortB (A ++ [(x1, x2)]) ++ R)) := Lib.hid (by rw [HD2.out]; have := HO.out; rw [hic] at this; exact this)
          clear HO hic hk
          go_wp2_with fail
          refine bodyPost_ret (results_none rfl _ _ _) rfl ?_
          exact ⟨rfl, HO3.out, HGr.out⟩
end Go.Proofs.YtdenehnneloegaaGreatDoor
namespace Go.Proofs.YtdenehnneloegaaGreatDoor
open Go.RowKit Go.Shelf
set_option linter.unusedVariables false
set_option maxRecDepth 100000 in
set_option maxHeartbeats 2000000 in
theorem swapRangeZ_any (w0 : World) (Kg : Int × Int → Prop) (base g n : Nat) (P X M Y R : PL) (a b c : Nat) (cmp : Value) (w : World) (hn : n ≤ 274877906944) (ha : a = P.length) (hb : b = P.length + X.length + M.length) (hX : X.length = c) (hY : Y.length = c) (hO : OwnZ w0 Kg w base g n (P ++ X ++ M ++ Y ++ R)) :
    Calls Tryz.prog 252 #[.slice (some ⟨g, 0, none⟩) n n, .int .i64 a, .int .i64 b, .int .i64 c, cmp] w fun e w' => e = .returned (.tuple #[]) ∧ OwnZ w0 Kg w' base g n (P ++ Y ++ M ++ X ++ R) ∧ w.grownBy w' (some g) := by
  have hl := hO.len
  simp only [List.length_append] at hl
  have hnb : b + c ≤ n := by omega
  have hab : a + c ≤ b := by omega
  have HO0 : Hid (OwnZ w0 Kg w base g n (midL P X M Y R 0)) := Lib.hid (by rw [mid_zero]; exact hO)
  have HAll : Hid (midL P X M Y R c = P ++ Y ++ M ++ X ++ R) := Lib.hid (by rw [← hX]; exact mid_all P X M Y R (by omega))
  have HSt := Lib.hid (fun i x y (h1 : X[i]? = some x) (h2 : Y[i]? = some y) => mid_step P X M Y R i (a + i) (b + i) x y h1 h2 (by omega) (by omega))
  have HX := Lib.hid hX
  have HY := Lib.hid hY
  clear hO hl ha hb hX hY
  generalize P ++ Y ++ M ++ X ++ R = E at HAll ⊢
  go_enter Tryz.func252, Tryz.ntmps252
  go_wp2_with fail
  go_loopw [10] (fun i wr => ∃ k : Nat, k ≤ c ∧ i = .int .i64 k ∧ Hid (OwnZ w0 Kg wr base g n (midL P X M Y R k)) ∧ Hid (w.grownBy wr (some g))) (fun i _ => c - (intOf i).toNat)
  case atStart => exact ⟨0, Nat.zero_le _, rfl, HO0, Lib.hid ⟨rfl, rfl, rfl, Nat.le_refl _, fun _ _ _ => rfl⟩⟩
  case round =>
    obtain ⟨k, hk, rfl, HO, HGr⟩ := hrel
    by_cases hlt : k < c
    · obtain ⟨⟨x1, x2⟩, hx⟩ : ∃ x, X[k]? = some x := ⟨_, List.getElem?_eq_getElem (by rw [HX.out]; exact hlt)⟩
      obtain ⟨⟨y1, y2⟩, hy⟩ : ∃ y, Y[k]? = some y := ⟨_, List.getElem?_eq_getElem (by rw [HY.out]; exact hlt)⟩
      obtain ⟨s1, s2, s3⟩ := HSt.out k _ _ hx hy
      obtain ⟨q, hq⟩ : ∃ q, q = a + k := ⟨_, rfl⟩
      obtain ⟨m, hm⟩ : ∃ m, m = b + k := ⟨_, rfl⟩
      rw [← hq, ← hm] at s3
      rw [← hq] at s1
      rw [← hm] at s2
      have e1 : (a : Int) + (k : Int) = (q : Int) := by omega
      have e2 : (b : Int) + (k : Int) = (m : Int) := by omega
      have w1 : IntKind.i64.wrap ((a : Int) + (k : Int)) = (q : Int) := by rw [IntWalk.i64_in _ (by omega)]; exact e1
      have w2 : IntKind.i64.wrap ((b : Int) + (k : Int)) = (m : Int) := by rw [IntWalk.i64_in _ (by omega)]; exact e2
      have w3 : IntKind.i64.wrap (q : Int) = (q : Int) := IntWalk.i64_in _ (by omega)
      have w4 : IntKind.i64.wrap (m : Int) = (m : Int) := IntWalk.i64_in _ (by omega)
      have hqn : q < n := by omega
      have hmn : m < n := by omega
      have hc1 := HO.out.cell q _ s1
      have kc := HO.out.at q _ s1
      have hd1 := HO.out.cell m _ s2
      have kd := HO.out.at m _ s2
      dsimp only at hc1 hd1
      have f1 := HO.out.frozen q
      have f3 := HO.out.frozen m
      have n1 : ¬ m = q := by omega
      have O3 := HO.out.swap q m y1 y2 x1 x2 hqn hmn kd kc
      rw [s3] at O3
      have HO3 := Lib.hid (O3.kept (bdn (n := 1) (Below.refl _ _)))
      have HG3 := Lib.hid (grown_trans (grown_trans HGr.out (grown_swapZ wr g q m (.int .i64 y1) (.int .i64 x1))) (grown_drewN _ 1 _))
      clear O3 s1 s2 s3 hx hy hq hm HO HO0
      go_upto_region 3 with fail
      go_region
      go_wp2_with fail
      go_roundw
      case rel => exact ⟨k + 1, by omega, by go_num, HO3, HG3⟩
      case measure => simp [intOf]; omega
    · obtain rfl : k = c := by omega
      have HO3 : Hid (OwnZ w0 Kg wr base g n E) := Lib.hid (by have := HO.out; rw [HAll.out] at this; exact this)
      go_wp2_with fail
      go_end0
      exact ⟨rfl, HO3.out, HGr.out⟩
end Go.Proofs.YtdenehnneloegaaGreatDoor
namespace Go.Proofs.YtdenehnneloegaaGreatDoor
open Go.RowKit Go.Shelf
set_option linter.unusedVariables false
set_option maxRecDepth 100000 in
set_option maxHeartbeats 600000 in
theorem rotateZ_any (w0 : World) (Kg : Int × Int → Prop) (base g n : Nat) (P A B R : PL) (a m b : Nat) (cmp : Value) (w : World) (hn : n ≤ 274877906944) (ha : a = P.length) (hm : m = P.length + A.length) (hb : b = P.length + A.length + B.length) (hA0 : 0 < A.length) (hB0 : 0 < B.length) (hO : OwnZ w0 Kg w base g n (P ++ A ++ B ++ R)) :
    Calls Tryz.prog 213 #[.slice (some ⟨g, 0, none⟩) n n, .int .i64 a, .int .i64 m, .int .i64 b, cmp] w fun e w' => e = .returned (.tuple #[]) ∧ OwnZ w0 Kg w' base g n (P ++ B ++ A ++ R) ∧ w.grownBy w' (some g) := by
  have hl := hO.len
  simp only [List.length_append] at hl
  have hbn : b ≤ n := by omega
  have ham : a < m := by omega
  have hmb : m < b := by omega
  obtain ⟨u, hu⟩ : ∃ u, u = m - a := ⟨_, rfl⟩
  obtain ⟨v, hv⟩ : ∃ v, v = b - m := ⟨_, rfl⟩
  have HE : Hid (∃ (z : Nat) (Pre U V Post : PL), z = m - u ∧ Pre.length = z ∧ U.length = u ∧ V.length = v ∧ P ++ A ++ B ++ R = Pre ++ U ++ V ++ Post ∧ P ++ B ++ A ++ R = Pre ++ V ++ U ++ Post) := Lib.hid ⟨a, P, A, B, R, by omega, by omega, by omega, by omega, rfl, rfl⟩
  have HO0 := Lib.hid hO
  have C := Lib.hid (fun P X M Y R a b c W h1 h2 h3 h4 h5 => swapRangeZ_any w0 Kg base g n P X M Y R a b c cmp W hn h1 h2 h3 h4 h5)
  have s1 : (m : Int) - (a : Int) = (u : Int) := by omega
  have s2 : (b : Int) - (m : Int) = (v : Int) := by omega
  have w1 : IntKind.i64.wrap ((m : Int) - (a : Int)) = (u : Int) := by rw [IntWalk.i64_in _ (by omega)]; exact s1
  have w2 : IntKind.i64.wrap ((b : Int) - (m : Int)) = (v : Int) := by rw [IntWalk.i64_in _ (by omega)]; exact s2
  have hu0 : 0 < u := by omega
  have hv0 : 0 < v := by omega
  have hum : u ≤ m := by omega
  have hvn : m + v ≤ n := by omega
  clear hO hl ha hm hb hA0 hB0 hu hv
  generalize P ++ A ++ B ++ R = D0 at HE HO0
  generalize P ++ B ++ A ++ R = T at HE ⊢
  go_enter Tryz.func213, Tryz.ntmps213
  go_wp2_with fail
  clear s1 s2 w1 w2
  go_loopw [10, 11] (fun x y wr => ∃ (i j : Nat) (D : PL), 0 < i ∧ 0 < j ∧ i ≤ m ∧ m + j ≤ n ∧ x = .int .i64 i ∧ y = .int .i64 j ∧ Hid (OwnZ w0 Kg wr base g n D) ∧ Hid (w.grownBy wr (some g)) ∧ Hid (∃ (z : Nat) (Pre U V Post : PL), z = m - i ∧ Pre.length = z ∧ U.length = i ∧ V.length = j ∧ D = Pre ++ U ++ V ++ Post ∧ T = Pre ++ V ++ U ++ Post)) (fun x y _ => (intOf x).toNat + (intOf y).toNat)
  case atStart => exact ⟨u, v, D0, hu0, hv0, hum, hvn, rfl, rfl, HO0, Lib.hid ⟨rfl, rfl, rfl, Nat.le_refl _, fun _ _ _ => rfl⟩, HE⟩
  case round =>
    obtain ⟨i, j, D, hi, hj, him, hjn, rfl, rfl, HO, HGr, HF⟩ := hrel
    clear HO0 HE
    obtain ⟨z, Pre, U, V, Post, hz, l1, l2, l3, e1, e2⟩ := HF.out
    have hs1 : (m : Int) - (i : Int) = (z : Int) := by omega
    have hw1 : IntKind.i64.wrap ((m : Int) - (i : Int)) = (z : Int) := by rw [IntWalk.i64_in _ (by omega)]; exact hs1
    by_cases hij : i = j
    · have hb1 : ((i : Int) != (j : Int)) = false := by rw [int_bneP]; simpa using hij
      have C1 := Lib.hid (C.out Pre U [] V Post z m i wr l1.symm (by simp; omega) l2 (by omega) (by have := HO.out; rw [e1] at this; simpa using this))
      have HT : Hid (Pre ++ V ++ [] ++ U ++ Post = T) := Lib.hid (by rw [e2]; simp)
      rw [HT.out] at C1
      clear HF e1 e2 l1 l2 l3 HO hz C
      subst hij
      go_wp2_with fail
      refine C1.out.mono ?_; rintro e w2 ⟨rfl, h1, h2⟩
      have H1 := Lib.hid h1
      have H2 := Lib.hid (grown_trans HGr.out h2)
      clear h1 h2
      go_wp2_with fail
      go_end0
      exact ⟨rfl, H1.out, H2.out⟩
    · have hb1 : ((i : Int) != (j : Int)) = true := by rw [int_bneP]; simpa using hij
      rcases Nat.lt_or_ge j i with hlt | hge
      · have hgt : (j : Int) < (i : Int) := by omega
        have hU : U = U.take j ++ U.drop j := (List.take_append_drop j U).symm
        have C1 := Lib.hid (C.out Pre (U.take j) (U.drop j) V Post z m j wr l1.symm (by simp; omega) (by simp; omega) l3 (by have := HO.out; rw [e1, hU] at this; simpa using this))
        obtain ⟨t, ht⟩ : ∃ t, t = i - j := ⟨_, rfl⟩
        have HF2 : Hid (∃ (z : Nat) (Pre' U' V' Post' : PL), z = m - t ∧ Pre'.length = z ∧ U'.length = t ∧ V'.length = j ∧ Pre ++ V ++ U.drop j ++ U.take j ++ Post = Pre' ++ U' ++ V' ++ Post' ∧ T = Pre' ++ V' ++ U' ++ Post') := Lib.hid ⟨m - t, Pre ++ V, U.drop j, U.take j, Post, rfl, by simp; omega, by simp; omega, by simp; omega, by simp, by
          have h3 : Pre ++ V ++ U ++ Post = Pre ++ V ++ (U.take j ++ U.drop j) ++ Post := by rw [List.take_append_drop]
          rw [e2, h3]; simp⟩
        have s3 : (i : Int) - (j : Int) = (t : Int) := by omega
        have w3 : IntKind.i64.wrap ((i : Int) - (j : Int)) = (t : Int) := by rw [IntWalk.i64_in _ (by omega)]; exact s3
        have ht0 : 0 < t := by omega
        have htm : t ≤ m := by omega
        have hti : t < i := by omega
        generalize Pre ++ V ++ U.drop j ++ U.take j ++ Post = D2 at C1 HF2
        clear HF e1 e2 l1 l2 l3 HO hU hij hz ht C
        go_wp2_with fail
        refine C1.out.mono ?_; rintro e w2 ⟨rfl, h1, h2⟩
        have H1 := Lib.hid h1
        have H2 := Lib.hid (grown_trans HGr.out h2)
        clear h1 h2
        go_wp2_with fail
        go_roundw
        case rel => exact ⟨t, j, D2, ht0, hj, htm, hjn, by first | rfl | go_num, rfl, H1, H2, HF2⟩
        case measure => simp [intOf]; omega
      · have hgt : ¬ (j : Int) < (i : Int) := by omega
        have hlt : i < j := by omega
        obtain ⟨t, ht⟩ : ∃ t, t = j - i := ⟨_, rfl⟩
        obtain ⟨y, hy⟩ : ∃ y, y = m + t := ⟨_, rfl⟩
        have hV : V = V.take t ++ V.drop t := (List.take_append_drop _ V).symm
        have C1 := Lib.hid (C.out Pre U (V.take t) (V.drop t) Post z y i wr l1.symm (by simp; omega) l2 (by simp; omega) (by have := HO.out; rw [e1, hV] at this; simpa using this))
        have HF2 : Hid (∃ (z : Nat) (Pre' U' V' Post' : PL), z = m - i ∧ Pre'.length = z ∧ U'.length = i ∧ V'.length = t ∧ Pre ++ V.drop t ++ V.take t ++ U ++ Post = Pre' ++ U' ++ V' ++ Post' ∧ T = Pre' ++ V' ++ U' ++ Post') := Lib.hid ⟨z, Pre, V.drop t, V.take t, U ++ Post, hz, l1, by simp; omega, by simp; omega, by simp, by
          have h3 : Pre ++ V ++ U ++ Post = Pre ++ (V.take t ++ V.drop t) ++ U ++ Post := by rw [List.take_append_drop]
          rw [e2, h3]; simp⟩
        have s3 : (j : Int) - (i : Int) = (t : Int) := by omega
        have w3 : IntKind.i64.wrap ((j : Int) - (i : Int)) = (t : Int) := by rw [IntWalk.i64_in _ (by omega)]; exact s3
        have s4 : (m : Int) + (j : Int) - (i : Int) = (y : Int) := by omega
        have w4 : IntKind.i64.wrap ((m : Int) + (j : Int) - (i : Int)) = (y : Int) := by rw [IntWalk.i64_in _ (by omega)]; exact s4
        have w5 : IntKind.i64.wrap ((m : Int) + (j : Int)) = (m : Int) + (j : Int) := IntWalk.i64_in _ (by omega)
        have ht0 : 0 < t := by omega
        have htn : m + t ≤ n := by omega
        have htj : t < j := by omega
        generalize Pre ++ V.drop t ++ V.take t ++ U ++ Post = D2 at C1 HF2
        clear HF e1 e2 l1 l2 l3 HO hV hij hz ht hy C
        go_wp2_with fail
        refine C1.out.mono ?_; rintro e w2 ⟨rfl, h1, h2⟩
        have H1 := Lib.hid h1
        have H2 := Lib.hid (grown_trans HGr.out h2)
        clear h1 h2
        go_wp2_with fail
        go_roundw
        case rel => exact ⟨i, t, D2, hi, ht0, him, htn, rfl, by first | rfl | go_num, H1, H2, HF2⟩
        case measure => simp [intOf]; omega
end Go.Proofs.YtdenehnneloegaaGreatDoor
