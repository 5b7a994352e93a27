/-
  The merge of a piece with one number behind it.
  Conditions: lists of at most 2^30 numbers; the comparison is told by ranks, and makes memory alone.
-/
import Derived.WalkKit
import Derived.WalkMore
import Derived.IntWalk
import Derived.RegionTactic
import Derived.BigRegion
import Derived.Lib.Hide
import Derived.StillTailTactics
import Derived.BigQuiet
import Derived.Deep.QuietTactic
import Derived.Deep.Cut
import Derived.Deep.CutRange
import Derived.Test.YtmomjhnbhckhpaaDoorProg
import Derived.Test.YtmomjhnbhckhpaaDoorIZ
import Derived.Test.YtmomjhnbhckhpaaDoorPSym2
namespace Go.Proofs.YtmomjhnbhckhpaaDoor
open Go.RowKit Go.Shelf
set_option linter.unusedVariables false

set_option maxRecDepth 100000 in
set_option maxHeartbeats 1000000 in
theorem symZ2_any (w0 : World) (Kg : Int × Int → Prop) (G : FuncId) (cap0 : Value) (hent : ∀ args w, (callFunc G args).run Tryd.prog w = .ok (.enter G args) w) (base g n : Nat) (hC : CmpOK w0 g Kg G cap0) (P A R : PL) (y : Int × Int) (a m b : Nat) (w : World) (hn : n ≤ 274877906944) (ha : a = P.length) (hm : m = a + A.length) (hb : b = m + 1) (hA2 : A.length ≠ 1) (hA : Sorted A) (hO : OwnZ w0 Kg w base g n (P ++ A ++ [y] ++ R)) :
    Calls Tryd.prog 72 #[.slice (some ⟨g, 0, none⟩) n n, .int .i64 a, .int .i64 m, .int .i64 b, .func (.func G) #[] #[cap0]] w fun e w' => e = .returned (.tuple #[]) ∧ OwnZ w0 Kg w' base g n (P ++ sortB (A ++ [y]) ++ R) ∧ w.grownBy w' (some g) := by
  have hl := hO.len
  simp only [List.length_append, List.length_cons, List.length_nil] at hl
  have C := Lib.hid hC
  obtain ⟨x1, x2⟩ := y
  have hmn : m < n := by omega
  have ham : a ≤ m := by omega
  have hsub : (b : Int) - (m : Int) = 1 := by omega
  have hws : IntKind.i64.wrap ((b : Int) - (m : Int)) = 1 := by rw [IntWalk.i64_in _ (by omega)]; exact hsub
  obtain ⟨z, hz⟩ : ∃ z, z = m - a := ⟨_, rfl⟩
  have hs0 : (m : Int) - (a : Int) = (z : Int) := by omega
  have hw0 : IntKind.i64.wrap ((m : Int) - (a : Int)) = (z : Int) := by rw [IntWalk.i64_in _ (by omega)]; exact hs0
  have hz1 : ((z : Int) == 1) = false := by simp; omega
  have hz2 : ¬ (z : Int) = 1 := by omega
  have hz3 : ¬ z = 1 := by omega
  have HAt : Hid ((P ++ A ++ [(x1, x2)] ++ R)[m]? = some (x1, x2)) := Lib.hid (by
    rw [List.append_assoc, List.getElem?_append_right (by simp; omega)]
    simp only [List.length_append]; rw [show m - (P.length + A.length) = 0 from by omega]; rfl)
  have HBt : Hid (∀ (h t : Nat) q, h = a + t → A[t]? = some q → (P ++ A ++ [(x1, x2)] ++ R)[h]? = some q) := Lib.hid (fun h t q hh hq => by
    have h1 := (List.getElem?_eq_some_iff.1 hq).1
    rw [List.append_assoc, List.getElem?_append_left (by simp; omega), List.getElem?_append_right (by omega), show h - P.length = t from by omega]; exact hq)
  have HOne := Lib.hid (fun c h1 h2 h3 => sortB_last A (x1, x2) c hA h1 h2 h3)
  have HPl := Lib.hid ha
  have HMl : Hid (m = a + A.length) := Lib.hid hm
  have HO0 := Lib.hid hO
  have HD : Hid (∀ c, c ≤ A.length → P ++ A ++ [(x1, x2)] ++ R = wayL (P ++ A.take c) (A.drop c) (x1, x2) (A.drop c).length R ∧ P ++ (A.take c ++ (x1, x2) :: A.drop c) ++ R = wayL (P ++ A.take c) (A.drop c) (x1, x2) 0 R) := Lib.hid (fun c hc => by
    constructor
    · have e : P ++ A ++ [(x1, x2)] ++ R = P ++ (A.take c ++ A.drop c) ++ [(x1, x2)] ++ R := by rw [List.take_append_drop]
      rw [e]
      unfold wayL
      rw [List.take_length, List.drop_length]
      simp only [List.append_assoc]
    · simp [wayL])
  clear hO hl ha hm hb hA hz hC
  generalize P ++ A ++ [(x1, x2)] ++ R = D at HAt HBt HO0 HD
  go_enter Tryd.func72, Tryd.ntmps72
  go_wp2_with fail
  clear hsub hws hs0 hw0 hz1 hz2 hz3
  go_loopw [14, 15] (fun u v wr => ∃ (i j : Nat), a ≤ i ∧ i ≤ j ∧ j ≤ m ∧ u = .int .i64 i ∧ v = .int .i64 j ∧ Hid (OwnZ w0 Kg wr base g n D) ∧ Hid (w.grownBy wr (some g)) ∧ Hid (i = a ∨ ∃ q, A[i - a - 1]? = some q ∧ q.2 ≤ x2) ∧ Hid (j = m ∨ ∃ q, A[j - a]? = some q ∧ x2 < q.2)) (fun u v _ => (intOf v).toNat - (intOf u).toNat)
  case atStart => exact ⟨a, m, Nat.le_refl _, ham, Nat.le_refl _, rfl, rfl, HO0, Lib.hid ⟨rfl, rfl, rfl, Nat.le_refl _, fun _ _ _ => rfl⟩, Lib.hid (.inl rfl), Lib.hid (.inl rfl)⟩
  case round =>
    obtain ⟨i, j, hmi, hij, hjb, rfl, rfl, HO, HGr, HI, HJ⟩ := hrel
    clear HO0
    by_cases hlt : i < j
    · obtain ⟨h, hh⟩ : ∃ h, h = (i + j) / 2 := ⟨_, rfl⟩
      have hz : ((i : Int) + (j : Int)) / 2 = (h : Int) := by omega
      have h1 : i ≤ h := by omega
      have h2 : h < j := by omega
      obtain ⟨⟨y1, y2⟩, hy⟩ : ∃ q, A[h - a]? = some q := ⟨_, List.getElem?_eq_getElem (by have := HMl.out; omega)⟩
      have hc1 := HO.out.cell h _ (HBt.out h (h - a) _ (by omega) hy)
      have kc := HO.out.at h _ (HBt.out h (h - a) _ (by omega) hy)
      have hd1 := HO.out.cell m _ HAt.out
      have kd := HO.out.at m _ HAt.out
      dsimp only at hc1 hd1
      have hhn : h < n := by omega
      have C1 := Lib.hid (C.out x1 x2 y1 y2 kd kc wr.drew (grown_trans HO.out.grown (grown_drewN wr 1 _)))
      have hneg := cmpI_neg x2 y2
      have HY := Lib.hid hy
      clear hh hy
      generalize cmpI x2 y2 = cc at hneg C1
      go_upto_region 17 with fail
      go_still_tail 9, (by kernel_rfl)
      rw [show ({ heap := wr.heap, tape := wr.tape, drawn := wr.drawn + 1, os := wr.os, output := wr.output } : World) = wr.drew from rfl]
      by_cases hlt2 : x2 < y2
      · have hc0 : cc < 0 := by rw [decide_eq_true hlt2] at hneg; exact of_decide_eq_true hneg
        have hcd : decide (cc < 0) = true := decide_eq_true hc0
        have hce : (!decide (cc < 0)) = false := by rw [hcd]; rfl
        have HJ2 : Hid (h = m ∨ ∃ q, A[h - a]? = some q ∧ x2 < q.2) := Lib.hid (.inr ⟨_, HY.out, hlt2⟩)
        clear hneg hlt2
        go_wp2_with fail
        refine C1.out.mono ?_; rintro e w2 ⟨rfl, b1⟩
        have b2 : Below wr.heap.size wr w2 := below_up (bdn (n := 1) (Below.refl _ wr)) b1
        have HO2 := Lib.hid (HO.out.kept b2)
        have HG2 := Lib.hid (grown_trans HGr.out (grown_below b2))
        clear b1 b2 hc1 hd1 HO HGr
        go_wp2_with fail
        go_roundw
        case rel => exact ⟨i, h, hmi, h1, by omega, rfl, by first | rfl | go_num, HO2, HG2, HI, HJ2⟩
        case measure => simp [intOf]; omega
      · have hc0 : ¬ cc < 0 := by rw [decide_eq_false hlt2] at hneg; exact of_decide_eq_false hneg
        have hcd : decide (cc < 0) = false := decide_eq_false hc0
        have hce : (!decide (cc < 0)) = true := by rw [hcd]; rfl
        have HI2 : Hid (h + 1 = a ∨ ∃ q, A[h + 1 - a - 1]? = some q ∧ q.2 ≤ x2) := Lib.hid (.inr ⟨_, by rw [show h + 1 - a - 1 = h - a from by omega]; exact HY.out, by show y2 ≤ x2; omega⟩)
        clear hneg hlt2
        go_wp2_with fail
        refine C1.out.mono ?_; rintro e w2 ⟨rfl, b1⟩
        have b2 : Below wr.heap.size wr w2 := below_up (bdn (n := 1) (Below.refl _ wr)) b1
        have HO2 := Lib.hid (HO.out.kept b2)
        have HG2 := Lib.hid (grown_trans HGr.out (grown_below b2))
        clear b1 b2 hc1 hd1 HO HGr
        go_wp2_with fail
        go_roundw
        case rel => exact ⟨h + 1, j, by omega, by omega, hjb, by go_num, rfl, HO2, HG2, HI2, HJ⟩
        case measure => simp [intOf]; omega
    · obtain rfl : i = j := by omega
      obtain ⟨c, hc⟩ : ∃ c, c = i - a := ⟨_, rfl⟩
      have hcB : c ≤ A.length := by have := HMl.out; omega
      have hE := HOne.out c hcB (by
        rcases HI.out with h | ⟨q, h3, h4⟩
        · exact .inl (by omega)
        · rcases Nat.eq_zero_or_pos c with h0 | h0
          · exact .inl h0
          · exact .inr ⟨q, by rw [show c - 1 = i - a - 1 from by omega]; exact h3, h4⟩) (by
        rcases HJ.out with h | ⟨q, h3, h4⟩
        · exact .inl (by have := HMl.out; omega)
        · exact .inr ⟨q, by rw [hc]; exact h3, h4⟩)
      obtain ⟨d1, d2⟩ := HD.out c hcB
      rw [← hE] at d2
      have HD2 := Lib.hid d2
      obtain ⟨Q, HQ⟩ : ∃ Q, Hid (Q = P ++ A.take c) := ⟨_, Lib.hid rfl⟩
      obtain ⟨S, HS⟩ : ∃ S, Hid (S = A.drop c) := ⟨_, Lib.hid rfl⟩
      rw [← HQ.out, ← HS.out] at d1
      rw [← HQ.out, ← HS.out] at HD2
      have HQl : Hid (Q.length = i) := Lib.hid (by rw [HQ.out]; simp; have := HPl.out; omega)
      have HSl : Hid (i + S.length = m) := Lib.hid (by rw [HS.out]; simp; have := HMl.out; omega)
      have HO1 : Hid (OwnZ w0 Kg wr base g n (wayL Q S (x1, x2) S.length R)) := Lib.hid (by rw [← d1]; exact HO.out)
      clear d1 d2 hE hc HI HJ HO hlt HOne HD
      go_wp2_with fail
      obtain ⟨wo, rfl⟩ : ∃ wo : World, wo = wr := ⟨_, rfl⟩
      go_loopw [17] (fun u wr => ∃ (t k : Nat), t ≤ S.length ∧ k = i + t ∧ u = .int .i64 k ∧ Hid (OwnZ w0 Kg wr base g n (wayL Q S (x1, x2) t R)) ∧ Hid (w.grownBy wr (some g))) (fun u _ => (intOf u).toNat)
      case atStart => exact ⟨S.length, m, Nat.le_refl _, HSl.out.symm, rfl, HO1, HGr⟩
      case round =>
        obtain ⟨t, k, ht, hk, rfl, HO, HGr⟩ := hrel
        clear HO1
        by_cases hlt : i < k
        · obtain ⟨t', ht'⟩ : ∃ t', t = t' + 1 := ⟨t - 1, by omega⟩
          subst ht'
          obtain ⟨⟨y1, y2⟩, hy⟩ : ∃ q, S[t']? = some q := ⟨_, List.getElem?_eq_getElem (by omega)⟩
          have s0 := way_here Q S (x1, x2) (t' + 1) R ht
          have s1 := way_ahead Q S (x1, x2) (y1, y2) t' R ht hy
          have s2 := way_swap Q S (x1, x2) (y1, y2) t' R ht hy
          obtain ⟨k1, hk1⟩ : ∃ k1, k1 = i + t' := ⟨_, rfl⟩
          rw [HQl.out] at s0 s1 s2
          rw [← hk] at s0 s2
          rw [← hk1] at s1 s2
          have hc1 := HO.out.cell k _ s0
          have kc := HO.out.at k _ s0
          have hd1 := HO.out.cell k1 _ s1
          have kd := HO.out.at k1 _ s1
          dsimp only at hc1 hd1
          have hkm : k ≤ m := by have := HSl.out; omega
          have hadd : (k : Int) - 1 = (k1 : Int) := by omega
          have hwa : IntKind.i64.wrap ((k : Int) - 1) = (k1 : Int) := by rw [IntWalk.i64_in _ (by omega)]; exact hadd
          have hwk : IntKind.i64.wrap (k1 : Int) = (k1 : Int) := IntWalk.i64_in _ (by omega)
          have hkn : k < n := by omega
          have hk1n : k1 < n := by omega
          have f1 := HO.out.frozen k
          have f3 := HO.out.frozen k1
          have n1 : ¬ k1 = k := by omega
          have O3 := HO.out.swap k k1 y1 y2 x1 x2 hkn hk1n kd kc
          rw [s2] at O3
          have HO3 := Lib.hid (O3.kept (bdn (n := 1) (Below.refl _ _)))
          have HG3 := Lib.hid (grown_trans (grown_trans HGr.out (grown_swapZ wr g k k1 (.int .i64 y1) (.int .i64 x1))) (grown_drewN _ 1 _))
          have HK1 := Lib.hid hk1
          have HK := Lib.hid hk
          have hkk : k1 < k := by omega
          clear O3 s0 s1 s2 hy HO hk hk1
          go_upto_region 23 with fail
          go_region
          go_wp2_with fail
          go_roundw
          case rel => exact ⟨t', k1, by omega, HK1.out, by first | rfl | go_num, HO3, HG3⟩
          case measure => simp [intOf]; omega
        · have hic : t = 0 := by omega
          have HO3 : Hid (OwnZ w0 Kg wr base g n (P ++ sortB (A ++ [(x1, x2)]) ++ R)) := Lib.hid (by rw [HD2.out]; have := HO.out; rw [hic] at this; exact this)
          clear HO hic hk
          go_wp2_with fail
          refine bodyPost_ret (results_none rfl _ _ _) rfl ?_
          exact ⟨rfl, HO3.out, HGr.out⟩
end Go.Proofs.YtmomjhnbhckhpaaDoor
