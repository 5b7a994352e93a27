/-
  The merge of a piece of one number with the piece behind it.
  Conditions: lists of at most 2^30 numbers; the comparison is told by ranks, and makes memory alone.
-/
import Derived.WalkKit
import Derived.WalkMore
import Derived.IntWalk
import Derived.RegionTactic
import Derived.BigRegion
import Derived.Lib.Hide
import Derived.StillTailTactics
import Derived.BigQuiet
import Derived.Deep.QuietTactic
import Derived.Deep.Cut
import Derived.Deep.CutRange
import Derived.Test.YtmomjhnbhckhpaaDoorProg
import Derived.Test.YtmomjhnbhckhpaaDoorIZ
import Derived.Test.YtmomjhnbhckhpaaDoorPSym1
namespace Go.Proofs.YtmomjhnbhckhpaaDoor
open Go.RowKit Go.Shelf
set_option linter.unusedVariables false

set_option maxRecDepth 100000 in
set_option maxHeartbeats 1000000 in
theorem symZ1_any (w0 : World) (Kg : Int × Int → Prop) (G : FuncId) (cap0 : Value) (hent : ∀ args w, (callFunc G args).run Tryd.prog w = .ok (.enter G args) w) (base g n : Nat) (hC : CmpOK w0 g Kg G cap0) (P B R : PL) (x : Int × Int) (a m b : Nat) (w : World) (hn : n ≤ 274877906944) (ha : a = P.length) (hm : m = a + 1) (hb : b = m + B.length) (hB : Sorted B) (hO : OwnZ w0 Kg w base g n (P ++ [x] ++ B ++ R)) :
    Calls Tryd.prog 72 #[.slice (some ⟨g, 0, none⟩) n n, .int .i64 a, .int .i64 m, .int .i64 b, .func (.func G) #[] #[cap0]] w fun e w' => e = .returned (.tuple #[]) ∧ OwnZ w0 Kg w' base g n (P ++ sortB ([x] ++ B) ++ R) ∧ w.grownBy w' (some g) := by
  have hl := hO.len
  simp only [List.length_append, List.length_cons, List.length_nil] at hl
  have C := Lib.hid hC
  obtain ⟨x1, x2⟩ := x
  have hbn : b ≤ n := by omega
  have hmb : m ≤ b := by omega
  have ham : a < m := by omega
  have han : a < n := by omega
  have hsub : (m : Int) - (a : Int) = 1 := by omega
  have hws : IntKind.i64.wrap ((m : Int) - (a : Int)) = 1 := by rw [IntWalk.i64_in _ (by omega)]; exact hsub
  have HAt : Hid ((P ++ [(x1, x2)] ++ B ++ R)[a]? = some (x1, x2)) := Lib.hid (by rw [ha]; simp)
  have HBt : Hid (∀ (h t : Nat) q, h = m + t → B[t]? = some q → (P ++ [(x1, x2)] ++ B ++ R)[h]? = some q) := Lib.hid (fun h t q hh hq => by
    have h1 := (List.getElem?_eq_some_iff.1 hq).1
    rw [List.getElem?_append_left (by simp; omega), List.getElem?_append_right (by simp; omega)]
    simp only [List.length_append, List.length_cons, List.length_nil]
    rw [show h - (P.length + (0 + 1)) = t from by omega]; exact hq)
  have HOne := Lib.hid (fun c h1 h2 h3 => sortB_one (x1, x2) B c hB h1 h2 h3)
  have HPl := Lib.hid ha
  have HBl : Hid (b = m + B.length) := Lib.hid hb
  have HMa : Hid (m = a + 1) := Lib.hid hm
  have HO0 := Lib.hid hO
  have HD : Hid (∀ c, c ≤ B.length → P ++ [(x1, x2)] ++ B ++ R = wayL P (B.take c) (x1, x2) 0 (B.drop c ++ R) ∧ P ++ (B.take c ++ (x1, x2) :: B.drop c) ++ R = wayL P (B.take c) (x1, x2) c (B.drop c ++ R)) := Lib.hid (fun c hc => by
    have hlc : (B.take c).length = c := by simp; omega
    constructor
    · have e : P ++ [(x1, x2)] ++ B ++ R = P ++ [(x1, x2)] ++ (B.take c ++ B.drop c) ++ R := by rw [List.take_append_drop]
      rw [e]; simp only [wayL, List.take_zero, List.drop_zero, List.nil_append, List.append_assoc, List.cons_append]
    · unfold wayL
      rw [List.take_of_length_le (show (B.take c).length ≤ c by omega), List.drop_eq_nil_of_le (show (B.take c).length ≤ c by omega)]; simp)
  clear hO hl ha hm hb hB hC
  generalize P ++ [(x1, x2)] ++ B ++ R = D at HAt HBt HO0 HD
  go_enter Tryd.func72, Tryd.ntmps72
  go_wp2_with fail
  clear hsub hws
  go_loopw [10, 11] (fun u v wr => ∃ (i j : Nat), m ≤ i ∧ i ≤ j ∧ j ≤ b ∧ u = .int .i64 i ∧ v = .int .i64 j ∧ Hid (OwnZ w0 Kg wr base g n D) ∧ Hid (w.grownBy wr (some g)) ∧ Hid (i = m ∨ ∃ q, B[i - m - 1]? = some q ∧ q.2 < x2) ∧ Hid (j = b ∨ ∃ q, B[j - m]? = some q ∧ x2 ≤ q.2)) (fun u v _ => (intOf v).toNat - (intOf u).toNat)
  case atStart => exact ⟨m, b, Nat.le_refl _, hmb, Nat.le_refl _, rfl, rfl, HO0, Lib.hid ⟨rfl, rfl, rfl, Nat.le_refl _, fun _ _ _ => rfl⟩, Lib.hid (.inl rfl), Lib.hid (.inl rfl)⟩
  case round =>
    obtain ⟨i, j, hmi, hij, hjb, rfl, rfl, HO, HGr, HI, HJ⟩ := hrel
    clear HO0
    by_cases hlt : i < j
    · obtain ⟨h, hh⟩ : ∃ h, h = (i + j) / 2 := ⟨_, rfl⟩
      have hz : ((i : Int) + (j : Int)) / 2 = (h : Int) := by omega
      have h1 : i ≤ h := by omega
      have h2 : h < j := by omega
      obtain ⟨⟨y1, y2⟩, hy⟩ : ∃ q, B[h - m]? = some q := ⟨_, List.getElem?_eq_getElem (by have := HBl.out; omega)⟩
      have hc1 := HO.out.cell h _ (HBt.out h (h - m) _ (by omega) hy)
      have kc := HO.out.at h _ (HBt.out h (h - m) _ (by omega) hy)
      have hd1 := HO.out.cell a _ HAt.out
      have kd := HO.out.at a _ HAt.out
      dsimp only at hc1 hd1
      have hhn : h < n := by omega
      have C1 := Lib.hid (C.out y1 y2 x1 x2 kc kd wr.drew (grown_trans HO.out.grown (grown_drewN wr 1 _)))
      have hneg := cmpI_neg y2 x2
      have HY := Lib.hid hy
      clear hh hy
      generalize cmpI y2 x2 = cc at hneg C1
      go_upto_region 5 with fail
      go_still_tail 9, (by kernel_rfl)
      rw [show ({ heap := wr.heap, tape := wr.tape, drawn := wr.drawn + 1, os := wr.os, output := wr.output } : World) = wr.drew from rfl]
      by_cases hlt2 : y2 < x2
      · have hc0 : cc < 0 := by rw [decide_eq_true hlt2] at hneg; exact of_decide_eq_true hneg
        have HI2 : Hid (h + 1 = m ∨ ∃ q, B[h + 1 - m - 1]? = some q ∧ q.2 < x2) := Lib.hid (.inr ⟨_, by rw [show h + 1 - m - 1 = h - m from by omega]; exact HY.out, hlt2⟩)
        clear hneg hlt2
        go_wp2_with fail
        refine C1.out.mono ?_; rintro e w2 ⟨rfl, b1⟩
        have b2 : Below wr.heap.size wr w2 := below_up (bdn (n := 1) (Below.refl _ wr)) b1
        have HO2 := Lib.hid (HO.out.kept b2)
        have HG2 := Lib.hid (grown_trans HGr.out (grown_below b2))
        clear b1 b2 hc1 hd1 HO HGr
        go_wp2_with fail
        go_roundw
        case rel => exact ⟨h + 1, j, by omega, by omega, hjb, by go_num, rfl, HO2, HG2, HI2, HJ⟩
        case measure => simp [intOf]; omega
      · have hc0 : ¬ cc < 0 := by rw [decide_eq_false hlt2] at hneg; exact of_decide_eq_false hneg
        have HJ2 : Hid (h = b ∨ ∃ q, B[h - m]? = some q ∧ x2 ≤ q.2) := Lib.hid (.inr ⟨_, HY.out, by show x2 ≤ y2; omega⟩)
        clear hneg hlt2
        go_wp2_with fail
        refine C1.out.mono ?_; rintro e w2 ⟨rfl, b1⟩
        have b2 : Below wr.heap.size wr w2 := below_up (bdn (n := 1) (Below.refl _ wr)) b1
        have HO2 := Lib.hid (HO.out.kept b2)
        have HG2 := Lib.hid (grown_trans HGr.out (grown_below b2))
        clear b1 b2 hc1 hd1 HO HGr
        go_wp2_with fail
        go_roundw
        case rel => exact ⟨i, h, hmi, h1, by omega, rfl, by first | rfl | go_num, HO2, HG2, HI, HJ2⟩
        case measure => simp [intOf]; omega
    · obtain rfl : i = j := by omega
      obtain ⟨c, hc⟩ : ∃ c, c = i - m := ⟨_, rfl⟩
      have hcB : c ≤ B.length := by have := HBl.out; omega
      have hE := HOne.out c hcB (by
        rcases HI.out with h | ⟨q, h3, h4⟩
        · exact .inl (by omega)
        · rcases Nat.eq_zero_or_pos c with h0 | h0
          · exact .inl h0
          · exact .inr ⟨q, by rw [show c - 1 = i - m - 1 from by omega]; exact h3, h4⟩) (by
        rcases HJ.out with h | ⟨q, h3, h4⟩
        · exact .inl (by have := HBl.out; omega)
        · exact .inr ⟨q, by rw [hc]; exact h3, h4⟩)
      obtain ⟨d1, d2⟩ := HD.out c hcB
      rw [← hE] at d2
      have HD2 := Lib.hid d2
      have HO1 : Hid (OwnZ w0 Kg wr base g n (wayL P (B.take c) (x1, x2) 0 (B.drop c ++ R))) := Lib.hid (by rw [← d1]; exact HO.out)
      have HSl : Hid ((B.take c).length = c) := Lib.hid (by simp; omega)
      obtain ⟨i1, hi1⟩ : ∃ i1, i1 = a + c := ⟨_, rfl⟩
      have hsub : (i : Int) - 1 = (i1 : Int) := by have := HMa.out; omega
      have hwr : IntKind.i64.wrap ((i : Int) - 1) = (i1 : Int) := by rw [IntWalk.i64_in _ (by omega)]; exact hsub
      have HI1 := Lib.hid hi1
      have hi1n : i1 < n := by have := HMa.out; omega
      clear d1 d2 hE hc HI HJ HO hlt hi1 HOne HD
      go_wp2_with fail
      obtain ⟨wo, rfl⟩ : ∃ wo : World, wo = wr := ⟨_, rfl⟩
      go_loopw [13] (fun u wr => ∃ (t k : Nat), t ≤ c ∧ k = a + t ∧ u = .int .i64 k ∧ Hid (OwnZ w0 Kg wr base g n (wayL P (B.take c) (x1, x2) t (B.drop c ++ R))) ∧ Hid (w.grownBy wr (some g))) (fun u _ => i1 - (intOf u).toNat)
      case atStart => exact ⟨0, a, Nat.zero_le _, rfl, rfl, HO1, HGr⟩
      case round =>
        obtain ⟨t, k, ht, hk, rfl, HO, HGr⟩ := hrel
        clear HO1
        by_cases hlt : k < i1
        · obtain ⟨⟨y1, y2⟩, hy⟩ : ∃ q, (B.take c)[t]? = some q := ⟨_, List.getElem?_eq_getElem (by rw [HSl.out]; have := HI1.out; omega)⟩
          obtain ⟨s1, s2⟩ := way_swapR P (B.take c) (x1, x2) (y1, y2) t (B.drop c ++ R) (by rw [HSl.out]; have := HI1.out; omega) hy
          have s0 := way_here P (B.take c) (x1, x2) t (B.drop c ++ R) (by rw [HSl.out]; exact ht)
          obtain ⟨k1, hk1⟩ : ∃ k1, k1 = k + 1 := ⟨_, rfl⟩
          rw [← HPl.out, ← hk] at s0 s1 s2
          rw [← hk1] at s1 s2
          have hc1 := HO.out.cell k _ s0
          have kc := HO.out.at k _ s0
          have hd1 := HO.out.cell k1 _ s1
          have kd := HO.out.at k1 _ s1
          dsimp only at hc1 hd1
          have hadd : (k : Int) + 1 = (k1 : Int) := by omega
          have hwa : IntKind.i64.wrap ((k : Int) + 1) = (k1 : Int) := by rw [IntWalk.i64_in _ (by omega)]; exact hadd
          have hwk : IntKind.i64.wrap (k1 : Int) = (k1 : Int) := IntWalk.i64_in _ (by omega)
          have hkn : k < n := by omega
          have hk1n : k1 < n := by omega
          have f1 := HO.out.frozen k
          have f3 := HO.out.frozen k1
          have n1 : ¬ k1 = k := by omega
          have O3 := HO.out.swap k k1 y1 y2 x1 x2 hkn hk1n kd kc
          rw [s2] at O3
          have HO3 := Lib.hid (O3.kept (bdn (n := 1) (Below.refl _ _)))
          have HG3 := Lib.hid (grown_trans (grown_trans HGr.out (grown_swapZ wr g k k1 (.int .i64 y1) (.int .i64 x1))) (grown_drewN _ 1 _))
          have ht1 : t + 1 ≤ c := by have := HI1.out; omega
          have HK1 := Lib.hid hk1
          have HK := Lib.hid hk
          clear O3 s0 s1 s2 hy HO hk hk1
          go_upto_region 11 with fail
          go_region
          go_wp2_with fail
          go_roundw
          case rel => exact ⟨t + 1, k1, ht1, by have := HK.out; have := HK1.out; omega, by first | rfl | go_num, HO3, HG3⟩
          case measure => have := HK1.out; simp [intOf]; omega
        · have hic : c = t := by have := HI1.out; omega
          have HO3 : Hid (OwnZ w0 Kg wr base g n (P ++ sortB ([(x1, x2)] ++ B) ++ R)) := Lib.hid (by rw [HD2.out]; have := HO.out; rw [← hic] at this; exact this)
          clear HO hic hk
          go_wp2_with fail
          refine bodyPost_ret (results_none rfl _ _ _) rfl ?_
          exact ⟨rfl, HO3.out, HGr.out⟩
end Go.Proofs.YtmomjhnbhckhpaaDoor
