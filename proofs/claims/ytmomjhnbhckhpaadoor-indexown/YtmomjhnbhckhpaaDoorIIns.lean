/-
  Insertion, as the library sorts short pieces, at numbers with ranks.
  Conditions: lists of at most 2^30 numbers; the comparison is told by ranks, and makes memory alone.
-/
import Derived.WalkKit
import Derived.WalkMore
import Derived.IntWalk
import Derived.RegionTactic
import Derived.BigRegion
import Derived.Lib.Hide
import Derived.StillTailTactics
import Derived.BigQuiet
import Derived.Deep.QuietTactic
import Derived.Deep.Cut
import Derived.Deep.CutRange
import Derived.Test.YtmomjhnbhckhpaaDoorProg
import Derived.Test.YtmomjhnbhckhpaaDoorIZ
namespace Go.Proofs.YtmomjhnbhckhpaaDoor
open Go.RowKit Go.Shelf
set_option linter.unusedVariables false

set_option maxRecDepth 100000 in
set_option maxHeartbeats 2000000 in
theorem insertionZ_any (w0 : World) (Kg : Int × Int → Prop) (G : FuncId) (cap0 : Value) (hent : ∀ args w, (callFunc G args).run Tryd.prog w = .ok (.enter G args) w) (base g n : Nat) (hC : CmpOK w0 g Kg G cap0) (l : PL) (a b : Nat) (w : World) (hn : n ≤ 274877906944) (hab : a ≤ b) (hbn : b ≤ n) (hO : OwnZ w0 Kg w base g n l) :
    Calls Tryd.prog 71 #[.slice (some ⟨g, 0, none⟩) n n, .int .i64 a, .int .i64 b, .func (.func G) #[] #[cap0]] w fun e w' => e = .returned (.tuple #[]) ∧ OwnZ w0 Kg w' base g n (insL l a b) ∧ w.grownBy w' (some g) := by
  have C := Lib.hid hC
  have HLen := Lib.hid hO.len
  have HOw := Lib.hid hO
  clear hO hC
  have HIL := Lib.hid (fun i p (h1 : a ≤ i) (h2 : l[i]? = some p) => insL_way l a i p h1 h2)
  have H0 : Hid (insL l a (min (a + 1) b) = l) := Lib.hid (by
    by_cases h : a = b
    · subst h; rw [show min (a + 1) a = a from by omega]; exact insL_start l a
    · rw [show min (a + 1) b = a + 1 from by omega]; exact insL_one l a (by rw [HLen.out]; omega))
  go_enter Tryd.func71, Tryd.ntmps71
  go_wp2_with fail
  go_loopw [8] (fun i wr => ∃ k : Nat, a + 1 ≤ k ∧ (k ≤ b ∨ k = a + 1) ∧ i = .int .i64 k ∧ Hid (OwnZ w0 Kg wr base g n (insL l a (min k b))) ∧ Hid (w.grownBy wr (some g))) (fun i _ => b - (intOf i).toNat)
  case atStart => exact ⟨a + 1, Nat.le_refl _, .inr rfl, by go_num, Lib.hid (by rw [H0.out]; exact HOw.out), Lib.hid ⟨rfl, rfl, rfl, Nat.le_refl _, fun _ _ _ => rfl⟩⟩
  case round =>
    obtain ⟨i, hi1, hi2, rfl, HO, HGr⟩ := hrel
    clear HOw
    by_cases hlt : i < b
    · obtain ⟨p, hp⟩ : ∃ p, l[i]? = some p := ⟨_, List.getElem?_eq_getElem (by rw [HLen.out]; omega)⟩
      obtain ⟨e1, e2⟩ := HIL.out i p (by omega) hp
      obtain ⟨P, HP⟩ : ∃ P, Hid (P = l.take a) := ⟨_, Lib.hid rfl⟩
      obtain ⟨S, HS⟩ : ∃ S, Hid (S = sortB ((l.drop a).take (i - a))) := ⟨_, Lib.hid rfl⟩
      obtain ⟨R, HR⟩ : ∃ R, Hid (R = l.drop (i + 1)) := ⟨_, Lib.hid rfl⟩
      rw [← HP.out, ← HS.out, ← HR.out] at e1 e2
      have hPl : P.length = a := by rw [HP.out, List.length_take, HLen.out]; omega
      have hSl : S.length = i - a := by rw [HS.out, sortB_len]; simp; have := HLen.out; omega
      obtain ⟨p1, p2⟩ := p
      have HO1 : Hid (OwnZ w0 Kg wr base g n (wayL P S (p1, p2) (i - a) R)) := Lib.hid (by have := HO.out; rw [show min i b = i from by omega, e1] at this; exact this)
      have HE2 := Lib.hid e2
      clear hp e1 e2 HO HIL HP HR
      go_wp2_with fail
      obtain ⟨wo, rfl⟩ : ∃ wo : World, wo = wr := ⟨_, rfl⟩
      go_loopw [9] (fun j wr => ∃ k q : Nat, k ≤ i - a ∧ q = a + k ∧ j = .int .i64 q ∧ Hid (OwnZ w0 Kg wr base g n (wayL P S (p1, p2) k R)) ∧ Hid (w.grownBy wr (some g)) ∧ Hid (∀ (t : Nat) x, k ≤ t → S[t]? = some x → p2 < x.2)) (fun j _ => (intOf j).toNat)
      case atStart => exact ⟨i - a, i, Nat.le_refl _, by omega, rfl, HO1, HGr, Lib.hid (fun t x ht hx => by have := (List.getElem?_eq_some_iff.1 hx).1; omega)⟩
      case round =>
        obtain ⟨k, q, hk, hq, rfl, HO, HGr, HF⟩ := hrel
        clear HO1
        have HEnd : Hid ((k = 0 ∨ ∃ x, S[k - 1]? = some x ∧ x.2 ≤ p2) → insL l a (i + 1) = wayL P S (p1, p2) k R) := Lib.hid (fun h => by rw [HE2.out, putK_is (p1, p2) S k (by omega) h HF.out])
        have hqn : q < n := by omega
        cases k with
        | zero =>
          have hqa : ¬ (a : Int) < (q : Int) := by omega
          have HO3 : Hid (OwnZ w0 Kg wr base g n (insL l a (min (i + 1) b))) := Lib.hid (by rw [show min (i + 1) b = i + 1 from by omega, HEnd.out (.inl rfl)]; exact HO.out)
          go_wp2_with fail
          go_quiet (fail)
          have HO4 : Hid (OwnZ w0 Kg (wr.drewN nq) base g n (insL l a (min (i + 1) b))) := Lib.hid (HO3.out.kept (bdn (Below.refl _ _)))
          have HG4 : Hid (w.grownBy (wr.drewN nq) (some g)) := Lib.hid (grown_trans HGr.out (grown_drewN _ _ _))
          go_wp2_with fail
          go_roundw
          case rel => exact ⟨i + 1, by omega, .inl (by omega), by go_num, HO4, HG4⟩
          case measure => simp [intOf]; omega
        | succ k =>
          obtain ⟨⟨x1, x2⟩, hx⟩ : ∃ x, S[k]? = some x := ⟨_, List.getElem?_eq_getElem (by omega)⟩
          obtain ⟨m, hm⟩ : ∃ m, m = a + k := ⟨_, rfl⟩
          have hqa : (a : Int) < (q : Int) := by omega
          have hsub : (q : Int) - 1 = (m : Int) := by omega
          have hwr : IntKind.i64.wrap ((q : Int) - 1) = (m : Int) := by rw [IntWalk.i64_in _ (by omega)]; exact hsub
          have hwm : IntKind.i64.wrap (m : Int) = (m : Int) := IntWalk.i64_in _ (by omega)
          have hmn : m < n := by omega
          have hc1 := HO.out.cell q (p1, p2) (by rw [hq, ← hPl]; exact way_here P S (p1, p2) (k + 1) R (by omega))
          have kc := HO.out.at q (p1, p2) (by rw [hq, ← hPl]; exact way_here P S (p1, p2) (k + 1) R (by omega))
          have hd1 := HO.out.cell m (x1, x2) (by rw [hm, ← hPl]; exact way_ahead P S (p1, p2) (x1, x2) k R (by omega) hx)
          have kd := HO.out.at m (x1, x2) (by rw [hm, ← hPl]; exact way_ahead P S (p1, p2) (x1, x2) k R (by omega) hx)
          dsimp only at hc1 hd1
          have HX := Lib.hid hx
          have HSw : Hid (((wayL P S (p1, p2) (k + 1) R).set q (x1, x2)).set m (p1, p2) = wayL P S (p1, p2) k R) := Lib.hid (by rw [hq, hm, ← hPl]; exact way_swap P S (p1, p2) (x1, x2) k R (by omega) hx)
          have C1 := Lib.hid (C.out p1 p2 x1 x2 kc kd wr.drew (grown_trans HO.out.grown (grown_drewN wr 1 _)))
          have hneg := cmpI_neg p2 x2
          have HM := Lib.hid hm
          have HQ := Lib.hid hq
          clear hx hm hq
          generalize cmpI p2 x2 = cc at hneg C1
          go_upto_region 4 with fail
          go_still_tail 14, (by kernel_rfl)
          rw [show ({ heap := wr.heap, tape := wr.tape, drawn := wr.drawn + 1, os := wr.os, output := wr.output } : World) = wr.drew from rfl]
          by_cases hpx : p2 < x2
          · have hc0 : cc < 0 := by rw [decide_eq_true hpx] at hneg; exact of_decide_eq_true hneg
            have HF2 : Hid (∀ (t : Nat) x, k ≤ t → S[t]? = some x → p2 < x.2) := Lib.hid (fun t x ht hx => by
              by_cases e : t = k
              · subst e; rw [HX.out] at hx; cases hx; exact hpx
              · exact HF.out t x (by omega) hx)
            clear hneg
            go_wp2_with fail
            refine C1.out.mono ?_; rintro e V ⟨rfl, b1⟩
            have b2 : Below wr.heap.size wr V := below_up (bdn (n := 1) (Below.refl _ wr)) b1
            have HOV := Lib.hid (HO.out.kept b2)
            have HGV := Lib.hid (grown_trans HGr.out (grown_below b2))
            clear b1 b2 hc1 hd1
            have hc1 := HOV.out.cell q (p1, p2) (by rw [HQ.out, ← hPl]; exact way_here P S (p1, p2) (k + 1) R (by omega))
            have kc := HOV.out.at q (p1, p2) (by rw [HQ.out, ← hPl]; exact way_here P S (p1, p2) (k + 1) R (by omega))
            have hd1 := HOV.out.cell m (x1, x2) (by rw [HM.out, ← hPl]; exact way_ahead P S (p1, p2) (x1, x2) k R (by omega) HX.out)
            have kd := HOV.out.at m (x1, x2) (by rw [HM.out, ← hPl]; exact way_ahead P S (p1, p2) (x1, x2) k R (by omega) HX.out)
            dsimp only at hc1 hd1
            have f1 := HOV.out.frozen q
            have f3 := HOV.out.frozen m
            have n1 : ¬ m = q := by omega
            have O3 := HOV.out.swap q m x1 x2 p1 p2 hqn hmn kd kc
            rw [HSw.out] at O3
            have HO3 := Lib.hid (O3.kept (bdn (n := 1) (Below.refl _ _)))
            have HG3 := Lib.hid (grown_trans (grown_trans HGV.out (grown_swapZ V g q m (.int .i64 x1) (.int .i64 p1))) (grown_drewN _ 1 _))
            clear O3
            go_upto_region 6 with fail
            go_region
            go_wp2_with fail
            go_roundw
            case rel => exact ⟨k, m, by omega, HM.out, by first | rfl | go_num, HO3, HG3, HF2⟩
            case measure => simp [intOf]; omega
          · have hc0 : ¬ cc < 0 := by rw [decide_eq_false hpx] at hneg; exact of_decide_eq_false hneg
            have HO3 : Hid (OwnZ w0 Kg wr base g n (insL l a (min (i + 1) b))) := Lib.hid (by rw [show min (i + 1) b = i + 1 from by omega, HEnd.out (.inr ⟨_, HX.out, by show x2 ≤ p2; omega⟩)]; exact HO.out)
            clear hneg
            go_wp2_with fail
            refine C1.out.mono ?_; rintro e V ⟨rfl, b1⟩
            have b2 : Below wr.heap.size wr V := below_up (bdn (n := 1) (Below.refl _ wr)) b1
            have HOV := Lib.hid (HO3.out.kept b2)
            have HGV := Lib.hid (grown_trans HGr.out (grown_below b2))
            clear b1 b2 hc1 hd1
            go_wp2_with fail
            go_roundw
            case rel => exact ⟨i + 1, by omega, .inl (by omega), by go_num, HOV, HGV⟩
            case measure => simp [intOf]; omega
    · have HO3 : Hid (OwnZ w0 Kg wr base g n (insL l a b)) := Lib.hid (by have := HO.out; rw [show min i b = b from by omega] at this; exact this)
      go_wp2_with fail
      go_end0
      exact ⟨rfl, HO3.out, HGr.out⟩
end Go.Proofs.YtmomjhnbhckhpaaDoor
