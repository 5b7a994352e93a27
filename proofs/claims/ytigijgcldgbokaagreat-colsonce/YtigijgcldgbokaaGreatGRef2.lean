/-
  Which pairs are taken: the document's reference's answer.
  Conditions: lists of at most 2^29 choices.
-/
import Derived.WalkKit
import Derived.WalkMore
import Derived.IntWalk
import Derived.OwnWalk
import Derived.StillTailTactics
import Derived.Lib.Hide
import Derived.Deep.Cut
import Derived.Deep.Onto
import Derived.Test.YtigijgcldgbokaaGreatProg
import Derived.Test.YtigijgcldgbokaaGreatGRef
import Derived.Test.YtigijgcldgbokaaGreatPPutR
namespace Go.Proofs.YtigijgcldgbokaaGreat
open Go.RowKit Go.Shelf
set_option linter.unusedVariables false

theorem best_next (x : T3) (l : TL) (k : Nat) (y : T3) (h : l[k]? = some y) : bestT x (l.take (k + 1)) = if betterT y (bestT x (l.take k)) then y else bestT x (l.take k) := by
  obtain ⟨hk, e⟩ := List.getElem?_eq_some_iff.1 h
  rw [List.take_succ_eq_append_getElem hk, e, best_snoc]
theorem without_mem {G : TL} {z : T3} (hm : z ∈ G) : (withoutT G z).length < G.length := by
  unfold withoutT
  exact List.length_filter_lt_length_iff_exists.2 ⟨z, hm, by simp⟩
/-- how long a slice is -/
def sliceLen : Value → Nat
  | .slice _ n _ => n
  | _ => 0
theorem free_len (l : TL) : (freeT l).length ≤ l.length := List.length_filter_le _ _
theorem putB_cons (L : PL) (p : Int × Int) : putB L p ≠ [] := fun h => by have := putB_len L p; rw [h] at this; simp at this

set_option maxRecDepth 100000 in
set_option maxHeartbeats 2000000 in
theorem rpick_any (ao : Option Addr) (cap : Nat) (xs : TL) (w : World) (hn : xs.length ≤ 536870912) (hR : TripAt w ao xs) :
    Calls Tryz.prog 26 #[.slice ao xs.length cap] w (PairsOut (pickL xs) w) := by
  have C1 := Lib.hid (rfree_any ao cap xs w (by omega) hR)
  have CP := Lib.hid (fun lo lc L p1 p2 W h1 h2 h3 h4 h5 => rput_any lo lc L p1 p2 W h1 h2 h3 h4 h5)
  have CB := Lib.hid (fun c d W => rbetter_any c d W)
  have CW := Lib.hid (fun ao cap ys z W h1 h2 => rwithout_any ao cap ys z W h1 h2)
  have HP : Hid (pickL xs = sortB (refT xs.length (freeT xs))) := Lib.hid (pick_ref xs)
  have HFl := Lib.hid (free_len xs)
  obtain ⟨F, hF⟩ : ∃ F, F = freeT xs := ⟨_, rfl⟩
  rw [← hF] at C1 HP HFl
  have H0 : Hid (refT xs.length F = [] ++ refT xs.length F) := Lib.hid rfl
  obtain ⟨T, hT⟩ : ∃ T, T = refT xs.length F := ⟨_, rfl⟩
  have HT0 := Lib.hid hT
  rw [← hT] at HP
  generalize pickL xs = R at HP ⊢
  clear hR hF hT
  go_enter Tryz.func26, Tryz.ntmps26
  go_wp2_with fail
  refine C1.out.mono ?_; rintro e w1 ⟨fo, fc, rfl, hfa, hfn, hfl, hb1⟩
  have HI : Hid (∃ t : PL, T = t ++ refT xs.length F ∧ sortB t = [] ∧ t.length + F.length ≤ xs.length) := Lib.hid ⟨[], by rw [HT0.out]; rfl, rfl, by simpa using HFl.out⟩
  have HF1 := Lib.hid hfa
  have HB1 := Lib.hid hb1
  have HFn := Lib.hid hfn
  have HFc := Lib.hid hfl
  clear hfa hb1 hfn hfl C1
  go_wp2_with fail
  go_loopw [3, 4] (fun v u wr => ∃ (lo fo : Option Addr) (lc fc : Nat) (L : PL) (G : TL), v = .slice lo L.length lc ∧ u = .slice fo G.length fc ∧ G.length ≤ xs.length ∧ Hid (L.length ≤ lc ∧ (lo = none → lc = 0) ∧ (L = [] → lo = none)) ∧ Hid (∃ t : PL, T = t ++ refT xs.length G ∧ sortB t = L ∧ t.length + G.length ≤ xs.length) ∧ Hid (PairsAt wr lo L) ∧ Hid (TripAt wr fo G) ∧ Hid (Below w.heap.size w wr)) (fun _ u _ => sliceLen u)
  case atStart => exact ⟨none, fo, 0, fc, [], F, rfl, rfl, HFl.out, Lib.hid ⟨Nat.le_refl _, fun _ => rfl, fun _ => rfl⟩, HI, Lib.hid (.inl rfl), HF1, HB1⟩
  case round =>
    clear HI HF1 HB1 HFn HFc HFl
    obtain ⟨lo, go, lc, gc, L, G, rfl, rfl, hGn, HC, HI, HPA, HTA, HB⟩ := hrel
    have hws := HB.out.size
    cases G with
    | nil =>
      have HE : Hid (PairsOut R w (.returned (.slice lo L.length lc)) wr) := Lib.hid (by
        obtain ⟨t, h1, h2, _⟩ := HI.out
        rw [ref_none, List.append_nil] at h1
        have e : R = L := by rw [HP.out, h1, h2]
        rw [e]
        exact ⟨lo, lc, rfl, HPA.out, HC.out.2.1, HC.out.1, HB.out⟩)
      clear HC HI HPA HTA HP HT0 H0
      go_wp2_with fail
      go_ret
      exact HE.out
    | cons x0 G' =>
      obtain ⟨n, hn9⟩ : ∃ n, n = (x0 :: G').length := ⟨_, rfl⟩
      obtain ⟨G, hG⟩ : ∃ G, G = x0 :: G' := ⟨_, rfl⟩
      have HGl : Hid (G.length = n) := Lib.hid (by rw [hG, hn9])
      have HGt : Hid (∀ j : Nat, G[j + 1]? = G'[j]?) := Lib.hid (fun j => by rw [hG]; rfl)
      have HG'l : Hid (G'.length + 1 = n) := Lib.hid (by rw [hn9]; rfl)
      have HStep : Hid (∀ (q : Nat) (b : T3), G[q]? = some b → b = bestT x0 G' → ∃ t : PL, T = t ++ refT xs.length (withoutT G b) ∧ sortB t = putB L (b.1, b.2.1) ∧ t.length + (withoutT G b).length ≤ xs.length) := Lib.hid (fun q b _ hb => by
        obtain ⟨t, h1, h2, h3⟩ := HI.out
        have hw := without_less x0 G'
        rw [← hG, ← hb] at hw
        obtain ⟨m, hm⟩ : ∃ m, xs.length = m + 1 := ⟨xs.length - 1, by simp at h3; omega⟩
        have h4 : refT (m + 1) (x0 :: G') = (b.1, b.2.1) :: refT m (withoutT G b) := by rw [refT, ← hb, hG]
        have hlm : (withoutT G b).length ≤ m := by simp at h3; omega
        refine ⟨t ++ [(b.1, b.2.1)], ?_, ?_, ?_⟩
        · rw [h1, hm, h4, ref_more m (m + 1) _ hlm (Nat.le_succ m)]; simp
        · rw [sortB_snoc, h2]
        · rw [List.length_append]; simp at h3 ⊢; omega)
      have HLb : Hid (L.length + n ≤ xs.length) := Lib.hid (by
        obtain ⟨t, _, h2, h3⟩ := HI.out
        rw [← h2, sortB_len, hn9]; exact h3)
      have HG0 : Hid (G[0]? = some (bestT x0 (G'.take 0))) := Lib.hid (by rw [hG]; rfl)
      have hn0 : 0 < n := by rw [hn9]; simp
      have hnx : n ≤ xs.length := by rw [hn9]; exact hGn
      rw [← hG] at HTA
      rw [← hn9]
      have HNx := Lib.hid (best_next x0 G')
      have HAll : Hid (bestT x0 (G'.take (n - 1)) = bestT x0 G') := Lib.hid (by rw [List.take_of_length_le (by have := HG'l.out; omega)])
      clear hn9 hG HI hGn H0 HT0
      obtain ⟨b, o, hgo, hA, hcell⟩ : ∃ b o, go = some ⟨b, o, none⟩ ∧ b < wr.heap.size ∧ ∀ (i : Nat) c, G[i]? = some c → wr.cell? ⟨b, o + i * 3, none⟩ = some (.int .i64 c.1) ∧ wr.cell? ⟨b, o + i * 3 + 1, none⟩ = some (.int .i64 c.2.1) ∧ wr.cell? ⟨b, o + i * 3 + 2, none⟩ = some (.int .i64 c.2.2) := by
        rcases HTA.out with h | h
        · have := HGl.out; rw [h] at this; simp at this; omega
        · exact h
      subst hgo
      have HCell := Lib.hid hcell
      have HA := Lib.hid hA
      clear hcell hA
      go_wp2_with fail
      obtain ⟨wo, rfl⟩ : ∃ wo : World, wo = wr := ⟨_, rfl⟩
      go_loopw [5, 6] (fun u v wr => ∃ (q k j : Nat), k ≤ n ∧ q < n ∧ u = .int .i64 q ∧ v = .int .i64 k ∧ Hid (k = j + 1) ∧ Hid (G[q]? = some (bestT x0 (G'.take j))) ∧ Hid (Below wo.heap.size wo wr)) (fun _ v _ => n - (intOf v).toNat)
      case atStart => exact ⟨0, 1, 0, hn0, hn0, rfl, rfl, Lib.hid rfl, HG0, Lib.hid (Below.refl _ _)⟩
      case round =>
        obtain ⟨q, k, j, hk, hq, rfl, rfl, HK, HGq, HBo⟩ := hrel
        have HAr : Hid (b < wr.heap.size) := Lib.hid (Nat.lt_of_lt_of_le HA.out HBo.out.size)
        have HCr : Hid (∀ (i : Nat) c, G[i]? = some c → wr.cell? ⟨b, o + i * 3, none⟩ = some (.int .i64 c.1) ∧ wr.cell? ⟨b, o + i * 3 + 1, none⟩ = some (.int .i64 c.2.1) ∧ wr.cell? ⟨b, o + i * 3 + 2, none⟩ = some (.int .i64 c.2.2)) := Lib.hid (fun i c h => by
          obtain ⟨h1, h2, h3⟩ := HCell.out i c h
          exact ⟨(HBo.out.cell (p := ⟨b, o + i * 3, none⟩) HA.out).trans h1, (HBo.out.cell (p := ⟨b, o + i * 3 + 1, none⟩) HA.out).trans h2, (HBo.out.cell (p := ⟨b, o + i * 3 + 2, none⟩) HA.out).trans h3⟩)
        by_cases hlt : k < n
        · obtain ⟨⟨y1, y2, y3⟩, hy⟩ : ∃ y, G[k]? = some y := ⟨_, List.getElem?_eq_getElem (by rw [HGl.out]; exact hlt)⟩
          obtain ⟨⟨z1, z2, z3⟩, hz⟩ : ∃ z, z = bestT x0 (G'.take j) := ⟨_, rfl⟩
          have hst := HNx.out j (y1, y2, y3) (by rw [← HGt.out, ← HK.out]; exact hy)
          obtain ⟨c1, c2, c3⟩ := HCr.out k _ hy
          rw [← hz] at HGq hst
          obtain ⟨d1, d2, d3⟩ := HCr.out q _ HGq.out
          dsimp only at c1 c2 c3 d1 d2 d3
          have C := Lib.hid (fun W => CB.out (y1, y2, y3) (z1, z2, z3) W)
          have HY := Lib.hid hy
          obtain ⟨t, ht⟩ : ∃ t, betterT (y1, y2, y3) (z1, z2, z3) = t := ⟨_, rfl⟩
          rw [ht] at hst C
          dsimp only at C
          have HZ := Lib.hid hz
          clear hy hz ht
          cases t with
          | true =>
            have HG2 : Hid (G[k]? = some (bestT x0 (G'.take (j + 1)))) := Lib.hid (by rw [hst]; exact HY.out)
            clear hst
            go_upto_region 8 with fail
            go_still_tail 8, (by kernel_rfl)
            rw [show ({ heap := wr.heap, tape := wr.tape, drawn := wr.drawn + 1, os := wr.os, output := wr.output } : World) = wr.drew from rfl]
            go_wp2_with fail
            refine (C.out _).mono ?_; rintro e w2 ⟨rfl, b1⟩
            have HB2 := Lib.hid (below_up (show Below wo.heap.size wo wr.drew from bdn (n := 1) HBo.out) b1)
            clear b1 c1 c2 c3 d1 d2 d3 C
            go_wp2_with fail
            go_roundw
            case rel => exact ⟨k, k + 1, j + 1, hlt, hlt, rfl, by go_num, Lib.hid (by rw [HK.out]), HG2, HB2⟩
            case measure => simp [intOf]; omega
          | false =>
            have HG2 : Hid (G[q]? = some (bestT x0 (G'.take (j + 1)))) := Lib.hid (by rw [hst]; exact HGq.out)
            clear hst
            go_upto_region 8 with fail
            go_still_tail 8, (by kernel_rfl)
            rw [show ({ heap := wr.heap, tape := wr.tape, drawn := wr.drawn + 1, os := wr.os, output := wr.output } : World) = wr.drew from rfl]
            go_wp2_with fail
            refine (C.out _).mono ?_; rintro e w2 ⟨rfl, b1⟩
            have HB2 := Lib.hid (below_up (show Below wo.heap.size wo wr.drew from bdn (n := 1) HBo.out) b1)
            clear b1 c1 c2 c3 d1 d2 d3 C
            go_wp2_with fail
            go_roundw
            case rel => exact ⟨q, k + 1, j + 1, hlt, hq, rfl, by go_num, Lib.hid (by rw [HK.out]), HG2, HB2⟩
            case measure => simp [intOf]; omega
        · obtain rfl : k = n := by omega
          obtain ⟨⟨z1, z2, z3⟩, hz⟩ : ∃ z, z = bestT x0 G' := ⟨_, rfl⟩
          have hGq : G[q]? = some (z1, z2, z3) := by
            have := HGq.out
            rw [show j = k - 1 from by have := HK.out; omega, HAll.out, ← hz] at this; exact this
          obtain ⟨d1, d2, d3⟩ := HCr.out q _ hGq
          dsimp only at d1 d2 d3
          have HI2 := Lib.hid (HStep.out q _ hGq hz)
          have hlx : L.length ≤ 1073741823 := by have := HLb.out; omega
          have hLk : k ≤ 1073741824 := by omega
          have HBr : Hid (Below w.heap.size w wr.drew) := Lib.hid (bdn (n := 1) (below_up HB.out HBo.out))
          have HPr : Hid (PairsAt wr.drew lo L) := Lib.hid (HPA.out.kept (bdn (n := 1) HBo.out))
          have CPr := Lib.hid (CP.out lo lc L z1 z2 wr.drew hlx HC.out.1 HC.out.2.1 HC.out.2.2 HPr.out)
          have HTr : Hid (TripAt wr.drew (some ⟨b, o, none⟩) G) := Lib.hid (.inr ⟨b, o, rfl, HAr.out, HCr.out⟩)
          have HWl : Hid ((withoutT G (z1, z2, z3)).length < k) := Lib.hid (by
            have := without_mem (List.mem_of_getElem? hGq)
            rw [HGl.out] at this
            exact this)
          have HDr : Hid (wr.drew.cell? ⟨b, o + q * 3, none⟩ = some (.int .i64 z1) ∧ wr.drew.cell? ⟨b, o + q * 3 + 1, none⟩ = some (.int .i64 z2) ∧ wr.drew.cell? ⟨b, o + q * 3 + 2, none⟩ = some (.int .i64 z3)) := Lib.hid ⟨d1, d2, d3⟩
          clear hz hGq HStep HNx HAll HG0 HGt HCell HC HPA CB
          go_upto_region 10 with fail
          go_still_tail 12, (by kernel_rfl)
          rw [show ({ heap := wr.heap, tape := wr.tape, drawn := wr.drawn + 1, os := wr.os, output := wr.output } : World) = wr.drew from rfl]
          go_wp2_with fail
          refine CPr.out.mono ?_; rintro e w2 ⟨lo2, lc2, rfl, p1, p2, p3, p4⟩
          have HB2 := Lib.hid (below_up HBr.out p4)
          have HT2 := Lib.hid (HTr.out.kept p4)
          have HP2 := Lib.hid p1
          have HC2 : Hid ((putB L (z1, z2)).length ≤ lc2 ∧ (lo2 = none → lc2 = 0) ∧ (putB L (z1, z2) = [] → lo2 = none)) := Lib.hid ⟨p3, p2, fun h => absurd h (putB_cons _ _)⟩
          have e1 : w2.cell? ⟨b, o + q * 3, none⟩ = some (.int .i64 z1) := (p4.cell (p := ⟨b, o + q * 3, none⟩) HAr.out).trans HDr.out.1
          have e2 : w2.cell? ⟨b, o + q * 3 + 1, none⟩ = some (.int .i64 z2) := (p4.cell (p := ⟨b, o + q * 3 + 1, none⟩) HAr.out).trans HDr.out.2.1
          have e3 : w2.cell? ⟨b, o + q * 3 + 2, none⟩ = some (.int .i64 z3) := (p4.cell (p := ⟨b, o + q * 3 + 2, none⟩) HAr.out).trans HDr.out.2.2
          have CWr := Lib.hid (CW.out (some ⟨b, o, none⟩) gc G (z1, z2, z3) w2 (by rw [HGl.out]; exact hLk) HT2.out)
          rw [HGl.out] at CWr
          dsimp only at CWr
          clear p1 p2 p3 p4 d1 d2 d3 CPr HPr HTr HDr
          go_wp2_with fail
          refine CWr.out.mono ?_; rintro e w3 ⟨go2, gc2, rfl, q1, q2, q3, q4⟩
          have HB3 := Lib.hid (below_up HB2.out q4)
          have HP3 := Lib.hid (HP2.out.kept q4)
          have HT3 := Lib.hid q1
          clear q1 q2 q3 q4 e1 e2 e3 CWr
          go_wp2_with fail
          go_roundw
          case rel => exact ⟨lo2, go2, lc2, gc2, _, _, rfl, rfl, by have := HWl.out; omega, HC2, HI2, HP3, HT3, HB3⟩
          case measure => simp [sliceLen]; exact HWl.out
end Go.Proofs.YtigijgcldgbokaaGreat
