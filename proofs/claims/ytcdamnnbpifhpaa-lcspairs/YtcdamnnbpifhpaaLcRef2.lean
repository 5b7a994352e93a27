/-
  The document's reference for the longest common row: all rows, how long it is, and its pairs.
  Conditions: lists of at most 4096 Go strings.
-/
import Derived.Deep.OwnRows
import Derived.WalkKit
import Derived.WalkMore
import Derived.IntWalk
import Derived.WalkArith
import Derived.OwnWalk
import Derived.Lib.Hide
import Derived.Deep.Cut
import Derived.Deep.Onto
import Derived.Deep.RegionWith
import Derived.BigQuiet
import Derived.RegionTactic
import Derived.Deep.QuietTactic
import Derived.Test.YtcdamnnbpifhpaaProg
import Derived.Test.YtcdamnnbpifhpaaLcRef
namespace Go.Proofs.Ytcdamnnbpifhpaa
open Go.RowKit Go.Shelf
set_option linter.unusedVariables false

def gridT (az bs : List Txt) : List (List Int) := (List.range (az.length + 1)).map fun i => rowOf (az.drop i) bs
theorem gridT_len (az bs : List Txt) : (gridT az bs).length = az.length + 1 := by simp [gridT]
theorem gridT_at (az bs : List Txt) (i : Nat) (h : i ≤ az.length) : (gridT az bs)[i]? = some (rowOf (az.drop i) bs) := by
  unfold gridT
  rw [List.getElem?_map, List.getElem?_range (by omega)]; rfl
theorem rowT_zero (bs : List Txt) : ∀ (i : Nat) p, (rowOf ([] : List Txt) bs)[i]? = some p → Value.int .i64 0 = .int .i64 p := fun i p hp => by
  have hi := (List.getElem?_eq_some_iff.1 hp).1
  rw [rowOf_len] at hi
  rw [rowOf_at _ _ _ (by omega), lcs_nil] at hp; cases hp; rfl

set_option maxRecDepth 100000 in
set_option maxHeartbeats 2000000 in
theorem rlrows_any (ao bo : Option Addr) (ca bc : Nat) (xs ys : List ByteArray) (w : World) (hn : xs.length ≤ 4096) (hm : ys.length ≤ 4096) (hA : StrRow w ao xs) (hB : StrRow w bo ys) :
    Calls Try.prog 17 #[.slice ao xs.length ca, .slice bo ys.length bc] w (GridOut (gridT (bytesOf xs) (bytesOf ys)) w) := by
  have hmk1 := make_grid xs.length hn
  have hmk2 := make_nums ys.length hm
  have HA := Lib.hid hA
  have HB := Lib.hid hB
  have hwx : IntKind.i64.wrap ((xs.length : Int) - 1) = (xs.length : Int) - 1 := IntWalk.i64_in _ (by omega)
  obtain ⟨G, hG⟩ : ∃ G, G = w.heap.size := ⟨_, rfl⟩
  have HG := Lib.hid hG
  obtain ⟨az, has⟩ : ∃ az, az = bytesOf xs := ⟨_, rfl⟩
  obtain ⟨bs, hbs⟩ : ∃ bs, bs = bytesOf ys := ⟨_, rfl⟩
  have HAl : Hid (az.length = xs.length) := Lib.hid (by rw [has, bytes_len])
  have HBl : Hid (bs.length = ys.length) := Lib.hid (by rw [hbs, bytes_len])
  have HAs := Lib.hid has
  have HBs := Lib.hid hbs
  rw [← has, ← hbs]
  clear hA hB has hbs
  go_enter Try.func17, Try.ntmps17
  go_upto_region 2 with fail
  obtain ⟨V, HV⟩ : ∃ V, Hid (V = w.alloc (.cells (madeCells #[.slice none 0 0] (xs.length + 1)) 37)) := ⟨_, Lib.hid rfl⟩
  rw [← HV.out, ← hG]
  have r1 : V.rowIs G 37 (xs.length + 1) (fun _ => .slice none 0 0) := by rw [HV.out, hG]; exact World.rowIs_made _ _ _ _
  have b1 : Below G w V := by rw [HV.out, hG]; exact (Below.refl _ w).alloc (Nat.le_refl _) _
  have HGV : Hid (V.heap.size = G + 1) := Lib.hid (by rw [HV.out, hG]; simp)
  have c1 : ∀ o : Obj, (V.alloc o).cell? ⟨G, xs.length, none⟩ = some (.slice none 0 0) := fun o => (r1.alloc o).cell (show xs.length < xs.length + 1 by omega)
  have c2 : ∀ o : Obj, (V.alloc o).frozen? ⟨G, xs.length, none⟩ = false := fun o => (r1.alloc o).frozen xs.length
  have hvs := HGV.out
  have HR1 := Lib.hid r1
  have HB1 := Lib.hid b1
  clear r1 b1 hG
  go_upto_region 3 with fail
  obtain ⟨V2, HV2⟩ : ∃ V2, Hid (V2 = (V.setCell ⟨G, xs.length, none⟩ (.slice (some ⟨G + 1, 0, none⟩) (ys.length + 1) (ys.length + 1))).alloc (.cells (madeCells #[.int .i64 0] (ys.length + 1)) 3)) := ⟨_, Lib.hid rfl⟩
  rw [← HV2.out]
  have HB2 : Hid (Below w.heap.size w V2) := Lib.hid (by
    rw [HV2.out, ← HG.out]
    exact (HB1.out.setCell (p := ⟨G, xs.length, none⟩) (Nat.le_refl _) _).alloc (by simp; omega) _)
  have HR2 : Hid (V2.rowIs G 37 (xs.length + 1) (fun t => if t = xs.length then .slice (some ⟨G + 1, 0, none⟩) (ys.length + 1) (ys.length + 1) else .slice none 0 0)) := Lib.hid (by rw [HV2.out]; exact (HR1.out.set _ _).alloc _)
  have r3 : V2.rowIs (G + 1) 3 (ys.length + 1) (fun _ => .int .i64 0) := by
    have h := World.rowIs_made (V.setCell ⟨G, xs.length, none⟩ (.slice (some ⟨G + 1, 0, none⟩) (ys.length + 1) (ys.length + 1))) (.int .i64 0) (ys.length + 1) 3
    rw [show (V.setCell ⟨G, xs.length, none⟩ (.slice (some ⟨G + 1, 0, none⟩) (ys.length + 1) (ys.length + 1))).heap.size = G + 1 from by simp [hvs], ← HV2.out] at h
    exact h
  have HF2 : Hid (∀ t, xs.length ≤ t → t ≤ xs.length → FarAt V2 G (if t = xs.length then .slice (some ⟨G + 1, 0, none⟩) (ys.length + 1) (ys.length + 1) else .slice none 0 0) (rowOf (az.drop t) bs)) := Lib.hid (fun t h1 h2 => by
    obtain rfl : t = xs.length := by omega
    rw [if_pos rfl, ← HAl.out, List.drop_length]
    exact rowIs_far r3 (by rw [rowOf_len, HBl.out]) (rowT_zero bs) (by omega))
  clear c1 c2 HB1 HR1 HV2 hvs r3 hmk1 hmk2
  go_wp2_with fail
  clear hwx
  go_loopw [6] (fun i wr => ∃ (s : Nat) (f : Nat → Value), s ≤ xs.length ∧ i = .int .i64 ((s : Int) - 1) ∧ Hid (Below w.heap.size w wr) ∧ Hid (wr.rowIs G 37 (xs.length + 1) f) ∧ Hid (∀ t, s ≤ t → t ≤ xs.length → FarAt wr G (f t) (rowOf (az.drop t) bs))) (fun i _ => ((intOf i) + 1).toNat)
  case atStart => exact ⟨xs.length, _, Nat.le_refl _, rfl, HB2, HR2, HF2⟩
  case round =>
    obtain ⟨s, f, hs, rfl, HBr, HRr, HFr⟩ := hrel
    clear HB2 HR2 HF2
    by_cases h0 : s = 0
    · subst h0
      have HE : Hid (GridOut (gridT az bs) w (.returned (.slice (some ⟨G, 0, none⟩) (xs.length + 1) (xs.length + 1))) wr) := Lib.hid (by
        refine ⟨_, _, by rw [gridT_len, HAl.out], grid_of HRr.out (by rw [gridT_len, HAl.out]) (fun i r hr => ?_), HBr.out⟩
        have hi := (List.getElem?_eq_some_iff.1 hr).1
        rw [gridT_len, HAl.out] at hi
        rw [gridT_at _ _ _ (by rw [HAl.out]; omega)] at hr; cases hr
        exact HFr.out i (Nat.zero_le _) (by omega))
      go_wp2_with fail
      go_ret
      exact HE.out
    · obtain ⟨m, hms⟩ : ∃ m, s = m + 1 := ⟨s - 1, by omega⟩
      have hsub : (s : Int) - 1 = (m : Int) := by omega
      rw [hsub]
      have hml : m < xs.length := by omega
      obtain ⟨p, hp⟩ : ∃ p, xs[m]? = some p := ⟨_, List.getElem?_eq_getElem hml⟩
      have HDr : Hid (az.drop m = p.data.toList :: az.drop s) := Lib.hid (by rw [hms]; exact drop_at az m _ (by rw [HAs.out]; exact bytes_at xs m p hp))
      obtain ⟨ao', c, hfe, hnum⟩ := (HFr.out s (Nat.le_refl _) hs).nums
      rw [rowOf_len, HBl.out] at hfe
      have cR := HRr.out.cell (show m + 1 < xs.length + 1 by omega)
      rw [← hms, hfe, hms] at cR
      obtain ⟨A, rfl, k1⟩ := str_atR (HA.out.kept HBr.out) m p hp
      have HC : Hid (∀ W, Below wr.heap.size wr W → Calls Try.prog 23 #[.string p, .slice bo ys.length bc, .slice ao' (ys.length + 1) c] W (RowOut (rowOf (az.drop m) bs) W)) := Lib.hid (fun W hW => by
        have := rlrow_any p bo ao' bc c ys (az.drop s) W hm (HB.out.kept (below_up HBr.out hW)) (by rw [← HBs.out]; exact hnum.kept hW)
        rw [← HBs.out, ← HDr.out] at this; exact this)
      have HMS := Lib.hid hms
      have HBel : Hid (Below wr.heap.size wr wr.drew) := Lib.hid (bdn (n := 1) (Below.refl _ _))
      have c1 := HRr.out.cell (show m < xs.length + 1 by omega)
      have c2 := HRr.out.frozen m
      have HP := Lib.hid hp
      clear hp hfe h0 hms hnum hsub
      go_upto_region 6 with fail
      have hm0 : IntKind.i64.wrap ((m : Int) + 1) = (m : Int) + 1 := IntWalk.i64_in _ (by omega)
      have hm1 : (0 : Int) ≤ (m : Int) + 1 := by omega
      have hm2 : (m : Int) + 1 ≤ (xs.length : Int) := by omega
      have hm3 : (0 : Int) ≤ (m : Int) := by omega
      have hm4 : (m : Int) < (xs.length : Int) := by omega
      have HK1 : Hid (∀ W, Below wr.heap.size wr W → W.cell? (A.add m) = some (.string p) ∧ W.cell? ⟨G, m + 1, none⟩ = some (.slice ao' (ys.length + 1) c) ∧ W.cell? ⟨G, m, none⟩ = some (f m) ∧ W.frozen? ⟨G, m, none⟩ = false) := Lib.hid (fun W hW => ⟨by
        obtain ⟨A', e, a2⟩ := str_atR (HA.out.kept (below_up HBr.out hW)) m p HP.out
        cases e; exact a2, (hW.cell (p := ⟨G, m + 1, none⟩) HRr.out.lt).trans cR, (rowIs_below HRr.out hW).cell (by omega), (rowIs_below HRr.out hW).frozen m⟩)
      go_region_with (first | (go_at_call 23; refine (HC.out _ HBel.out).mono ?_; rintro e w2 ⟨gg, rfl, gge, q2, b2⟩; rw [rowOf_len, HBl.out]; have HGe := Lib.hid (Nat.lt_of_lt_of_le (Nat.lt_of_lt_of_le HRr.out.lt HBel.out.size) gge); have HQ2 := Lib.hid q2; have HBel := Lib.hid (below_up HBel.out b2); obtain ⟨y1, y2, y3, y4⟩ := HK1.out w2 HBel.out; clear b2 q2 gge))
      all_goals
        obtain ⟨U3, HU3⟩ : ∃ U3, Hid (U3 = w2.setCell ⟨G, m, none⟩ (.slice (some ⟨gg, 0, none⟩) (ys.length + 1) (ys.length + 1))) := ⟨_, Lib.hid rfl⟩
        rw [← HU3.out]
        have HRG := Lib.hid (rowIs_below HRr.out HBel.out)
        have HB3 : Hid (Below w.heap.size w U3) := Lib.hid (by rw [HU3.out]; exact (below_up HBr.out HBel.out).setCell (p := ⟨G, m, none⟩) (by rw [← HG.out]; exact Nat.le_refl _) _)
        have HR3 : Hid (U3.rowIs G 37 (xs.length + 1) (fun t => if t = m then .slice (some ⟨gg, 0, none⟩) (ys.length + 1) (ys.length + 1) else f t)) := Lib.hid (by rw [HU3.out]; exact HRG.out.set _ _)
        have HF3 : Hid (∀ t, m ≤ t → t ≤ xs.length → FarAt U3 G (if t = m then .slice (some ⟨gg, 0, none⟩) (ys.length + 1) (ys.length + 1) else f t) (rowOf (az.drop t) bs)) := Lib.hid (fun t h1 h2 => by
          have hgr : w2.grownBy U3 (some G) := by rw [HU3.out]; exact grown_put _ _ _ _
          by_cases e : t = m
          · subst e
            rw [if_pos rfl]
            refine FarAt.kept ?_ hgr
            rcases HQ2.out with h0 | ⟨b, o, e, h2, h3⟩
            · have := congrArg List.length h0; rw [rowOf_len] at this; simp at this
            · cases e
              exact ⟨gg, 0, _, by rw [rowOf_len, HBl.out], by have := HGe.out; omega, h2, h3⟩
          · rw [if_neg e]
            exact ((HFr.out t (by have := HMS.out; omega) h2).kept (grown_of HBel.out)).kept hgr)
        have hwm : IntKind.i64.wrap ((m : Int) - 1) = (m : Int) - 1 := IntWalk.i64_in _ (by omega)
        clear c1 c2 y1 y2 y3 y4 k1 cR
        go_wp2_with fail
        go_roundw
        case rel => exact ⟨m, _, by omega, rfl, HB3, HR3, HF3⟩
        case measure => first | (simp [intOf]; done) | (simp [intOf]; omega)
end Go.Proofs.Ytcdamnnbpifhpaa
