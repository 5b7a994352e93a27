/-
  The rows of a part: how long the longest common row is from each place on, as the program fills them from behind.
  Conditions: lists of at most 4096.
-/
import Derived.Deep.OwnRows
import Derived.WalkKit
import Derived.WalkMore
import Derived.IntWalk
import Derived.WalkArith
import Derived.Lib.Hide
import Derived.Deep.Cut
import Derived.BigQuiet
import Derived.RegionTactic
import Derived.Deep.QuietTactic
import Derived.Test.YtcdpadchbphggaaProg
import Derived.Test.YtcdpadchbphggaaLcBase
namespace Go.Proofs.Ytcdpadchbphggaa
open Go.RowKit Go.Shelf
set_option linter.unusedVariables false

theorem make_grid (n : Nat) (hn : n ≤ 4096) (W : World) : (Instr.makeSlice 38 (.int .i64 ((n : Int) + 1)) (.int .i64 ((n : Int) + 1))).run Try.prog W = .ok (.slice (some ⟨W.heap.size, 0, none⟩) (n + 1) (n + 1)) (W.alloc (.cells (madeCells #[.slice none 0 0] (n + 1)) 35)) := by
  have := run_make_row' (P := Try.prog) 38 35 (.slice none 0 0) 24 Try.underlying38 (by kernel_rfl) rfl .i64 .i64 (n + 1) (by omega) (by omega) W
  push_cast at this; exact this
theorem make_nums (n : Nat) (hn : n ≤ 4096) (W : World) : (Instr.makeSlice 35 (.int .i64 ((n : Int) + 1)) (.int .i64 ((n : Int) + 1))).run Try.prog W = .ok (.slice (some ⟨W.heap.size, 0, none⟩) (n + 1) (n + 1)) (W.alloc (.cells (madeCells #[.int .i64 0] (n + 1)) 3)) := by
  have := run_make_row' (P := Try.prog) 35 3 (.int .i64 0) 8 Try.underlying35 (by kernel_rfl) rfl .i64 .i64 (n + 1) (by omega) (by omega) W
  push_cast at this; exact this
/-- a row that is filled from place j on -/
def fillF (X bs : List Int) (j : Nat) : Nat → Value := fun t => .int .i64 (if t < j then 0 else ((lcsN X (bs.drop t) : Nat) : Int))
theorem fill_start (X bs : List Int) (t : Nat) (h : t < bs.length + 1) : Value.int .i64 0 = fillF X bs bs.length t := by
  unfold fillF
  split
  · rfl
  · rw [List.drop_eq_nil_of_le (by omega), lcs_nil2]; rfl
theorem fill_next (X bs : List Int) (j t : Nat) (v : Int) (hv : v = ((lcsN X (bs.drop j) : Nat) : Int)) : (if t = j then Value.int .i64 v else fillF X bs (j + 1) t) = fillF X bs j t := by
  unfold fillF
  by_cases h : t = j
  · subst h; simp [hv]
  · rw [if_neg h]
    by_cases h2 : t < j
    · rw [if_pos h2, if_pos (by omega)]
    · rw [if_neg h2, if_neg (by omega)]

set_option maxRecDepth 100000 in
set_option maxHeartbeats 2000000 in
theorem lcLengths_any (po bo lo : Option Addr) (pc bc lc : Nat) (xs bs rest : List Int) (w : World) (hn : xs.length ≤ 4096) (hm : bs.length ≤ 4096) (hP : NumsAt w po xs) (hB : NumsAt w bo bs) (hL : NumsAt w lo (rowOf rest bs)) :
    Calls Try.prog 23 #[.slice po xs.length pc, .slice bo bs.length bc, .slice lo (bs.length + 1) lc] w (GridOut (gridOf xs rest bs) w) := by
  have hmk1 := make_grid xs.length hn
  have hmk2 := make_nums bs.length hm
  have HP := Lib.hid hP
  have HB := Lib.hid hB
  have HL := Lib.hid hL
  have hwx : IntKind.i64.wrap ((xs.length : Int) - 1) = (xs.length : Int) - 1 := IntWalk.i64_in _ (by omega)
  have hwb : IntKind.i64.wrap ((bs.length : Int) - 1) = (bs.length : Int) - 1 := IntWalk.i64_in _ (by omega)
  obtain ⟨G, hG⟩ : ∃ G, G = w.heap.size := ⟨_, rfl⟩
  have HG := Lib.hid hG
  clear hP hB hL
  go_enter Try.func23, Try.ntmps23
  go_upto_region 2 with fail
  obtain ⟨V, HV⟩ : ∃ V, Hid (V = w.alloc (.cells (madeCells #[.slice none 0 0] (xs.length + 1)) 35)) := ⟨_, Lib.hid rfl⟩
  rw [← HV.out, ← hG]
  have r1 : V.rowIs G 35 (xs.length + 1) (fun _ => .slice none 0 0) := by rw [HV.out, hG]; exact World.rowIs_made _ _ _ _
  have b1 : Below G w V := by rw [HV.out, hG]; exact (Below.refl _ w).alloc (Nat.le_refl _) _
  have c1 := r1.cell (show xs.length < xs.length + 1 by omega)
  have c2 := r1.frozen xs.length
  have HR1 := Lib.hid r1
  have HB1 := Lib.hid b1
  clear r1 b1 hG HV
  go_upto_region 3 with fail
  obtain ⟨V2, HV2⟩ : ∃ V2, Hid (V2 = V.setCell ⟨G, xs.length, none⟩ (.slice lo (bs.length + 1) lc)) := ⟨_, Lib.hid rfl⟩
  rw [← HV2.out]
  have HB2 : Hid (Below w.heap.size w V2) := Lib.hid (by rw [HV2.out, ← HG.out]; exact HB1.out.setCell (p := ⟨G, xs.length, none⟩) (Nat.le_refl _) _)
  have HR2 : Hid (V2.rowIs G 35 (xs.length + 1) (fun t => if t = xs.length then .slice lo (bs.length + 1) lc else .slice none 0 0)) := Lib.hid (by rw [HV2.out]; exact HR1.out.set _ _)
  have HF2 : Hid (∀ t, xs.length ≤ t → t ≤ xs.length → FarAt V2 G (if t = xs.length then .slice lo (bs.length + 1) lc else .slice none 0 0) (rowOf (xs.drop t ++ rest) bs)) := Lib.hid (fun t h1 h2 => by
    obtain rfl : t = xs.length := by omega
    rw [if_pos rfl, List.drop_length, List.nil_append, ← rowOf_len rest bs]
    have h := far_of (w := w) (G := G) (c := lc) HL.out (by rw [rowOf_len]; omega) (by rw [HG.out]; exact Nat.le_refl _)
    exact h.kept (grown_of HB2.out))
  clear c1 c2 HB1 HR1 HV2
  have H4 := Lib.hid hmk2
  clear hmk1 hmk2
  go_wp2_with fail
  clear hwx
  go_loopw [8] (fun i wr => ∃ (s : Nat) (f : Nat → Value), s ≤ xs.length ∧ i = .int .i64 ((s : Int) - 1) ∧ Hid (Below w.heap.size w wr) ∧ Hid (wr.rowIs G 35 (xs.length + 1) f) ∧ Hid (∀ t, s ≤ t → t ≤ xs.length → FarAt wr G (f t) (rowOf (xs.drop t ++ rest) bs))) (fun i _ => ((intOf i) + 1).toNat)
  case atStart => exact ⟨xs.length, _, Nat.le_refl _, rfl, HB2, HR2, HF2⟩
  case round =>
    obtain ⟨s, f, hs, rfl, HBr, HRr, HFr⟩ := hrel
    clear HB2 HR2 HF2
    by_cases h0 : s = 0
    · subst h0
      have HE : Hid (GridOut (gridOf xs rest bs) w (.returned (.slice (some ⟨G, 0, none⟩) (xs.length + 1) (xs.length + 1))) wr) := Lib.hid (by
        refine ⟨_, _, by rw [gridOf_len], grid_of HRr.out (gridOf_len _ _ _) (fun i r hr => ?_), HBr.out⟩
        have hi := (List.getElem?_eq_some_iff.1 hr).1
        rw [gridOf_len] at hi
        rw [gridOf_at _ _ _ _ (by omega)] at hr; cases hr
        exact HFr.out i (Nat.zero_le _) (by omega))
      go_wp2_with fail
      go_ret
      exact HE.out
    · obtain ⟨m, hms⟩ : ∃ m, s = m + 1 := ⟨s - 1, by omega⟩
      have hsub : (s : Int) - 1 = (m : Int) := by omega
      rw [hsub]
      have hml : m < xs.length := by omega
      obtain ⟨b, o, c, hfe, hbG, hblt, hcell⟩ := HFr.out s (Nat.le_refl _) hs
      have hbl := hblt.lt
      clear hblt
      rw [rowOf_len] at hfe
      have cR := HRr.out.cell (show m + 1 < xs.length + 1 by omega)
      rw [← hms, hfe, hms] at cR
      obtain ⟨x, hx⟩ : ∃ x, xs[m]? = some x := ⟨_, List.getElem?_eq_getElem hml⟩
      have HDr : Hid (xs.drop m ++ rest = x :: (xs.drop s ++ rest)) := Lib.hid (by rw [hms, drop_at xs m x hx]; rfl)
      obtain ⟨X', HX'⟩ : ∃ X', Hid (X' = xs.drop s ++ rest) := ⟨_, Lib.hid rfl⟩
      rw [← HX'.out] at hcell HDr
      have HC : Hid (∀ j, j ≤ bs.length → wr.cell? ⟨b, o + j, none⟩ = some (.int .i64 (lcsN X' (bs.drop j)))) := Lib.hid (fun j hj => hcell j _ (rowOf_at _ _ j hj))
      have HX := Lib.hid hx
      have hmk2 := H4.out
      have hlt2 : G < wr.heap.size := HRr.out.lt
      have HMS := Lib.hid hms
      clear hcell hx hfe h0 hms
      go_upto_region 6 with fail
      go_region
      obtain ⟨g, hg⟩ : ∃ g, g = wr.heap.size := ⟨_, rfl⟩
      obtain ⟨U, HU⟩ : ∃ U, Hid (U = (wr.alloc (.cells (madeCells #[.int .i64 0] (bs.length + 1)) 3)).drew) := ⟨_, Lib.hid rfl⟩
      rw [← HU.out, ← hg]
      have HBU : Hid (Below wr.heap.size wr U) := Lib.hid (by rw [HU.out]; exact bdn (n := 1) ((Below.refl _ wr).alloc (Nat.le_refl _) _))
      have HRU : Hid (U.rowIs g 3 (bs.length + 1) (fillF (x :: X') bs bs.length)) := Lib.hid (by rw [HU.out, hg]; exact (World.rowIs_made wr _ _ _).drew.congr (fun i hi => fill_start _ _ i hi))
      have HGg := Lib.hid hg
      have hgG : G < g := by rw [hg]; exact hlt2
      clear cR HU hg hmk2 hsub
      go_wp2_with fail
      obtain ⟨wo, rfl⟩ : ∃ wo : World, wo = wr := ⟨_, rfl⟩
      go_loopw [11] (fun i wr => ∃ (j : Nat), j ≤ bs.length ∧ i = .int .i64 ((j : Int) - 1) ∧ Hid (Below wo.heap.size wo wr) ∧ Hid (wr.rowIs g 3 (bs.length + 1) (fillF (x :: X') bs j))) (fun i _ => ((intOf i) + 1).toNat)
      case atStart => exact ⟨bs.length, Nat.le_refl _, rfl, HBU, HRU⟩
      case round =>
        obtain ⟨j, hj, rfl, HBi, HRi⟩ := hrel
        clear HBU HRU
        have HBw := Lib.hid (below_up HBr.out HBi.out)
        have HRG := Lib.hid (rowIs_below HRr.out HBi.out)
        by_cases h0 : j = 0
        · subst h0
          have c1 := HRG.out.cell (show m < xs.length + 1 by omega)
          have c2 := HRG.out.frozen m
          obtain ⟨U3, HU3⟩ : ∃ U3, Hid (U3 = wr.setCell ⟨G, m, none⟩ (.slice (some ⟨g, 0, none⟩) (bs.length + 1) (bs.length + 1))) := ⟨_, Lib.hid rfl⟩
          have HB3 : Hid (Below w.heap.size w U3) := Lib.hid (by rw [HU3.out]; exact HBw.out.setCell (p := ⟨G, m, none⟩) (by rw [← HG.out]; exact Nat.le_refl _) _)
          have HR3 : Hid (U3.rowIs G 35 (xs.length + 1) (fun t => if t = m then .slice (some ⟨g, 0, none⟩) (bs.length + 1) (bs.length + 1) else f t)) := Lib.hid (by rw [HU3.out]; exact HRG.out.set _ _)
          have HF3 : Hid (∀ t, m ≤ t → t ≤ xs.length → FarAt U3 G (if t = m then .slice (some ⟨g, 0, none⟩) (bs.length + 1) (bs.length + 1) else f t) (rowOf (xs.drop t ++ rest) bs)) := Lib.hid (fun t h1 h2 => by
            have hgr : wr.grownBy U3 (some G) := by rw [HU3.out]; exact grown_put _ _ _ _
            by_cases e : t = m
            · subst e
              rw [if_pos rfl, HDr.out]
              exact (rowIs_far (G := G) HRi.out (rowOf_len _ _) (fun i p hp => by
                have hi := (List.getElem?_eq_some_iff.1 hp).1
                rw [rowOf_len] at hi
                rw [rowOf_at _ _ _ (by omega)] at hp; cases hp
                simp [fillF]) (by omega)).kept hgr
            · rw [if_neg e]
              exact ((HFr.out t (by have := HMS.out; omega) h2).kept (grown_of HBi.out)).kept hgr)
          have hwm : IntKind.i64.wrap ((m : Int) - 1) = (m : Int) - 1 := IntWalk.i64_in _ (by omega)
          go_upto_region 5 with fail
          rw [← HU3.out]
          clear c1 c2
          go_wp2_with fail
          go_roundw
          case rel => exact ⟨m, _, by omega, rfl, HB3, HR3, HF3⟩
          case measure => first | (simp [intOf]; done) | (simp [intOf]; omega)
        · obtain ⟨q, hq⟩ : ∃ q, j = q + 1 := ⟨j - 1, by omega⟩
          have hsub : (j : Int) - 1 = (q : Int) := by omega
          rw [hsub]
          have hql : q < bs.length := by omega
          obtain ⟨y, hy⟩ : ∃ y, bs[q]? = some y := ⟨_, List.getElem?_eq_getElem hql⟩
          rcases HP.out.kept HBw.out with h1 | ⟨pb, p0, rfl, hpl, hpc⟩
          · rw [h1] at hml; simp at hml
          rcases HB.out.kept HBw.out with h1 | ⟨bb, b0, rfl, hbl2, hbc⟩
          · rw [h1] at hql; simp at hql
          have k1 := hpc m x HX.out
          have k2 := hbc q y hy
          have k3 := (HBi.out.cell (p := ⟨b, o + (q + 1), none⟩) hbl).trans (HC.out (q + 1) (by omega))
          have k4 := (HBi.out.cell (p := ⟨b, o + q, none⟩) hbl).trans (HC.out q (by omega))
          have k5 := HRi.out.cell (show q + 1 < bs.length + 1 by omega)
          have k6 := HRi.out.cell (show q < bs.length + 1 by omega)
          have k7 := HRi.out.frozen q
          have e5 : fillF (x :: X') bs j (q + 1) = .int .i64 ((lcsN (x :: X') (bs.drop (q + 1)) : Nat) : Int) := by simp [fillF, hq]
          rw [e5] at k5
          obtain ⟨z6, hz6⟩ : ∃ z, z = fillF (x :: X') bs j q := ⟨_, rfl⟩
          rw [← hz6] at k6
          have HH := Lib.hid (fun h : x = y => lcs_hit x X' bs q (by rw [h]; exact hy))
          have HM := Lib.hid (fun h : x ≠ y => lcs_miss x y X' bs q hy h)
          have l3 := (lcs_le X' (bs.drop (q + 1))).2
          have l4 := (lcs_le X' (bs.drop q)).2
          have l5 := (lcs_le (x :: X') (bs.drop (q + 1))).2
          rw [List.length_drop] at l3 l4 l5
          obtain ⟨n3, hn3⟩ : ∃ n, n = lcsN X' (bs.drop (q + 1)) := ⟨_, rfl⟩
          obtain ⟨n4, hn4⟩ : ∃ n, n = lcsN X' (bs.drop q) := ⟨_, rfl⟩
          obtain ⟨n5, hn5⟩ : ∃ n, n = lcsN (x :: X') (bs.drop (q + 1)) := ⟨_, rfl⟩
          rw [← hn3] at k3 l3 HH
          rw [← hn4] at k4 l4 HM
          rw [← hn5] at k5 l5 HM
          have HFN : Hid (∀ v : Int, v = ((lcsN (x :: X') (bs.drop q) : Nat) : Int) → (wr.setCell ⟨g, q, none⟩ (.int .i64 v)).rowIs g 3 (bs.length + 1) (fillF (x :: X') bs q)) := Lib.hid (fun v hv => (HRi.out.set q (.int .i64 v)).congr (fun i hi => by rw [hq]; exact fill_next _ _ _ _ _ hv))
          have HBN : Hid (∀ v : Int, Below wo.heap.size wo (wr.setCell ⟨g, q, none⟩ (.int .i64 v))) := Lib.hid (fun v => HBi.out.setCell (p := ⟨g, q, none⟩) (by rw [← HGg.out]; exact Nat.le_refl _) _)
          have hwq : IntKind.i64.wrap ((q : Int) - 1) = (q : Int) - 1 := IntWalk.i64_in _ (by omega)
          clear hpc hbc hy e5 hz6 hn3 hn4 hn5 h0 hq
          by_cases hxy : x = y
          · have HV3 : Hid (((n3 : Int) + 1) = ((lcsN (x :: X') (bs.drop q) : Nat) : Int)) := Lib.hid (by rw [HH.out hxy]; rfl)
            have HR4 := Lib.hid (HFN.out _ HV3.out)
            have HB4 := Lib.hid (HBN.out ((n3 : Int) + 1))
            subst hxy
            have hb : ((x == x) = true) := by simp
            have HB5 : Hid (Below wo.heap.size wo (wr.setCell ⟨g, q, none⟩ (.int .i64 ((n3 : Int) + 1))).drew) := Lib.hid (bdn (n := 1) HB4.out)
            have HR5 : Hid ((wr.setCell ⟨g, q, none⟩ (.int .i64 ((n3 : Int) + 1))).drew.rowIs g 3 (bs.length + 1) (fillF (x :: X') bs q)) := Lib.hid HR4.out.drew
            go_upto_region 10 with fail
            go_region
            go_wp2_with fail
            go_roundw
            case rel => exact ⟨q, by omega, rfl, HB5, HR5⟩
            case measure => first | (simp [intOf]; done) | (simp [intOf]; omega)
          · have HV3 : Hid ((if n4 < n5 then (n5 : Int) else (n4 : Int)) = ((lcsN (x :: X') (bs.drop q) : Nat) : Int)) := Lib.hid (by rw [HM.out hxy]; split <;> omega)
            have HR5 : Hid ((wr.setCell ⟨g, q, none⟩ (.int .i64 (if n4 < n5 then (n5 : Int) else (n4 : Int)))).drew.drew.rowIs g 3 (bs.length + 1) (fillF (x :: X') bs q)) := Lib.hid (HFN.out _ HV3.out).drew.drew
            have HB5 : Hid (Below wo.heap.size wo (wr.setCell ⟨g, q, none⟩ (.int .i64 (if n4 < n5 then (n5 : Int) else (n4 : Int)))).drew.drew) := Lib.hid (bdn (n := 2) (HBN.out _))
            have hb : ((x == y) = false) := by simp [hxy]
            go_upto_region 10 with fail
            go_region
            go_upto_region 12 with fail
            go_region
            obtain ⟨U5, HU5⟩ : ∃ U5, Hid (U5 = (wr.setCell ⟨g, q, none⟩ (.int .i64 (if n4 < n5 then (n5 : Int) else (n4 : Int)))).drew.drew) := ⟨_, Lib.hid rfl⟩
            rw [← HU5.out] at HR5 HB5 ⊢
            generalize (if n4 < n5 then (n5 : Int) else (n4 : Int)) = zz
            go_wp2_with fail
            go_roundw
            case rel => exact ⟨q, by omega, rfl, HB5, HR5⟩
            case measure => first | (simp [intOf]; done) | (simp [intOf]; omega)
end Go.Proofs.Ytcdpadchbphggaa
