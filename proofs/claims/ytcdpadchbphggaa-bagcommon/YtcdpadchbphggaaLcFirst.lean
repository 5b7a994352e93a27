/-
  The first rows of all parts: how long the longest common row is from the beginning of each part on.
  Conditions: lists of at most 4096.
-/
import Derived.Deep.OwnRows
import Derived.WalkKit
import Derived.WalkMore
import Derived.IntWalk
import Derived.WalkArith
import Derived.Lib.Hide
import Derived.Deep.Cut
import Derived.Deep.RegionWith
import Derived.BigQuiet
import Derived.RegionTactic
import Derived.Deep.QuietTactic
import Derived.Test.YtcdpadchbphggaaProg
import Derived.Test.YtcdpadchbphggaaLcLen
namespace Go.Proofs.Ytcdpadchbphggaa
open Go.RowKit Go.Shelf
set_option linter.unusedVariables false

/-- numbers do not lie in a block of slices -/
theorem far_typed {w : World} {G n : Nat} {T : TypeId} {f : Nat → Value} {ao : Option Addr} {c : Nat} {L : List Int} (h : w.rowIs G T n f) (hf : ∀ t, t < n → ∃ ao l c, f t = .slice ao l c) (hN : NumsAt w ao L) (hl : 0 < L.length) : FarAt w G (.slice ao L.length c) L := by
  rcases hN with h0 | ⟨b, o, rfl, h2, h3⟩
  · subst h0; simp at hl
  · refine ⟨b, o, c, rfl, fun e => ?_, h2, h3⟩
    subst e
    have h4 := h3 0 _ (List.getElem?_eq_getElem hl)
    obtain ⟨cs, hb, hn, hc⟩ := h
    simp only [World.cell?, hb] at h4
    by_cases ho : o < n
    · obtain ⟨ao, l, c', e⟩ := hf o ho
      have := hc o ho
      rw [e] at this
      simp [this] at h4
    · rw [Nat.add_zero, Array.getElem?_eq_none (by omega)] at h4
      cases h4
theorem grid_first {w : World} {ao : Option Addr} {p rest bs : List Int} (h : GridAt w ao (gridOf p rest bs)) : ∃ g ro rc, ao = some ⟨g, 0, none⟩ ∧ w.cell? ⟨g, 0, none⟩ = some (.slice ro (bs.length + 1) rc) ∧ NumsAt w ro (rowOf (p ++ rest) bs) := by
  rcases h with h | ⟨g, rfl, h2, h3⟩
  · have := congrArg List.length h; rw [gridOf_len] at this; simp at this
  · obtain ⟨ro, rc, h4, h5⟩ := h3 0 _ (gridOf_at _ _ _ 0 (Nat.zero_le _))
    rw [rowOf_len] at h4
    exact ⟨g, ro, rc, rfl, h4, h5⟩
def firstOf (ps : List (List Int)) (bs : List Int) : List (List Int) := (List.range (ps.length + 1)).map fun k => rowOf (ps.drop k).flatten bs
theorem firstOf_len (ps : List (List Int)) (bs : List Int) : (firstOf ps bs).length = ps.length + 1 := by simp [firstOf]
theorem firstOf_at (ps : List (List Int)) (bs : List Int) (i : Nat) (h : i ≤ ps.length) : (firstOf ps bs)[i]? = some (rowOf (ps.drop i).flatten bs) := by
  unfold firstOf
  rw [List.getElem?_map, List.getElem?_range (by omega)]; rfl
theorem row_zero (bs : List Int) : ∀ (i : Nat) p, (rowOf ([] : List Int) bs)[i]? = some p → Value.int .i64 0 = .int .i64 p := fun i p hp => by
  have hi := (List.getElem?_eq_some_iff.1 hp).1
  rw [rowOf_len] at hi
  rw [rowOf_at _ _ _ (by omega), lcs_nil] at hp; cases hp; rfl

set_option maxRecDepth 100000 in
set_option maxHeartbeats 2000000 in
theorem firstRows_any (so bo : Option Addr) (sc bc : Nat) (ps : List (List Int)) (bs : List Int) (w : World) (hn : ps.length ≤ 4096) (hns : ∀ p ∈ ps, p.length ≤ 4096) (hm : bs.length ≤ 4096) (hS : GridAt w so ps) (hB : NumsAt w bo bs) :
    Calls Try.prog 20 #[.slice so ps.length sc, .slice bo bs.length bc] w (GridOut (firstOf ps bs) w) := by
  have hmk1 := make_grid ps.length hn
  have hmk2 := make_nums bs.length hm
  have HS := Lib.hid hS
  have HB := Lib.hid hB
  have HNS := Lib.hid hns
  have hwx : IntKind.i64.wrap ((ps.length : Int) - 1) = (ps.length : Int) - 1 := IntWalk.i64_in _ (by omega)
  obtain ⟨G, hG⟩ : ∃ G, G = w.heap.size := ⟨_, rfl⟩
  have HG := Lib.hid hG
  clear hS hB hns
  go_enter Try.func20, Try.ntmps20
  go_upto_region 2 with fail
  obtain ⟨V, HV⟩ : ∃ V, Hid (V = w.alloc (.cells (madeCells #[.slice none 0 0] (ps.length + 1)) 35)) := ⟨_, Lib.hid rfl⟩
  rw [← HV.out, ← hG]
  have r1 : V.rowIs G 35 (ps.length + 1) (fun _ => .slice none 0 0) := by rw [HV.out, hG]; exact World.rowIs_made _ _ _ _
  have b1 : Below G w V := by rw [HV.out, hG]; exact (Below.refl _ w).alloc (Nat.le_refl _) _
  have HGV : Hid (V.heap.size = G + 1) := Lib.hid (by rw [HV.out, hG]; simp)
  have c1 : ∀ o : Obj, (V.alloc o).cell? ⟨G, ps.length, none⟩ = some (.slice none 0 0) := fun o => (r1.alloc o).cell (show ps.length < ps.length + 1 by omega)
  have c2 : ∀ o : Obj, (V.alloc o).frozen? ⟨G, ps.length, none⟩ = false := fun o => (r1.alloc o).frozen ps.length
  have hvs := HGV.out
  have HR1 := Lib.hid r1
  have HB1 := Lib.hid b1
  clear r1 b1 hG
  go_upto_region 3 with fail
  obtain ⟨V2, HV2⟩ : ∃ V2, Hid (V2 = (V.setCell ⟨G, ps.length, none⟩ (.slice (some ⟨G + 1, 0, none⟩) (bs.length + 1) (bs.length + 1))).alloc (.cells (madeCells #[.int .i64 0] (bs.length + 1)) 3)) := ⟨_, Lib.hid rfl⟩
  rw [← HV2.out]
  have HB2 : Hid (Below w.heap.size w V2) := Lib.hid (by
    rw [HV2.out, ← HG.out]
    exact (HB1.out.setCell (p := ⟨G, ps.length, none⟩) (Nat.le_refl _) _).alloc (by simp; omega) _)
  have HR2 : Hid (V2.rowIs G 35 (ps.length + 1) (fun t => if t = ps.length then .slice (some ⟨G + 1, 0, none⟩) (bs.length + 1) (bs.length + 1) else .slice none 0 0)) := Lib.hid (by rw [HV2.out]; exact (HR1.out.set _ _).alloc _)
  have r3 : V2.rowIs (G + 1) 3 (bs.length + 1) (fun _ => .int .i64 0) := by
    have h := World.rowIs_made (V.setCell ⟨G, ps.length, none⟩ (.slice (some ⟨G + 1, 0, none⟩) (bs.length + 1) (bs.length + 1))) (.int .i64 0) (bs.length + 1) 3
    rw [show (V.setCell ⟨G, ps.length, none⟩ (.slice (some ⟨G + 1, 0, none⟩) (bs.length + 1) (bs.length + 1))).heap.size = G + 1 from by simp [hvs], ← HV2.out] at h
    exact h
  have HF2 : Hid (∀ t, ps.length ≤ t → t ≤ ps.length → FarAt V2 G (if t = ps.length then .slice (some ⟨G + 1, 0, none⟩) (bs.length + 1) (bs.length + 1) else .slice none 0 0) (rowOf (ps.drop t).flatten bs)) := Lib.hid (fun t h1 h2 => by
    obtain rfl : t = ps.length := by omega
    rw [if_pos rfl, List.drop_length, List.flatten_nil]
    exact rowIs_far r3 (rowOf_len _ _) (row_zero bs) (by omega))
  have HT2 : Hid (∀ t, t < ps.length + 1 → ∃ ao l c, (if t = ps.length then Value.slice (some ⟨G + 1, 0, none⟩) (bs.length + 1) (bs.length + 1) else .slice none 0 0) = .slice ao l c) := Lib.hid (fun t _ => by split <;> exact ⟨_, _, _, rfl⟩)
  clear c1 c2 HB1 HR1 HV2 hvs r3 hmk1 hmk2
  go_wp2_with fail
  clear hwx
  go_loopw [6] (fun i wr => ∃ (s : Nat) (f : Nat → Value), s ≤ ps.length ∧ i = .int .i64 ((s : Int) - 1) ∧ Hid (Below w.heap.size w wr) ∧ Hid (wr.rowIs G 35 (ps.length + 1) f) ∧ Hid (∀ t, s ≤ t → t ≤ ps.length → FarAt wr G (f t) (rowOf (ps.drop t).flatten bs)) ∧ Hid (∀ t, t < ps.length + 1 → ∃ ao l c, f t = .slice ao l c)) (fun i _ => ((intOf i) + 1).toNat)
  case atStart => exact ⟨ps.length, _, Nat.le_refl _, rfl, HB2, HR2, HF2, HT2⟩
  case round =>
    obtain ⟨s, f, hs, rfl, HBr, HRr, HFr, HTr⟩ := hrel
    clear HB2 HR2 HF2 HT2
    by_cases h0 : s = 0
    · subst h0
      have HE : Hid (GridOut (firstOf ps bs) w (.returned (.slice (some ⟨G, 0, none⟩) (ps.length + 1) (ps.length + 1))) wr) := Lib.hid (by
        refine ⟨_, _, by rw [firstOf_len], grid_of HRr.out (firstOf_len _ _) (fun i r hr => ?_), HBr.out⟩
        have hi := (List.getElem?_eq_some_iff.1 hr).1
        rw [firstOf_len] at hi
        rw [firstOf_at _ _ _ (by omega)] at hr; cases hr
        exact HFr.out i (Nat.zero_le _) (by omega))
      go_wp2_with fail
      go_ret
      exact HE.out
    · obtain ⟨m, hms⟩ : ∃ m, s = m + 1 := ⟨s - 1, by omega⟩
      have hsub : (s : Int) - 1 = (m : Int) := by omega
      rw [hsub]
      have hml : m < ps.length := by omega
      obtain ⟨p, hp⟩ : ∃ p, ps[m]? = some p := ⟨_, List.getElem?_eq_getElem hml⟩
      have hpl := HNS.out p (List.mem_of_getElem? hp)
      have HDr : Hid ((ps.drop m).flatten = p ++ (ps.drop s).flatten) := Lib.hid (by rw [hms, drop_at ps m p hp]; simp)
      obtain ⟨ao, c, hfe, hnum⟩ := (HFr.out s (Nat.le_refl _) hs).nums
      rw [rowOf_len] at hfe
      have cR := HRr.out.cell (show m + 1 < ps.length + 1 by omega)
      rw [← hms, hfe, hms] at cR
      rcases HS.out.kept HBr.out with h1 | ⟨sg, rfl, hsg, hcell⟩
      · rw [h1] at hml; simp at hml
      obtain ⟨ro, rc, k1, k2⟩ := hcell m p hp
      have hsgl := hsg.lt
      clear hsg
      have HC : Hid (∀ W, Below wr.heap.size wr W → Calls Try.prog 23 #[.slice ro p.length rc, .slice bo bs.length bc, .slice ao (bs.length + 1) c] W (GridOut (gridOf p (ps.drop s).flatten bs) W)) := Lib.hid (fun W hW =>
        lcLengths_any ro bo ao rc bc c p bs (ps.drop s).flatten W hpl hm (k2.kept hW) (HB.out.kept (below_up HBr.out hW)) (hnum.kept hW))
      have HMS := Lib.hid hms
      have HBel : Hid (Below wr.heap.size wr wr.drew) := Lib.hid (bdn (n := 1) (Below.refl _ _))
      have c1 := HRr.out.cell (show m < ps.length + 1 by omega)
      have c2 := HRr.out.frozen m
      clear hcell hp hfe h0 hms hnum k2 hsub
      go_upto_region 6 with fail
      have hm0 : IntKind.i64.wrap ((m : Int) + 1) = (m : Int) + 1 := IntWalk.i64_in _ (by omega)
      have hm1 : (0 : Int) ≤ (m : Int) + 1 := by omega
      have hm2 : (m : Int) + 1 ≤ (ps.length : Int) := by omega
      have hm3 : (0 : Int) ≤ (m : Int) := by omega
      have hm4 : (m : Int) < (ps.length : Int) := by omega
      have HK1 : Hid (∀ W, Below wr.heap.size wr W → W.cell? ⟨sg, m, none⟩ = some (.slice ro p.length rc) ∧ W.cell? ⟨G, m + 1, none⟩ = some (.slice ao (bs.length + 1) c) ∧ W.cell? ⟨G, m, none⟩ = some (f m) ∧ W.frozen? ⟨G, m, none⟩ = false) := Lib.hid (fun W hW => ⟨(hW.cell (p := ⟨sg, m, none⟩) hsgl).trans k1, (hW.cell (p := ⟨G, m + 1, none⟩) HRr.out.lt).trans cR, (rowIs_below HRr.out hW).cell (by omega), (rowIs_below HRr.out hW).frozen m⟩)
      go_region_with (first | (go_at_call 23; refine (HC.out _ HBel.out).mono ?_; rintro e w2 ⟨go, gc, rfl, hgrid, b2⟩; rw [gridOf_len]; obtain ⟨gg, ro2, rc2, rfl, q1, q2⟩ := grid_first hgrid; have HQ2 := Lib.hid q2; have HBel := Lib.hid (below_up HBel.out b2); obtain ⟨y1, y2, y3, y4⟩ := HK1.out w2 HBel.out; clear hgrid b2 q2))
      all_goals
        obtain ⟨U3, HU3⟩ : ∃ U3, Hid (U3 = w2.setCell ⟨G, m, none⟩ (.slice ro2 (bs.length + 1) rc2)) := ⟨_, Lib.hid rfl⟩
        rw [← HU3.out]
        have HRG := Lib.hid (rowIs_below HRr.out HBel.out)
        have HB3 : Hid (Below w.heap.size w U3) := Lib.hid (by rw [HU3.out]; exact (below_up HBr.out HBel.out).setCell (p := ⟨G, m, none⟩) (by rw [← HG.out]; exact Nat.le_refl _) _)
        have HR3 : Hid (U3.rowIs G 35 (ps.length + 1) (fun t => if t = m then .slice ro2 (bs.length + 1) rc2 else f t)) := Lib.hid (by rw [HU3.out]; exact HRG.out.set _ _)
        have HF3 : Hid (∀ t, m ≤ t → t ≤ ps.length → FarAt U3 G (if t = m then .slice ro2 (bs.length + 1) rc2 else f t) (rowOf (ps.drop t).flatten bs)) := Lib.hid (fun t h1 h2 => by
          have hgr : w2.grownBy U3 (some G) := by rw [HU3.out]; exact grown_put _ _ _ _
          by_cases e : t = m
          · subst e
            rw [if_pos rfl, HDr.out, ← rowOf_len (p ++ (ps.drop s).flatten) bs]
            exact (far_typed HRG.out HTr.out HQ2.out (by rw [rowOf_len]; omega)).kept hgr
          · rw [if_neg e]
            exact ((HFr.out t (by have := HMS.out; omega) h2).kept (grown_of HBel.out)).kept hgr)
        have HT3 : Hid (∀ t, t < ps.length + 1 → ∃ ao l c, (if t = m then Value.slice ro2 (bs.length + 1) rc2 else f t) = .slice ao l c) := Lib.hid (fun t ht => by
          split
          · exact ⟨_, _, _, rfl⟩
          · exact HTr.out t ht)
        have hwm : IntKind.i64.wrap ((m : Int) - 1) = (m : Int) - 1 := IntWalk.i64_in _ (by omega)
        clear c1 c2 y1 y2 y3 y4 q1 k1 cR
        go_wp2_with fail
        go_roundw
        case rel => exact ⟨m, _, by omega, rfl, HB3, HR3, HF3, HT3⟩
        case measure => first | (simp [intOf]; done) | (simp [intOf]; omega)
end Go.Proofs.Ytcdpadchbphggaa
