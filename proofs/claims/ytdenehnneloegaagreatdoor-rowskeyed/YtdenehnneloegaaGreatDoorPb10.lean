/-
  Texts of these rows' proofs, laid one behind the other: LcFirst, LcLength, LcCommon.
  Conditions: those of each theorem.
-/
import Derived.Deep.OwnRows
import Derived.WalkKit
import Derived.WalkMore
import Derived.IntWalk
import Derived.WalkArith
import Derived.Lib.Hide
import Derived.Deep.Cut
import Derived.Deep.RegionWith
import Derived.BigQuiet
import Derived.RegionTactic
import Derived.Deep.QuietTactic
import Derived.Test.YtdenehnneloegaaGreatDoorProg
import Derived.Test.YtdenehnneloegaaGreatDoorPb9
import Derived.Test.YtdenehnneloegaaGreatDoorPb8
import Derived.OwnWalkIn
import Derived.TacticsInMore
import Derived.LoopNIn
import Derived.LoopIn
import Derived.Deep.RegionHeld3
namespace Go.Proofs.YtdenehnneloegaaGreatDoor
open Go.RowKit Go.Shelf
set_option linter.unusedVariables false
/-- numbers do not lie in a block of slices -/
theorem far_typed {w : World} {G n : Nat} {T : TypeId} {f : Nat → Value} {ao : Option Addr} {c : Nat} {L : List Int} (h : w.rowIs G T n f) (hf : ∀ t, t < n → ∃ ao l c, f t = .slice ao l c) (hN : NumsAt w ao L) (hl : 0 < L.length) : FarAt w G (.slice ao L.length c) L := by
  rcases hN with h0 | ⟨b, o, rfl, h2, h3⟩
  · subst h0; simp at hl
  · refine ⟨b, o, c, rfl, fun e => ?_, h2, h3⟩
    subst e
    have h4 := h3 0 _ (List.getElem?_eq_getElem hl)
    obtain ⟨cs, hb, hn, hc⟩ := h
    simp only [World.cell?, hb] at h4
    by_cases ho : o < n
    · obtain ⟨ao, l, c', e⟩ := hf o ho
      have := hc o ho
      rw [e] at this
      simp [this] at h4
    · rw [Nat.add_zero, Array.getElem?_eq_none (by omega)] at h4
      cases h4
theorem grid_first {w : World} {ao : Option Addr} {p rest bs : List Int} (h : GridAt w ao (gridOf p rest bs)) : ∃ g ro rc, ao = some ⟨g, 0, none⟩ ∧ w.cell? ⟨g, 0, none⟩ = some (.slice ro (bs.length + 1) rc) ∧ NumsAt w ro (rowOf (p ++ rest) bs) := by
  rcases h with h | ⟨g, rfl, h2, h3⟩
  · have := congrArg List.length h; rw [gridOf_len] at this; simp at this
  · obtain ⟨ro, rc, h4, h5⟩ := h3 0 _ (gridOf_at _ _ _ 0 (Nat.zero_le _))
    rw [rowOf_len] at h4
    exact ⟨g, ro, rc, rfl, h4, h5⟩
def firstOf (ps : List (List Int)) (bs : List Int) : List (List Int) := (List.range (ps.length + 1)).map fun k => rowOf (ps.drop k).flatten bs
theorem firstOf_len (ps : List (List Int)) (bs : List Int) : (firstOf ps bs).length = ps.length + 1 := by simp [firstOf]
theorem firstOf_at (ps : List (List Int)) (bs : List Int) (i : Nat) (h : i ≤ ps.length) : (firstOf ps bs)[i]? = some (rowOf (ps.drop i).flatten bs) := by
  unfold firstOf
  rw [List.getElem?_map, List.getElem?_range (by omega)]; rfl
theorem row_zero (bs : List Int) : ∀ (i : Nat) p, (rowOf ([] : List Int) bs)[i]? = some p → Value.int .i64 0 = .int .i64 p := fun i p hp => by
  have hi := (List.getElem?_eq_some_iff.1 hp).1
  rw [rowOf_len] at hi
  rw [rowOf_at _ _ _ (by omega), lcs_nil] at hp; cases hp; rfl
set_option maxRecDepth 100000 in
set_option maxHeartbeats 2000000 in
theorem firstRows_any (so bo : Option Addr) (sc bc : Nat) (ps : List (List Int)) (bs : List Int) (w : World) (hn : ps.length ≤ 4096) (hns : ∀ p ∈ ps, p.length ≤ 4096) (hm : bs.length ≤ 4096) (hS : GridAt w so ps) (hB : NumsAt w bo bs) :
    Calls Tryz.prog 141 #[.slice so ps.length sc, .slice bo bs.length bc] w (GridOut (firstOf ps bs) w) := by
  have hmk1 := make_grid ps.length hn
  have hmk2 := make_nums bs.length hm
  have HS := Lib.hid hS
  have HB := Lib.hid hB
  have HNS := Lib.hid hns
  have hwx : IntKind.i64.wrap ((ps.length : Int) - 1) = (ps.length : Int) - 1 := IntWalk.i64_in _ (by omega)
  obtain ⟨G, hG⟩ : ∃ G, G = w.heap.size := ⟨_, rfl⟩
  have HG := Lib.hid hG
  clear hS hB hns
  go_enter Tryz.func141, Tryz.ntmps141
  go_upto_region 2 with fail
  obtain ⟨V, HV⟩ : ∃ V, Hid (V = w.alloc (.cells (madeCells #[.slice none 0 0] (ps.length + 1)) 41)) := ⟨_, Lib.hid rfl⟩
  rw [← HV.out, ← hG]
  have r1 : V.rowIs G 41 (ps.length + 1) (fun _ => .slice none 0 0) := by rw [HV.out, hG]; exact World.rowIs_made _ _ _ _
  have b1 : Below G w V := by rw [HV.out, hG]; exact (Below.refl _ w).alloc (Nat.le_refl _) _
  have HGV : Hid (V.heap.size = G + 1) := Lib.hid (by rw [HV.out, hG]; simp)
  have c1 : ∀ o : Obj, (V.alloc o).cell? ⟨G, ps.length, none⟩ = some (.slice none 0 0) := fun o => (r1.alloc o).cell (show ps.length < ps.length + 1 by omega)
  have c2 : ∀ o : Obj, (V.alloc o).frozen? ⟨G, ps.length, none⟩ = false := fun o => (r1.alloc o).frozen ps.length
  have hvs := HGV.out
  have HR1 := Lib.hid r1
  have HB1 := Lib.hid b1
  clear r1 b1 hG
  go_upto_region 3 with fail
  obtain ⟨V2, HV2⟩ : ∃ V2, Hid (V2 = (V.setCell ⟨G, ps.length, none⟩ (.slice (some ⟨G + 1, 0, none⟩) (bs.length + 1) (bs.length + 1))).alloc (.cells (madeCells #[.int .i64 0] (bs.length + 1)) 3)) := ⟨_, Lib.hid rfl⟩
  rw [← HV2.out]
  have HB2 : Hid (Below w.heap.size w V2) := Lib.hid (by
    rw [HV2.out, ← HG.out]
    exact (HB1.out.setCell (p := ⟨G, ps.length, none⟩) (Nat.le_refl _) _).alloc (by simp; omega) _)
  have HR2 : Hid (V2.rowIs G 41 (ps.length + 1) (fun t => if t = ps.length then .slice (some ⟨G + 1, 0, none⟩) (bs.length + 1) (bs.length + 1) else .slice none 0 0)) := Lib.hid (by rw [HV2.out]; exact (HR1.out.set _ _).alloc _)
  have r3 : V2.rowIs (G + 1) 3 (bs.length + 1) (fun _ => .int .i64 0) := by
    have h := World.rowIs_made (V.setCell ⟨G, ps.length, none⟩ (.slice (some ⟨G + 1, 0, none⟩) (bs.length + 1) (bs.length + 1))) (.int .i64 0) (bs.length + 1) 3
    rw [show (V.setCell ⟨G, ps.length, none⟩ (.slice (some ⟨G + 1, 0, none⟩) (bs.length + 1) (bs.length + 1))).heap.size = G + 1 from by simp [hvs], ← HV2.out] at h
    exact h
  have HF2 : Hid (∀ t, ps.length ≤ t → t ≤ ps.length → FarAt V2 G (if t = ps.length then .slice (some ⟨G + 1, 0, none⟩) (bs.length + 1) (bs.length + 1) else .slice none 0 0) (rowOf (ps.drop t).flatten bs)) := Lib.hid (fun t h1 h2 => by
    obtain rfl : t = ps.length := by omega
    rw [if_pos rfl, List.drop_length, List.flatten_nil]
    exact rowIs_far r3 (rowOf_len _ _) (row_zero bs) (by omega))
  have HT2 : Hid (∀ t, t < ps.length + 1 → ∃ ao l c, (if t = ps.length then Value.slice (some ⟨G + 1, 0, none⟩) (bs.length + 1) (bs.length + 1) else .slice none 0 0) = .slice ao l c) := Lib.hid (fun t _ => by split <;> exact ⟨_, _, _, rfl⟩)
  clear c1 c2 HB1 HR1 HV2 hvs r3 hmk1 hmk2
  go_wp2_with fail
  clear hwx
  go_loopw [6] (fun i wr => ∃ (s : Nat) (f : Nat → Value), s ≤ ps.length ∧ i = .int .i64 ((s : Int) - 1) ∧ Hid (Below w.heap.size w wr) ∧ Hid (wr.rowIs G 41 (ps.length + 1) f) ∧ Hid (∀ t, s ≤ t → t ≤ ps.length → FarAt wr G (f t) (rowOf (ps.drop t).flatten bs)) ∧ Hid (∀ t, t < ps.length + 1 → ∃ ao l c, f t = .slice ao l c)) (fun i _ => ((intOf i) + 1).toNat)
  case atStart => exact ⟨ps.length, _, Nat.le_refl _, rfl, HB2, HR2, HF2, HT2⟩
  case round =>
    obtain ⟨s, f, hs, rfl, HBr, HRr, HFr, HTr⟩ := hrel
    clear HB2 HR2 HF2 HT2
    by_cases h0 : s = 0
    · subst h0
      have HE : Hid (GridOut (firstOf ps bs) w (.returned (.slice (some ⟨G, 0, none⟩) (ps.length + 1) (ps.length + 1))) wr) := Lib.hid (by
        refine ⟨_, _, by rw [firstOf_len], grid_of HRr.out (firstOf_len _ _) (fun i r hr => ?_), HBr.out⟩
        have hi := (List.getElem?_eq_some_iff.1 hr).1
        rw [firstOf_len] at hi
        rw [firstOf_at _ _ _ (by omega)] at hr; cases hr
        exact HFr.out i (Nat.zero_le _) (by omega))
      go_wp2_with fail
      go_ret
      exact HE.out
    · obtain ⟨m, hms⟩ : ∃ m, s = m + 1 := ⟨s - 1, by omega⟩
      have hsub : (s : Int) - 1 = (m : Int) := by omega
      rw [hsub]
      have hml : m < ps.length := by omega
      obtain ⟨p, hp⟩ : ∃ p, ps[m]? = some p := ⟨_, List.getElem?_eq_getElem hml⟩
      have hpl := HNS.out p (List.mem_of_getElem? hp)
      have HDr : Hid ((ps.drop m).flatten = p ++ (ps.drop s).flatten) := Lib.hid (by rw [hms, drop_at ps m p hp]; simp)
      obtain ⟨ao, c, hfe, hnum⟩ := (HFr.out s (Nat.le_refl _) hs).nums
      rw [rowOf_len] at hfe
      have cR := HRr.out.cell (show m + 1 < ps.length + 1 by omega)
      rw [← hms, hfe, hms] at cR
      rcases HS.out.kept HBr.out with h1 | ⟨sg, rfl, hsg, hcell⟩
      · rw [h1] at hml; simp at hml
      obtain ⟨ro, rc, k1, k2⟩ := hcell m p hp
      have hsgl := hsg.lt
      clear hsg
      have HC : Hid (∀ W, Below wr.heap.size wr W → Calls Tryz.prog 142 #[.slice ro p.length rc, .slice bo bs.length bc, .slice ao (bs.length + 1) c] W (GridOut (gridOf p (ps.drop s).flatten bs) W)) := Lib.hid (fun W hW =>
        lcLengths_any ro bo ao rc bc c p bs (ps.drop s).flatten W hpl hm (k2.kept hW) (HB.out.kept (below_up HBr.out hW)) (hnum.kept hW))
      have HMS := Lib.hid hms
      have HBel : Hid (Below wr.heap.size wr wr.drew) := Lib.hid (bdn (n := 1) (Below.refl _ _))
      have c1 := HRr.out.cell (show m < ps.length + 1 by omega)
      have c2 := HRr.out.frozen m
      clear hcell hp hfe h0 hms hnum k2 hsub
      go_upto_region 6 with fail
      have hm0 : IntKind.i64.wrap ((m : Int) + 1) = (m : Int) + 1 := IntWalk.i64_in _ (by omega)
      have hm1 : (0 : Int) ≤ (m : Int) + 1 := by omega
      have hm2 : (m : Int) + 1 ≤ (ps.length : Int) := by omega
      have hm3 : (0 : Int) ≤ (m : Int) := by omega
      have hm4 : (m : Int) < (ps.length : Int) := by omega
      have HK1 : Hid (∀ W, Below wr.heap.size wr W → W.cell? ⟨sg, m, none⟩ = some (.slice ro p.length rc) ∧ W.cell? ⟨G, m + 1, none⟩ = some (.slice ao (bs.length + 1) c) ∧ W.cell? ⟨G, m, none⟩ = some (f m) ∧ W.frozen? ⟨G, m, none⟩ = false) := Lib.hid (fun W hW => ⟨(hW.cell (p := ⟨sg, m, none⟩) hsgl).trans k1, (hW.cell (p := ⟨G, m + 1, none⟩) HRr.out.lt).trans cR, (rowIs_below HRr.out hW).cell (by omega), (rowIs_below HRr.out hW).frozen m⟩)
      go_region_with (first | (go_at_call 142; refine (HC.out _ HBel.out).mono ?_; rintro e w2 ⟨go, gc, rfl, hgrid, b2⟩; rw [gridOf_len]; obtain ⟨gg, ro2, rc2, rfl, q1, q2⟩ := grid_first hgrid; have HQ2 := Lib.hid q2; have HBel := Lib.hid (below_up HBel.out b2); obtain ⟨y1, y2, y3, y4⟩ := HK1.out w2 HBel.out; clear hgrid b2 q2))
      all_goals
        obtain ⟨U3, HU3⟩ : ∃ U3, Hid (U3 = w2.setCell ⟨G, m, none⟩ (.slice ro2 (bs.length + 1) rc2)) := ⟨_, Lib.hid rfl⟩
        rw [← HU3.out]
        have HRG := Lib.hid (rowIs_below HRr.out HBel.out)
        have HB3 : Hid (Below w.heap.size w U3) := Lib.hid (by rw [HU3.out]; exact (below_up HBr.out HBel.out).setCell (p := ⟨G, m, none⟩) (by rw [← HG.out]; exact Nat.le_refl _) _)
        have HR3 : Hid (U3.rowIs G 41 (ps.length + 1) (fun t => if t = m then .slice ro2 (bs.length + 1) rc2 else f t)) := Lib.hid (by rw [HU3.out]; exact HRG.out.set _ _)
        have HF3 : Hid (∀ t, m ≤ t → t ≤ ps.length → FarAt U3 G (if t = m then .slice ro2 (bs.length + 1) rc2 else f t) (rowOf (ps.drop t).flatten bs)) := Lib.hid (fun t h1 h2 => by
          have hgr : w2.grownBy U3 (some G) := by rw [HU3.out]; exact grown_put _ _ _ _
          by_cases e : t = m
          · subst e
            rw [if_pos rfl, HDr.out, ← rowOf_len (p ++ (ps.drop s).flatten) bs]
            exact (far_typed HRG.out HTr.out HQ2.out (by rw [rowOf_len]; omega)).kept hgr
          · rw [if_neg e]
            exact ((HFr.out t (by have := HMS.out; omega) h2).kept (grown_of HBel.out)).kept hgr)
        have HT3 : Hid (∀ t, t < ps.length + 1 → ∃ ao l c, (if t = m then Value.slice ro2 (bs.length + 1) rc2 else f t) = .slice ao l c) := Lib.hid (fun t ht => by
          split
          · exact ⟨_, _, _, rfl⟩
          · exact HTr.out t ht)
        have hwm : IntKind.i64.wrap ((m : Int) - 1) = (m : Int) - 1 := IntWalk.i64_in _ (by omega)
        clear c1 c2 y1 y2 y3 y4 q1 k1 cR
        go_wp2_with fail
        go_roundw
        case rel => exact ⟨m, _, by omega, rfl, HB3, HR3, HF3, HT3⟩
        case measure => first | (simp [intOf]; done) | (simp [intOf]; omega)
end Go.Proofs.YtdenehnneloegaaGreatDoor
namespace Go.Proofs.YtdenehnneloegaaGreatDoor
open Go.RowKit Go.Shelf
set_option linter.unusedVariables false
/-- numbers that stand for texts -/
def Stand (ts us : List Txt) (l m : List Int) : Prop := ∃ f : Txt → Int, l = ts.map f ∧ m = us.map f ∧ ∀ x ∈ ts, ∀ y ∈ us, f x = f y → x = y
theorem Stand.len {ts us : List Txt} {l m : List Int} (h : Stand ts us l m) : lcsN l m = lcsN ts us := by
  obtain ⟨f, rfl, rfl, h⟩ := h; exact lcs_map f ts us h
theorem Stand.way {ts us : List Txt} {l m : List Int} (h : Stand ts us l m) (i j : Nat) : wayC i j l m = wayC i j ts us := by
  obtain ⟨f, rfl, rfl, h⟩ := h; exact way_map f i j ts us h
theorem both_lists {ts us : List Txt} {w w' : World} {e : Ending} (h : BothOut ts us w e w') : ∃ (l m : List Int) (g1 g2 : Nat), l.length = ts.length ∧ m.length = us.length ∧ Stand ts us l m ∧ e = .returned (.tuple #[.slice (some ⟨g1, 0, none⟩) l.length l.length, .slice (some ⟨g2, 0, none⟩) m.length m.length]) ∧ NumsAt w' (some ⟨g1, 0, none⟩) l ∧ NumsAt w' (some ⟨g2, 0, none⟩) m ∧ Below w.heap.size w w' := by
  obtain ⟨f, g1, g2, h1, h2, h3, h4, h5⟩ := h
  exact ⟨ts.map f, us.map f, g1, g2, by simp, by simp, ⟨f, rfl, rfl, h4⟩, by rw [h1]; simp, h2, h3, h5⟩
theorem chunk_lens {l : List Int} {ps : List (Nat × Nat)} (h : Chunks l ps) : (ps.map (cutOf l)).length = ps.length ∧ ∀ p ∈ ps.map (cutOf l), p.length ≤ l.length := by
  refine ⟨by simp, fun p hp => ?_⟩
  obtain ⟨x, hx, rfl⟩ := List.mem_map.1 hp
  rw [cut_len l x (h.within x hx)]
  have := h.within x hx; omega
end Go.Proofs.YtdenehnneloegaaGreatDoor
namespace Go.Proofs.YtdenehnneloegaaGreatDoor
open Go.RowKit Go.Shelf
set_option linter.unusedVariables false
attribute [local go_sem] Oper.semAt_some
def prP (pre : List (Nat × Nat)) : List (Int × Int) := pre.map fun x => ((x.1 : Int), (x.2 : Int))
theorem prP_snoc (pre : List (Nat × Nat)) (i j : Nat) : prP (pre ++ [(i, j)]) = prP pre ++ [((i : Int), (j : Int))] := by simp [prP]
/-- what lies in memory while pairs are told -/
structure ComMem (Bb g2 : Nat) (m : List Int) (so fo : Option Addr) (ps : List (List Int)) (W : World) : Prop where
  box : W.heap[Bb]? = some (.cells #[.slice (some ⟨g2, 0, none⟩) m.length m.length] 41 (0, 0))
  nums : NumsAt W (some ⟨g2, 0, none⟩) m
  split : GridAt W so ps
  first : GridAt W fo (firstOf ps m)
theorem ComMem.kept {Bb g2 : Nat} {m : List Int} {so fo : Option Addr} {ps : List (List Int)} {W W' : World} (h : ComMem Bb g2 m so fo ps W) (k : Below W.heap.size W W') : ComMem Bb g2 m so fo ps W' :=
  ⟨below_kept k h.box, h.nums.kept k, h.split.kept k, h.first.kept k⟩
theorem ComMem.tied {Bb g2 : Nat} {m : List Int} {so fo : Option Addr} {ps : List (List Int)} {W W' : World} (h : ComMem Bb g2 m so fo ps W) (k : KeepsTy W W') : ComMem Bb g2 m so fo ps W' :=
  ⟨k _ _ _ _ h.box (by decide) (by decide), h.nums.tied k, h.split.tied k, h.first.tied k⟩
theorem grid_at {w : World} {ao : Option Addr} {rs : List (List Int)} (h : GridAt w ao rs) (i : Nat) (r : List Int) (hr : rs[i]? = some r) : ∃ g ro cap, ao = some ⟨g, 0, none⟩ ∧ w.cell? ⟨g, i, none⟩ = some (.slice ro r.length cap) ∧ NumsAt w ro r := by
  rcases h with h | ⟨g, rfl, _, h3⟩
  · subst h; simp at hr
  · obtain ⟨ro, cap, h4, h5⟩ := h3 i r hr
    exact ⟨g, ro, cap, rfl, h4, h5⟩
theorem nums_at {w : World} {ao : Option Addr} {l : List Int} (h : NumsAt w ao l) (i : Nat) (p : Int) (hp : l[i]? = some p) : ∃ b o, ao = some ⟨b, o, none⟩ ∧ w.cell? ⟨b, o + i, none⟩ = some (.int .i64 p) := by
  rcases h with h | ⟨b, o, rfl, _, h3⟩
  · subst h; simp at hp
  · exact ⟨b, o, rfl, h3 i p hp⟩
theorem way_few (l m : List Int) (pre : List (Nat × Nat)) (R : List (Int × Int)) (x : Int × Int) (h : wayC 0 0 l m = prP pre ++ (x :: R)) : pre.length < l.length := by
  have h1 := congrArg List.length h
  rw [wayC_len, List.length_append] at h1
  have h2 := (lcs_le l m).1
  simp [prP] at h1
  omega
theorem flat_take (ps : List (List Int)) (k : Nat) (p : List Int) (h : ps[k]? = some p) : (ps.take (k + 1)).flatten.length = (ps.take k).flatten.length + p.length := by
  obtain ⟨hk, e⟩ := List.getElem?_eq_some_iff.1 h
  rw [List.take_succ_eq_append_getElem hk, e]; simp
theorem flat_drop (ps : List (List Int)) (k : Nat) : ps.flatten.drop (ps.take k).flatten.length = (ps.drop k).flatten := by
  conv => lhs; arg 2; rw [← List.take_append_drop k ps]
  rw [List.flatten_append, List.drop_left]
/-- a place of the whole list in a part of it -/
theorem flat_at (ps : List (List Int)) (k : Nat) (p : List Int) (h : ps[k]? = some p) (q : Nat) (hq : q ≤ p.length) : ps.flatten.drop ((ps.take k).flatten.length + q) = p.drop q ++ (ps.drop (k + 1)).flatten := by
  rw [← List.drop_drop, flat_drop, drop_at ps k p h, List.flatten_cons, List.drop_append_of_le_length hq]
theorem flat_get (ps : List (List Int)) (k : Nat) (p : List Int) (h : ps[k]? = some p) (q : Nat) (x : Int) (hx : p[q]? = some x) : ps.flatten[(ps.take k).flatten.length + q]? = some x := by
  have hq := (List.getElem?_eq_some_iff.1 hx).1
  have := flat_at ps k p h q (by omega)
  rw [drop_at p q x hx] at this
  have h2 := congrArg (fun l => l[0]?) this
  simpa using h2
set_option maxRecDepth 100000 in
set_option maxHeartbeats 4000000 in
theorem common1_tells (n g1 g2 : Nat) (l m : List Int) (Ba Bb : Nat) (w : World) (hN : l.length ≤ 4096) (hM : m.length ≤ 4096) (hba : w.heap[Ba]? = some (.cells #[.slice (some ⟨g1, 0, none⟩) l.length l.length] 41 (0, 0))) (hbb : w.heap[Bb]? = some (.cells #[.slice (some ⟨g2, 0, none⟩) m.length m.length] 41 (0, 0))) (hl : NumsAt w (some ⟨g1, 0, none⟩) l) (hm : NumsAt w (some ⟨g2, 0, none⟩) m) :
    Tells Fence.wide n Tryz.prog 139 #[.pointer (some ⟨Ba, 0, none⟩), .pointer (some ⟨Bb, 0, none⟩)] (fun x : Nat × Nat => #[Value.int .i64 (x.1 : Int), Value.int .i64 (x.2 : Int)]) KeepsTy (fun pre x _ => pre.length < 4096) (fun _ _ => True) (fun pre => prP pre = wayC 0 0 l m) (fun _ => True) w := by
  intro lp J Jx W hW hJ hJx hRm hY h0
  have HY := Lib.hid hY
  have HSt := Lib.hid hJ
  have H0 := Lib.hid h0
  obtain ⟨ca, _⟩ := cell_of_box_l ((hW.block Ba (lt_of_heap hba)).trans hba)
  have HBb := Lib.hid ((hW.block Bb (lt_of_heap hbb)).trans hbb)
  have HLn := Lib.hid ((hl.kept (Below.refl _ _)))
  have HW := Lib.hid hW
  have HMn := Lib.hid (hm.kept hW)
  have C1 := Lib.hid (parts_any g1 l W hN (hl.kept hW))
  clear hJ hRm hY hJx hW hba hbb h0 hl hm HLn
  refine callsIn_of_wp Tryz.func139 rfl trivial ?_ rfl
  simp only [Tryz.ntmps139, List.size_toArray, List.length_cons, List.length_nil, Nat.reduceAdd, Nat.reduceSub, Array.replicate_succ, Array.replicate_zero, List.push_toArray, List.append_toArray, List.nil_append, List.cons_append]
  gi_wp2_with fail
  refine wpIn_wide.2 (wp_scope_straight ((wpIn_wide (n := n)).1 ?_))
  gi_wp2_with fail
  refine ⟨trivial, (fun h => by cases h), (callsIn_wide.2 C1.out).mono ?_⟩
  rintro e w1 ⟨cs, so, sc, hch, rfl, hsp, hb1⟩
  obtain ⟨e3, e4⟩ := chunk_lens hch
  obtain ⟨ps, HPS⟩ : ∃ ps, Hid (ps = cs.map (cutOf l)) := ⟨_, Lib.hid rfl⟩
  rw [← HPS.out] at hsp e3 e4
  rw [← e3]
  have HFl : Hid (ps.flatten = l) := Lib.hid (by rw [HPS.out]; exact hch.all)
  have hpn : ps.length ≤ 4096 := by rw [e3]; have := hch.few; omega
  have HPL : Hid (∀ p ∈ ps, p.length ≤ 4096) := Lib.hid (fun p hp => by have := e4 p hp; omega)
  have hbx := below_kept hb1 HBb.out
  obtain ⟨cb, _⟩ := cell_of_box_l hbx
  have HBx := Lib.hid hbx
  have HJ1 := Lib.hid (HSt.out [] _ _ H0.out hb1)
  have HSp := Lib.hid hsp
  have HMn1 := Lib.hid (HMn.out.kept hb1)
  have C2 := Lib.hid (firstRows_any so (some ⟨g2, 0, none⟩) sc m.length ps m w1 hpn HPL.out hM hsp HMn1.out)
  clear hch hsp hb1 e3 e4 C1 HBb H0 ca HMn hbx
  gi_wp2_with fail
  refine ⟨trivial, (fun h => by cases h), (callsIn_wide.2 C2.out).mono ?_⟩
  rintro e w2 ⟨fo, fc, rfl, hgf, hb2⟩
  rw [firstOf_len]
  have HC0 : Hid (ComMem Bb g2 m so fo ps w2) := Lib.hid ⟨below_kept hb2 HBx.out, HMn1.out.kept hb2, HSp.out.kept hb2, hgf⟩
  have HJ2 := Lib.hid (HSt.out [] _ _ HJ1.out hb2)
  clear hgf hb2 C2 HJ1 HBx HSp HMn1 cb
  gi_wp2_with fail
  refine wpIn_wide.2 (wp_label ?_)
  gi_wp2_with fail
  gi_loopw [6, 7, 19] (fun i j k wr => ∃ (I Jj K : Nat) (pre : List (Nat × Nat)), K ≤ ps.length ∧ Jj ≤ m.length ∧ I ≤ 4096 ∧ i = .int .i64 I ∧ j = .int .i64 Jj ∧ k = .int .i64 K ∧ Hid (I = (ps.take K).flatten.length) ∧ Hid (J pre wr) ∧ Hid (wayC 0 0 l m = prP pre ++ wayC I Jj (l.drop I) (m.drop Jj)) ∧ Hid (ComMem Bb g2 m so fo ps wr)) (fun _ _ k _ => ps.length - (intOf k).toNat)
  case atStart => exact ⟨0, 0, 0, [], Nat.zero_le _, Nat.zero_le _, Nat.zero_le _, rfl, rfl, rfl, Lib.hid (by simp), HJ2, Lib.hid (by simp [prP]), HC0⟩
  case round =>
    obtain ⟨I, Jj, K, pre, hK, hJm, hI4, rfl, rfl, rfl, HI, HJ, HT, HC⟩ := hrel
    clear HC0 HJ2
    by_cases hlt : K < ps.length
    · obtain ⟨p, hp⟩ : ∃ p, ps[K]? = some p := ⟨_, List.getElem?_eq_getElem hlt⟩
      have hpl := HPL.out p (List.mem_of_getElem? hp)
      obtain ⟨gs, po, pc, rfl, k1, k2⟩ := grid_at HC.out.split K p hp
      obtain ⟨gf, lo, lc, rfl, k3, k4⟩ := grid_at HC.out.first (K + 1) _ (firstOf_at ps m (K + 1) (by omega))
      rw [rowOf_len] at k3
      obtain ⟨k5, _⟩ := cell_of_box_l HC.out.box
      have HIn : Hid (I + p.length ≤ 4096 ∧ I + p.length = (ps.take (K + 1)).flatten.length) := Lib.hid (by
        have h1 := flat_take ps K p hp
        rw [← HI.out] at h1
        refine ⟨?_, h1.symm⟩
        rw [← h1]
        have h2 : (ps.take (K + 1)).flatten.length ≤ ps.flatten.length := by
          conv => rhs; rw [← List.take_append_drop (K + 1) ps, List.flatten_append, List.length_append]
          omega
        rw [HFl.out] at h2; omega)
      have HDr : Hid (∀ q, q ≤ p.length → l.drop (I + q) = p.drop q ++ (ps.drop (K + 1)).flatten) := Lib.hid (fun q hq => by rw [← HFl.out, HI.out]; exact flat_at ps K p hp q hq)
      have HGt : Hid (∀ q x, p[q]? = some x → l[I + q]? = some x) := Lib.hid (fun q x hx => by rw [← HFl.out, HI.out]; exact flat_get ps K p hp q x hx)
      obtain ⟨rest, HRs⟩ : ∃ rest, Hid (rest = (ps.drop (K + 1)).flatten) := ⟨_, Lib.hid rfl⟩
      rw [← HRs.out] at k4 HDr
      have HCl : Hid (∀ W, Below wr.heap.size wr W → Calls Tryz.prog 142 #[.slice po p.length pc, .slice (some ⟨g2, 0, none⟩) m.length m.length, .slice lo (m.length + 1) lc] W (GridOut (gridOf p rest m) W)) := Lib.hid (fun W hW =>
        lcLengths_any po (some ⟨g2, 0, none⟩) lo pc m.length lc p m rest W hpl hM (k2.kept hW) (HC.out.nums.kept hW) (k4.kept hW))
      have HNp := Lib.hid k2
      have HBel : Hid (Below wr.heap.size wr wr.drew) := Lib.hid (bdn (n := 1) (Below.refl _ _))
      have HKp : Hid (∀ W, Below wr.heap.size wr W → W.cell? ⟨Bb, 0, none⟩ = some (.slice (some ⟨g2, 0, none⟩) m.length m.length) ∧ W.cell? ⟨gf, K + 1, none⟩ = some (.slice lo (m.length + 1) lc)) := Lib.hid (fun W hW => ⟨(hW.cell (p := ⟨Bb, 0, none⟩) (block_lt_of_cell k5)).trans k5, (hW.cell (p := ⟨gf, K + 1, none⟩) (block_lt_of_cell k3)).trans k3⟩)
      have hm0 : IntKind.i64.wrap ((K : Int) + 1) = (K : Int) + 1 := IntWalk.i64_in _ (by omega)
      have hm1 : (0 : Int) ≤ (K : Int) + 1 := by omega
      have hm2 : (K : Int) + 1 ≤ (ps.length : Int) := by omega
      have hm3 : (0 : Int) ≤ (K : Int) := by omega
      clear hp k2 k4
      gi_wp2_with fail
      refine wpIn_wide.2 ?_
      go_region_held3 (fun W => W.cell? ⟨Bb, 0, none⟩ = some (.slice (some ⟨g2, 0, none⟩) m.length m.length) ∧ W.cell? ⟨gf, K + 1, none⟩ = some (.slice lo (m.length + 1) lc)) ((refine ⟨?_, ?_⟩ <;> first | assumption | go_keep))
        (first | (go_at_call 142; refine (HCl.out _ HBel.out).mono ?_; rintro e w3 ⟨ro, rc, rfl, hgrid, b2⟩; rw [gridOf_len]; have HGd := Lib.hid hgrid; have HBel := Lib.hid (below_up HBel.out b2); obtain ⟨y1, y2⟩ := HKp.out w3 HBel.out; clear hgrid b2))
      rename_i hHeld
      clear hHeld y1 y2 k1 k3 k5 hm1 hm2 hm3 HKp HCl
      have HJ3 := Lib.hid (HSt.out pre wr w3 HJ.out HBel.out)
      have HC3 := Lib.hid (HC.out.kept HBel.out)
      have HN3 := Lib.hid (HNp.out.kept HBel.out)
      clear HBel HC HNp HJ
      gi_wp2_with fail
      obtain ⟨wo, rfl⟩ : ∃ wo : World, wo = wr := ⟨_, rfl⟩
      gi_loopw [7, 11] (fun j a wr => ∃ (Jj q : Nat) (pre : List (Nat × Nat)), Jj ≤ m.length ∧ q ≤ p.length ∧ j = .int .i64 Jj ∧ a = .int .i64 q ∧ Hid (J pre wr) ∧ Hid (wayC 0 0 l m = prP pre ++ wayC (I + q) Jj (l.drop (I + q)) (m.drop Jj)) ∧ Hid (ComMem Bb g2 m (some ⟨gs, 0, none⟩) (some ⟨gf, 0, none⟩) ps wr) ∧ Hid (NumsAt wr po p) ∧ Hid (GridAt wr ro (gridOf p rest m))) (fun j a _ => (p.length - (intOf a).toNat) + (m.length - (intOf j).toNat))
      case atStart => exact ⟨Jj, 0, pre, hJm, Nat.zero_le _, rfl, rfl, HJ3, Lib.hid (by rw [Nat.add_zero]; exact HT.out), HC3, HN3, HGd⟩
      case round =>
        clear HJ3 HC3 HN3 HGd HT hJm
        obtain ⟨Jj, q, pre, hJm, hq, rfl, rfl, HJ, HT, HC, HN, HGd⟩ := hrel
        obtain ⟨k5, _⟩ := cell_of_box_l HC.out.box
        by_cases hql : q < p.length
        · by_cases hjl : Jj < m.length
          · have hb1 : ((Jj : Int) == (m.length : Int)) = false := by rw [beq_eq_false_iff_ne]; omega
            obtain ⟨x, hx⟩ : ∃ x, p[q]? = some x := ⟨_, List.getElem?_eq_getElem hql⟩
            obtain ⟨y, hy⟩ : ∃ y, m[Jj]? = some y := ⟨_, List.getElem?_eq_getElem hjl⟩
            obtain ⟨pb, p0, rfl, c1⟩ := nums_at HN.out q x hx
            obtain ⟨b2, o2, e2, c2⟩ := nums_at HC.out.nums Jj y hy
            cases e2
            rw [Nat.zero_add] at c2
            have hlx := HGt.out q x hx
            have hiq : I + q ≤ 4096 := by have := HIn.out.1; omega
            by_cases hxy : x = y
            · have HW2 := Lib.hid (way_both l m (I + q) Jj x hlx (by rw [hxy]; exact hy))
              have HT2 : Hid (wayC 0 0 l m = prP (pre ++ [(I + q, Jj)]) ++ wayC (I + (q + 1)) (Jj + 1) (l.drop (I + (q + 1))) (m.drop (Jj + 1))) := Lib.hid (by
                rw [HT.out, HW2.out, prP_snoc]; simp [Nat.add_assoc])
              have hpf : pre.length < 4096 := by
                have h1 := HT.out
                rw [HW2.out] at h1
                have := way_few l m pre _ _ h1; omega
              obtain ⟨U, HU⟩ : ∃ U, Hid (U = wr.drew) := ⟨_, Lib.hid rfl⟩
              have HJU : Hid (J pre U) := Lib.hid (by rw [HU.out]; exact HSt.out pre wr wr.drew HJ.out ((Below.refl _ wr).drew))
              obtain ⟨fn, tmps, assign, body, hyd, hR⟩ := HY.out pre (I + q, Jj) U HJU.out hpf
              dsimp only at hyd
              rw [Int.natCast_add] at hyd
              have HR := Lib.hid hR
              have hwi : IntKind.i64.wrap ((I : Int) + (q : Int)) = (I : Int) + (q : Int) := IntWalk.i64_in _ (by omega)
              subst hxy
              have hb2 : ((x == x) = true) := by simp
              clear hx hy hlx hR HW2 HT HJ
              gi_wp2_with fail
              refine wpIn_wide.2 ?_
              go_region
              rw [← HU.out]
              clear c1 c2 k5 hb1 hb2
              gi_wp2_with fail
              refine ⟨(fun h => by cases h), HR.out.mono ?_⟩
              rintro ee W3 (⟨rfl, hJ3, hk3⟩ | ⟨rfl, hJx3⟩)
              · have hbU : Below wr.heap.size wr U := by rw [HU.out]; exact (Below.refl _ wr).drew
                have HJ3 := Lib.hid hJ3
                have HC3 := Lib.hid ((HC.out.kept hbU).tied hk3)
                have HN3 := Lib.hid ((HN.out.kept hbU).tied hk3)
                have HG3 := Lib.hid ((HGd.out.kept hbU).tied hk3)
                clear hJ3 hk3 hbU hyd HC HN HGd
                gi_wp2_with fail
                go_roundw
                case rel => exact ⟨Jj + 1, q + 1, pre ++ [(I + q, Jj)], by omega, by omega, by go_num, by go_num, HJ3, HT2, HC3, HN3, HG3⟩
                case measure => simp [intOf]; omega
              · have HX := Lib.hid hJx3
                clear hJx3
                gi_wp2_with fail
                (first | go_end0 | (simp only [Exit.noGoto]; go_end0))
                exact ⟨⟨_, rfl⟩, .inr ⟨_, trivial, HX.out⟩⟩
            · obtain ⟨gr, r1, rc1, rfl, d1, d2⟩ := grid_at HGd.out (q + 1) _ (gridOf_at p rest m (q + 1) (by omega))
              obtain ⟨gr', r2, rc2, e3, d3, d4⟩ := grid_at HGd.out q _ (gridOf_at p rest m q (by omega))
              cases e3
              rw [rowOf_len] at d1 d3
              obtain ⟨rb1, ro1, rfl, d5⟩ := nums_at d2 Jj _ (rowOf_at _ m Jj (by omega))
              obtain ⟨rb2, ro2, rfl, d6⟩ := nums_at d4 (Jj + 1) _ (rowOf_at _ m (Jj + 1) (by omega))
              have HA := Lib.hid (way_a l m (I + q) Jj x y hlx hy hxy)
              have HB := Lib.hid (way_b l m (I + q) Jj x y hlx hy hxy)
              have ed1 := HDr.out q (by omega)
              have ed2 := HDr.out (q + 1) (by omega)
              rw [← Nat.add_assoc] at ed2
              rw [← ed2] at d5
              rw [← ed1] at d6
              obtain ⟨n1, hn1⟩ : ∃ n, n = lcsN (l.drop (I + q + 1)) (m.drop Jj) := ⟨_, rfl⟩
              obtain ⟨n2, hn2⟩ : ∃ n, n = lcsN (l.drop (I + q)) (m.drop (Jj + 1)) := ⟨_, rfl⟩
              rw [← hn1] at d5 HA HB
              rw [← hn2] at d6 HA HB
              have hb2 : ((x == y) = false) := by simp [hxy]
              have HBd : Hid (Below wr.heap.size wr wr.drew.drew) := Lib.hid ((Below.refl _ wr).drew.drew)
              have HJ3 := Lib.hid (HSt.out pre wr _ HJ.out HBd.out)
              have HC3 := Lib.hid (HC.out.kept HBd.out)
              have HN3 := Lib.hid (HN.out.kept HBd.out)
              have HG3 := Lib.hid (HGd.out.kept HBd.out)
              clear hx hy hlx d2 d4 ed1 ed2 hn1 hn2
              by_cases hge : n2 ≤ n1
              · have HT2 : Hid (wayC 0 0 l m = prP pre ++ wayC (I + (q + 1)) Jj (l.drop (I + (q + 1))) (m.drop Jj)) := Lib.hid (by rw [HT.out, HA.out hge, Nat.add_assoc])
                clear HA HB
                gi_wp2_with fail
                refine wpIn_wide.2 ?_
                go_region
                gi_wp2_with fail
                refine wpIn_wide.2 ?_
                go_region
                clear c1 c2 d1 d3 d5 d6 k5
                gi_wp2_with fail
                go_roundw
                case rel => exact ⟨Jj, q + 1, pre, hJm, by omega, rfl, by go_num, HJ3, HT2, HC3, HN3, HG3⟩
                case measure => simp [intOf]; omega
              · have HT2 : Hid (wayC 0 0 l m = prP pre ++ wayC (I + q) (Jj + 1) (l.drop (I + q)) (m.drop (Jj + 1))) := Lib.hid (by rw [HT.out, HB.out hge])
                clear HA HB
                gi_wp2_with fail
                refine wpIn_wide.2 ?_
                go_region
                gi_wp2_with fail
                refine wpIn_wide.2 ?_
                go_region
                clear c1 c2 d1 d3 d5 d6 k5
                gi_wp2_with fail
                go_roundw
                case rel => exact ⟨Jj + 1, q, pre, by omega, hq, by go_num, rfl, HJ3, HT2, HC3, HN3, HG3⟩
                case measure => simp [intOf]; omega
          · obtain rfl : Jj = m.length := by omega
            have E : Hid (prP pre = wayC 0 0 l m) := Lib.hid (by rw [HT.out, way_end l m (I + q) m.length (.inr (Nat.le_refl _)), List.append_nil])
            gi_wp2_with fail
            (first | go_end0 | (simp only [Exit.noGoto]; go_end0))
            exact ⟨⟨_, rfl⟩, .inl ⟨_, E.out, HJ.out⟩⟩
        · obtain rfl : q = p.length := by omega
          have HI2 := Lib.hid HIn.out.2
          have hi5 := HIn.out.1
          have hwi : IntKind.i64.wrap ((I : Int) + (p.length : Int)) = (I : Int) + (p.length : Int) := IntWalk.i64_in _ (by omega)
          gi_wp2_with fail
          go_roundw
          case rel => exact ⟨I + p.length, Jj, K + 1, pre, by omega, hJm, hi5, by go_num, rfl, by go_num, HI2, HJ, HT, HC⟩
          case measure => simp [intOf]; omega
    · obtain rfl : K = ps.length := by omega
      have E : Hid (prP pre = wayC 0 0 l m) := Lib.hid (by
        rw [HT.out, way_end l m I Jj (.inl (by rw [HI.out, List.take_length, HFl.out]; exact Nat.le_refl _)), List.append_nil])
      gi_wp2_with fail
      (first | go_end0 | (simp only [Exit.noGoto]; go_end0))
      exact ⟨⟨_, rfl⟩, .inl ⟨_, E.out, HJ.out⟩⟩
end Go.Proofs.YtdenehnneloegaaGreatDoor
