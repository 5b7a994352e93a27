/-
  The places of the longest common row, told pair by pair.
  Conditions: lists of at most 4096 numbers.
-/
import Derived.Deep.OwnRows
import Derived.WalkKit
import Derived.WalkMore
import Derived.IntWalk
import Derived.WalkArith
import Derived.OwnWalkIn
import Derived.TacticsInMore
import Derived.LoopNIn
import Derived.LoopIn
import Derived.Lib.Hide
import Derived.RegionTactic
import Derived.Deep.RegionHeld3
import Derived.Test.YtcdamnnbpifhpaaProg
import Derived.Test.YtcdamnnbpifhpaaLcLength
namespace Go.Proofs.Ytcdamnnbpifhpaa
open Go.RowKit Go.Shelf
set_option linter.unusedVariables false
attribute [local go_sem] Oper.semAt_some

def prP (pre : List (Nat × Nat)) : List (Int × Int) := pre.map fun x => ((x.1 : Int), (x.2 : Int))
theorem prP_snoc (pre : List (Nat × Nat)) (i j : Nat) : prP (pre ++ [(i, j)]) = prP pre ++ [((i : Int), (j : Int))] := by simp [prP]
/-- what lies in memory while pairs are told -/
structure ComMem (Bb g2 : Nat) (m : List Int) (so fo : Option Addr) (ps : List (List Int)) (W : World) : Prop where
  box : W.heap[Bb]? = some (.cells #[.slice (some ⟨g2, 0, none⟩) m.length m.length] 37 (0, 0))
  nums : NumsAt W (some ⟨g2, 0, none⟩) m
  split : GridAt W so ps
  first : GridAt W fo (firstOf ps m)
theorem ComMem.kept {Bb g2 : Nat} {m : List Int} {so fo : Option Addr} {ps : List (List Int)} {W W' : World} (h : ComMem Bb g2 m so fo ps W) (k : Below W.heap.size W W') : ComMem Bb g2 m so fo ps W' :=
  ⟨below_kept k h.box, h.nums.kept k, h.split.kept k, h.first.kept k⟩
theorem ComMem.tied {Bb g2 : Nat} {m : List Int} {so fo : Option Addr} {ps : List (List Int)} {W W' : World} (h : ComMem Bb g2 m so fo ps W) (k : KeepsTy W W') : ComMem Bb g2 m so fo ps W' :=
  ⟨k _ _ _ _ h.box (by decide) (by decide), h.nums.tied k, h.split.tied k, h.first.tied k⟩
theorem grid_at {w : World} {ao : Option Addr} {rs : List (List Int)} (h : GridAt w ao rs) (i : Nat) (r : List Int) (hr : rs[i]? = some r) : ∃ g ro cap, ao = some ⟨g, 0, none⟩ ∧ w.cell? ⟨g, i, none⟩ = some (.slice ro r.length cap) ∧ NumsAt w ro r := by
  rcases h with h | ⟨g, rfl, _, h3⟩
  · subst h; simp at hr
  · obtain ⟨ro, cap, h4, h5⟩ := h3 i r hr
    exact ⟨g, ro, cap, rfl, h4, h5⟩
theorem nums_at {w : World} {ao : Option Addr} {l : List Int} (h : NumsAt w ao l) (i : Nat) (p : Int) (hp : l[i]? = some p) : ∃ b o, ao = some ⟨b, o, none⟩ ∧ w.cell? ⟨b, o + i, none⟩ = some (.int .i64 p) := by
  rcases h with h | ⟨b, o, rfl, _, h3⟩
  · subst h; simp at hp
  · exact ⟨b, o, rfl, h3 i p hp⟩
theorem way_few (l m : List Int) (pre : List (Nat × Nat)) (R : List (Int × Int)) (x : Int × Int) (h : wayL 0 0 l m = prP pre ++ (x :: R)) : pre.length < l.length := by
  have h1 := congrArg List.length h
  rw [way_len, List.length_append] at h1
  have h2 := (lcs_le l m).1
  simp [prP] at h1
  omega
theorem flat_take (ps : List (List Int)) (k : Nat) (p : List Int) (h : ps[k]? = some p) : (ps.take (k + 1)).flatten.length = (ps.take k).flatten.length + p.length := by
  obtain ⟨hk, e⟩ := List.getElem?_eq_some_iff.1 h
  rw [List.take_succ_eq_append_getElem hk, e]; simp
theorem flat_drop (ps : List (List Int)) (k : Nat) : ps.flatten.drop (ps.take k).flatten.length = (ps.drop k).flatten := by
  conv => lhs; arg 2; rw [← List.take_append_drop k ps]
  rw [List.flatten_append, List.drop_left]
/-- a place of the whole list in a part of it -/
theorem flat_at (ps : List (List Int)) (k : Nat) (p : List Int) (h : ps[k]? = some p) (q : Nat) (hq : q ≤ p.length) : ps.flatten.drop ((ps.take k).flatten.length + q) = p.drop q ++ (ps.drop (k + 1)).flatten := by
  rw [← List.drop_drop, flat_drop, drop_at ps k p h, List.flatten_cons, List.drop_append_of_le_length hq]
theorem flat_get (ps : List (List Int)) (k : Nat) (p : List Int) (h : ps[k]? = some p) (q : Nat) (x : Int) (hx : p[q]? = some x) : ps.flatten[(ps.take k).flatten.length + q]? = some x := by
  have hq := (List.getElem?_eq_some_iff.1 hx).1
  have := flat_at ps k p h q (by omega)
  rw [drop_at p q x hx] at this
  have h2 := congrArg (fun l => l[0]?) this
  simpa using h2

set_option maxRecDepth 100000 in
set_option maxHeartbeats 4000000 in
theorem common1_tells (n g1 g2 : Nat) (l m : List Int) (Ba Bb : Nat) (w : World) (hN : l.length ≤ 4096) (hM : m.length ≤ 4096) (hba : w.heap[Ba]? = some (.cells #[.slice (some ⟨g1, 0, none⟩) l.length l.length] 37 (0, 0))) (hbb : w.heap[Bb]? = some (.cells #[.slice (some ⟨g2, 0, none⟩) m.length m.length] 37 (0, 0))) (hl : NumsAt w (some ⟨g1, 0, none⟩) l) (hm : NumsAt w (some ⟨g2, 0, none⟩) m) :
    Tells Fence.wide n Try.prog 20 #[.pointer (some ⟨Ba, 0, none⟩), .pointer (some ⟨Bb, 0, none⟩)] (fun x : Nat × Nat => #[Value.int .i64 (x.1 : Int), Value.int .i64 (x.2 : Int)]) KeepsTy (fun pre x _ => pre.length < 4096) (fun _ _ => True) (fun pre => prP pre = wayL 0 0 l m) (fun _ => True) w := by
  intro lp J Jx W hW hJ hJx hRm hY h0
  have HY := Lib.hid hY
  have HSt := Lib.hid hJ
  have H0 := Lib.hid h0
  obtain ⟨ca, _⟩ := cell_of_box_l ((hW.block Ba (lt_of_heap hba)).trans hba)
  have HBb := Lib.hid ((hW.block Bb (lt_of_heap hbb)).trans hbb)
  have HLn := Lib.hid ((hl.kept (Below.refl _ _)))
  have HW := Lib.hid hW
  have HMn := Lib.hid (hm.kept hW)
  have C1 := Lib.hid (parts_any g1 l W hN (hl.kept hW))
  clear hJ hRm hY hJx hW hba hbb h0 hl hm HLn
  refine callsIn_of_wp Try.func20 rfl trivial ?_ rfl
  simp only [Try.ntmps20, List.size_toArray, List.length_cons, List.length_nil, Nat.reduceAdd, Nat.reduceSub, Array.replicate_succ, Array.replicate_zero, List.push_toArray, List.append_toArray, List.nil_append, List.cons_append]
  gi_wp2_with fail
  refine wpIn_wide.2 (wp_scope_straight ((wpIn_wide (n := n)).1 ?_))
  gi_wp2_with fail
  refine ⟨trivial, (fun h => by cases h), (callsIn_wide.2 C1.out).mono ?_⟩
  rintro e w1 ⟨cs, so, sc, hch, rfl, hsp, hb1⟩
  obtain ⟨e3, e4⟩ := chunk_lens hch
  obtain ⟨ps, HPS⟩ : ∃ ps, Hid (ps = cs.map (cutOf l)) := ⟨_, Lib.hid rfl⟩
  rw [← HPS.out] at hsp e3 e4
  rw [← e3]
  have HFl : Hid (ps.flatten = l) := Lib.hid (by rw [HPS.out]; exact hch.all)
  have hpn : ps.length ≤ 4096 := by rw [e3]; have := hch.few; omega
  have HPL : Hid (∀ p ∈ ps, p.length ≤ 4096) := Lib.hid (fun p hp => by have := e4 p hp; omega)
  have hbx := below_kept hb1 HBb.out
  obtain ⟨cb, _⟩ := cell_of_box_l hbx
  have HBx := Lib.hid hbx
  have HJ1 := Lib.hid (HSt.out [] _ _ H0.out hb1)
  have HSp := Lib.hid hsp
  have HMn1 := Lib.hid (HMn.out.kept hb1)
  have C2 := Lib.hid (firstRows_any so (some ⟨g2, 0, none⟩) sc m.length ps m w1 hpn HPL.out hM hsp HMn1.out)
  clear hch hsp hb1 e3 e4 C1 HBb H0 ca HMn hbx
  gi_wp2_with fail
  refine ⟨trivial, (fun h => by cases h), (callsIn_wide.2 C2.out).mono ?_⟩
  rintro e w2 ⟨fo, fc, rfl, hgf, hb2⟩
  rw [firstOf_len]
  have HC0 : Hid (ComMem Bb g2 m so fo ps w2) := Lib.hid ⟨below_kept hb2 HBx.out, HMn1.out.kept hb2, HSp.out.kept hb2, hgf⟩
  have HJ2 := Lib.hid (HSt.out [] _ _ HJ1.out hb2)
  clear hgf hb2 C2 HJ1 HBx HSp HMn1 cb
  gi_wp2_with fail
  refine wpIn_wide.2 (wp_label ?_)
  gi_wp2_with fail
  gi_loopw [6, 7, 19] (fun i j k wr => ∃ (I Jj K : Nat) (pre : List (Nat × Nat)), K ≤ ps.length ∧ Jj ≤ m.length ∧ I ≤ 4096 ∧ i = .int .i64 I ∧ j = .int .i64 Jj ∧ k = .int .i64 K ∧ Hid (I = (ps.take K).flatten.length) ∧ Hid (J pre wr) ∧ Hid (wayL 0 0 l m = prP pre ++ wayL I Jj (l.drop I) (m.drop Jj)) ∧ Hid (ComMem Bb g2 m so fo ps wr)) (fun _ _ k _ => ps.length - (intOf k).toNat)
  case atStart => exact ⟨0, 0, 0, [], Nat.zero_le _, Nat.zero_le _, Nat.zero_le _, rfl, rfl, rfl, Lib.hid (by simp), HJ2, Lib.hid (by simp [prP]), HC0⟩
  case round =>
    obtain ⟨I, Jj, K, pre, hK, hJm, hI4, rfl, rfl, rfl, HI, HJ, HT, HC⟩ := hrel
    clear HC0 HJ2
    by_cases hlt : K < ps.length
    · obtain ⟨p, hp⟩ : ∃ p, ps[K]? = some p := ⟨_, List.getElem?_eq_getElem hlt⟩
      have hpl := HPL.out p (List.mem_of_getElem? hp)
      obtain ⟨gs, po, pc, rfl, k1, k2⟩ := grid_at HC.out.split K p hp
      obtain ⟨gf, lo, lc, rfl, k3, k4⟩ := grid_at HC.out.first (K + 1) _ (firstOf_at ps m (K + 1) (by omega))
      rw [rowOf_len] at k3
      obtain ⟨k5, _⟩ := cell_of_box_l HC.out.box
      have HIn : Hid (I + p.length ≤ 4096 ∧ I + p.length = (ps.take (K + 1)).flatten.length) := Lib.hid (by
        have h1 := flat_take ps K p hp
        rw [← HI.out] at h1
        refine ⟨?_, h1.symm⟩
        rw [← h1]
        have h2 : (ps.take (K + 1)).flatten.length ≤ ps.flatten.length := by
          conv => rhs; rw [← List.take_append_drop (K + 1) ps, List.flatten_append, List.length_append]
          omega
        rw [HFl.out] at h2; omega)
      have HDr : Hid (∀ q, q ≤ p.length → l.drop (I + q) = p.drop q ++ (ps.drop (K + 1)).flatten) := Lib.hid (fun q hq => by rw [← HFl.out, HI.out]; exact flat_at ps K p hp q hq)
      have HGt : Hid (∀ q x, p[q]? = some x → l[I + q]? = some x) := Lib.hid (fun q x hx => by rw [← HFl.out, HI.out]; exact flat_get ps K p hp q x hx)
      obtain ⟨rest, HRs⟩ : ∃ rest, Hid (rest = (ps.drop (K + 1)).flatten) := ⟨_, Lib.hid rfl⟩
      rw [← HRs.out] at k4 HDr
      have HCl : Hid (∀ W, Below wr.heap.size wr W → Calls Try.prog 21 #[.slice po p.length pc, .slice (some ⟨g2, 0, none⟩) m.length m.length, .slice lo (m.length + 1) lc] W (GridOut (gridOf p rest m) W)) := Lib.hid (fun W hW =>
        lcLengths_any po (some ⟨g2, 0, none⟩) lo pc m.length lc p m rest W hpl hM (k2.kept hW) (HC.out.nums.kept hW) (k4.kept hW))
      have HNp := Lib.hid k2
      have HBel : Hid (Below wr.heap.size wr wr.drew) := Lib.hid (bdn (n := 1) (Below.refl _ _))
      have HKp : Hid (∀ W, Below wr.heap.size wr W → W.cell? ⟨Bb, 0, none⟩ = some (.slice (some ⟨g2, 0, none⟩) m.length m.length) ∧ W.cell? ⟨gf, K + 1, none⟩ = some (.slice lo (m.length + 1) lc)) := Lib.hid (fun W hW => ⟨(hW.cell (p := ⟨Bb, 0, none⟩) (block_lt_of_cell k5)).trans k5, (hW.cell (p := ⟨gf, K + 1, none⟩) (block_lt_of_cell k3)).trans k3⟩)
      have hm0 : IntKind.i64.wrap ((K : Int) + 1) = (K : Int) + 1 := IntWalk.i64_in _ (by omega)
      have hm1 : (0 : Int) ≤ (K : Int) + 1 := by omega
      have hm2 : (K : Int) + 1 ≤ (ps.length : Int) := by omega
      have hm3 : (0 : Int) ≤ (K : Int) := by omega
      clear hp k2 k4
      gi_wp2_with fail
      refine wpIn_wide.2 ?_
      go_region_held3 (fun W => W.cell? ⟨Bb, 0, none⟩ = some (.slice (some ⟨g2, 0, none⟩) m.length m.length) ∧ W.cell? ⟨gf, K + 1, none⟩ = some (.slice lo (m.length + 1) lc)) ((refine ⟨?_, ?_⟩ <;> first | assumption | go_keep))
        (first | (go_at_call 21; refine (HCl.out _ HBel.out).mono ?_; rintro e w3 ⟨ro, rc, rfl, hgrid, b2⟩; rw [gridOf_len]; have HGd := Lib.hid hgrid; have HBel := Lib.hid (below_up HBel.out b2); obtain ⟨y1, y2⟩ := HKp.out w3 HBel.out; clear hgrid b2))
      rename_i hHeld
      clear hHeld y1 y2 k1 k3 k5 hm1 hm2 hm3 HKp HCl
      have HJ3 := Lib.hid (HSt.out pre wr w3 HJ.out HBel.out)
      have HC3 := Lib.hid (HC.out.kept HBel.out)
      have HN3 := Lib.hid (HNp.out.kept HBel.out)
      clear HBel HC HNp HJ
      gi_wp2_with fail
      obtain ⟨wo, rfl⟩ : ∃ wo : World, wo = wr := ⟨_, rfl⟩
      gi_loopw [7, 11] (fun j a wr => ∃ (Jj q : Nat) (pre : List (Nat × Nat)), Jj ≤ m.length ∧ q ≤ p.length ∧ j = .int .i64 Jj ∧ a = .int .i64 q ∧ Hid (J pre wr) ∧ Hid (wayL 0 0 l m = prP pre ++ wayL (I + q) Jj (l.drop (I + q)) (m.drop Jj)) ∧ Hid (ComMem Bb g2 m (some ⟨gs, 0, none⟩) (some ⟨gf, 0, none⟩) ps wr) ∧ Hid (NumsAt wr po p) ∧ Hid (GridAt wr ro (gridOf p rest m))) (fun j a _ => (p.length - (intOf a).toNat) + (m.length - (intOf j).toNat))
      case atStart => exact ⟨Jj, 0, pre, hJm, Nat.zero_le _, rfl, rfl, HJ3, Lib.hid (by rw [Nat.add_zero]; exact HT.out), HC3, HN3, HGd⟩
      case round =>
        clear HJ3 HC3 HN3 HGd HT hJm
        obtain ⟨Jj, q, pre, hJm, hq, rfl, rfl, HJ, HT, HC, HN, HGd⟩ := hrel
        obtain ⟨k5, _⟩ := cell_of_box_l HC.out.box
        by_cases hql : q < p.length
        · by_cases hjl : Jj < m.length
          · have hb1 : ((Jj : Int) == (m.length : Int)) = false := by rw [beq_eq_false_iff_ne]; omega
            obtain ⟨x, hx⟩ : ∃ x, p[q]? = some x := ⟨_, List.getElem?_eq_getElem hql⟩
            obtain ⟨y, hy⟩ : ∃ y, m[Jj]? = some y := ⟨_, List.getElem?_eq_getElem hjl⟩
            obtain ⟨pb, p0, rfl, c1⟩ := nums_at HN.out q x hx
            obtain ⟨b2, o2, e2, c2⟩ := nums_at HC.out.nums Jj y hy
            cases e2
            rw [Nat.zero_add] at c2
            have hlx := HGt.out q x hx
            have hiq : I + q ≤ 4096 := by have := HIn.out.1; omega
            by_cases hxy : x = y
            · have HW2 := Lib.hid (way_both l m (I + q) Jj x hlx (by rw [hxy]; exact hy))
              have HT2 : Hid (wayL 0 0 l m = prP (pre ++ [(I + q, Jj)]) ++ wayL (I + (q + 1)) (Jj + 1) (l.drop (I + (q + 1))) (m.drop (Jj + 1))) := Lib.hid (by
                rw [HT.out, HW2.out, prP_snoc]; simp [Nat.add_assoc])
              have hpf : pre.length < 4096 := by
                have h1 := HT.out
                rw [HW2.out] at h1
                have := way_few l m pre _ _ h1; omega
              obtain ⟨U, HU⟩ : ∃ U, Hid (U = wr.drew) := ⟨_, Lib.hid rfl⟩
              have HJU : Hid (J pre U) := Lib.hid (by rw [HU.out]; exact HSt.out pre wr wr.drew HJ.out ((Below.refl _ wr).drew))
              obtain ⟨fn, tmps, assign, body, hyd, hR⟩ := HY.out pre (I + q, Jj) U HJU.out hpf
              dsimp only at hyd
              rw [Int.natCast_add] at hyd
              have HR := Lib.hid hR
              have hwi : IntKind.i64.wrap ((I : Int) + (q : Int)) = (I : Int) + (q : Int) := IntWalk.i64_in _ (by omega)
              subst hxy
              have hb2 : ((x == x) = true) := by simp
              clear hx hy hlx hR HW2 HT HJ
              gi_wp2_with fail
              refine wpIn_wide.2 ?_
              go_region
              rw [← HU.out]
              clear c1 c2 k5 hb1 hb2
              gi_wp2_with fail
              refine ⟨(fun h => by cases h), HR.out.mono ?_⟩
              rintro ee W3 (⟨rfl, hJ3, hk3⟩ | ⟨rfl, hJx3⟩)
              · have hbU : Below wr.heap.size wr U := by rw [HU.out]; exact (Below.refl _ wr).drew
                have HJ3 := Lib.hid hJ3
                have HC3 := Lib.hid ((HC.out.kept hbU).tied hk3)
                have HN3 := Lib.hid ((HN.out.kept hbU).tied hk3)
                have HG3 := Lib.hid ((HGd.out.kept hbU).tied hk3)
                clear hJ3 hk3 hbU hyd HC HN HGd
                gi_wp2_with fail
                go_roundw
                case rel => exact ⟨Jj + 1, q + 1, pre ++ [(I + q, Jj)], by omega, by omega, by go_num, by go_num, HJ3, HT2, HC3, HN3, HG3⟩
                case measure => simp [intOf]; omega
              · have HX := Lib.hid hJx3
                clear hJx3
                gi_wp2_with fail
                (first | go_end0 | (simp only [Exit.noGoto]; go_end0))
                exact ⟨⟨_, rfl⟩, .inr ⟨_, trivial, HX.out⟩⟩
            · obtain ⟨gr, r1, rc1, rfl, d1, d2⟩ := grid_at HGd.out (q + 1) _ (gridOf_at p rest m (q + 1) (by omega))
              obtain ⟨gr', r2, rc2, e3, d3, d4⟩ := grid_at HGd.out q _ (gridOf_at p rest m q (by omega))
              cases e3
              rw [rowOf_len] at d1 d3
              obtain ⟨rb1, ro1, rfl, d5⟩ := nums_at d2 Jj _ (rowOf_at _ m Jj (by omega))
              obtain ⟨rb2, ro2, rfl, d6⟩ := nums_at d4 (Jj + 1) _ (rowOf_at _ m (Jj + 1) (by omega))
              have HA := Lib.hid (way_a l m (I + q) Jj x y hlx hy hxy)
              have HB := Lib.hid (way_b l m (I + q) Jj x y hlx hy hxy)
              have ed1 := HDr.out q (by omega)
              have ed2 := HDr.out (q + 1) (by omega)
              rw [← Nat.add_assoc] at ed2
              rw [← ed2] at d5
              rw [← ed1] at d6
              obtain ⟨n1, hn1⟩ : ∃ n, n = lcsN (l.drop (I + q + 1)) (m.drop Jj) := ⟨_, rfl⟩
              obtain ⟨n2, hn2⟩ : ∃ n, n = lcsN (l.drop (I + q)) (m.drop (Jj + 1)) := ⟨_, rfl⟩
              rw [← hn1] at d5 HA HB
              rw [← hn2] at d6 HA HB
              have hb2 : ((x == y) = false) := by simp [hxy]
              have HBd : Hid (Below wr.heap.size wr wr.drew.drew) := Lib.hid ((Below.refl _ wr).drew.drew)
              have HJ3 := Lib.hid (HSt.out pre wr _ HJ.out HBd.out)
              have HC3 := Lib.hid (HC.out.kept HBd.out)
              have HN3 := Lib.hid (HN.out.kept HBd.out)
              have HG3 := Lib.hid (HGd.out.kept HBd.out)
              clear hx hy hlx d2 d4 ed1 ed2 hn1 hn2
              by_cases hge : n2 ≤ n1
              · have HT2 : Hid (wayL 0 0 l m = prP pre ++ wayL (I + (q + 1)) Jj (l.drop (I + (q + 1))) (m.drop Jj)) := Lib.hid (by rw [HT.out, HA.out hge, Nat.add_assoc])
                clear HA HB
                gi_wp2_with fail
                refine wpIn_wide.2 ?_
                go_region
                gi_wp2_with fail
                refine wpIn_wide.2 ?_
                go_region
                clear c1 c2 d1 d3 d5 d6 k5
                gi_wp2_with fail
                go_roundw
                case rel => exact ⟨Jj, q + 1, pre, hJm, by omega, rfl, by go_num, HJ3, HT2, HC3, HN3, HG3⟩
                case measure => simp [intOf]; omega
              · have HT2 : Hid (wayL 0 0 l m = prP pre ++ wayL (I + q) (Jj + 1) (l.drop (I + q)) (m.drop (Jj + 1))) := Lib.hid (by rw [HT.out, HB.out hge])
                clear HA HB
                gi_wp2_with fail
                refine wpIn_wide.2 ?_
                go_region
                gi_wp2_with fail
                refine wpIn_wide.2 ?_
                go_region
                clear c1 c2 d1 d3 d5 d6 k5
                gi_wp2_with fail
                go_roundw
                case rel => exact ⟨Jj + 1, q, pre, by omega, hq, by go_num, rfl, HJ3, HT2, HC3, HN3, HG3⟩
                case measure => simp [intOf]; omega
          · obtain rfl : Jj = m.length := by omega
            have E : Hid (prP pre = wayL 0 0 l m) := Lib.hid (by rw [HT.out, way_end l m (I + q) m.length (.inr (Nat.le_refl _)), List.append_nil])
            gi_wp2_with fail
            (first | go_end0 | (simp only [Exit.noGoto]; go_end0))
            exact ⟨⟨_, rfl⟩, .inl ⟨_, E.out, HJ.out⟩⟩
        · obtain rfl : q = p.length := by omega
          have HI2 := Lib.hid HIn.out.2
          have hi5 := HIn.out.1
          have hwi : IntKind.i64.wrap ((I : Int) + (p.length : Int)) = (I : Int) + (p.length : Int) := IntWalk.i64_in _ (by omega)
          gi_wp2_with fail
          go_roundw
          case rel => exact ⟨I + p.length, Jj, K + 1, pre, by omega, hJm, hi5, by go_num, rfl, by go_num, HI2, HJ, HT, HC⟩
          case measure => simp [intOf]; omega
    · obtain rfl : K = ps.length := by omega
      have E : Hid (prP pre = wayL 0 0 l m) := Lib.hid (by
        rw [HT.out, way_end l m I Jj (.inl (by rw [HI.out, List.take_length, HFl.out]; exact Nat.le_refl _)), List.append_nil])
      gi_wp2_with fail
      (first | go_end0 | (simp only [Exit.noGoto]; go_end0))
      exact ⟨⟨_, rfl⟩, .inl ⟨_, E.out, HJ.out⟩⟩
end Go.Proofs.Ytcdamnnbpifhpaa
