/-
  slices.Grow, slices.Concat and slices.Clone, at lists of rows.
  Conditions: lists of at most 2^40 elements.
-/
import Derived.WalkKit
import Derived.WalkMore
import Derived.Lib.Hide
import Derived.Lib.SliceRun
import Derived.Lib.AppendZerosOnto
import Derived.Laws.AppendOwn
import Derived.Test.YtigijgcldgbokaaGreatProg
import Derived.Test.YtigijgcldgbokaaGreatEVal
namespace Go.Proofs.YtigijgcldgbokaaGreat
open Go.RowKit Go.Shelf
set_option linter.unusedVariables false

theorem own_cellsR {w : World} {base : Nat} {e : TypeId} {v : Value} {vs : List Value} {n : Nat} (h : w.ownsRow base e 1 v n vs) : ∃ (ao : Option Addr) (cap : Cap ao vs.length), v = .slice ao vs.length cap.1 ∧ CellsAt w ao vs ∧ ∀ A, ao = some A → base ≤ A.block := by
  have hl : vs.length = n := by have := h.1; omega
  subst hl
  rcases h.2 with ⟨rfl, h0⟩ | ⟨g, cap, cur, rfl, hb, hg, hc, _⟩
  · have := List.eq_nil_of_length_eq_zero h0
    subst this
    exact ⟨none, ⟨0, Nat.le_refl _, fun _ => rfl⟩, rfl, .inl rfl, fun A hA => by cases hA⟩
  · exact ⟨some ⟨g, 0, none⟩, ⟨cap, hc, fun e => by cases e⟩, rfl, .inr ⟨_, rfl, lt_of_heap hg, fun i u hu => h.cells rfl i u hu⟩, fun A hA => by cases hA; exact hb⟩

set_option maxRecDepth 100000 in
set_option maxHeartbeats 2000000 in
theorem growR (n : Nat) (w : World) (hn : n ≤ 1099511627776) :
    Calls Tryz.prog 104 #[.slice none 0 0, .int .i64 n] w fun e w' => ∃ v, e = .returned v ∧ w'.ownsRow w.heap.size 22 1 v 0 [] ∧ Below w.heap.size w w' := by
  have hinfo : (Tryz.prog.info? 22).map (fun i => (i.zero, i.size, i.bytes)) = some (some (.slice none 0 0), 1, 24) := by kernel_rfl
  obtain ⟨i0, hi, hz0, hz1, hz2⟩ := info_parts hinfo
  rcases Nat.eq_zero_or_pos n with h0 | hpos
  · subst h0
    clear hi hz0 hz1 hz2 hinfo
    go_enter Tryz.func104, Tryz.ntmps104
    go_wp2_with fail
    go_ret
    exact ⟨_, rfl, World.ownsRow_nil _ _ _ _, Below.refl _ _⟩
  · have hold : (Builtin.firstCells i0.size 0 (.slice none 0 0)).run Tryz.prog w.drew = .ok ([] : List Value).toArray w.drew := by rw [hz1]; rfl
    obtain ⟨G, HG⟩ : ∃ G, Hid (G = grownCap w (0 + n) 0 22) := ⟨_, Lib.hid rfl⟩
    have hrz := Lib.run_append_grow_zeros w 23 3 23 22 i0 _ .i64 .i64 Tryz.underlying23 Tryz.underlying3 hi hz0 none 0 0 [] hold n hpos (by rw [hz1]; omega) (by omega) (by omega) (by rw [hz2]; omega) (by rw [hz2]; exact growslice_fits (by omega) (by omega))
    rw [← HG.out] at hrz
    have hGn : n ≤ G := by rw [HG.out]; exact Nat.le_trans (by omega) (grownCap_ge w _ _ _)
    have hGm : G ≤ maxLen := by rw [HG.out]; exact grownCap_le_maxLen w _ _ _ (by unfold maxLen; omega)
    obtain ⟨L, HL⟩ : ∃ L : Array Value, Hid (L = (([] : List Value).toArray ++ Builtin.zeroCells (.slice none 0 0 : Value).cells n ++ Builtin.zeroCells (.slice none 0 0 : Value).cells (G - (0 + n)))) := ⟨_, Lib.hid rfl⟩
    have hLs : L.size = G * 1 := by rw [HL.out]; simp [Builtin.zeroCells, Value.cells]; omega
    rw [← HL.out, Nat.zero_add] at hrz
    obtain ⟨W1, HW1⟩ : ∃ W1, Hid (W1 = w.drew.alloc (.cells L 22)) := ⟨_, Lib.hid rfl⟩
    have hown : W1.ownsRow w.heap.size 22 1 (.slice (some ⟨w.heap.size, 0, none⟩) 0 G) 0 [] := by
      rw [HW1.out]; exact World.ownsRow_made w.drew L G (Nat.le_refl _) hGm hLs
    have hb1 : Below w.heap.size w W1 := by rw [HW1.out]; exact ((Below.refl _ w).drew).alloc (Nat.le_refl _) _
    rw [← HW1.out] at hrz
    have HRZ := Lib.hid hrz
    have HO := Lib.hid hown
    have HB := Lib.hid hb1
    have hG0 : ¬ (G = 0) := by omega
    clear hown hb1 hrz hinfo hi hz0 hz1 hz2 hold hLs hGm
    go_enter Tryz.func104, Tryz.ntmps104
    go_wp2_with (at_builtin; refine Lib.wpList_append_run _ rfl _ _ _ _ rfl _ _ rfl rfl _ _ HRZ.out ?_)
    go_ret
    exact ⟨_, rfl, HO.out, HB.out⟩

def lensTR (ps : List PartE) : Nat := (ps.map fun p => p.vs.length).sum
def flatTR (ps : List PartE) : List Value := ps.flatMap fun p => p.vs
theorem flat_lenR (ps : List PartE) : (flatTR ps).length = lensTR ps := by
  induction ps with
  | nil => rfl
  | cons p ps ih => simp only [flatTR, lensTR, List.flatMap_cons, List.length_append, List.map_cons, List.sum_cons] at ih ⊢; omega
theorem lens_nextR (ps : List PartE) (k : Nat) (p : PartE) (h : ps[k]? = some p) : lensTR (ps.take (k + 1)) = lensTR (ps.take k) + p.vs.length ∧ lensTR (ps.take (k + 1)) ≤ lensTR ps := by
  obtain ⟨hk, e⟩ := List.getElem?_eq_some_iff.1 h
  constructor
  · rw [List.take_succ_eq_append_getElem hk, e]; simp [lensTR]
  · have e2 : lensTR ps = lensTR (ps.take (k + 1)) + lensTR (ps.drop (k + 1)) := by
      conv => lhs; rw [← List.take_append_drop (k + 1) ps]
      unfold lensTR; rw [List.map_append, List.sum_append]
    omega
theorem flat_nextR (ps : List PartE) (k : Nat) (p : PartE) (h : ps[k]? = some p) : flatTR (ps.take (k + 1)) = flatTR (ps.take k) ++ p.vs := by
  obtain ⟨hk, e⟩ := List.getElem?_eq_some_iff.1 h
  rw [List.take_succ_eq_append_getElem hk, e]; simp [flatTR]

set_option maxRecDepth 100000 in
set_option maxHeartbeats 4000000 in
theorem concatR (g cap : Nat) (ps : List PartE) (w : World) (hn : ps.length ≤ 1000) (hc : ∀ (i : Nat) p, ps[i]? = some p → w.cell? ⟨g, i, none⟩ = some p.val) (hg : g < w.heap.size) (hp : ∀ p ∈ ps, CellsAt w p.ao p.vs ∧ ∀ u ∈ p.vs, u.oneCell' = true) (hsum : lensTR ps ≤ 1099511627776) :
    Calls Tryz.prog 74 #[.slice (some ⟨g, 0, none⟩) ps.length cap] w (VOut (.ok (flatTR ps)) w) := by
  have hinfo : (Tryz.prog.info? 22).map (fun i => (i.zero, i.size, i.bytes)) = some (some (.slice none 0 0), 1, 24) := by kernel_rfl
  obtain ⟨i0, hi, hz0, hz1, hz2⟩ := info_parts hinfo
  have HI := Lib.hid hi
  have HC := Lib.hid hc
  have HP := Lib.hid hp
  have G := Lib.hid (growR (lensTR ps) w hsum)
  have HS := Lib.hid hsum
  clear hi hinfo hc hp
  go_enter Tryz.func74, Tryz.ntmps74
  go_wp2_with fail
  go_loopw [3, 11] (fun s i wr => ∃ k : Nat, k ≤ ps.length ∧ s = .int .i64 (lensTR (ps.take k)) ∧ i = .int .i64 k ∧ wr = w) (fun _ i _ => ps.length - (intOf i).toNat)
  case atStart => exact ⟨0, Nat.zero_le _, rfl, rfl, rfl⟩
  case round =>
    obtain ⟨k, hk, rfl, rfl, hww⟩ := hrel
    subst hww
    by_cases hlt : k < ps.length
    · obtain ⟨p, hpk⟩ : ∃ p, ps[k]? = some p := ⟨_, List.getElem?_eq_getElem hlt⟩
      have hcell := HC.out k p hpk
      have hnx := lens_nextR ps k p hpk
      have HN := Lib.hid hnx
      obtain ⟨t, ht⟩ : ∃ t, t = lensTR (ps.take k) := ⟨_, rfl⟩
      have hle : t + p.vs.length ≤ 1099511627776 := by rw [ht]; omega
      have HT : Hid (lensTR (ps.take (k + 1)) = t + p.vs.length) := Lib.hid (by rw [ht]; exact hnx.1)
      rw [← ht]
      clear hnx hpk ht
      unfold PartE.val at hcell
      go_wp2_with fail
      go_roundw
      case rel => exact ⟨k + 1, by omega, by rw [HT.out]; go_num, by go_num, by first | rfl | trivial⟩
      case measure => simp [intOf]; omega
    · obtain rfl : k = ps.length := by omega
      rw [List.take_length]
      obtain ⟨wo, rfl⟩ : ∃ wo : World, wo = wr := ⟨_, rfl⟩
      go_wp2_with fail
      refine G.out.mono ?_; rintro e w1 ⟨v, rfl, hown, hb⟩
      have HO : Hid (w1.ownsRow wo.heap.size 22 1 v (flatTR (ps.take 0)).length (flatTR (ps.take 0))) := Lib.hid hown
      have HB := Lib.hid hb
      clear hown hb G
      go_wp2_with fail
      go_loopw [6, 27] (fun s i wr => ∃ k : Nat, k ≤ ps.length ∧ i = .int .i64 k ∧ Hid (wr.ownsRow wo.heap.size 22 1 s (flatTR (ps.take k)).length (flatTR (ps.take k))) ∧ Hid (Below wo.heap.size wo wr)) (fun _ i _ => ps.length - (intOf i).toNat)
      case atStart => exact ⟨0, Nat.zero_le _, rfl, HO, HB⟩
      case round =>
        obtain ⟨k, hk, rfl, HO, HB⟩ := hrel
        by_cases hlt : k < ps.length
        · obtain ⟨p, hpk⟩ : ∃ p, ps[k]? = some p := ⟨_, List.getElem?_eq_getElem hlt⟩
          have hcell := (HB.out.cell (p := ⟨g, k, none⟩) hg).trans (HC.out k p hpk)
          have HPK := Lib.hid (HP.out p (List.mem_of_getElem? hpk))
          have HFN := Lib.hid (flat_nextR ps k p hpk)
          have hle : (flatTR (ps.take k)).length + p.vs.length ≤ 1099511627776 := by rw [flat_lenR]; have := lens_nextR ps k p hpk; have := HS.out; omega
          unfold PartE.val at hcell
          clear hpk
          go_wp2_with (at_builtin; refine wpList_append_any rfl _ _ 23 rfl wo.heap.size 22 i0 (.slice none 0 0) 1 24 Tryz.underlying23 HI.out hz0 hz1 hz2 rfl (by decide) _ _ _ rfl HO.out p.ao p.vs.length p.cap.1 p.vs rfl ?c0 (by simp) ?c1 HPK.out.2 ?c3 ?c4 HB.out.size ?_)
          case c0 => intro h; have := p.cap.2; have := this.2 h; omega
          case c1 =>
            intro ad had j u hu
            rcases HPK.out.1.kept HB.out with h0 | ⟨A, hA, _, hcc⟩
            · rw [h0] at hu; simp at hu
            · rw [hA] at had; cases had; exact hcc j u hu
          case c3 => unfold maxLen; omega
          case c4 => omega
          intro v' w3 hown' hgrow
          have HO' : Hid (w3.ownsRow wo.heap.size 22 1 v' (flatTR (ps.take (k + 1))).length (flatTR (ps.take (k + 1)))) := Lib.hid (by rw [HFN.out, List.length_append]; exact hown')
          have HB' := Lib.hid (HB.out.trans ((Below.refl _ wr).grown hgrow HB.out.size (fun j hj => (HO.out.lt j hj).1)))
          clear hown' hgrow
          go_wp2_with fail
          go_roundw
          case rel => exact ⟨k + 1, by omega, by go_num, HO', HB'⟩
          case measure => simp [intOf]; omega
        · obtain rfl : k = ps.length := by omega
          rw [List.take_length] at HO
          go_wp2_with fail
          go_ret
          obtain ⟨ao, cp, h1, h2⟩ := own_cellsR HO.out
          exact ⟨ao, cp, by rw [h1]; rfl, h2, HB.out⟩

end Go.Proofs.YtigijgcldgbokaaGreat
