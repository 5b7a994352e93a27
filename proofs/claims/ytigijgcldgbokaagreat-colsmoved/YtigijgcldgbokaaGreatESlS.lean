/-
  slices.Grow, slices.Concat and slices.Clone, at lists of strings.
  Conditions: lists of at most 2^40 elements.
-/
import Derived.WalkKit
import Derived.WalkMore
import Derived.Lib.Hide
import Derived.Lib.SliceRun
import Derived.Lib.AppendZerosOnto
import Derived.Laws.AppendOwn
import Derived.Test.YtigijgcldgbokaaGreatProg
import Derived.Test.YtigijgcldgbokaaGreatEVal
namespace Go.Proofs.YtigijgcldgbokaaGreat
open Go.RowKit Go.Shelf
set_option linter.unusedVariables false

theorem own_cellsS {w : World} {base : Nat} {e : TypeId} {v : Value} {vs : List Value} {n : Nat} (h : w.ownsRow base e 1 v n vs) : ∃ (ao : Option Addr) (cap : Cap ao vs.length), v = .slice ao vs.length cap.1 ∧ CellsAt w ao vs ∧ ∀ A, ao = some A → base ≤ A.block := by
  have hl : vs.length = n := by have := h.1; omega
  subst hl
  rcases h.2 with ⟨rfl, h0⟩ | ⟨g, cap, cur, rfl, hb, hg, hc, _⟩
  · have := List.eq_nil_of_length_eq_zero h0
    subst this
    exact ⟨none, ⟨0, Nat.le_refl _, fun _ => rfl⟩, rfl, .inl rfl, fun A hA => by cases hA⟩
  · exact ⟨some ⟨g, 0, none⟩, ⟨cap, hc, fun e => by cases e⟩, rfl, .inr ⟨_, rfl, lt_of_heap hg, fun i u hu => h.cells rfl i u hu⟩, fun A hA => by cases hA; exact hb⟩

set_option maxRecDepth 100000 in
set_option maxHeartbeats 2000000 in
theorem growS (n : Nat) (w : World) (hn : n ≤ 1099511627776) :
    Calls Tryz.prog 133 #[.slice none 0 0, .int .i64 n] w fun e w' => ∃ v, e = .returned v ∧ w'.ownsRow w.heap.size 9 1 v 0 [] ∧ Below w.heap.size w w' := by
  have hinfo : (Tryz.prog.info? 9).map (fun i => (i.zero, i.size, i.bytes)) = some (some (.string ⟨#[]⟩), 1, 16) := by kernel_rfl
  obtain ⟨i0, hi, hz0, hz1, hz2⟩ := info_parts hinfo
  rcases Nat.eq_zero_or_pos n with h0 | hpos
  · subst h0
    clear hi hz0 hz1 hz2 hinfo
    go_enter Tryz.func133, Tryz.ntmps133
    go_wp2_with fail
    go_ret
    exact ⟨_, rfl, World.ownsRow_nil _ _ _ _, Below.refl _ _⟩
  · have hold : (Builtin.firstCells i0.size 0 (.slice none 0 0)).run Tryz.prog w.drew = .ok ([] : List Value).toArray w.drew := by rw [hz1]; rfl
    obtain ⟨G, HG⟩ : ∃ G, Hid (G = grownCap w (0 + n) 0 9) := ⟨_, Lib.hid rfl⟩
    have hrz := Lib.run_append_grow_zeros w 22 3 22 9 i0 _ .i64 .i64 Tryz.underlying22 Tryz.underlying3 hi hz0 none 0 0 [] hold n hpos (by rw [hz1]; omega) (by omega) (by omega) (by rw [hz2]; omega) (by rw [hz2]; exact growslice_fits (by omega) (by omega))
    rw [← HG.out] at hrz
    have hGn : n ≤ G := by rw [HG.out]; exact Nat.le_trans (by omega) (grownCap_ge w _ _ _)
    have hGm : G ≤ maxLen := by rw [HG.out]; exact grownCap_le_maxLen w _ _ _ (by unfold maxLen; omega)
    obtain ⟨L, HL⟩ : ∃ L : Array Value, Hid (L = (([] : List Value).toArray ++ Builtin.zeroCells (.string ⟨#[]⟩ : Value).cells n ++ Builtin.zeroCells (.string ⟨#[]⟩ : Value).cells (G - (0 + n)))) := ⟨_, Lib.hid rfl⟩
    have hLs : L.size = G * 1 := by rw [HL.out]; simp [Builtin.zeroCells, Value.cells]; omega
    rw [← HL.out, Nat.zero_add] at hrz
    obtain ⟨W1, HW1⟩ : ∃ W1, Hid (W1 = w.drew.alloc (.cells L 9)) := ⟨_, Lib.hid rfl⟩
    have hown : W1.ownsRow w.heap.size 9 1 (.slice (some ⟨w.heap.size, 0, none⟩) 0 G) 0 [] := by
      rw [HW1.out]; exact World.ownsRow_made w.drew L G (Nat.le_refl _) hGm hLs
    have hb1 : Below w.heap.size w W1 := by rw [HW1.out]; exact ((Below.refl _ w).drew).alloc (Nat.le_refl _) _
    rw [← HW1.out] at hrz
    have HRZ := Lib.hid hrz
    have HO := Lib.hid hown
    have HB := Lib.hid hb1
    have hG0 : ¬ (G = 0) := by omega
    clear hown hb1 hrz hinfo hi hz0 hz1 hz2 hold hLs hGm
    go_enter Tryz.func133, Tryz.ntmps133
    go_wp2_with (at_builtin; refine Lib.wpList_append_run _ rfl _ _ _ _ rfl _ _ rfl rfl _ _ HRZ.out ?_)
    go_ret
    exact ⟨_, rfl, HO.out, HB.out⟩

def lensTS (ps : List PartE) : Nat := (ps.map fun p => p.vs.length).sum
def flatTS (ps : List PartE) : List Value := ps.flatMap fun p => p.vs
theorem flat_lenS (ps : List PartE) : (flatTS ps).length = lensTS ps := by
  induction ps with
  | nil => rfl
  | cons p ps ih => simp only [flatTS, lensTS, List.flatMap_cons, List.length_append, List.map_cons, List.sum_cons] at ih ⊢; omega
theorem lens_nextS (ps : List PartE) (k : Nat) (p : PartE) (h : ps[k]? = some p) : lensTS (ps.take (k + 1)) = lensTS (ps.take k) + p.vs.length ∧ lensTS (ps.take (k + 1)) ≤ lensTS ps := by
  obtain ⟨hk, e⟩ := List.getElem?_eq_some_iff.1 h
  constructor
  · rw [List.take_succ_eq_append_getElem hk, e]; simp [lensTS]
  · have e2 : lensTS ps = lensTS (ps.take (k + 1)) + lensTS (ps.drop (k + 1)) := by
      conv => lhs; rw [← List.take_append_drop (k + 1) ps]
      unfold lensTS; rw [List.map_append, List.sum_append]
    omega
theorem flat_nextS (ps : List PartE) (k : Nat) (p : PartE) (h : ps[k]? = some p) : flatTS (ps.take (k + 1)) = flatTS (ps.take k) ++ p.vs := by
  obtain ⟨hk, e⟩ := List.getElem?_eq_some_iff.1 h
  rw [List.take_succ_eq_append_getElem hk, e]; simp [flatTS]

set_option maxRecDepth 100000 in
set_option maxHeartbeats 4000000 in
theorem concatS (g cap : Nat) (ps : List PartE) (w : World) (hn : ps.length ≤ 1000) (hc : ∀ (i : Nat) p, ps[i]? = some p → w.cell? ⟨g, i, none⟩ = some p.val) (hg : g < w.heap.size) (hp : ∀ p ∈ ps, CellsAt w p.ao p.vs ∧ ∀ u ∈ p.vs, u.oneCell' = true) (hsum : lensTS ps ≤ 1099511627776) :
    Calls Tryz.prog 106 #[.slice (some ⟨g, 0, none⟩) ps.length cap] w (VOut (.ok (flatTS ps)) w) := by
  have hinfo : (Tryz.prog.info? 9).map (fun i => (i.zero, i.size, i.bytes)) = some (some (.string ⟨#[]⟩), 1, 16) := by kernel_rfl
  obtain ⟨i0, hi, hz0, hz1, hz2⟩ := info_parts hinfo
  have HI := Lib.hid hi
  have HC := Lib.hid hc
  have HP := Lib.hid hp
  have G := Lib.hid (growS (lensTS ps) w hsum)
  have HS := Lib.hid hsum
  clear hi hinfo hc hp
  go_enter Tryz.func106, Tryz.ntmps106
  go_wp2_with fail
  go_loopw [3, 11] (fun s i wr => ∃ k : Nat, k ≤ ps.length ∧ s = .int .i64 (lensTS (ps.take k)) ∧ i = .int .i64 k ∧ wr = w) (fun _ i _ => ps.length - (intOf i).toNat)
  case atStart => exact ⟨0, Nat.zero_le _, rfl, rfl, rfl⟩
  case round =>
    obtain ⟨k, hk, rfl, rfl, hww⟩ := hrel
    subst hww
    by_cases hlt : k < ps.length
    · obtain ⟨p, hpk⟩ : ∃ p, ps[k]? = some p := ⟨_, List.getElem?_eq_getElem hlt⟩
      have hcell := HC.out k p hpk
      have hnx := lens_nextS ps k p hpk
      have HN := Lib.hid hnx
      obtain ⟨t, ht⟩ : ∃ t, t = lensTS (ps.take k) := ⟨_, rfl⟩
      have hle : t + p.vs.length ≤ 1099511627776 := by rw [ht]; omega
      have HT : Hid (lensTS (ps.take (k + 1)) = t + p.vs.length) := Lib.hid (by rw [ht]; exact hnx.1)
      rw [← ht]
      clear hnx hpk ht
      unfold PartE.val at hcell
      go_wp2_with fail
      go_roundw
      case rel => exact ⟨k + 1, by omega, by rw [HT.out]; go_num, by go_num, by first | rfl | trivial⟩
      case measure => simp [intOf]; omega
    · obtain rfl : k = ps.length := by omega
      rw [List.take_length]
      obtain ⟨wo, rfl⟩ : ∃ wo : World, wo = wr := ⟨_, rfl⟩
      go_wp2_with fail
      refine G.out.mono ?_; rintro e w1 ⟨v, rfl, hown, hb⟩
      have HO : Hid (w1.ownsRow wo.heap.size 9 1 v (flatTS (ps.take 0)).length (flatTS (ps.take 0))) := Lib.hid hown
      have HB := Lib.hid hb
      clear hown hb G
      go_wp2_with fail
      go_loopw [6, 27] (fun s i wr => ∃ k : Nat, k ≤ ps.length ∧ i = .int .i64 k ∧ Hid (wr.ownsRow wo.heap.size 9 1 s (flatTS (ps.take k)).length (flatTS (ps.take k))) ∧ Hid (Below wo.heap.size wo wr)) (fun _ i _ => ps.length - (intOf i).toNat)
      case atStart => exact ⟨0, Nat.zero_le _, rfl, HO, HB⟩
      case round =>
        obtain ⟨k, hk, rfl, HO, HB⟩ := hrel
        by_cases hlt : k < ps.length
        · obtain ⟨p, hpk⟩ : ∃ p, ps[k]? = some p := ⟨_, List.getElem?_eq_getElem hlt⟩
          have hcell := (HB.out.cell (p := ⟨g, k, none⟩) hg).trans (HC.out k p hpk)
          have HPK := Lib.hid (HP.out p (List.mem_of_getElem? hpk))
          have HFN := Lib.hid (flat_nextS ps k p hpk)
          have hle : (flatTS (ps.take k)).length + p.vs.length ≤ 1099511627776 := by rw [flat_lenS]; have := lens_nextS ps k p hpk; have := HS.out; omega
          unfold PartE.val at hcell
          clear hpk
          go_wp2_with (at_builtin; refine wpList_append_any rfl _ _ 22 rfl wo.heap.size 9 i0 (.string ⟨#[]⟩) 1 16 Tryz.underlying22 HI.out hz0 hz1 hz2 rfl (by decide) _ _ _ rfl HO.out p.ao p.vs.length p.cap.1 p.vs rfl ?c0 (by simp) ?c1 HPK.out.2 ?c3 ?c4 HB.out.size ?_)
          case c0 => intro h; have := p.cap.2; have := this.2 h; omega
          case c1 =>
            intro ad had j u hu
            rcases HPK.out.1.kept HB.out with h0 | ⟨A, hA, _, hcc⟩
            · rw [h0] at hu; simp at hu
            · rw [hA] at had; cases had; exact hcc j u hu
          case c3 => unfold maxLen; omega
          case c4 => omega
          intro v' w3 hown' hgrow
          have HO' : Hid (w3.ownsRow wo.heap.size 9 1 v' (flatTS (ps.take (k + 1))).length (flatTS (ps.take (k + 1)))) := Lib.hid (by rw [HFN.out, List.length_append]; exact hown')
          have HB' := Lib.hid (HB.out.trans ((Below.refl _ wr).grown hgrow HB.out.size (fun j hj => (HO.out.lt j hj).1)))
          clear hown' hgrow
          go_wp2_with fail
          go_roundw
          case rel => exact ⟨k + 1, by omega, by go_num, HO', HB'⟩
          case measure => simp [intOf]; omega
        · obtain rfl : k = ps.length := by omega
          rw [List.take_length] at HO
          go_wp2_with fail
          go_ret
          obtain ⟨ao, cp, h1, h2⟩ := own_cellsS HO.out
          exact ⟨ao, cp, by rw [h1]; rfl, h2, HB.out⟩

set_option maxRecDepth 100000 in
set_option maxHeartbeats 4000000 in
theorem cloneS (ao : Option Addr) (vs : List Value) (cap : Cap ao vs.length) (w : World) (hn : vs.length ≤ 1099511627776) (hpos : 0 < vs.length) (hc : CellsAt w ao vs) (h1 : ∀ u ∈ vs, u.oneCell' = true) :
    Calls Tryz.prog 76 #[.slice ao vs.length cap.1] w fun e w' => ∃ g cp, e = .returned (.slice (some ⟨g, 0, none⟩) vs.length cp) ∧ w'.ownsRow w.heap.size 9 1 (.slice (some ⟨g, 0, none⟩) vs.length cp) vs.length vs ∧ Below w.heap.size w w' := by
  have hinfo : (Tryz.prog.info? 9).map (fun i => (i.zero, i.size, i.bytes)) = some (some (.string ⟨#[]⟩), 1, 16) := by kernel_rfl
  obtain ⟨i0, hi, hz0, hz1, hz2⟩ := info_parts hinfo
  have HI := Lib.hid hi
  clear hi hinfo
  rcases hc with h0 | ⟨A, rfl, hA, hcell⟩
  · rw [h0] at hpos; simp at hpos
  obtain ⟨cp, hcp⟩ := cap
  simp only
  have HC := Lib.hid hcell
  have H1 := Lib.hid h1
  clear hcell hcp h1
  have hown : (w.alloc (.cells #[] 9)).ownsRow w.heap.size 9 1 (.slice (some ⟨w.heap.size, 0, none⟩) 0 0) 0 [] := World.ownsRow_made w #[] 0 (Nat.le_refl _) (Nat.zero_le _) rfl
  have HO := Lib.hid hown
  have hb0 := one_below w (.cells #[] 9)
  have HB := Lib.hid hb0
  clear hown hb0
  have heq : (binOp .eql 22 (.slice (some A) vs.length cp) (.slice none 0 0)).run Tryz.prog w = .ok (.bool false) w := Lib.run_eql_slice_nil w _ _ (some A) _ _ 0 0 Tryz.underlying22
  go_enter Tryz.func76, Tryz.ntmps76
  go_wp2_with (at_builtin; refine wpList_append_any rfl _ _ 22 rfl w.heap.size 9 i0 (.string ⟨#[]⟩) 1 16 Tryz.underlying22 HI.out hz0 hz1 hz2 rfl (by decide) _ _ _ rfl HO.out (some A) vs.length cp vs rfl ?c0 (by simp) ?c1 H1.out ?c3 ?c4 HB.out.size ?_)
  case c0 => intro h; cases h
  case c1 =>
    intro ad had j u hu
    cases had
    exact (HB.out.cell (p := A.add j) (by rw [add_block]; exact hA)).trans (HC.out j u hu)
  case c3 => unfold maxLen; omega
  case c4 => omega
  intro v' w3 hown' hgrow
  have HB' := Lib.hid (HB.out.trans ((Below.refl _ (w.alloc (.cells #[] 9))).grown hgrow HB.out.size (fun j hj => (HO.out.lt j hj).1)))
  rcases hown'.2 with ⟨rfl, h0⟩ | ⟨g, cp', cur, rfl, _⟩
  · omega
  have HO' := Lib.hid hown'
  clear hown' hgrow
  go_wp2_with fail
  go_ret
  exact ⟨g, cp', rfl, HO'.out, HB'.out⟩
end Go.Proofs.YtigijgcldgbokaaGreat
