/-
  slices.Grow and slices.Concat, at lists of pairs.
  Conditions: lists of at most 2^30 pairs.
-/
import Derived.WalkKit
import Derived.WalkMore
import Derived.Lib.Hide
import Derived.Lib.SliceRun
import Derived.Lib.AppendZerosOnto
import Derived.Laws.AppendOwn
import Derived.Test.YtigijgcldgbokaaGreatProg
import Derived.Test.YtigijgcldgbokaaGreatCSpec
namespace Go.Proofs.YtigijgcldgbokaaGreat
open Go.RowKit Go.Shelf
set_option linter.unusedVariables false

set_option maxRecDepth 100000 in
set_option maxHeartbeats 2000000 in
theorem growP (n : Nat) (w : World) (hn : n ≤ 1099511627776) :
    Calls Tryz.prog 84 #[.slice none 0 0, .int .i64 n] w fun e w' => ∃ v, e = .returned v ∧ w'.ownsRow w.heap.size 36 2 v 0 [] ∧ Below w.heap.size w w' := by
  have hinfo : (Tryz.prog.info? 36).map (fun i => (i.zero, i.size, i.bytes)) = some (some (.agg #[.int .i64 0, .int .i64 0]), 2, 16) := by kernel_rfl
  obtain ⟨i0, hi, hz0, hz1, hz2⟩ := info_parts2 hinfo
  rcases Nat.eq_zero_or_pos n with h0 | hpos
  · subst h0
    clear hi hz0 hz1 hz2 hinfo
    go_enter Tryz.func84, Tryz.ntmps84
    go_wp2_with fail
    go_ret
    exact ⟨_, rfl, World.ownsRow_nil _ _ _ _, Below.refl _ _⟩
  · have hold : (Builtin.firstCells i0.size 0 (.slice none 0 0)).run Tryz.prog w.drew = .ok ([] : List Value).toArray w.drew := by rw [hz1]; rfl
    obtain ⟨G, HG⟩ : ∃ G, Hid (G = grownCap w (0 + n) 0 36) := ⟨_, Lib.hid rfl⟩
    have hrz := Lib.run_append_grow_zeros w 28 3 28 36 i0 _ .i64 .i64 Tryz.underlying28 Tryz.underlying3 hi hz0 none 0 0 [] hold n hpos (by rw [hz1]; omega) (by omega) (by omega) (by rw [hz2]; omega) (by rw [hz2]; exact growslice_fits (by omega) (by omega))
    rw [← HG.out] at hrz
    have hGn : n ≤ G := by rw [HG.out]; exact Nat.le_trans (by omega) (grownCap_ge w _ _ _)
    have hGm : G ≤ maxLen := by rw [HG.out]; exact grownCap_le_maxLen w _ _ _ (by unfold maxLen; omega)
    obtain ⟨L, HL⟩ : ∃ L : Array Value, Hid (L = (([] : List Value).toArray ++ Builtin.zeroCells (Value.agg #[.int .i64 0, .int .i64 0]).cells n ++ Builtin.zeroCells (Value.agg #[.int .i64 0, .int .i64 0]).cells (G - (0 + n)))) := ⟨_, Lib.hid rfl⟩
    have hLs : L.size = G * 2 := by
      rw [HL.out]
      have hz : ∀ m, (Builtin.zeroCells (Value.agg #[.int .i64 0, .int .i64 0]).cells m).size = m * 2 := fun m => by
        rw [show (Value.agg #[.int .i64 0, .int .i64 0]).cells = #[.int .i64 0, .int .i64 0] from rfl]
        simp [Builtin.zeroCells]
      rw [Array.size_append, Array.size_append, hz, hz]; simp; omega
    rw [← HL.out, Nat.zero_add] at hrz
    obtain ⟨W1, HW1⟩ : ∃ W1, Hid (W1 = w.drew.alloc (.cells L 36)) := ⟨_, Lib.hid rfl⟩
    have hown : W1.ownsRow w.heap.size 36 2 (.slice (some ⟨w.heap.size, 0, none⟩) 0 G) 0 [] := by
      rw [HW1.out]; exact World.ownsRow_made w.drew L G (Nat.le_refl _) hGm hLs
    have hb1 : Below w.heap.size w W1 := by rw [HW1.out]; exact ((Below.refl _ w).drew).alloc (Nat.le_refl _) _
    rw [← HW1.out] at hrz
    have HRZ := Lib.hid hrz
    have HO := Lib.hid hown
    have HB := Lib.hid hb1
    have hG0 : ¬ (G = 0) := by omega
    clear hown hb1 hrz hinfo hi hz0 hz1 hz2 hold hLs hGm
    go_enter Tryz.func84, Tryz.ntmps84
    go_wp2_with (at_builtin; refine Lib.wpList_append_run _ rfl _ _ _ _ rfl _ _ rfl rfl _ _ HRZ.out ?_)
    go_ret
    exact ⟨_, rfl, HO.out, HB.out⟩

/-- a list of pairs as it lies -/
structure PartC where
  ao : Option Addr
  l : PL
  cap : Nat
def PartC.val (p : PartC) : Value := .slice p.ao p.l.length p.cap
structure PartC.In (w : World) (p : PartC) : Prop where
  pairs : PairsAt w p.ao p.l
  nil : p.ao = none → p.cap = 0
  room : p.l.length ≤ p.cap
def lensC (ps : List PartC) : Nat := (ps.map fun p => p.l.length).sum
def flatC (ps : List PartC) : PL := ps.flatMap fun p => p.l
theorem flatC_len (ps : List PartC) : (flatC ps).length = lensC ps := by
  induction ps with
  | nil => rfl
  | cons p ps ih => simp only [flatC, lensC, List.flatMap_cons, List.length_append, List.map_cons, List.sum_cons] at ih ⊢; omega
theorem lensC_next (ps : List PartC) (k : Nat) (p : PartC) (h : ps[k]? = some p) : lensC (ps.take (k + 1)) = lensC (ps.take k) + p.l.length ∧ lensC (ps.take (k + 1)) ≤ lensC ps := by
  obtain ⟨hk, e⟩ := List.getElem?_eq_some_iff.1 h
  constructor
  · rw [List.take_succ_eq_append_getElem hk, e]; simp [lensC]
  · have e2 : lensC ps = lensC (ps.take (k + 1)) + lensC (ps.drop (k + 1)) := by
      conv => lhs; rw [← List.take_append_drop (k + 1) ps]
      unfold lensC; rw [List.map_append, List.sum_append]
    omega
theorem flatC_next (ps : List PartC) (k : Nat) (p : PartC) (h : ps[k]? = some p) : flatC (ps.take (k + 1)) = flatC (ps.take k) ++ p.l := by
  obtain ⟨hk, e⟩ := List.getElem?_eq_some_iff.1 h
  rw [List.take_succ_eq_append_getElem hk, e]; simp [flatC]
theorem pairs_cellsC {w : World} {ad : Addr} {L : PL} (h : PairsAt w (some ad) L) : ∀ (j : Nat) u, (cellsP L)[j]? = some u → w.cell? (ad.add j) = some u := fun j u hu => by
  rcases h with rfl | ⟨b', o', h1, _, h3⟩
  · simp [cellsP] at hu
  · cases h1
    have e : (⟨b', o', none⟩ : Addr).add j = ⟨b', o' + j, none⟩ := by unfold Addr.add; split <;> simp_all
    rw [e]
    obtain ⟨i, p, hp, ⟨rfl, rfl⟩ | ⟨rfl, rfl⟩⟩ := cellsP_inv L j u hu
    · exact (h3 i p hp).1
    · exact (h3 i p hp).2

set_option maxRecDepth 100000 in
set_option maxHeartbeats 4000000 in
theorem concatP (g cap : Nat) (ps : List PartC) (w : World) (hn : ps.length ≤ 1000) (hc : ∀ (i : Nat) p, ps[i]? = some p → w.cell? ⟨g, i, none⟩ = some p.val) (hg : g < w.heap.size) (hp : ∀ p ∈ ps, p.In w) (hsum : lensC ps ≤ 1073741824) :
    Calls Tryz.prog 46 #[.slice (some ⟨g, 0, none⟩) ps.length cap] w fun e w' => ∃ v, e = .returned v ∧ OwnL w' w.heap.size v (flatC ps) ∧ Below w.heap.size w w' := by
  have hinfo : (Tryz.prog.info? 36).map (fun i => (i.zero, i.size, i.bytes)) = some (some (.agg #[.int .i64 0, .int .i64 0]), 2, 16) := by kernel_rfl
  obtain ⟨i0, hi, hz0, hz1, hz2⟩ := info_parts2 hinfo
  have HI := Lib.hid hi
  have HC := Lib.hid hc
  have HP := Lib.hid hp
  have G := Lib.hid (growP (lensC ps) w (by omega))
  have HS := Lib.hid hsum
  clear hi hinfo hc hp
  go_enter Tryz.func46, Tryz.ntmps46
  go_wp2_with fail
  go_loopw [3, 11] (fun s i wr => ∃ k : Nat, k ≤ ps.length ∧ s = .int .i64 (lensC (ps.take k)) ∧ i = .int .i64 k ∧ wr = w) (fun _ i _ => ps.length - (intOf i).toNat)
  case atStart => exact ⟨0, Nat.zero_le _, rfl, rfl, rfl⟩
  case round =>
    obtain ⟨k, hk, rfl, rfl, hww⟩ := hrel
    subst hww
    by_cases hlt : k < ps.length
    · obtain ⟨p, hpk⟩ : ∃ p, ps[k]? = some p := ⟨_, List.getElem?_eq_getElem hlt⟩
      have hcell := HC.out k p hpk
      have hnx := lensC_next ps k p hpk
      have HN := Lib.hid hnx
      obtain ⟨t, ht⟩ : ∃ t, t = lensC (ps.take k) := ⟨_, rfl⟩
      have hle : t + p.l.length ≤ 1099511627776 := by rw [ht]; omega
      have HT : Hid (lensC (ps.take (k + 1)) = t + p.l.length) := Lib.hid (by rw [ht]; exact hnx.1)
      rw [← ht]
      clear hnx hpk ht
      unfold PartC.val at hcell
      go_wp2_with fail
      go_roundw
      case rel => exact ⟨k + 1, by omega, by rw [HT.out]; go_num, by go_num, by first | rfl | trivial⟩
      case measure => simp [intOf]; omega
    · obtain rfl : k = ps.length := by omega
      rw [List.take_length]
      obtain ⟨wo, rfl⟩ : ∃ wo : World, wo = wr := ⟨_, rfl⟩
      go_wp2_with fail
      refine G.out.mono ?_; rintro e w1 ⟨v, rfl, hown, hb⟩
      have HO : Hid (w1.ownsRow wo.heap.size 36 2 v (flatC (ps.take 0)).length (cellsP (flatC (ps.take 0)))) := Lib.hid hown
      have HB := Lib.hid hb
      clear hown hb G
      go_wp2_with fail
      go_loopw [6, 27] (fun s i wr => ∃ k : Nat, k ≤ ps.length ∧ i = .int .i64 k ∧ Hid (wr.ownsRow wo.heap.size 36 2 s (flatC (ps.take k)).length (cellsP (flatC (ps.take k)))) ∧ Hid (Below wo.heap.size wo wr)) (fun _ i _ => ps.length - (intOf i).toNat)
      case atStart => exact ⟨0, Nat.zero_le _, rfl, HO, HB⟩
      case round =>
        obtain ⟨k, hk, rfl, HO, HB⟩ := hrel
        by_cases hlt : k < ps.length
        · obtain ⟨p, hpk⟩ : ∃ p, ps[k]? = some p := ⟨_, List.getElem?_eq_getElem hlt⟩
          have hcell := (HB.out.cell (p := ⟨g, k, none⟩) hg).trans (HC.out k p hpk)
          have HPK := Lib.hid (HP.out p (List.mem_of_getElem? hpk))
          have HFN := Lib.hid (flatC_next ps k p hpk)
          have hle : (flatC (ps.take k)).length + p.l.length ≤ 1073741824 := by rw [flatC_len]; have := lensC_next ps k p hpk; have := HS.out; omega
          unfold PartC.val at hcell
          clear hpk
          go_wp2_with (at_builtin; refine wpList_append_any rfl _ _ 28 rfl wo.heap.size 36 i0 (.agg #[.int .i64 0, .int .i64 0]) 2 16 Tryz.underlying28 HI.out hz0 hz1 hz2 rfl (by decide) _ _ _ rfl HO.out p.ao p.l.length p.cap (cellsP p.l) rfl ?c0 (cellsP_length _) ?c1 (cellsP_ones _) ?c3 ?c4 HB.out.size ?_)
          case c0 => intro h; have h1 := HPK.out.nil h; have h2 := HPK.out.room; omega
          case c1 =>
            intro ad had j u hu
            have h := HPK.out.pairs.kept HB.out
            rw [had] at h
            exact pairs_cellsC h j u hu
          case c3 => unfold maxLen; omega
          case c4 => omega
          intro v' w3 hown' hgrow
          have HO' : Hid (w3.ownsRow wo.heap.size 36 2 v' (flatC (ps.take (k + 1))).length (cellsP (flatC (ps.take (k + 1))))) := Lib.hid (by rw [HFN.out, List.length_append, cellsP_app]; exact hown')
          have HB' := Lib.hid (HB.out.trans ((Below.refl _ wr).grown hgrow HB.out.size (fun j hj => (HO.out.lt j hj).1)))
          clear hown' hgrow
          go_wp2_with fail
          go_roundw
          case rel => exact ⟨k + 1, by omega, by go_num, HO', HB'⟩
          case measure => simp [intOf]; omega
        · obtain rfl : k = ps.length := by omega
          rw [List.take_length] at HO
          go_wp2_with fail
          go_ret
          exact ⟨_, rfl, HO.out, HB.out⟩
/-- two lists, put together -/
theorem concatP2 (ao bo : Option Addr) (ca cb : Nat) (xs ys : PL) (w : World) (hs : xs.length + ys.length ≤ 1073741824) (hx : PairsAt w ao xs) (hy : PairsAt w bo ys) (k1 : ao = none → ca = 0) (k2 : bo = none → cb = 0) (r1 : xs.length ≤ ca) (r2 : ys.length ≤ cb) (g : Nat)
    (hb : w.heap[g]? = some (.cells #[.slice ao xs.length ca, .slice bo ys.length cb] 28 (0, 0))) :
    Calls Tryz.prog 46 #[.slice (some ⟨g, 0, none⟩) 2 2] w fun e w' => ∃ v, e = .returned v ∧ OwnL w' w.heap.size v (xs ++ ys) ∧ Below w.heap.size w w' := by
  let ps : List PartC := [⟨ao, xs, ca⟩, ⟨bo, ys, cb⟩]
  have h := concatP g 2 ps w (by simp [ps]) (fun i p hp => by
    rw [Lib.cell_of_heap hb i]
    match i, hp with
    | 0, hp => simp [ps] at hp; subst hp; rfl
    | 1, hp => simp [ps] at hp; subst hp; rfl) (lt_of_heap hb) (fun p hp => by
    simp only [ps, List.mem_cons, List.not_mem_nil, or_false] at hp
    rcases hp with rfl | rfl
    · exact ⟨hx, k1, r1⟩
    · exact ⟨hy, k2, r2⟩) (by simp only [ps, lensC, List.map_cons, List.map_nil, List.sum_cons, List.sum_nil]; omega)
  have hf : flatC ps = xs ++ ys := by simp [ps, flatC]
  rw [hf] at h
  exact h
end Go.Proofs.YtigijgcldgbokaaGreat
