/-
  Where a name is found, a cell, a column, and whether two tables are alike: what the program answers.
  Conditions: tables of at most 2^40 names and rows of at most 2^40 cells; texts of at most 2^48 bytes.
  Whether records are few and short, where each cell has fewer than 2^47 bytes.
  Conditions: slices and texts are Go values of the form of claims.
  The document's own answers for a table: how many bytes, where a name is, whether a text is too long, whether it is small, whether two are alike, a cell.
  Conditions: tables of at most 2^40 names and rows of at most 2^40 cells; all texts have together at most 2^60 bytes.
  The records of a table, and the table of records: what the program answers.
  Conditions: tables of at most 2^40 names and rows of at most 2^40 cells; texts of at most 2^48 bytes.
  The document's own answers for a table: a column, the records, whether it may be, the table of records.
  Conditions: tables of at most 2^40 names and rows of at most 2^40 cells; all texts have together at most 2^60 bytes.
  Pairs that are turned: the document's reference's answer.
  Conditions: lists of at most 2^30 pairs.
  The longest common row of two lists: how long it is, which one the document names, and what holds of both.
  Conditions: none.
  How much two lists have in common, as a number; what holds of it.
  Conditions: none.
  Which columns of two tables are the same: mathematics.
  Conditions: none.
  The reference: which columns have the same name.
  Conditions: heads of at most 2^30 names.
-/
import Derived.WalkKit
import Derived.WalkMore
import Derived.Lib.Hide
import Derived.Test.YtigijgcldgbokaaGreatProg
import Derived.Test.YtigijgcldgbokaaGreatPkB
import Derived.Test.YtigijgcldgbokaaGreatPkA
import Derived.Lib.AppendZerosOnto
import Derived.Laws.CopyOwn
import Derived.Laws.AppendOwn
import Derived.Deep.RegionLaw
import Derived.Deep.RegionWith
import Derived.Laws.AppendOwnNone
import Derived.Deep.QuietTactic
import Derived.BigQuiet
import Derived.Lib.QuietBelow
import Derived.Deep.CutRange
import Derived.Deep.Onto
import Derived.IntWalk
import Derived.OwnWalk
import Derived.StillTailTactics
import Derived.Deep.Cut
import Derived.Deep.OwnRows
import Derived.Deep.RegionHeld3
import Derived.WalkArith
namespace Go.Proofs.YtigijgcldgbokaaGreat
open Go.RowKit Go.Shelf
set_option linter.unusedVariables false

theorem one_below (w : World) (o : Obj) : Below w.heap.size w (w.alloc o) := (Below.refl _ w).alloc (Nat.le_refl _) _

theorem tfind_any (ho : Option Addr) (hc : Nat) (hd : List ByteArray) (ro : Option Addr) (k rc : Nat) (s : ByteArray) (w : World) (hn : hd.length ≤ 1099511627776) (hH : StrRow w ho hd) :
    Calls Tryz.prog 15 #[.agg #[.slice ho hd.length hc, .slice ro k rc], .string s] w fun e w' => e = .returned (.int .i64 (findL hd s)) ∧ Below w.heap.size w w' := by
  have HB := Lib.hid (one_below w (TabO ho hd.length hc ro k rc))
  have C := Lib.hid (index_any ho hc hd s (w.alloc (TabO ho hd.length hc ro k rc)) hn (hH.kept HB.out))
  clear hH
  go_enter Tryz.func15, Tryz.ntmps15
  go_wp2_with fail
  refine C.out.mono ?_; rintro e w' ⟨rfl, rfl⟩
  go_wp2_with fail
  go_ret
  exact ⟨rfl, HB.out⟩

/-- the cell of a row at a place; the empty text, if there is none -/
def cellL (rs : List (List ByteArray)) (r c : Int) : ByteArray := if 0 ≤ r ∧ 0 ≤ c then (rs[r.toNat]?.bind fun x => x[c.toNat]?).getD ⟨#[]⟩ else ⟨#[]⟩
theorem cellL_row (rs : List (List ByteArray)) (r c : Int) (h : (decide (0 ≤ r) && decide (r < (rs.length : Int))) = false) : cellL rs r c = ⟨#[]⟩ := by
  unfold cellL
  split
  · rename_i hh
    rw [List.getElem?_eq_none (by simp at h; have := h hh.1; omega)]; rfl
  · rfl
theorem cellL_col (rs : List (List ByteArray)) (k : Nat) (x : List ByteArray) (c : Int) (hx : rs[k]? = some x) (h : (decide (0 ≤ c) && decide (c < (x.length : Int))) = false) : cellL rs k c = ⟨#[]⟩ := by
  unfold cellL
  split
  · rename_i hh
    rw [Int.toNat_natCast, hx]
    show (x[c.toNat]?).getD _ = _
    rw [List.getElem?_eq_none (by simp at h; have := h hh.2; omega)]; rfl
  · rfl
theorem cellL_at (rs : List (List ByteArray)) (k j : Nat) (x : List ByteArray) (y : ByteArray) (hx : rs[k]? = some x) (hy : x[j]? = some y) : cellL rs k j = y := by
  unfold cellL
  rw [if_pos ⟨by omega, by omega⟩, Int.toNat_natCast, hx, Int.toNat_natCast]
  show (x[j]?).getD _ = _
  rw [hy]; rfl

set_option maxRecDepth 100000 in
set_option maxHeartbeats 4000000 in
theorem tcell_any (ho : Option Addr) (m hc : Nat) (ro : Option Addr) (rc : Nat) (rs : List (List ByteArray)) (r c : Int) (w : World) (hn2 : rs.length ≤ 1099511627776) (hx : ∀ r ∈ rs, r.length ≤ 1099511627776 ∧ ∀ c ∈ r, c.size ≤ 281474976710656) (hR : RowsAt w ro rs) :
    Calls Tryz.prog 140 #[.agg #[.slice ho m hc, .slice ro rs.length rc], .int .i64 r, .int .i64 c] w fun e w' => e = .returned (.string (cellL rs r c)) ∧ Below w.heap.size w w' := by
  have HB := Lib.hid (one_below w (TabO ho m hc ro rs.length rc))
  have W1 := Lib.hid (fun W => within_any r (rs.length : Int) W)
  have HR := Lib.hid hR
  have HX := Lib.hid hx
  clear hR hx
  cases h1 : (decide (0 ≤ r) && decide (r < (rs.length : Int))) with
  | false =>
    rw [h1] at W1
    have E := Lib.hid (cellL_row rs r c h1)
    clear h1
    go_enter Tryz.func140, Tryz.ntmps140
    go_wp2_with fail
    refine (W1.out _).mono ?_; rintro e w' ⟨rfl, rfl⟩
    go_wp2_with fail
    go_ret
    exact ⟨by rw [E.out]; rfl, HB.out⟩
  | true =>
    rw [h1] at W1
    simp only [Bool.and_eq_true, decide_eq_true_eq] at h1
    obtain ⟨k, rfl⟩ := Int.eq_ofNat_of_zero_le h1.1
    have hlt : k < rs.length := by omega
    clear h1
    obtain ⟨x, hx⟩ : ∃ x, rs[k]? = some x := ⟨_, List.getElem?_eq_getElem hlt⟩
    have HXk := Lib.hid hx
    rcases (HR.out.kept HB.out) with h0 | ⟨A, rfl, hA, hcell⟩
    · rw [h0] at hlt; simp at hlt
    obtain ⟨ro1, rc1, hc1, hs1⟩ := hcell k x hx
    have HS1 := Lib.hid hs1
    have hxl := (HX.out x (List.mem_of_getElem? hx)).1
    have HXc := Lib.hid (HX.out x (List.mem_of_getElem? hx)).2
    have W2 := Lib.hid (fun W => within_any c (x.length : Int) W)
    clear hcell hx hs1
    cases h2 : (decide (0 ≤ c) && decide (c < (x.length : Int))) with
    | false =>
      rw [h2] at W2
      have E := Lib.hid (cellL_col rs k x c HXk.out h2)
      clear h2
      go_enter Tryz.func140, Tryz.ntmps140
      go_wp2_with fail
      refine (W1.out _).mono ?_; rintro e w' ⟨rfl, rfl⟩
      go_wp2_with fail
      refine (W2.out _).mono ?_; rintro e w' ⟨rfl, rfl⟩
      go_wp2_with fail
      go_ret
      exact ⟨by rw [E.out]; rfl, HB.out⟩
    | true =>
      rw [h2] at W2
      simp only [Bool.and_eq_true, decide_eq_true_eq] at h2
      obtain ⟨j, rfl⟩ := Int.eq_ofNat_of_zero_le h2.1
      have hjl : j < x.length := by omega
      clear h2
      obtain ⟨y, hy⟩ : ∃ y, x[j]? = some y := ⟨_, List.getElem?_eq_getElem hjl⟩
      have E := Lib.hid (cellL_at rs k j x y HXk.out hy)
      have CC := Lib.hid (fun W => clone_any y W (HXc.out y (List.mem_of_getElem? hy)))
      rcases HS1.out with h0 | ⟨A1, rfl, hA1, hcell⟩
      · rw [h0] at hjl; simp at hjl
      have hcy := hcell j y hy
      clear hcell hy
      go_enter Tryz.func140, Tryz.ntmps140
      go_wp2_with fail
      refine (W1.out _).mono ?_; rintro e w' ⟨rfl, rfl⟩
      go_wp2_with fail
      refine (W2.out _).mono ?_; rintro e w' ⟨rfl, rfl⟩
      go_wp2_with fail
      refine (CC.out _).mono ?_; rintro e w' ⟨rfl, b1⟩
      have B1 := Lib.hid (below_up HB.out b1)
      clear b1 hc1 hcy
      go_wp2_with fail
      go_ret
      exact ⟨by rw [E.out]; rfl, B1.out⟩

def colL (rs : List (List ByteArray)) (c : Int) : List ByteArray := (List.range rs.length).map fun (i : Nat) => cellL rs (i : Int) c
theorem colL_len (rs : List (List ByteArray)) (c : Int) : (colL rs c).length = rs.length := by simp [colL]
theorem colL_at (rs : List (List ByteArray)) (c : Int) (k : Nat) (h : k < rs.length) : (colL rs c)[k]? = some (cellL rs k c) := by simp [colL, h]
def columnT (hd : List ByteArray) (rs : List (List ByteArray)) (c : Int) : List ByteArray := if 0 ≤ c ∧ c < hd.length then colL rs c else []

set_option maxRecDepth 100000 in
set_option maxHeartbeats 4000000 in
theorem tcolumn_any (ho : Option Addr) (hc : Nat) (hd : List ByteArray) (ro : Option Addr) (rc : Nat) (rs : List (List ByteArray)) (c : Int) (w : World) (hn : hd.length ≤ 1099511627776) (hn2 : rs.length ≤ 1099511627776) (hx : ∀ r ∈ rs, r.length ≤ 1099511627776 ∧ ∀ c ∈ r, c.size ≤ 281474976710656) (hR : RowsAt w ro rs) :
    Calls Tryz.prog 120 #[.agg #[.slice ho hd.length hc, .slice ro rs.length rc], .int .i64 c] w fun e w' => ∃ ao, e = .returned (.slice ao (columnT hd rs c).length (columnT hd rs c).length) ∧ StrRow w' ao (columnT hd rs c) ∧ Below w.heap.size w w' := by
  have HB0 := Lib.hid (one_below w (TabO ho hd.length hc ro rs.length rc))
  have HNew := Lib.hid (World.alloc_heap_new w (TabO ho hd.length hc ro rs.length rc))
  have W1 := Lib.hid (fun W => within_any c (hd.length : Int) W)
  have CC := Lib.hid (fun W (k : Nat) (h : Below w.heap.size w W) => tcell_any ho hd.length hc ro rc rs (k : Int) c W hn2 hx (hR.kept h))
  clear hR hx
  cases h1 : (decide (0 ≤ c) && decide (c < (hd.length : Int))) with
  | false =>
    rw [h1] at W1
    have E := Lib.hid (show columnT hd rs c = [] from by unfold columnT; rw [if_neg]; intro hh; simp at h1; have := h1 hh.1; omega)
    clear h1
    rw [E.out]
    go_enter Tryz.func120, Tryz.ntmps120
    go_wp2_with fail
    refine (W1.out _).mono ?_; rintro e w' ⟨rfl, rfl⟩
    go_wp2_with fail
    go_ret
    exact ⟨none, rfl, .inl rfl, HB0.out⟩
  | true =>
    rw [h1] at W1
    have E := Lib.hid (show columnT hd rs c = colL rs c from by unfold columnT; rw [if_pos]; simpa using h1)
    rw [E.out, colL_len]
    have HA := Lib.hid (colL_at rs c)
    have HL := Lib.hid (colL_len rs c)
    clear h1 E
    generalize colL rs c = xs at HA HL ⊢
    have hinfo : (Tryz.prog.info? 9).map (fun i => (i.zero, i.size, i.bytes)) = some (some (.string ⟨#[]⟩), 1, 16) := by kernel_rfl
    obtain ⟨i0, hi, hz0, hz1, hz2⟩ := info_parts hinfo
    have HI := Lib.hid hi
    have hm : rs.length ≤ maxLen := by unfold maxLen; omega
    clear hi hinfo
    go_enter Tryz.func120, Tryz.ntmps120
    go_wp2_with fail
    refine (W1.out _).mono ?_; rintro e w' ⟨rfl, rfl⟩
    obtain ⟨W, HW⟩ : ∃ W, Hid (W = w.alloc (TabO ho hd.length hc ro rs.length rc)) := ⟨_, Lib.hid rfl⟩
    rw [← HW.out] at HB0 HNew ⊢
    obtain ⟨c0, c1⟩ := tabs HNew.out
    go_wp2_with (at_make; refine wpList_make_full _ rfl _ _ 22 rfl W.heap.size 9 i0 (.string ⟨#[]⟩) 1 Tryz.underlying22 HI.out hz0 hz1 .i64 .i64 (rs.length : Int) (rs.length : Int) rs.length rfl rfl rfl rfl (by rw [hz2]; omega) hm (Nat.le_refl _) ?_; intro w1 ho hg)
    have HB : Hid (Below W.heap.size W w1) := Lib.hid ((Below.refl _ W).grown hg (Nat.le_refl _) (fun k h => by cases h))
    have HO : Hid (w1.ownsRow W.heap.size 9 1 (.slice (some ⟨W.heap.size, 0, none⟩) rs.length rs.length) rs.length (half xs 0)) := Lib.hid (by
      rw [half_zero, HL.out]; rw [Nat.mul_one] at ho; rw [← toList_madeCells_one]; exact ho)
    clear ho hg c0 c1
    go_wp2_with fail
    go_loopw [19] (fun i wr => ∃ k : Nat, k ≤ rs.length ∧ i = .int .i64 k ∧ Hid (Below W.heap.size W wr) ∧ Hid (wr.ownsRow W.heap.size 9 1 (.slice (some ⟨W.heap.size, 0, none⟩) rs.length rs.length) rs.length (half xs k))) (fun i _ => rs.length - (intOf i).toNat)
    case atStart => exact ⟨0, Nat.zero_le _, rfl, HB, HO⟩
    case round =>
      obtain ⟨k, hk, rfl, HB, HO⟩ := hrel
      by_cases hlt : k < rs.length
      · have hw0 := below_up HB0.out HB.out
        have C1 := Lib.hid (CC.out wr k hw0)
        obtain ⟨c0, c1⟩ := tabs ((HB.out.block _ (lt_of_heap HNew.out)).trans HNew.out)
        have HX := Lib.hid (HA.out k hlt)
        clear hw0
        generalize cellL rs k c = x at C1 HX
        go_wp2_with fail
        refine C1.out.mono ?_; rintro e w2 ⟨rfl, b2⟩
        have HB2 := Lib.hid (below_up HB.out b2)
        have HO2 := Lib.hid (ownsRow_below HO.out b2)
        clear b2 c0 c1
        have hhl : (half xs k).length = rs.length := by rw [half_len xs k (by rw [HL.out]; omega), HL.out]
        have hcell : w2.cell? ⟨W.heap.size, k, none⟩ = some ((half xs k)[k]'(by omega)) := by
          rw [HO2.out.cellAt k (by omega), List.getElem?_eq_getElem]
        have hfr : w2.frozen? ⟨W.heap.size, k, none⟩ = false := HO2.out.frozenAt k
        generalize (half xs k)[k]'(by omega) = old at hcell
        have HO3 := Lib.hid (HO2.out.stored k (.string x)).1
        rw [half_next xs k x HX.out] at HO3
        have HB3 := Lib.hid (HB2.out.setCell (p := ⟨W.heap.size, k, none⟩) (Nat.le_refl _) (.string x))
        clear hhl
        go_wp2_with fail
        go_roundw
        case rel => exact ⟨k + 1, by omega, by go_num, HB3, HO3⟩
        case measure => simp [intOf]; omega
      · obtain rfl : k = rs.length := by omega
        have HO4 := HO
        rw [show half xs rs.length = xs.map Value.string from by rw [← HL.out]; exact half_all xs] at HO4
        have HS : Hid (StrRow wr (some ⟨W.heap.size, 0, none⟩) xs) := Lib.hid (own_strs (e := 9) (base := W.heap.size) (cap := rs.length) (by rw [HL.out]; exact HO4.out))
        go_wp2_with fail
        go_ret
        exact ⟨_, rfl, HS.out, below_up HB0.out HB.out⟩
end Go.Proofs.YtigijgcldgbokaaGreat
namespace Go.Proofs.YtigijgcldgbokaaGreat
open Go.RowKit Go.Shelf

set_option maxRecDepth 100000 in
set_option maxHeartbeats 4000000 in
theorem fewReach_any (ao : Option Addr) (cap : Nat) (rs : List (List ByteArray)) (w : World) (hn : rs.length ≤ maxLen) (hx : ∀ r ∈ rs, r.length ≤ maxLen ∧ ∀ c ∈ r, c.size ≤ 140737488351232) (hR : RowsAt w ao rs) :
    Calls Tryz.prog 20 #[.slice ao rs.length cap] w fun e w' => ∃ b, e = .returned (.bool b) ∧ (b = true → fewP rs) ∧ w = w' := by
  have HX := Lib.hid hx
  have HRo := Lib.hid hR
  unfold maxLen at hn
  clear hx hR
  by_cases h60 : rs.length ≤ 60
  · go_enter Tryz.func20, Tryz.ntmps20
    go_wp2_with fail
    go_loopw [3, 4] (fun p i wr => ∃ (k : Nat) (n : Int), k ≤ rs.length ∧ p = .int .i64 n ∧ i = .int .i64 k ∧ wr = w ∧ Hid (n = (tot (rs.take k) : Int) ∧ n ≤ 8000) ∧ Hid (∀ (j : Nat) r, j < k → rs[j]? = some r → r.length ≤ 60)) (fun _ i _ => rs.length - (intOf i).toNat)
    case atStart => exact ⟨0, 0, Nat.zero_le _, rfl, rfl, rfl, Lib.hid ⟨rfl, by decide⟩, Lib.hid (fun j r h _ => by omega)⟩
    case round =>
      obtain ⟨k, n, hk, rfl, rfl, hww, HT, HA⟩ := hrel
      subst hww
      by_cases hlt : k < rs.length
      · obtain ⟨r, hr⟩ : ∃ r, rs[k]? = some r := ⟨_, List.getElem?_eq_getElem hlt⟩
        have HN := Lib.hid (tot_next rs k r hr)
        have HXr := HX.out r (List.mem_of_getElem? hr)
        have hrl := HXr.1
        unfold maxLen at hrl
        have HC := Lib.hid HXr.2
        have Hr := Lib.hid hr
        rcases HRo.out with h0 | ⟨A, rfl, hA, hcell⟩
        · rw [h0] at hlt; simp at hlt
        obtain ⟨ro, rc, hc, hs⟩ := hcell k r hr
        have HSr := Lib.hid hs
        clear hcell hs hr HXr
        by_cases hr60 : r.length ≤ 60
        · have HA' : Hid (∀ (j : Nat) x, j < k + 1 → rs[j]? = some x → x.length ≤ 60) := Lib.hid (fun j x hj hx' => by
            by_cases e : j = k
            · subst e; rw [Hr.out] at hx'; cases hx'; exact hr60
            · exact HA.out j x (by omega) hx')
          go_wp2_with fail
          obtain ⟨wo, rfl⟩ : ∃ wo : World, wo = wr := ⟨_, rfl⟩
          go_loopw [3, 5] (fun p i wi => ∃ (j : Nat) (m : Int), j ≤ r.length ∧ p = .int .i64 m ∧ i = .int .i64 j ∧ wi = wo ∧ Hid (m = ((tot (rs.take k) + rowTot (r.take j) : Nat) : Int) ∧ m ≤ 8000)) (fun _ i _ => r.length - (intOf i).toNat)
          case atStart => exact ⟨0, n, Nat.zero_le _, rfl, rfl, rfl, Lib.hid ⟨by rw [HT.out.1]; simp [rowTot], HT.out.2⟩⟩
          case round =>
            obtain ⟨j, m, hj, rfl, rfl, hwi, HM⟩ := hrel
            subst hwi
            by_cases hjl : j < r.length
            · obtain ⟨x, hx⟩ : ∃ x, r[j]? = some x := ⟨_, List.getElem?_eq_getElem hjl⟩
              have HJ := Lib.hid (rowTot_next r j x hx)
              have hxs := HC.out x (List.mem_of_getElem? hx)
              rcases HSr.out with h0 | ⟨D, rfl, hD, hcell⟩
              · rw [h0] at hjl; simp at hjl
              have hcx := hcell j x hx
              clear hcell hx
              obtain ⟨m', hm', rfl⟩ : ∃ m' : Nat, m' ≤ 8000 ∧ m = (m' : Int) := ⟨_, by have := HM.out.2; have := HM.out.1; omega, HM.out.1⟩
              by_cases h8 : m' + x.size + 1 ≤ 8000
              · have HM' : Hid (((m' + x.size + 1 : Nat) : Int) = ((tot (rs.take k) + rowTot (r.take (j + 1)) : Nat) : Int) ∧ ((m' + x.size + 1 : Nat) : Int) ≤ 8000) := Lib.hid ⟨by have := HM.out.1; rw [HJ.out]; omega, by omega⟩
                go_wp2_with fail
                go_roundw
                case rel => exact ⟨j + 1, ((m' + x.size + 1 : Nat) : Int), by omega, by go_num, by go_num, by first | rfl | trivial, HM'⟩
                case measure => simp [intOf]; omega
              · go_wp2_with fail
                go_ret
                exact ⟨false, rfl, (fun h => by cases h), rfl⟩
            · obtain rfl : j = r.length := by omega
              have HM' : Hid (m = (tot (rs.take (k + 1)) : Int) ∧ m ≤ 8000) := Lib.hid ⟨by rw [HN.out, HM.out.1, List.take_length], HM.out.2⟩
              go_wp2_with fail
              go_roundw
              case rel => exact ⟨k + 1, m, by omega, rfl, by go_num, by first | rfl | trivial, HM', HA'⟩
              case measure => simp [intOf]; omega
        · go_wp2_with fail
          go_ret
          exact ⟨false, rfl, (fun h => by cases h), rfl⟩
      · obtain rfl : k = rs.length := by omega
        have F : Hid (fewP rs) := Lib.hid ⟨h60, fun r hr => by
          obtain ⟨i, hi, rfl⟩ := List.getElem_of_mem hr
          exact HA.out i _ hi (List.getElem?_eq_getElem hi), by have h1 := HT.out; rw [List.take_length] at h1; omega⟩
        go_wp2_with fail
        go_ret
        exact ⟨true, rfl, fun _ => F.out, rfl⟩
  · go_enter Tryz.func20, Tryz.ntmps20
    go_wp2_with fail
    go_ret
    exact ⟨false, rfl, (fun h => by cases h), rfl⟩
end Go.Proofs.YtigijgcldgbokaaGreat
namespace Go.Proofs.YtigijgcldgbokaaGreat
open Go.RowKit Go.Shelf
set_option linter.unusedVariables false

theorem sum_head (hd : List ByteArray) (rs : List (List ByteArray)) (k : Nat) (x : ByteArray) (h : hd[k]? = some x) : sumT (hd.take (k + 1)) = sumT (hd.take k) + x.size ∧ sumT (hd.take (k + 1)) ≤ sumT (allT hd rs) := by
  obtain ⟨h1, h2⟩ := pre_head hd rs k x h
  exact ⟨by rw [h1, sumT_next], by rw [h1]; exact sumT_pre h2⟩
theorem sum_row (hd : List ByteArray) (rs : List (List ByteArray)) (k j : Nat) (r : List ByteArray) (x : ByteArray) (hr : rs[k]? = some r) (h : r[j]? = some x) :
    sumT (hd ++ (rs.take k).flatten ++ r.take (j + 1)) = sumT (hd ++ (rs.take k).flatten ++ r.take j) + x.size ∧ sumT (hd ++ (rs.take k).flatten ++ r.take (j + 1)) ≤ sumT (allT hd rs) := by
  obtain ⟨h1, h2⟩ := pre_row hd rs k j r x hr h
  exact ⟨by rw [h1, sumT_next], by rw [h1]; exact sumT_pre h2⟩

set_option maxRecDepth 100000 in
set_option maxHeartbeats 4000000 in
theorem rtotal_any (ho : Option Addr) (hc : Nat) (hd : List ByteArray) (ro : Option Addr) (rc : Nat) (rs : List (List ByteArray)) (w : World)
    (hn : hd.length ≤ 1099511627776) (hn2 : rs.length ≤ 1099511627776) (hn3 : ∀ r ∈ rs, r.length ≤ 1099511627776) (hH : StrRow w ho hd) (hR : RowsAt w ro rs) (hsum : sumT (allT hd rs) ≤ 1152921504606846976) :
    Calls Tryz.prog 21 #[.agg #[.slice ho hd.length hc, .slice ro rs.length rc]] w fun e w' => e = .returned (.int .i64 (sumT (allT hd rs) : Int)) ∧ Below w.heap.size w w' := by
  obtain ⟨W, HW⟩ : ∃ W, Hid (W = w.alloc (TabO ho hd.length hc ro rs.length rc)) := ⟨_, Lib.hid rfl⟩
  have hB : Below w.heap.size w W := by rw [HW.out]; exact one_below _ _
  have HB := Lib.hid hB
  have HHo := Lib.hid (hH.kept hB)
  have HRo := Lib.hid (hR.kept hB)
  have HN3 := Lib.hid hn3
  have HSH := Lib.hid (sum_head hd rs)
  have HSR := Lib.hid (sum_row hd rs)
  have HRE := Lib.hid (row_end hd rs)
  have E1 := Lib.hid (show allT hd rs = hd ++ (rs.take rs.length).flatten by simp [allT])
  have hN : W.heap[w.heap.size]? = some (TabO ho hd.length hc ro rs.length rc) := by rw [HW.out]; exact World.alloc_heap_new w _
  obtain ⟨c0, c1⟩ := tabs hN
  obtain ⟨S, HS⟩ : ∃ S : Nat, Hid (S = sumT (allT hd rs)) := ⟨_, Lib.hid rfl⟩
  rw [← HS.out] at hsum HSH HSR ⊢
  clear hH hR hn3 hB hN
  go_enter Tryz.func21, Tryz.ntmps21
  go_wp2_with fail
  rw [show w.alloc (Obj.cells #[Value.slice ho hd.length hc, Value.slice ro rs.length rc] 25) = W from HW.out.symm]
  go_loopw [3, 4] (fun p i wr => ∃ k m : Nat, k ≤ hd.length ∧ m ≤ 1152921504606846976 ∧ p = .int .i64 m ∧ i = .int .i64 k ∧ wr = W ∧ Hid (m = sumT (hd.take k))) (fun _ i _ => hd.length - (intOf i).toNat)
  case atStart => exact ⟨0, 0, Nat.zero_le _, Nat.zero_le _, rfl, rfl, rfl, Lib.hid (by simp [sumT])⟩
  case round =>
    obtain ⟨k, m, hk, hm, rfl, rfl, rfl, HM⟩ := hrel
    by_cases hlt : k < hd.length
    · obtain ⟨x, hx⟩ : ∃ x, hd[k]? = some x := ⟨_, List.getElem?_eq_getElem hlt⟩
      have HX := Lib.hid (HSH.out k x hx)
      have hle : m + x.size ≤ 1152921504606846976 := by have h1 := HX.out.1; have h2 := HX.out.2; have h3 := HM.out; omega
      have HM' : Hid (m + x.size = sumT (hd.take (k + 1))) := Lib.hid (by rw [HX.out.1, HM.out])
      rcases HHo.out with h0 | ⟨A, rfl, hA, hcell⟩
      · rw [h0] at hlt; simp at hlt
      have hcx := hcell k x hx
      clear hcell hx
      go_wp2_with fail
      go_roundw
      case rel => exact ⟨k + 1, m + x.size, by omega, hle, by go_num, by go_num, by first | rfl | trivial, HM'⟩
      case measure => simp [intOf]; omega
    · obtain rfl : k = hd.length := by omega
      go_wp2_with fail
      obtain ⟨wo, rfl⟩ : ∃ wo : World, wo = wr := ⟨_, rfl⟩
      go_loopw [3, 5] (fun p i wr => ∃ k m : Nat, k ≤ rs.length ∧ m ≤ 1152921504606846976 ∧ p = .int .i64 m ∧ i = .int .i64 k ∧ wr = wo ∧ Hid (m = sumT (hd ++ (rs.take k).flatten))) (fun _ i _ => rs.length - (intOf i).toNat)
      case atStart => exact ⟨0, m, Nat.zero_le _, hm, rfl, rfl, rfl, Lib.hid (by rw [HM.out, List.take_length]; simp)⟩
      case round =>
        obtain ⟨k, m, hk, hm, rfl, rfl, hww, HM⟩ := hrel
        subst hww
        by_cases hlt : k < rs.length
        · obtain ⟨r, hr⟩ : ∃ r, rs[k]? = some r := ⟨_, List.getElem?_eq_getElem hlt⟩
          have HRk := Lib.hid hr
          have hrl := HN3.out r (List.mem_of_getElem? hr)
          rcases HRo.out with h0 | ⟨A, rfl, hA, hcell⟩
          · rw [h0] at hlt; simp at hlt
          obtain ⟨ro1, rc1, hc1, hs1⟩ := hcell k r hr
          have HS1 := Lib.hid hs1
          clear hcell hr hs1
          go_wp2_with fail
          obtain ⟨wo2, rfl⟩ : ∃ wo2 : World, wo2 = wr := ⟨_, rfl⟩
          go_loopw [3, 6] (fun p i wr => ∃ j m : Nat, j ≤ r.length ∧ m ≤ 1152921504606846976 ∧ p = .int .i64 m ∧ i = .int .i64 j ∧ wr = wo2 ∧ Hid (m = sumT (hd ++ (rs.take k).flatten ++ r.take j))) (fun _ i _ => r.length - (intOf i).toNat)
          case atStart => exact ⟨0, m, Nat.zero_le _, hm, rfl, rfl, rfl, Lib.hid (by rw [HM.out]; simp)⟩
          case round =>
            obtain ⟨j, m, hj, hm, rfl, rfl, hww, HM⟩ := hrel
            subst hww
            by_cases hjl : j < r.length
            · obtain ⟨x, hx⟩ : ∃ x, r[j]? = some x := ⟨_, List.getElem?_eq_getElem hjl⟩
              have HX := Lib.hid (HSR.out k j r x HRk.out hx)
              have hle : m + x.size ≤ 1152921504606846976 := by have h1 := HX.out.1; have h2 := HX.out.2; have h3 := HM.out; omega
              have HM' : Hid (m + x.size = sumT (hd ++ (rs.take k).flatten ++ r.take (j + 1))) := Lib.hid (by rw [HX.out.1, HM.out])
              rcases HS1.out with h0 | ⟨A1, rfl, hA1, hcell⟩
              · rw [h0] at hjl; simp at hjl
              have hcx := hcell j x hx
              clear hcell hx
              go_wp2_with fail
              go_roundw
              case rel => exact ⟨j + 1, m + x.size, by omega, hle, by go_num, by go_num, by first | rfl | trivial, HM'⟩
              case measure => simp [intOf]; omega
            · obtain rfl : j = r.length := by omega
              have HM' : Hid (m = sumT (hd ++ (rs.take (k + 1)).flatten)) := Lib.hid (by rw [← HRE.out k r HRk.out, HM.out])
              go_wp2_with fail
              go_roundw
              case rel => exact ⟨k + 1, m, by omega, hm, rfl, by go_num, by first | rfl | trivial, HM'⟩
              case measure => simp [intOf]; omega
        · obtain rfl : k = rs.length := by omega
          have HE : Hid (m = S) := Lib.hid (by rw [HS.out, E1.out]; exact HM.out)
          go_wp2_with fail
          go_ret
          exact ⟨by rw [← HE.out]; rfl, HB.out⟩

set_option maxRecDepth 100000 in
set_option maxHeartbeats 4000000 in
theorem rfind_any (ho : Option Addr) (hc : Nat) (hd : List ByteArray) (ro : Option Addr) (m rc : Nat) (s : ByteArray) (w : World) (hn : hd.length ≤ 1099511627776) (hH : StrRow w ho hd) :
    Calls Tryz.prog 30 #[.agg #[.slice ho hd.length hc, .slice ro m rc], .string s] w fun e w' => e = .returned (.int .i64 (findL hd s)) ∧ Below w.heap.size w w' := by
  obtain ⟨W, HW⟩ : ∃ W, Hid (W = w.alloc (TabO ho hd.length hc ro m rc)) := ⟨_, Lib.hid rfl⟩
  have hB : Below w.heap.size w W := by rw [HW.out]; exact one_below _ _
  have HB := Lib.hid hB
  have HHo := Lib.hid (hH.kept hB)
  have hN : W.heap[w.heap.size]? = some (TabO ho hd.length hc ro m rc) := by rw [HW.out]; exact World.alloc_heap_new w _
  obtain ⟨c0, c1⟩ := tabs hN
  have HF := Lib.hid (firstAt_none (fun c => decide (c.data.toList = s.data.toList)) hd)
  have HS := Lib.hid (firstAt_some (fun c => decide (c.data.toList = s.data.toList)) hd)
  unfold findL
  clear hH hB hN
  generalize firstAt (fun c => decide (c.data.toList = s.data.toList)) hd = F at HF HS ⊢
  go_enter Tryz.func30, Tryz.ntmps30
  go_wp2_with fail
  rw [show w.alloc (Obj.cells #[Value.slice ho hd.length hc, Value.slice ro m rc] 25) = W from HW.out.symm]
  go_loopw [5] (fun i wr => ∃ k : Nat, k ≤ hd.length ∧ i = .int .i64 k ∧ wr = W ∧ Hid (∀ j c, j < k → hd[j]? = some c → decide (c.data.toList = s.data.toList) = false)) (fun i _ => hd.length - (intOf i).toNat)
  case atStart => exact ⟨0, Nat.zero_le _, rfl, rfl, Lib.hid (fun j c h _ => by omega)⟩
  case round =>
    obtain ⟨k, hk, rfl, rfl, HN⟩ := hrel
    by_cases hlt : k < hd.length
    · obtain ⟨x, hx⟩ : ∃ x, hd[k]? = some x := ⟨_, List.getElem?_eq_getElem hlt⟩
      have HX := Lib.hid hx
      have hbe := str_beq x s
      rcases HHo.out with h0 | ⟨A, rfl, hA, hcell⟩
      · rw [h0] at hlt; simp at hlt
      have hcx := hcell k x hx
      clear hcell hx
      by_cases hp : x.data.toList = s.data.toList
      · have E := Lib.hid (HS.out k x HX.out (decide_eq_true hp) HN.out)
        rw [decide_eq_true hp] at hbe
        clear hp
        go_wp2_with fail
        go_ret
        exact ⟨by rw [E.out]; rfl, HB.out⟩
      · have HN' : Hid (∀ j c, j < k + 1 → hd[j]? = some c → decide (c.data.toList = s.data.toList) = false) := Lib.hid (fun j c hj hc' => by
          by_cases e : j = k
          · subst e; rw [HX.out] at hc'; cases hc'; exact decide_eq_false hp
          · exact HN.out j c (by omega) hc')
        rw [decide_eq_false hp] at hbe
        clear hp
        go_wp2_with fail
        go_roundw
        case rel => exact ⟨k + 1, by omega, by go_num, by first | rfl | trivial, HN'⟩
        case measure => simp [intOf]; omega
    · obtain rfl : k = hd.length := by omega
      have E := Lib.hid (HF.out (fun j c hc => HN.out j c (by obtain ⟨h, _⟩ := List.getElem?_eq_some_iff.1 hc; exact h) hc))
      go_wp2_with fail
      go_ret
      exact ⟨by rw [E.out]; rfl, HB.out⟩

set_option maxRecDepth 100000 in
set_option maxHeartbeats 4000000 in
theorem rlong_any (ho : Option Addr) (hc : Nat) (hd : List ByteArray) (w : World) (hn : hd.length ≤ 1099511627776) (hs : ∀ c ∈ hd, c.size ≤ 1152921504606846976) (hH : StrRow w ho hd) :
    Calls Tryz.prog 53 #[.slice ho hd.length hc] w fun e w' => e = .returned (.bool (longT hd)) ∧ w = w' := by
  have HHo := Lib.hid hH
  have HS := Lib.hid hs
  have HL0 := Lib.hid (fun h => longT_no (l := hd) h)
  have HL1 := Lib.hid (fun h => longT_yes (l := hd) (pre := hd) (List.prefix_refl _) h)
  clear hH hs
  generalize longT hd = F at HL0 HL1 ⊢
  go_enter Tryz.func53, Tryz.ntmps53
  go_wp2_with fail
  go_loopw [3] (fun i wr => ∃ k : Nat, k ≤ hd.length ∧ i = .int .i64 k ∧ wr = w ∧ Hid (∀ j c, j < k → hd[j]? = some c → c.size ≤ 1000)) (fun i _ => hd.length - (intOf i).toNat)
  case atStart => exact ⟨0, Nat.zero_le _, rfl, rfl, Lib.hid (fun j c h _ => by omega)⟩
  case round =>
    obtain ⟨k, hk, rfl, rfl, HN⟩ := hrel
    by_cases hlt : k < hd.length
    · obtain ⟨x, hx⟩ : ∃ x, hd[k]? = some x := ⟨_, List.getElem?_eq_getElem hlt⟩
      have HX := Lib.hid hx
      have hxs := HS.out x (List.mem_of_getElem? hx)
      rcases HHo.out with h0 | ⟨A, rfl, hA, hcell⟩
      · rw [h0] at hlt; simp at hlt
      have hcx := hcell k x hx
      clear hcell hx
      by_cases hp : x.size ≤ 1000
      · have HN' : Hid (∀ j c, j < k + 1 → hd[j]? = some c → c.size ≤ 1000) := Lib.hid (fun j c hj hc' => by
          by_cases e : j = k
          · subst e; rw [HX.out] at hc'; cases hc'; exact hp
          · exact HN.out j c (by omega) hc')
        go_wp2_with fail
        go_roundw
        case rel => exact ⟨k + 1, by omega, by go_num, by first | rfl | trivial, HN'⟩
        case measure => simp [intOf]; omega
      · have E := Lib.hid (HL1.out ⟨x, List.mem_of_getElem? HX.out, by omega⟩)
        go_wp2_with fail
        go_ret
        exact ⟨by rw [E.out]; rfl, rfl⟩
    · obtain rfl : k = hd.length := by omega
      have E := Lib.hid (HL0.out (fun c hc => by
        obtain ⟨i, hi, rfl⟩ := List.getElem_of_mem hc
        exact HN.out i _ hi (List.getElem?_eq_getElem hi)))
      go_wp2_with fail
      go_ret
      exact ⟨by rw [E.out]; rfl, rfl⟩

/-- a small table -/
def fewT (hd : List ByteArray) (rs : List (List ByteArray)) : Prop := fewP rs ∧ hd.length ≤ 60 ∧ sumT (allT hd rs) ≤ 8000
theorem sum_le (n B : Nat) (l : List ByteArray) (hl : l.length ≤ n) (h : ∀ c ∈ l, c.size ≤ B) : sumT l ≤ n * B := by
  induction l generalizing n with
  | nil => simp [sumT]
  | cons x l ih =>
    obtain ⟨m, rfl⟩ : ∃ m, n = m + 1 := ⟨n - 1, by simp at hl; omega⟩
    have := ih m (by simp at hl; omega) (fun c hc => h c (List.mem_cons_of_mem _ hc))
    have hx := h x List.mem_cons_self
    simp only [sumT, List.map_cons, List.sum_cons] at this ⊢
    rw [Nat.add_mul]; omega
theorem sum_rows (rs : List (List ByteArray)) : sumT rs.flatten ≤ tot rs := by
  induction rs with
  | nil => simp [sumT, tot]
  | cons x l ih =>
    have h1 : sumT x ≤ rowTot x := by
      clear ih
      induction x with
      | nil => simp [sumT, rowTot]
      | cons a b ih => simp only [sumT, rowTot, List.map_cons, List.sum_cons] at ih ⊢; omega
    simp only [sumT, tot, List.flatten_cons, List.map_append, List.sum_append, List.map_cons, List.sum_cons] at ih h1 ⊢; omega

set_option maxRecDepth 100000 in
set_option maxHeartbeats 4000000 in
theorem rfew_any (ho : Option Addr) (hc : Nat) (hd : List ByteArray) (ro : Option Addr) (rc : Nat) (rs : List (List ByteArray)) (w : World)
    (hn : hd.length ≤ maxLen) (hn2 : rs.length ≤ maxLen) (hx : ∀ r ∈ rs, r.length ≤ maxLen ∧ ∀ c ∈ r, c.size ≤ 140737488351232) (hs : ∀ c ∈ hd, c.size ≤ 140737488351232) (hH : StrRow w ho hd) (hR : RowsAt w ro rs) :
    Calls Tryz.prog 9 #[.agg #[.slice ho hd.length hc, .slice ro rs.length rc]] w fun e w' => ∃ b, e = .returned (.bool b) ∧ (b = true → fewT hd rs) ∧ Below w.heap.size w w' := by
  obtain ⟨W, HW⟩ : ∃ W, Hid (W = w.alloc (TabO ho hd.length hc ro rs.length rc)) := ⟨_, Lib.hid rfl⟩
  have hB : Below w.heap.size w W := by rw [HW.out]; exact one_below _ _
  have HB := Lib.hid hB
  have C1 := Lib.hid (fewReach_any ro rc rs W hn2 hx (hR.kept hB))
  have C2 : Hid (fewP rs → hd.length ≤ 60 → Calls Tryz.prog 21 #[.agg #[.slice ho hd.length hc, .slice ro rs.length rc]] W fun e w' => e = .returned (.int .i64 (sumT (allT hd rs) : Int)) ∧ Below W.heap.size W w') := Lib.hid (fun h h60 =>
    rtotal_any ho hc hd ro rc rs W (by omega) (by have := h.1; omega) (fun r hr => by have := h.2.1 r hr; omega) (hH.kept hB) (hR.kept hB) (by
      have h1 := sum_le 60 140737488351232 hd h60 hs
      have h2 := sum_rows rs
      have h3 := h.2.2
      have e : sumT (allT hd rs) = sumT hd + sumT rs.flatten := by simp [allT, sumT]
      omega))
  have hN : W.heap[w.heap.size]? = some (TabO ho hd.length hc ro rs.length rc) := by rw [HW.out]; exact World.alloc_heap_new w _
  obtain ⟨c0, c1⟩ := tabs hN
  unfold maxLen at hn hn2
  clear hH hR hx hs hB hN
  go_enter Tryz.func9, Tryz.ntmps9
  go_wp2_with fail
  rw [show w.alloc (Obj.cells #[Value.slice ho hd.length hc, Value.slice ro rs.length rc] 25) = W from HW.out.symm]
  refine C1.out.mono ?_; rintro e w1 ⟨b, rfl, hb, rfl⟩
  cases b with
  | false =>
    clear hb
    go_wp2_with fail
    go_ret
    exact ⟨false, rfl, (fun h => by cases h), HB.out⟩
  | true =>
    have HF := Lib.hid (hb rfl)
    clear hb
    by_cases h60 : hd.length ≤ 60
    · have C3 := Lib.hid (C2.out HF.out h60)
      have H8 := Lib.hid (fun (h : sumT (allT hd rs) ≤ 8000) => (show fewT hd rs from ⟨HF.out, h60, h⟩))
      clear C2
      generalize sumT (allT hd rs) = t at C3 H8
      by_cases h8 : t ≤ 8000
      · go_wp2_with fail
        refine C3.out.mono ?_; rintro e w2 ⟨rfl, b2⟩
        have B2 := Lib.hid (below_up HB.out b2)
        clear b2
        go_wp2_with fail
        go_ret
        exact ⟨_, rfl, fun _ => H8.out h8, B2.out⟩
      · have hd8 : decide ((t : Int) ≤ 8000) = false := by simp; omega
        go_wp2_with fail
        refine C3.out.mono ?_; rintro e w2 ⟨rfl, b2⟩
        have B2 := Lib.hid (below_up HB.out b2)
        clear b2
        go_wp2_with fail
        go_ret
        exact ⟨false, by simp, (fun h => by cases h), B2.out⟩
    · have hd6 : decide ((hd.length : Int) ≤ 60) = false := by simp; omega
      clear C2
      go_wp2_with fail
      go_ret
      exact ⟨false, by simp, (fun h => by cases h), HB.out⟩

theorem cell_parts (rs : List (List ByteArray)) (r c : Int) : (r < 0 ∧ cellL rs r c = ⟨#[]⟩) ∨ ((rs.length : Int) ≤ r ∧ cellL rs r c = ⟨#[]⟩) ∨ (∃ k : Nat, r = k ∧ k < rs.length ∧ ∃ x, rs[k]? = some x ∧
    ((c < 0 ∧ cellL rs r c = ⟨#[]⟩) ∨ (0 ≤ c ∧ (x.length : Int) ≤ c ∧ cellL rs r c = ⟨#[]⟩) ∨ ∃ j : Nat, c = j ∧ j < x.length ∧ ∃ y, x[j]? = some y ∧ cellL rs r c = y)) := by
  by_cases h1 : r < 0
  · exact .inl ⟨h1, cellL_row rs r c (by simp; omega)⟩
  by_cases h2 : (rs.length : Int) ≤ r
  · exact .inr (.inl ⟨h2, cellL_row rs r c (by simp; omega)⟩)
  obtain ⟨k, rfl⟩ := Int.eq_ofNat_of_zero_le (show 0 ≤ r by omega)
  have hk : k < rs.length := by omega
  refine .inr (.inr ⟨k, rfl, hk, rs[k], List.getElem?_eq_getElem hk, ?_⟩)
  by_cases h3 : c < 0
  · exact .inl ⟨h3, cellL_col rs k rs[k] c (List.getElem?_eq_getElem hk) (by simp; omega)⟩
  by_cases h4 : ((rs[k]).length : Int) ≤ c
  · exact .inr (.inl ⟨by omega, h4, cellL_col rs k rs[k] c (List.getElem?_eq_getElem hk) (by simp; omega)⟩)
  obtain ⟨j, rfl⟩ := Int.eq_ofNat_of_zero_le (show 0 ≤ c by omega)
  have hj : j < (rs[k]).length := by omega
  exact .inr (.inr ⟨j, rfl, hj, _, List.getElem?_eq_getElem hj, cellL_at rs k j _ _ (List.getElem?_eq_getElem hk) (List.getElem?_eq_getElem hj)⟩)

set_option maxRecDepth 100000 in
set_option maxHeartbeats 4000000 in
theorem rcell_any (ho : Option Addr) (m hc : Nat) (ro : Option Addr) (rc : Nat) (rs : List (List ByteArray)) (r c : Int) (w : World) (hR : RowsAt w ro rs) :
    Calls Tryz.prog 97 #[.agg #[.slice ho m hc, .slice ro rs.length rc], .int .i64 r, .int .i64 c] w fun e w' => e = .returned (.string (cellL rs r c)) ∧ Below w.heap.size w w' := by
  have HB := Lib.hid (one_below w (TabO ho m hc ro rs.length rc))
  have HR := Lib.hid (hR.kept HB.out)
  have P := cell_parts rs r c
  clear hR
  rcases P with ⟨h, e⟩ | ⟨h, e⟩ | ⟨k, rfl, hk, x, hx, P⟩
  · have E := Lib.hid e
    clear e
    go_enter Tryz.func97, Tryz.ntmps97
    go_wp2_with fail
    go_ret
    exact ⟨by rw [E.out]; rfl, HB.out⟩
  · have E := Lib.hid e
    have h0 : ¬ r < 0 := by omega
    clear e
    go_enter Tryz.func97, Tryz.ntmps97
    go_wp2_with fail
    go_ret
    exact ⟨by rw [E.out]; rfl, HB.out⟩
  · rcases HR.out with h0 | ⟨A, rfl, hA, hcell⟩
    · rw [h0] at hk; simp at hk
    obtain ⟨ro1, rc1, hc1, hs1⟩ := hcell k x hx
    have HS1 := Lib.hid hs1
    clear hcell hs1 hx
    rcases P with ⟨h, e⟩ | ⟨h, h', e⟩ | ⟨j, rfl, hj, y, hy, e⟩
    · have E := Lib.hid e
      clear e
      go_enter Tryz.func97, Tryz.ntmps97
      go_wp2_with fail
      go_ret
      exact ⟨by rw [E.out]; rfl, HB.out⟩
    · have E := Lib.hid e
      have h0 : ¬ c < 0 := by omega
      clear e
      go_enter Tryz.func97, Tryz.ntmps97
      go_wp2_with fail
      go_ret
      exact ⟨by rw [E.out]; rfl, HB.out⟩
    · rcases HS1.out with h0 | ⟨A1, rfl, hA1, hcell⟩
      · rw [h0] at hj; simp at hj
      have hcy := hcell j y hy
      have E := Lib.hid e
      clear e hcell hy
      go_enter Tryz.func97, Tryz.ntmps97
      go_wp2_with fail
      go_ret
      exact ⟨by rw [E.out]; rfl, HB.out⟩
end Go.Proofs.YtigijgcldgbokaaGreat
namespace Go.Proofs.YtigijgcldgbokaaGreat
open Go.RowKit Go.Shelf
set_option linter.unusedVariables false

theorem own_cap {w : World} {base : Nat} {e : TypeId} {size : Nat} {ao : Option Addr} {m n cap : Nat} {xs : List Value} (h : w.ownsRow base e size (.slice ao m cap) n xs) : n ≤ cap := by
  rcases h.2 with ⟨h1, h2⟩ | ⟨g, c, cur, h1, _, _, h2, _⟩
  · cases h1; omega
  · cases h1; exact h2

theorem strRow_other {w w' : World} {ao : Option Addr} {xs : List ByteArray} (h : StrRow w ao xs) (hz : w.heap.size ≤ w'.heap.size) (g : Nat) (hg : ∀ A, ao = some A → A.block ≠ g) (hk : ∀ k, k < w.heap.size → k ≠ g → w'.heap[k]? = w.heap[k]?) : StrRow w' ao xs := by
  rcases h with h | ⟨A, h1, h2, h3⟩
  · exact .inl h
  · exact .inr ⟨A, h1, Nat.lt_of_lt_of_le h2 hz, fun i c hc => (World.cell?_of_block (a := A.add i) (by rw [add_block]; exact hk _ h2 (hg A h1))).trans (h3 i c hc)⟩
/-- the values in the cells of rows -/
theorem rows_vals {w : World} {h n cap base : Nat} {rs : List (List ByteArray)} {vs : List Value} (hR : RowsAt w (some ⟨h, 0, none⟩) rs) (hn : n = rs.length) (ho : w.ownsRow base 22 1 (.slice (some ⟨h, 0, none⟩) n cap) n vs) :
    vs.length = n ∧ ∀ (j : Nat) r, rs[j]? = some r → ∃ (ro : Option Addr) (c : Cap ro r.length), vs[j]? = some (.slice ro r.length c.1) ∧ StrRow w ro r := by
  have hl : vs.length = n := by have := ho.1; omega
  refine ⟨hl, fun j r hr => ?_⟩
  have hj := (List.getElem?_eq_some_iff.1 hr).1
  rcases hR with h0 | ⟨A, hA, hb, hc⟩
  · rw [h0] at hj; simp at hj
  cases hA
  obtain ⟨ro, c, h1, h2⟩ := hc j r hr
  have h3 := ho.cells rfl j (vs[j]'(by omega)) (List.getElem?_eq_getElem (by omega))
  rw [h1] at h3
  exact ⟨ro, c, by rw [List.getElem?_eq_getElem (by omega), ← h3], h2⟩
theorem vals_one {rs : List (List ByteArray)} {vs : List Value} {w : World} (hl : vs.length = rs.length) (h : ∀ (j : Nat) r, rs[j]? = some r → ∃ (ro : Option Addr) (c : Cap ro r.length), vs[j]? = some (.slice ro r.length c.1) ∧ StrRow w ro r) : ∀ u ∈ vs, u.oneCell' = true := fun u hu => by
  obtain ⟨i, hi, rfl⟩ := List.getElem_of_mem hu
  obtain ⟨ro, c, h1, _⟩ := h i rs[i] (List.getElem?_eq_getElem (by omega))
  rw [List.getElem?_eq_getElem hi] at h1
  have h2 : vs[i] = Value.slice ro rs[i].length c.1 := Option.some.inj h1
  show (vs[i]).oneCell' = true
  rw [h2]; rfl

def ofErr : List (List ByteArray) → Int | [] => 8 | h :: t => checkI h t
def ofHead : List (List ByteArray) → List ByteArray | [] => [] | h :: t => if checkI h t = 0 then h else []
def ofRows : List (List ByteArray) → List (List ByteArray) | [] => [] | h :: t => if checkI h t = 0 then t else []
/-- what Of answers -/
def OfPost (l : List (List ByteArray)) (w : World) (e : Ending) (w' : World) : Prop :=
  ∃ (ho : Option Addr) (hc : Cap ho (ofHead l).length) (ro : Option Addr) (rc : Cap ro (ofRows l).length), e = .returned (.tuple #[.agg #[.slice ho (ofHead l).length hc.1, .slice ro (ofRows l).length rc.1], .int .i64 (ofErr l)]) ∧ StrRow w' ho (ofHead l) ∧ RowsAt w' ro (ofRows l) ∧ Below w.heap.size w w' ∧ ∀ A, ro = some A → w.heap.size ≤ A.block
theorem add0 (A : Addr) : A.add 0 = A := by unfold Addr.add; split <;> (cases A; simp_all)
/-- where a block that holds no text turns, rows of texts elsewhere stay -/
theorem str_turn {w w' : World} {b : Nat} {cs : Array Value} {T : TypeId} {fr : Nat × Nat} (hb : w.heap[b]? = some (.cells cs T fr)) (hcs : ∀ (j : Nat) s, cs[j]? ≠ some (.string s)) (hz : w.heap.size ≤ w'.heap.size) (hk : ∀ k, k ≠ b → w'.heap[k]? = w.heap[k]?)
    {ao : Option Addr} {xs : List ByteArray} (h : StrRow w ao xs) : StrRow w' ao xs := by
  by_cases h0 : xs = []
  · exact .inl h0
  · rcases h with h | ⟨A, h1, h2, h3⟩
    · exact .inl h
    · have hp : 0 < xs.length := List.length_pos_iff.2 h0
      have hne : A.block ≠ b := fun e => by
        have hc := h3 0 xs[0] (List.getElem?_eq_getElem hp)
        rw [add0] at hc
        unfold World.cell? at hc
        rw [e, hb] at hc
        simp only at hc
        split at hc
        · cases hc
        · exact hcs _ _ hc
      exact .inr ⟨A, h1, Nat.lt_of_lt_of_le h2 hz, fun i c hc => (World.cell?_of_block (a := A.add i) (by rw [add_block]; exact hk _ hne)).trans (h3 i c hc)⟩
theorem rows_turn {w w' : World} {b : Nat} {cs : Array Value} {T : TypeId} {fr : Nat × Nat} (hb : w.heap[b]? = some (.cells cs T fr)) (hcs : ∀ (j : Nat) s, cs[j]? ≠ some (.string s)) (hz : w.heap.size ≤ w'.heap.size) (hk : ∀ k, k ≠ b → w'.heap[k]? = w.heap[k]?)
    {A : Addr} {rs : List (List ByteArray)} (hA : A.block ≠ b) (h : RowsAt w (some A) rs) : RowsAt w' (some A) rs := by
  rcases h with h | ⟨A', h1, h2, h3⟩
  · exact .inl h
  · cases h1
    refine .inr ⟨A, rfl, Nat.lt_of_lt_of_le h2 hz, fun i r hr => ?_⟩
    obtain ⟨ro, c, h4, h5⟩ := h3 i r hr
    exact ⟨ro, c, (World.cell?_of_block (a := A.add i) (by rw [add_block]; exact hk _ hA)).trans h4, str_turn hb hcs hz hk h5⟩
theorem rows_tail {w : World} {A : Addr} {x : List ByteArray} {t : List (List ByteArray)} (h : RowsAt w (some A) (x :: t)) : RowsAt w (some ⟨A.block, A.off + 1, none⟩) t := by
  show RowsAt w (some (A.add 1)) t
  rcases h with h | ⟨A', hA, hb, hc⟩
  · cases h
  cases hA
  refine .inr ⟨_, rfl, by rw [add_block]; exact hb, fun i r hr => ?_⟩
  obtain ⟨ro, c, h1, h2⟩ := hc (i + 1) r (by simpa using hr)
  exact ⟨ro, c, by rw [Addr.add_add, Nat.add_comm 1 i]; exact h1, h2⟩

set_option maxRecDepth 100000 in
set_option maxHeartbeats 4000000 in
theorem of_nil (ao : Option Addr) (cap : Nat) (w : World) : Calls Tryz.prog 73 #[.slice ao 0 cap] w (OfPost [] w) := by
  have HB := Lib.hid (one_below w (.cells #[.slice none 0 0, .slice none 0 0] 25))
  go_enter Tryz.func73, Tryz.ntmps73
  go_wp2_with fail
  refine bodyPost_ret (v := .tuple #[.agg #[.slice none 0 0, .slice none 0 0], .int .i64 8]) (by simp [results, Tryz.results73, go_sem]) rfl ?_
  exact ⟨none, ⟨0, Nat.le_refl _, fun _ => rfl⟩, none, ⟨0, Nat.le_refl _, fun _ => rfl⟩, rfl, .inl rfl, .inl rfl, HB.out, fun A hA => by cases hA⟩

set_option maxRecDepth 100000 in
set_option maxHeartbeats 800000 in
theorem of_more (A : Addr) (cap : Nat) (x : List ByteArray) (t : List (List ByteArray)) (w : World) (hcap : t.length + 1 ≤ cap) (hne : ¬ cap = 1) (hn : x.length ≤ 1099511627776) (hs : ∀ c ∈ x, c.size ≤ 281474976710656)
    (hn2 : t.length ≤ 1099511627776) (hs2 : ∀ r ∈ t, r.length ≤ 1099511627776 ∧ ∀ c ∈ r, c.size ≤ 281474976710656) (hsum : sumT (allT x t) ≤ 1152921504606846976) (hR : RowsAt w (some A) (x :: t)) :
    Calls Tryz.prog 73 #[.slice (some A) (t.length + 1) cap] w (OfPost (x :: t) w) := by
  obtain ⟨W, HW⟩ : ∃ W, Hid (W = w.alloc (.cells #[.slice none 0 0, .slice none 0 0] 25)) := ⟨_, Lib.hid rfl⟩
  have hB : Below w.heap.size w W := by rw [HW.out]; exact one_below _ _
  have hN : W.heap[w.heap.size]? = some (.cells #[.slice none 0 0, .slice none 0 0] 25 (0, 0)) := by rw [HW.out]; exact World.alloc_heap_new w _
  have hRW := hR.kept hB
  obtain ⟨xo, xc, hx0, hxs⟩ : ∃ xo xc, W.cell? A = some (.slice xo x.length xc) ∧ StrRow W xo x := by
    rcases hRW with h | ⟨A', hA, hb, hc⟩
    · cases h
    cases hA
    obtain ⟨ro, c, h1, h2⟩ := hc 0 x rfl
    rw [add0] at h1
    exact ⟨ro, c, h1, h2⟩
  have hAb : A.block < w.heap.size := by
    rcases hR with h | ⟨A', hA, hb, hc⟩
    · cases h
    cases hA; exact hb
  have htt := rows_tail hRW
  have C := Lib.hid (check_any xo xc x (some ⟨A.block, A.off + 1, none⟩) (cap - 1) t W.drew hn hn2 (fun r hr => (hs2 r hr).1) hxs htt (fun c hc => by have := hs c hc; unfold maxLen; omega) hsum)
  have CP := Lib.hid (fun W' (h : Below W.heap.size W W') => put_any xo xc x (some ⟨A.block, A.off + 1, none⟩) (cap - 1) t W' hn hs (hxs.kept h) hn2 hs2 (htt.kept h))
  clear hR hRW htt hs hs2 hsum hxs
  have hb0 : ((t.length : Int) + 1 == 0) = false := by rw [beq_eq_false_iff_ne]; omega
  have q1 : (0 : Int) ≤ (t.length : Int) + 1 := by omega
  have q2 : (1 : Int) ≤ (t.length : Int) + 1 := by omega
  have q3 : (t.length : Int) + 1 ≤ (cap : Int) := by omega
  have HN := Lib.hid hN
  have HB := Lib.hid hB
  clear hN hB
  have E0 := Lib.hid (show ofErr (x :: t) = checkI x t from rfl)
  obtain ⟨er, HE⟩ : ∃ er, Hid (er = checkI x t) := ⟨_, Lib.hid rfl⟩
  rw [← HE.out] at C E0
  have HZ : Hid (¬ er = 0 → ofHead (x :: t) = [] ∧ ofRows (x :: t) = []) := Lib.hid (fun h => by rw [HE.out] at h; simp [ofHead, ofRows, h])
  have HO : Hid (er = 0 → ofHead (x :: t) = x ∧ ofRows (x :: t) = t) := Lib.hid (fun h => by rw [HE.out] at h; simp [ofHead, ofRows, h])
  unfold OfPost
  rw [E0.out]
  generalize ofHead (x :: t) = oh at HZ HO ⊢
  generalize ofRows (x :: t) = orr at HZ HO ⊢
  clear HE E0
  go_enter Tryz.func73, Tryz.ntmps73
  go_wp2_with fail
  rw [← HW.out]
  go_upto_region 3 with fail
  go_cut [4] from 9 to 15 (fun e wc => e = .int .i64 er ∧ Hid (Below W.heap.size W wc))
  case first =>
    go_region_with (go_at_call 17; (with_reducible refine C.out.mono ?_); rintro e w2 ⟨rfl, b2⟩; have B2 := Lib.hid ((Below.drew (Below.refl _ W)).trans b2); clear b2)
    all_goals (go_wp2_with fail; go_meet)
    all_goals exact ⟨rfl, B2⟩
  case rest =>
    obtain ⟨rfl, HBc⟩ := hcut
    rename World => wc
    have hz := (HBc.out.block _ (lt_of_heap HN.out)).trans HN.out
    have z0 : wc.cell? ⟨w.heap.size, 0, none⟩ = some (.slice none 0 0) := (Lib.cell_of_heap hz 0).trans rfl
    have z1 : wc.cell? ⟨w.heap.size, 1, none⟩ = some (.slice none 0 0) := (Lib.cell_of_heap hz 1).trans rfl
    have f0 : wc.frozen? ⟨w.heap.size, 0, none⟩ = false := Lib.frozen_of_heap hz 0
    have f1 : wc.frozen? ⟨w.heap.size, 1, none⟩ = false := Lib.frozen_of_heap hz 1
    have lz := lt_of_heap hz
    have HZz := Lib.hid hz
    clear C hz
    by_cases he : er = 0
    · have hb : (er != 0) = false := by simp [he]
      obtain ⟨h1, h2⟩ := HO.out he
      subst h1 h2
      have HEr := Lib.hid he
      clear he HZ HO
      have hxw := (HBc.out.cell (p := A) (by have := HB.out.size; omega)).trans hx0
      have PP := Lib.hid (CP.out wc.drew (Below.drew HBc.out))
      clear CP
      go_wp2_with fail
      go_region_with (go_at_call 103; (with_reducible refine PP.out.mono ?_); rintro e w2 ⟨g, h, rfl, hH, hR, ⟨vs, hv⟩, b2, hg⟩; have HQ := Lib.hid (And.intro hH (And.intro hR (And.intro (hv.lt h rfl).1 b2))); have k2 := (b2.block w.heap.size lz).trans HZz.out; have k0 : w2.cell? ⟨w.heap.size, 0, none⟩ = some (.slice none 0 0) := (Lib.cell_of_heap k2 0).trans rfl; have k1 : w2.cell? ⟨w.heap.size, 1, none⟩ = some (.slice none 0 0) := (Lib.cell_of_heap k2 1).trans rfl; have g0 : w2.frozen? ⟨w.heap.size, 0, none⟩ = false := Lib.frozen_of_heap k2 0; have g1 : w2.frozen? ⟨w.heap.size, 1, none⟩ = false := Lib.frozen_of_heap k2 1; have HK2 := Lib.hid k2; clear hH hR hv b2 hg k2)
      all_goals (go_wp2_with fail)
      all_goals
        obtain ⟨q1, q2, q3, q4⟩ := HQ.out
        refine bodyPost_ret (v := .tuple #[.agg #[.slice (some ⟨g, 0, none⟩) oh.length oh.length, .slice (some ⟨h, 0, none⟩) orr.length orr.length], .int .i64 er]) (by simp [results, Tryz.results73, go_sem, k0, k1, HEr.out]) rfl ?_
        have hk : ∀ u v k, k ≠ w.heap.size → ((w2.setCell ⟨w.heap.size, 0, none⟩ u).setCell ⟨w.heap.size, 1, none⟩ v).heap[k]? = w2.heap[k]? := fun u v k hk => (heap_setCell_other _ ⟨w.heap.size, 1, none⟩ k v hk).trans (heap_setCell_other _ ⟨w.heap.size, 0, none⟩ k u hk)
        have hno : ∀ (j : Nat) s, (#[Value.slice none 0 0, Value.slice none 0 0] : Array Value)[j]? ≠ some (.string s) := fun j s e => by
          match j, e with
          | 0, e => simp at e
          | 1, e => simp at e
        refine ⟨some ⟨g, 0, none⟩, ⟨_, Nat.le_refl _, fun e => by cases e⟩, some ⟨h, 0, none⟩, ⟨_, Nat.le_refl _, fun e => by cases e⟩, rfl, str_turn HK2.out hno (by simp) (hk _ _) q1, rows_turn HK2.out hno (by simp) (hk _ _) ?_ q2, ?_, fun A hA => by cases hA; have : w.heap.size < wc.heap.size := lz; have q3' : wc.heap.size ≤ h := q3; show w.heap.size ≤ h; omega⟩
        · have : w.heap.size < wc.heap.size := lz
          show h ≠ w.heap.size
          have q3' : wc.heap.size ≤ h := q3
          omega
        · exact (((below_up HB.out HBc.out).trans ((Below.drew (Below.refl _ wc)).trans q4 |>.mono (show w.heap.size ≤ wc.heap.size by omega))).setCell (p := ⟨w.heap.size, 0, none⟩) (Nat.le_refl _) _).setCell (p := ⟨w.heap.size, 1, none⟩) (Nat.le_refl _) _
    · have hb : (er != 0) = true := by simp [he]
      obtain ⟨h1, h2⟩ := HZ.out he
      subst h1 h2
      have HBW := Lib.hid (below_up HB.out HBc.out)
      clear he HZ HO CP
      go_wp2_with fail
      refine bodyPost_ret (v := .tuple #[.agg #[.slice none 0 0, .slice none 0 0], .int .i64 er]) (by simp [results, Tryz.results73, go_sem, z0, z1]) rfl ?_
      exact ⟨none, ⟨0, Nat.le_refl _, fun _ => rfl⟩, none, ⟨0, Nat.le_refl _, fun _ => rfl⟩, rfl, .inl rfl, .inl rfl, (HBW.out.setCell (p := ⟨w.heap.size, 0, none⟩) (Nat.le_refl _) _).setCell (p := ⟨w.heap.size, 1, none⟩) (Nat.le_refl _) _, fun A hA => by cases hA⟩

set_option maxRecDepth 100000 in
set_option maxHeartbeats 800000 in
theorem of_one (A : Addr) (x : List ByteArray) (w : World) (hn : x.length ≤ 1099511627776) (hs : ∀ c ∈ x, c.size ≤ 281474976710656) (hsum : sumT (allT x []) ≤ 1152921504606846976) (hR : RowsAt w (some A) [x]) :
    Calls Tryz.prog 73 #[.slice (some A) 1 1] w (OfPost [x] w) := by
  obtain ⟨W, HW⟩ : ∃ W, Hid (W = w.alloc (.cells #[.slice none 0 0, .slice none 0 0] 25)) := ⟨_, Lib.hid rfl⟩
  have hB : Below w.heap.size w W := by rw [HW.out]; exact one_below _ _
  have hN : W.heap[w.heap.size]? = some (.cells #[.slice none 0 0, .slice none 0 0] 25 (0, 0)) := by rw [HW.out]; exact World.alloc_heap_new w _
  have hRW := hR.kept hB
  obtain ⟨xo, xc, hx0, hxs⟩ : ∃ xo xc, W.cell? A = some (.slice xo x.length xc) ∧ StrRow W xo x := by
    rcases hRW with h | ⟨A', hA, hb, hc⟩
    · cases h
    cases hA
    obtain ⟨ro, c, h1, h2⟩ := hc 0 x rfl
    rw [add0] at h1
    exact ⟨ro, c, h1, h2⟩
  have hAb : A.block < w.heap.size := by
    rcases hR with h | ⟨A', hA, hb, hc⟩
    · cases h
    cases hA; exact hb
  have htt : RowsAt W (some A) ([] : List (List ByteArray)) := .inl rfl
  have hn2 : ([] : List (List ByteArray)).length ≤ 1099511627776 := by simp
  have hs2 : ∀ r ∈ ([] : List (List ByteArray)), r.length ≤ 1099511627776 ∧ ∀ c ∈ r, c.size ≤ 281474976710656 := fun r hr => by cases hr
  have C := Lib.hid (check_any xo xc x (some A) 0 [] W.drew hn hn2 (fun r hr => (hs2 r hr).1) hxs htt (fun c hc => by have := hs c hc; unfold maxLen; omega) hsum)
  have CP := Lib.hid (fun W' (h : Below W.heap.size W W') => put_any xo xc x (some A) 0 [] W' hn hs (hxs.kept h) hn2 hs2 (htt.kept h))
  simp only [List.length_nil] at C CP
  clear hR hRW htt hs hs2 hsum hxs
  have HN := Lib.hid hN
  have HB := Lib.hid hB
  clear hN hB
  have E0 := Lib.hid (show ofErr (x :: []) = checkI x [] from rfl)
  obtain ⟨er, HE⟩ : ∃ er, Hid (er = checkI x []) := ⟨_, Lib.hid rfl⟩
  rw [← HE.out] at C E0
  have HZ : Hid (¬ er = 0 → ofHead (x :: []) = [] ∧ ofRows (x :: []) = []) := Lib.hid (fun h => by rw [HE.out] at h; simp [ofHead, ofRows, h])
  have HO : Hid (er = 0 → ofHead (x :: []) = x ∧ ofRows (x :: []) = []) := Lib.hid (fun h => by rw [HE.out] at h; simp [ofHead, ofRows, h])
  unfold OfPost
  rw [E0.out]
  generalize ofHead (x :: []) = oh at HZ HO ⊢
  generalize ofRows (x :: []) = orr at HZ HO ⊢
  clear HE E0
  go_enter Tryz.func73, Tryz.ntmps73
  go_wp2_with fail
  rw [← HW.out]
  go_upto_region 3 with fail
  go_cut [4] from 9 to 15 (fun e wc => e = .int .i64 er ∧ Hid (Below W.heap.size W wc))
  case first =>
    go_region_with (go_at_call 17; (with_reducible refine C.out.mono ?_); rintro e w2 ⟨rfl, b2⟩; have B2 := Lib.hid ((Below.drew (Below.refl _ W)).trans b2); clear b2)
    all_goals (go_wp2_with fail; go_meet)
    all_goals exact ⟨rfl, B2⟩
  case rest =>
    obtain ⟨rfl, HBc⟩ := hcut
    rename World => wc
    have hz := (HBc.out.block _ (lt_of_heap HN.out)).trans HN.out
    have z0 : wc.cell? ⟨w.heap.size, 0, none⟩ = some (.slice none 0 0) := (Lib.cell_of_heap hz 0).trans rfl
    have z1 : wc.cell? ⟨w.heap.size, 1, none⟩ = some (.slice none 0 0) := (Lib.cell_of_heap hz 1).trans rfl
    have f0 : wc.frozen? ⟨w.heap.size, 0, none⟩ = false := Lib.frozen_of_heap hz 0
    have f1 : wc.frozen? ⟨w.heap.size, 1, none⟩ = false := Lib.frozen_of_heap hz 1
    have lz := lt_of_heap hz
    have HZz := Lib.hid hz
    clear C hz
    by_cases he : er = 0
    · have hb : (er != 0) = false := by simp [he]
      obtain ⟨h1, h2⟩ := HO.out he
      subst h1 h2
      have HEr := Lib.hid he
      clear he HZ HO
      have hxw := (HBc.out.cell (p := A) (by have := HB.out.size; omega)).trans hx0
      have PP := Lib.hid (CP.out wc.drew (Below.drew HBc.out))
      clear CP
      go_wp2_with fail
      go_region_with (go_at_call 103; (with_reducible refine PP.out.mono ?_); rintro e w2 ⟨g, h, rfl, hH, hR, ⟨vs, hv⟩, b2, hg⟩; have HQ := Lib.hid (And.intro hH (And.intro hR (And.intro (hv.lt h rfl).1 b2))); have k2 := (b2.block w.heap.size lz).trans HZz.out; have k0 : w2.cell? ⟨w.heap.size, 0, none⟩ = some (.slice none 0 0) := (Lib.cell_of_heap k2 0).trans rfl; have k1 : w2.cell? ⟨w.heap.size, 1, none⟩ = some (.slice none 0 0) := (Lib.cell_of_heap k2 1).trans rfl; have g0 : w2.frozen? ⟨w.heap.size, 0, none⟩ = false := Lib.frozen_of_heap k2 0; have g1 : w2.frozen? ⟨w.heap.size, 1, none⟩ = false := Lib.frozen_of_heap k2 1; have HK2 := Lib.hid k2; clear hH hR hv b2 hg k2)
      all_goals (go_wp2_with fail)
      all_goals
        obtain ⟨q1, q2, q3, q4⟩ := HQ.out
        refine bodyPost_ret (v := .tuple #[.agg #[.slice (some ⟨g, 0, none⟩) oh.length oh.length, .slice (some ⟨h, 0, none⟩) 0 0], .int .i64 er]) (by simp [results, Tryz.results73, go_sem, k0, k1, HEr.out]) rfl ?_
        have hk : ∀ u v k, k ≠ w.heap.size → ((w2.setCell ⟨w.heap.size, 0, none⟩ u).setCell ⟨w.heap.size, 1, none⟩ v).heap[k]? = w2.heap[k]? := fun u v k hk => (heap_setCell_other _ ⟨w.heap.size, 1, none⟩ k v hk).trans (heap_setCell_other _ ⟨w.heap.size, 0, none⟩ k u hk)
        have hno : ∀ (j : Nat) s, (#[Value.slice none 0 0, Value.slice none 0 0] : Array Value)[j]? ≠ some (.string s) := fun j s e => by
          match j, e with
          | 0, e => simp at e
          | 1, e => simp at e
        refine ⟨some ⟨g, 0, none⟩, ⟨_, Nat.le_refl _, fun e => by cases e⟩, some ⟨h, 0, none⟩, ⟨_, Nat.le_refl _, fun e => by cases e⟩, rfl, str_turn HK2.out hno (by simp) (hk _ _) q1, rows_turn HK2.out hno (by simp) (hk _ _) ?_ q2, ?_, fun A hA => by cases hA; have : w.heap.size < wc.heap.size := lz; have q3' : wc.heap.size ≤ h := q3; show w.heap.size ≤ h; omega⟩
        · have : w.heap.size < wc.heap.size := lz
          show h ≠ w.heap.size
          have q3' : wc.heap.size ≤ h := q3
          omega
        · exact (((below_up HB.out HBc.out).trans ((Below.drew (Below.refl _ wc)).trans q4 |>.mono (show w.heap.size ≤ wc.heap.size by omega))).setCell (p := ⟨w.heap.size, 0, none⟩) (Nat.le_refl _) _).setCell (p := ⟨w.heap.size, 1, none⟩) (Nat.le_refl _) _
    · have hb : (er != 0) = true := by simp [he]
      obtain ⟨h1, h2⟩ := HZ.out he
      subst h1 h2
      have HBW := Lib.hid (below_up HB.out HBc.out)
      clear he HZ HO CP
      go_wp2_with fail
      refine bodyPost_ret (v := .tuple #[.agg #[.slice none 0 0, .slice none 0 0], .int .i64 er]) (by simp [results, Tryz.results73, go_sem, z0, z1]) rfl ?_
      exact ⟨none, ⟨0, Nat.le_refl _, fun _ => rfl⟩, none, ⟨0, Nat.le_refl _, fun _ => rfl⟩, rfl, .inl rfl, .inl rfl, (HBW.out.setCell (p := ⟨w.heap.size, 0, none⟩) (Nat.le_refl _) _).setCell (p := ⟨w.heap.size, 1, none⟩) (Nat.le_refl _) _, fun A hA => by cases hA⟩

end Go.Proofs.YtigijgcldgbokaaGreat
namespace Go.Proofs.YtigijgcldgbokaaGreat
open Go.RowKit Go.Shelf
set_option linter.unusedVariables false

def StrOut (xs : List ByteArray) (w : World) (e : Ending) (w' : World) : Prop := ∃ ao cap, e = .returned (.slice ao xs.length cap) ∧ StrRow w' ao xs ∧ Below w.heap.size w w'
/-- and with the room that it has -/
def StrOutC (xs : List ByteArray) (w : World) (e : Ending) (w' : World) : Prop := ∃ ao cap, e = .returned (.slice ao xs.length cap) ∧ xs.length ≤ cap ∧ StrRow w' ao xs ∧ Below w.heap.size w w'
theorem own_room {w : World} {base : Nat} {e : TypeId} {size n m cap : Nat} {ao : Option Addr} {xs : List Value} (h : w.ownsRow base e size (.slice ao n cap) m xs) (hm : n = m) : n ≤ cap := by
  rcases h.2 with ⟨h1, h2⟩ | ⟨g, c, cur, h1, _, _, h3, _⟩
  · omega
  · injection h1 with _ _ e; omega
def RowsOut (rs : List (List ByteArray)) (w : World) (e : Ending) (w' : World) : Prop := ∃ ao cap, e = .returned (.slice ao rs.length cap) ∧ rs.length ≤ cap ∧ RowsAt w' ao rs ∧ Below w.heap.size w w'
theorem own_row_str {w : World} {base : Nat} {e : TypeId} {ao : Option Addr} {n cap : Nat} {xs : List ByteArray} (h : w.ownsRow base e 1 (.slice ao n cap) n (xs.map Value.string)) (hl : xs.length = n) : StrRow w ao xs := by
  rcases h.2 with ⟨h1, h2⟩ | ⟨g, c, cur, h1, _⟩
  · cases h1; exact .inl (List.eq_nil_of_length_eq_zero hl)
  · cases h1; exact .inr ⟨_, rfl, (h.lt g rfl).2, fun i c hc => h.cells rfl i _ (by rw [List.getElem?_map, hc]; rfl)⟩

set_option maxRecDepth 100000 in
set_option maxHeartbeats 4000000 in
theorem rcolumnC_any (ho : Option Addr) (hc : Nat) (hd : List ByteArray) (ro : Option Addr) (rc : Nat) (rs : List (List ByteArray)) (c : Int) (w : World) (hn2 : rs.length ≤ 1099511627776) (hR : RowsAt w ro rs) :
    Calls Tryz.prog 60 #[.agg #[.slice ho hd.length hc, .slice ro rs.length rc], .int .i64 c] w (StrOutC (columnT hd rs c) w) := by
  obtain ⟨W, HW⟩ : ∃ W, Hid (W = w.alloc (TabO ho hd.length hc ro rs.length rc)) := ⟨_, Lib.hid rfl⟩
  have hB : Below w.heap.size w W := by rw [HW.out]; exact one_below _ _
  have HB0 := Lib.hid hB
  have hN : W.heap[w.heap.size]? = some (TabO ho hd.length hc ro rs.length rc) := by rw [HW.out]; exact World.alloc_heap_new w _
  have HNew := Lib.hid hN
  have CC := Lib.hid (fun V (k : Nat) (h : Below W.heap.size W V) => rcell_any ho hd.length hc ro rc rs (k : Int) c V (hR.kept (below_up hB h)))
  obtain ⟨c0, c1⟩ := tabs hN
  clear hR hB hN
  by_cases h1 : c < 0
  · have E := Lib.hid (show columnT hd rs c = [] from by unfold columnT; rw [if_neg]; omega)
    rw [E.out]
    go_enter Tryz.func60, Tryz.ntmps60
    go_wp2_with fail
    go_ret
    exact ⟨none, 0, rfl, Nat.le_refl _, .inl rfl, by rw [HW.out] at HB0; exact HB0.out⟩
  by_cases h2 : (hd.length : Int) ≤ c
  · have E := Lib.hid (show columnT hd rs c = [] from by unfold columnT; rw [if_neg]; omega)
    rw [E.out]
    go_enter Tryz.func60, Tryz.ntmps60
    go_wp2_with fail
    go_ret
    exact ⟨none, 0, rfl, Nat.le_refl _, .inl rfl, by rw [HW.out] at HB0; exact HB0.out⟩
  have E := Lib.hid (show columnT hd rs c = colL rs c from by unfold columnT; rw [if_pos]; omega)
  rw [E.out]
  have HA := Lib.hid (colL_at rs c)
  have HL := Lib.hid (colL_len rs c)
  clear E
  generalize colL rs c = xs at HA HL ⊢
  have hinfo : (Tryz.prog.info? 9).map (fun i => (i.zero, i.size, i.bytes)) = some (some (.string ⟨#[]⟩), 1, 16) := by kernel_rfl
  obtain ⟨i0, hi, hz0, hz1, hz2⟩ := info_parts hinfo
  have HI := Lib.hid hi
  clear hi hinfo
  go_enter Tryz.func60, Tryz.ntmps60
  go_wp2_with fail
  rw [show w.alloc (Obj.cells #[Value.slice ho hd.length hc, Value.slice ro rs.length rc] 25) = W from HW.out.symm]
  clear c0 c1
  go_loopw [5, 6] (fun v i wr => ∃ (k cap : Nat) (ao : Option Addr), k ≤ rs.length ∧ v = .slice ao k cap ∧ i = .int .i64 k ∧ Hid (Below W.heap.size W wr) ∧ Hid (wr.ownsRow W.heap.size 9 1 (.slice ao k cap) k ((xs.map Value.string).take k))) (fun _ i _ => rs.length - (intOf i).toNat)
  case atStart => exact ⟨0, 0, none, Nat.zero_le _, rfl, rfl, Lib.hid (Below.refl _ _), Lib.hid (World.ownsRow_nil _ _ _ _)⟩
  case round =>
    obtain ⟨k, cap, ao, hk, rfl, rfl, HB, HO⟩ := hrel
    obtain ⟨c0, c1⟩ := tabs ((HB.out.block _ (lt_of_heap HNew.out)).trans HNew.out)
    by_cases hlt : k < rs.length
    · have C1 := Lib.hid (CC.out wr k HB.out)
      have HX := Lib.hid (HA.out k hlt)
      generalize cellL rs k c = x at C1 HX
      have HT : Hid ((xs.map Value.string).take k ++ [Value.string x] = (xs.map Value.string).take (k + 1)) := Lib.hid (by
        obtain ⟨hk', e⟩ := List.getElem?_eq_some_iff.1 HX.out
        rw [List.take_succ_eq_append_getElem (by simpa using hk')]; simp [e])
      go_wp2_with fail
      refine C1.out.mono ?_; rintro e w2 ⟨rfl, b2⟩
      have HB2 := Lib.hid (below_up HB.out b2)
      have HO2 := Lib.hid ((ownsRow_below HO.out b2).alloc (.cells #[.string x] 9))
      have hbs : W.heap.size ≤ (w2.alloc (.cells #[.string x] 9)).heap.size := by have := HB2.out.size; simp; omega
      clear b2 c0 c1
      go_wp2_with (at_builtin; refine wpList_append_own _ rfl _ _ 22 rfl W.heap.size 9 i0 (.string ⟨#[]⟩) 1 16 Tryz.underlying22 HI.out hz0 hz1 hz2 rfl (by decide) _ _ _ rfl HO2.out ⟨w2.heap.size, 0, none⟩ 1 1 [.string x] rfl rfl ?c1 ?c2 ?c3 ?c4 ?c5 ?_)
      case c1 =>
        intro j u hj
        rw [cell_row (World.alloc_heap_new w2 _)]
        match j, hj with
        | 0, hj => simp at hj; subst hj; rfl
      case c2 => intro u hu; simp at hu; subst hu; rfl
      case c3 => unfold maxLen; omega
      case c4 => omega
      case c5 => exact hbs
      intro v' w3 hown' hgrow _
      obtain ⟨g, cp, rfl⟩ := ownsRow_succ hown'
      have HB3 := Lib.hid ((HB2.out.alloc HB2.out.size (.cells #[.string x] 9)).grown hgrow hbs (fun k' h' => by
        rcases HO.out.2 with ⟨h1, _⟩ | ⟨g', cp', cur, h1, hb, _⟩
        · cases h1; cases h'
        · cases h1; simp [Value.ownBlock] at h'; omega))
      rw [HT.out] at hown'
      have HO3 := Lib.hid hown'
      clear hown' hgrow hbs
      go_wp2_with fail
      go_roundw
      case rel => exact ⟨k + 1, cp, _, by omega, rfl, by go_num, HB3, HO3⟩
      case measure => simp [intOf]; omega
    · obtain rfl : k = rs.length := by omega
      have HCp := Lib.hid (own_room HO.out rfl)
      have HS : Hid (StrRow wr ao xs) := Lib.hid (own_row_str (by have := HO.out; rw [List.take_of_length_le (by simp [HL.out])] at this; exact this) HL.out)
      go_wp2_with fail
      go_ret
      exact ⟨_, _, by rw [HL.out]; rfl, by rw [HL.out]; exact HCp.out, HS.out, below_up HB0.out HB.out⟩
theorem rcolumn_any (ho : Option Addr) (hc : Nat) (hd : List ByteArray) (ro : Option Addr) (rc : Nat) (rs : List (List ByteArray)) (c : Int) (w : World) (hn2 : rs.length ≤ 1099511627776) (hR : RowsAt w ro rs) :
    Calls Tryz.prog 60 #[.agg #[.slice ho hd.length hc, .slice ro rs.length rc], .int .i64 c] w (StrOut (columnT hd rs c) w) :=
  (rcolumnC_any ho hc hd ro rc rs c w hn2 hR).mono fun e w' ⟨ao, cap, h1, _, h2, h3⟩ => ⟨ao, cap, h1, h2, h3⟩

theorem ownsRow_at {w : World} {base : Nat} {e : TypeId} {size n : Nat} {v : Value} {xs : List Value} (h : w.ownsRow base e size v (1 + n) xs) : ∃ g cap, v = .slice (some ⟨g, 0, none⟩) (1 + n) cap := by
  rcases h.2 with ⟨_, h2⟩ | ⟨g, c, cur, h1, _⟩
  · omega
  · exact ⟨g, c, h1⟩
theorem own_new (W : World) (v : Value) (e : TypeId) : (W.alloc (.cells #[v] e)).ownsRow W.heap.size e 1 (.slice (some ⟨W.heap.size, 0, none⟩) 1 1) 1 [v] :=
  ⟨rfl, .inr ⟨_, 1, _, rfl, Nat.le_refl _, World.alloc_heap_new W _, Nat.le_refl _, by decide, rfl, rfl⟩⟩

theorem dup_find_no (hd : List ByteArray) (h : ∀ (i : Nat) x, hd[i]? = some x → findL hd x = (i : Int)) : dupL hd = false := by
  unfold dupL
  rw [decide_eq_false]
  intro hn
  refine hn (List.pairwise_iff_getElem.2 fun i j hi hj hij e => ?_)
  simp only [bytesOf, List.length_map] at hi hj
  have e' : (hd[i]'(by omega)).data.toList = hd[j].data.toList := by simpa [bytesOf] using e
  have h1 := h i _ (List.getElem?_eq_getElem (show i < hd.length by omega))
  have h2 := h j _ (List.getElem?_eq_getElem hj)
  have : findL hd (hd[i]'(by omega)) = findL hd hd[j] := by unfold findL; simp only [e']
  omega
theorem dup_find_yes (hd : List ByteArray) (i : Nat) (x : ByteArray) (hx : hd[i]? = some x) (h : findL hd x ≠ (i : Int)) : dupL hd = true := by
  obtain ⟨hi, rfl⟩ := List.getElem?_eq_some_iff.1 hx
  unfold dupL
  refine decide_eq_true fun hn => h ?_
  refine firstAt_some _ hd i hd[i] hx (by simp) fun j c hj hc => ?_
  obtain ⟨hj', rfl⟩ := List.getElem?_eq_some_iff.1 hc
  refine decide_eq_false fun e => ?_
  exact List.pairwise_iff_getElem.1 hn j i (by simpa [bytesOf] using hj') (by simpa [bytesOf] using hi) hj (by simp [bytesOf, e])
theorem long_all (hd : List ByteArray) (rs : List (List ByteArray)) : longT (allT hd rs) = (longT hd || rs.any longT) := by
  unfold longT allT
  rw [List.any_append, List.any_flatten]
def restB (hd : List ByteArray) (rs : List (List ByteArray)) (k : Nat) : Bool := decide (40 < hd.length) || decide (400 < rs.length) || longT hd || (rs.take k).any longT
theorem restB_next (hd : List ByteArray) (rs : List (List ByteArray)) (k : Nat) (r : List ByteArray) (h : rs[k]? = some r) : restB hd rs (k + 1) = (restB hd rs k || longT r) := by
  obtain ⟨hk, e⟩ := List.getElem?_eq_some_iff.1 h
  unfold restB
  rw [List.take_succ_eq_append_getElem hk, e, List.any_append]; simp [Bool.or_assoc]
theorem restB_zero (hd : List ByteArray) (rs : List (List ByteArray)) : restB hd rs 0 = (decide (40 < hd.length) || decide (400 < rs.length) || longT hd) := by simp [restB]
theorem restB_all (hd : List ByteArray) (rs : List (List ByteArray)) : largeB hd rs = (restB hd rs rs.length || decide (40000 < sumT (allT hd rs))) := by
  unfold largeB restB; rw [long_all, List.take_length]; simp [Bool.or_assoc]
theorem ragged_no (hd : List ByteArray) (rs : List (List ByteArray)) (h : ∀ (j : Nat) r, rs[j]? = some r → r.length = hd.length) : raggedB hd rs = false := by
  unfold raggedB; rw [List.any_eq_false]; intro r hr
  obtain ⟨i, hi, rfl⟩ := List.getElem_of_mem hr
  simp [wideB, h i _ (List.getElem?_eq_getElem hi)]
theorem ragged_yes (hd : List ByteArray) (rs : List (List ByteArray)) (k : Nat) (r : List ByteArray) (hr : rs[k]? = some r) (h : r.length ≠ hd.length) : raggedB hd rs = true := by
  unfold raggedB; rw [List.any_eq_true]; exact ⟨r, List.mem_of_getElem? hr, by simp [wideB, h]⟩

set_option maxRecDepth 100000 in
set_option maxHeartbeats 8000000 in
theorem rcheck_any (ho : Option Addr) (hc : Nat) (hd : List ByteArray) (ro : Option Addr) (rc : Nat) (rs : List (List ByteArray)) (w : World)
    (hn : hd.length ≤ 1099511627776) (hn2 : rs.length ≤ 1099511627776) (hn3 : ∀ r ∈ rs, r.length ≤ 1099511627776) (hH : StrRow w ho hd) (hR : RowsAt w ro rs) (hsum : sumT (allT hd rs) ≤ 1152921504606846976) :
    Calls Tryz.prog 25 #[.agg #[.slice ho hd.length hc, .slice ro rs.length rc]] w fun e w' => e = .returned (.int .i64 (checkI hd rs)) ∧ Below w.heap.size w w' := by
  have hs : ∀ c ∈ allT hd rs, c.size ≤ 1152921504606846976 := fun c hc => by
    obtain ⟨a, b, e⟩ := List.append_of_mem hc
    rw [e] at hsum; simp [sumT] at hsum; omega
  obtain ⟨W, HW⟩ : ∃ W, Hid (W = w.alloc (TabO ho hd.length hc ro rs.length rc)) := ⟨_, Lib.hid rfl⟩
  have hB : Below w.heap.size w W := by rw [HW.out]; exact one_below _ _
  have HB := Lib.hid hB
  have HHo := Lib.hid hH
  have HRo := Lib.hid hR
  have HN3 := Lib.hid hn3
  have HSS := Lib.hid hs
  have hN : W.heap[w.heap.size]? = some (TabO ho hd.length hc ro rs.length rc) := by rw [HW.out]; exact World.alloc_heap_new w _
  have HNew := Lib.hid hN
  have CF := Lib.hid (fun V s (h : Below w.heap.size w V) => rfind_any ho hc hd ro rs.length rc s V hn (hH.kept h))
  have CL := Lib.hid (fun V (h : Below w.heap.size w V) => rlong_any ho hc hd V hn (fun c hc => hs c (List.mem_append_left _ hc)) (hH.kept h))
  have CT := Lib.hid (fun V (h : Below w.heap.size w V) => rtotal_any ho hc hd ro rc rs V hn hn2 hn3 (hH.kept h) (hR.kept h) hsum)
  obtain ⟨c0, c1⟩ := tabs hN
  have HE : Hid (checkI hd rs = if hd.length = 0 then 8 else if raggedB hd rs then 9 else if dupL hd then 10 else if largeB hd rs then 7 else 0) := Lib.hid rfl
  have HR0 := Lib.hid (ragged_no hd rs)
  have HR1 := Lib.hid (ragged_yes hd rs)
  have HD0 := Lib.hid (dup_find_no hd)
  have HD1 := Lib.hid (dup_find_yes hd)
  have HQ0 := Lib.hid (restB_zero hd rs)
  have HQN := Lib.hid (restB_next hd rs)
  have HQA := Lib.hid (restB_all hd rs)
  clear hH hR hB hN hs hn3
  generalize checkI hd rs = F at HE ⊢
  generalize raggedB hd rs = rg at HE HR0 HR1
  generalize dupL hd = dp at HE HD0 HD1
  generalize largeB hd rs = lg at HE HQA
  generalize sumT (allT hd rs) = tt at CT HQA hsum
  by_cases hz : hd.length = 0
  · have hzb : ((hd.length : Int) == 0) = true := by rw [hz]; rfl
    have E := Lib.hid (show F = 8 from by rw [HE.out, if_pos hz])
    clear hz
    go_enter Tryz.func25, Tryz.ntmps25
    go_wp2_with fail
    go_ret
    exact ⟨by rw [E.out]; rfl, by rw [HW.out] at HB; exact HB.out⟩
  have hzb : ((hd.length : Int) == 0) = false := by rw [beq_eq_false_iff_ne]; omega
  have HE2 : Hid (F = if rg then 9 else if dp then 10 else if lg then 7 else 0) := Lib.hid (by rw [HE.out, if_neg hz])
  clear HE
  go_enter Tryz.func25, Tryz.ntmps25
  go_wp2_with fail
  rw [show w.alloc (Obj.cells #[Value.slice ho hd.length hc, Value.slice ro rs.length rc] 25) = W from HW.out.symm]
  go_loopw [3] (fun i wr => ∃ k : Nat, k ≤ rs.length ∧ i = .int .i64 k ∧ Hid (Below W.heap.size W wr) ∧ Hid (∀ (j : Nat) r, j < k → rs[j]? = some r → r.length = hd.length)) (fun i _ => rs.length - (intOf i).toNat)
  case atStart => exact ⟨0, Nat.zero_le _, rfl, Lib.hid (Below.refl _ _), Lib.hid (fun j c h _ => by omega)⟩
  case round =>
    obtain ⟨k, hk, rfl, HB1, HNr⟩ := hrel
    obtain ⟨k0, k1⟩ := tabs ((HB1.out.block _ (lt_of_heap HNew.out)).trans HNew.out)
    clear c0 c1
    by_cases hlt : k < rs.length
    · obtain ⟨r, hr⟩ : ∃ r, rs[k]? = some r := ⟨_, List.getElem?_eq_getElem hlt⟩
      have HRk := Lib.hid hr
      rcases (HRo.out.kept (below_up HB.out HB1.out)) with h0 | ⟨A, rfl, hA, hcell⟩
      · rw [h0] at hlt; simp at hlt
      obtain ⟨ro1, rc1, hc1, hs1⟩ := hcell k r hr
      clear hcell hs1 hr
      by_cases hl : r.length = hd.length
      · have hb : ((r.length : Int) != (hd.length : Int)) = false := by rw [int_bne]; simp [hl]
        have HN' : Hid (∀ (j : Nat) x, j < k + 1 → rs[j]? = some x → x.length = hd.length) := Lib.hid (fun j x hj hx' => by
          by_cases e : j = k
          · subst e; rw [HRk.out] at hx'; cases hx'; exact hl
          · exact HNr.out j x (by omega) hx')
        have HB2 := Lib.hid (HB1.out.drew)
        clear hl
        go_wp2_with fail
        go_region
        go_wp2_with fail
        go_roundw
        case rel => exact ⟨k + 1, by omega, by go_num, HB2, HN'⟩
        case measure => simp [intOf]; omega
      · have hb : ((r.length : Int) != (hd.length : Int)) = true := by rw [int_bne]; simp [hl]
        have E := Lib.hid (show F = 9 from by rw [HE2.out, HR1.out k r HRk.out hl]; rfl)
        have HB2 := Lib.hid (below_up HB.out HB1.out.drew)
        clear hl
        go_wp2_with fail
        go_region
        go_wp2_with fail
        go_ret
        exact ⟨by rw [E.out]; rfl, HB2.out⟩
    · obtain rfl : k = rs.length := by omega
      have HE3 : Hid (F = if dp then 10 else if lg then 7 else 0) := Lib.hid (by rw [HE2.out, HR0.out (fun j r hr => HNr.out j r (List.getElem?_eq_some_iff.1 hr).1 hr)]; rfl)
      clear HE2 HNr HR0 HR1
      go_wp2_with fail
      obtain ⟨wo, rfl⟩ : ∃ wo : World, wo = wr := ⟨_, rfl⟩
      go_loopw [4] (fun i wr => ∃ k : Nat, k ≤ hd.length ∧ i = .int .i64 k ∧ Hid (Below W.heap.size W wr) ∧ Hid (∀ (j : Nat) x, j < k → hd[j]? = some x → findL hd x = (j : Int))) (fun i _ => hd.length - (intOf i).toNat)
      case atStart => exact ⟨0, Nat.zero_le _, rfl, HB1, Lib.hid (fun j c h _ => by omega)⟩
      case round =>
        obtain ⟨k, hk, rfl, HB1, HNr⟩ := hrel
        clear k0 k1
        obtain ⟨k0, k1⟩ := tabs ((HB1.out.block _ (lt_of_heap HNew.out)).trans HNew.out)
        by_cases hlt : k < hd.length
        · obtain ⟨x, hx⟩ : ∃ x, hd[k]? = some x := ⟨_, List.getElem?_eq_getElem hlt⟩
          have HX := Lib.hid hx
          rcases (HHo.out.kept (below_up HB.out HB1.out)) with h0 | ⟨A, rfl, hA, hcell⟩
          · rw [h0] at hlt; simp at hlt
          have hcx := hcell k x hx
          have C1 := Lib.hid (CF.out wr.drew x (below_up HB.out HB1.out.drew))
          clear hcell hx
          by_cases hf : findL hd x = (k : Int)
          · have HN' : Hid (∀ (j : Nat) x, j < k + 1 → hd[j]? = some x → findL hd x = (j : Int)) := Lib.hid (fun j y hj hx' => by
              by_cases e : j = k
              · subst e; rw [HX.out] at hx'; cases hx'; exact hf
              · exact HNr.out j y (by omega) hx')
            rw [hf] at C1
            have hb : ((k : Int) != (k : Int)) = false := by simp
            have HBx := Lib.hid (fun w2 (h : Below wr.drew.heap.size wr.drew w2) => (show Below W.heap.size W w2 from below_up HB1.out.drew h))
            clear hf
            go_wp2_with fail
            go_region_with (go_at_call 30; refine C1.out.mono ?_; rintro e w2 ⟨rfl, b2⟩; have HB2 := Lib.hid (HBx.out w2 b2); clear b2)
            all_goals (go_wp2_with fail)
            all_goals go_roundw
            all_goals first
              | exact ⟨k + 1, by omega, by go_num, HB2, HN'⟩
              | (simp [intOf]; omega)
          · have hb : (findL hd x != (k : Int)) = true := by rw [bne_iff_ne]; exact hf
            have E := Lib.hid (show F = 10 from by rw [HE3.out, HD1.out k x HX.out hf]; rfl)
            have HBx := Lib.hid (fun w2 (h : Below wr.drew.heap.size wr.drew w2) => (show Below w.heap.size w w2 from below_up HB.out (below_up HB1.out.drew h)))
            clear hf
            generalize findL hd x = fx at C1 hb
            go_wp2_with fail
            go_region_with (go_at_call 30; refine C1.out.mono ?_; rintro e w2 ⟨rfl, b2⟩; have HB2 := Lib.hid (HBx.out w2 b2); clear b2)
            all_goals (go_wp2_with fail)
            all_goals go_ret
            all_goals exact ⟨by rw [E.out]; rfl, HB2.out⟩
        · obtain rfl : k = hd.length := by omega
          have HE4 : Hid (F = if lg then 7 else 0) := Lib.hid (by rw [HE3.out, HD0.out (fun j x hx => HNr.out j x (List.getElem?_eq_some_iff.1 hx).1 hx)]; rfl)
          clear HE3 HNr HD0 HD1 CF
          have hB1 := Lib.hid (below_up HB.out HB1.out)
          obtain ⟨b0, HQb⟩ : ∃ b0, Hid (b0 = restB hd rs 0) := ⟨_, Lib.hid rfl⟩
          have CL1 := Lib.hid (CL.out wr hB1.out)
          clear CL
          go_upto_region 13 with fail
          go_cut [5] from 45 to 59 (fun v wc => v = .bool b0 ∧ wc = wr)
          case first =>
            rw [HQ0.out] at HQb
            generalize longT hd = lh at CL1 HQb
            by_cases h40 : 40 < hd.length
            · have E := Lib.hid (show b0 = true from by rw [HQb.out]; simp [h40])
              go_wp2_with fail
              go_meet
              exact ⟨by rw [E.out], rfl⟩
            by_cases h400 : 400 < rs.length
            · have E := Lib.hid (show b0 = true from by rw [HQb.out]; simp [h400])
              go_wp2_with fail
              go_meet
              exact ⟨by rw [E.out], rfl⟩
            have E := Lib.hid (show b0 = lh from by rw [HQb.out]; simp [h40, h400])
            cases lh
            all_goals
              go_wp2_with fail
              refine CL1.out.mono ?_; rintro e w2 ⟨rfl, rfl⟩
              go_wp2_with fail
              go_meet
              exact ⟨(by first | (rw [E.out]; done) | (rw [E.out]; simp; done) | (rw [E.out]; simp; omega)), rfl⟩
          case rest =>
            obtain ⟨rfl, rfl⟩ := hcut
            clear CL1
            go_wp2_with fail
            go_loopw [5, 6] (fun v i wx => ∃ (k : Nat) (b : Bool), k ≤ rs.length ∧ v = .bool b ∧ i = .int .i64 k ∧ Hid (Below W.heap.size W wx) ∧ Hid (b = restB hd rs k)) (fun _ i _ => rs.length - (intOf i).toNat)
            case atStart => exact ⟨0, b0, Nat.zero_le _, rfl, rfl, HB1, HQb⟩
            case round =>
              obtain ⟨k, b, hk, rfl, rfl, HB2, HQk⟩ := hrel
              clear k0 k1
              obtain ⟨k0, k1⟩ := tabs ((HB2.out.block _ (lt_of_heap HNew.out)).trans HNew.out)
              by_cases hlt : k < rs.length
              · obtain ⟨r, hr⟩ : ∃ r, rs[k]? = some r := ⟨_, List.getElem?_eq_getElem hlt⟩
                rename World => wx
                rcases (HRo.out.kept (below_up HB.out HB2.out)) with h0 | ⟨A, rfl, hA, hcell⟩
                · rw [h0] at hlt; simp at hlt
                obtain ⟨ro1, rc1, hc1, hs1⟩ := hcell k r hr
                have HQ1 := Lib.hid (HQN.out k r hr)
                have CL2 := Lib.hid (rlong_any ro1 rc1 r wx (HN3.out r (List.mem_of_getElem? hr)) (fun c hc => HSS.out c (List.mem_append_right _ (List.mem_flatten.2 ⟨r, List.mem_of_getElem? hr, hc⟩))) hs1)
                clear hcell hs1 hr
                generalize longT r = lr at CL2 HQ1
                cases b
                · have HQ2 : Hid (lr = restB hd rs (k + 1)) := Lib.hid (by rw [HQ1.out, ← HQk.out]; rfl)
                  go_wp2_with fail
                  refine CL2.out.mono ?_; rintro e w2 ⟨rfl, rfl⟩
                  go_wp2_with fail
                  go_roundw
                  case rel => exact ⟨k + 1, lr, by omega, rfl, by go_num, HB2, HQ2⟩
                  case measure => simp [intOf]; omega
                · have HQ2 : Hid (true = restB hd rs (k + 1)) := Lib.hid (by rw [HQ1.out, ← HQk.out]; rfl)
                  go_wp2_with fail
                  refine CL2.out.mono ?_; rintro e w2 ⟨rfl, rfl⟩
                  go_wp2_with fail
                  go_roundw
                  case rel => exact ⟨k + 1, true, by omega, rfl, by go_num, HB2, HQ2⟩
                  case measure => simp [intOf]; omega
              · obtain rfl : k = rs.length := by omega
                rename World => wx
                have HB3 := Lib.hid (below_up HB.out HB2.out)
                cases b
                · have CT1 := Lib.hid (CT.out wx HB3.out)
                  by_cases h4 : 40000 < tt
                  · have E := Lib.hid (show F = 7 from by rw [HE4.out, HQA.out, ← HQk.out]; simp [h4])
                    go_wp2_with fail
                    refine CT1.out.mono ?_; rintro e w2 ⟨rfl, b2⟩
                    have HB4 := Lib.hid (below_up HB3.out b2)
                    clear b2
                    go_wp2_with fail
                    go_ret
                    exact ⟨by rw [E.out]; rfl, HB4.out⟩
                  · have E := Lib.hid (show F = 0 from by rw [HE4.out, HQA.out, ← HQk.out]; simp [h4])
                    go_wp2_with fail
                    refine CT1.out.mono ?_; rintro e w2 ⟨rfl, b2⟩
                    have HB4 := Lib.hid (below_up HB3.out b2)
                    clear b2
                    go_wp2_with fail
                    go_ret
                    exact ⟨by rw [E.out]; rfl, HB4.out⟩
                · have E := Lib.hid (show F = 7 from by rw [HE4.out, HQA.out, ← HQk.out]; simp)
                  go_wp2_with fail
                  go_ret
                  exact ⟨by rw [E.out]; rfl, HB3.out⟩
end Go.Proofs.YtigijgcldgbokaaGreat
namespace Go.Proofs.YtigijgcldgbokaaGreat
open Go.RowKit Go.Shelf
set_option linter.unusedVariables false

theorem cellsP_inv (L : PL) (j : Nat) (u : Value) (h : (cellsP L)[j]? = some u) : ∃ i p, L[i]? = some p ∧ ((j = i * 2 ∧ u = .int .i64 p.1) ∨ (j = i * 2 + 1 ∧ u = .int .i64 p.2)) := by
  have hj := (List.getElem?_eq_some_iff.1 h).1
  rw [cellsP_length] at hj
  obtain ⟨p, hp⟩ : ∃ p, L[j / 2]? = some p := ⟨_, List.getElem?_eq_getElem (by omega)⟩
  obtain ⟨c1, c2⟩ := cellsP_at L (j / 2) p hp
  rcases Nat.mod_two_eq_zero_or_one j with e | e
  · refine ⟨j / 2, p, hp, .inl ⟨by omega, ?_⟩⟩
    rw [show j / 2 * 2 = j from by omega, h] at c1; exact Option.some.inj c1
  · refine ⟨j / 2, p, hp, .inr ⟨by omega, ?_⟩⟩
    rw [show j / 2 * 2 + 1 = j from by omega, h] at c2; exact Option.some.inj c2
theorem pairs_cells {w : World} {b o : Nat} {L : PL} (h : PairsAt w (some ⟨b, o, none⟩) L) : ∀ (j : Nat) u, (cellsP L)[j]? = some u → w.cell? ((⟨b, o, none⟩ : Addr).add j) = some u := fun j u hu => by
  have e : (⟨b, o, none⟩ : Addr).add j = ⟨b, o + j, none⟩ := by unfold Addr.add; split <;> simp_all
  rw [e]
  rcases h with rfl | ⟨b', o', h1, _, h3⟩
  · simp [cellsP] at hu
  · cases h1
    obtain ⟨i, p, hp, ⟨rfl, rfl⟩ | ⟨rfl, rfl⟩⟩ := cellsP_inv L j u hu
    · exact (h3 i p hp).1
    · exact (h3 i p hp).2
theorem PairsAt.rest {w : World} {b o : Nat} {L : PL} (h : PairsAt w (some ⟨b, o, none⟩) L) (k : Nat) : PairsAt w (some ⟨b, o + k * 2, none⟩) (L.drop k) := by
  rcases h with rfl | ⟨b', o', h1, h2, h3⟩
  · exact .inl (by simp)
  · cases h1
    refine .inr ⟨b, o + k * 2, rfl, h2, fun i p hp => ?_⟩
    rw [List.getElem?_drop] at hp
    have := h3 (k + i) p hp
    rw [show o + k * 2 + i * 2 = o + (k + i) * 2 from by omega]
    exact this
theorem PairsAt.front {w : World} {ao : Option Addr} {l : PL} (h : PairsAt w ao l) (k : Nat) : PairsAt w ao (l.take k) := by
  rcases h with h | ⟨b, o, h1, h2, h3⟩
  · exact .inl (by rw [h]; simp)
  · exact .inr ⟨b, o, h1, h2, fun i p hp => h3 i p (by rw [List.getElem?_take] at hp; split at hp; exact hp; cases hp)⟩
theorem cellsP_ones (L : PL) : ∀ u ∈ cellsP L, u.oneCell' = true := fun u hu => by
  obtain ⟨i, hi, rfl⟩ := List.getElem_of_mem hu
  obtain ⟨j, p, _, ⟨_, e⟩ | ⟨_, e⟩⟩ := cellsP_inv L i _ (List.getElem?_eq_getElem hi)
  · rw [e]; rfl
  · rw [e]; rfl
theorem putK_next (p : Int × Int) (l : PL) (k : Nat) (q : Int × Int) (h : l[k]? = some q) : putK p (l.take (k + 1)) = if q.2 ≤ p.2 then k + 1 else putK p (l.take k) := by
  obtain ⟨hk, e⟩ := List.getElem?_eq_some_iff.1 h
  rw [List.take_succ_eq_append_getElem hk, e]
  have key : ∀ (m : PL), putK p (m ++ [q]) = if q.2 ≤ p.2 then m.length + 1 else putK p m := fun m => by
    induction m with
    | nil => simp [putK]
    | cons x m ih =>
      simp only [List.cons_append, putK, ih]
      by_cases hq : q.2 ≤ p.2
      · simp [hq]
      · simp [hq]
  rw [key]
  simp [show min k l.length = k from by omega]
theorem own_newP (w : World) (base : Nat) (hb : base ≤ w.heap.size) : (w.alloc (.cells #[] 36)).ownsRow base 36 2 (.slice (some ⟨w.heap.size, 0, none⟩) 0 0) 0 [] := by
  refine ⟨rfl, .inr ⟨w.heap.size, 0, #[], rfl, hb, World.alloc_heap_new _ _, Nat.le_refl _, by unfold maxLen; omega, rfl, rfl⟩⟩

set_option maxRecDepth 100000 in
set_option maxHeartbeats 1500000 in
theorem rput_any (lo : Option Addr) (lc : Nat) (L : PL) (p1 p2 : Int) (w : World) (hn : L.length ≤ 1073741823) (hc : L.length ≤ lc) (hnil : lo = none → lc = 0) (hne : L = [] → lo = none) (hR : PairsAt w lo L) :
    Calls Tryz.prog 28 #[.slice lo L.length lc, .agg #[.int .i64 p1, .int .i64 p2]] w (PairsOut (putB L (p1, p2)) w) := by
  have hinfo : (Tryz.prog.info? 36).map (fun i => (i.zero, i.size, i.bytes)) = some (some (.agg #[.int .i64 0, .int .i64 0]), 2, 16) := by kernel_rfl
  obtain ⟨i0, hi, hz0, hz1, hz2⟩ := info_parts2 hinfo
  have HI := Lib.hid hi
  have HRo := Lib.hid hR
  obtain ⟨V, HV⟩ : ∃ V, Hid (V = w.alloc (.cells #[.int .i64 p1, .int .i64 p2] 36)) := ⟨_, Lib.hid rfl⟩
  have hVh : V.heap[w.heap.size]? = some (.cells #[.int .i64 p1, .int .i64 p2] 36 (0, 0)) := by rw [HV.out]; exact World.alloc_heap_new _ _
  have HVh := Lib.hid hVh
  have HVB : Hid (Below w.heap.size w V) := Lib.hid (by rw [HV.out]; exact (Below.refl _ w).alloc (Nat.le_refl _) _)
  have HBox : Hid (∀ W, Below V.heap.size V W → W.cell? ⟨w.heap.size, 0, none⟩ = some (.int .i64 p1) ∧ W.cell? ⟨w.heap.size, 1, none⟩ = some (.int .i64 p2)) := Lib.hid (fun W h => by
    have := (h.block _ (lt_of_heap HVh.out)).trans HVh.out
    exact ⟨(Lib.cell_of_heap this 0).trans rfl, (Lib.cell_of_heap this 1).trans rfl⟩)
  have HPA : Hid (∀ W, Below V.heap.size V W → PairsAt W lo L) := Lib.hid (fun W h => HRo.out.kept (below_up HVB.out h))
  have HK := Lib.hid (putK_next (p1, p2) L)
  have HKl := Lib.hid (putK_le (p1, p2) L)
  have HPB : Hid (putB L (p1, p2) = L.take (putK (p1, p2) L) ++ (p1, p2) :: L.drop (putK (p1, p2) L)) := Lib.hid rfl
  have hK0 : putK (p1, p2) (L.take 0) = 0 := rfl
  have HKa : Hid (putK (p1, p2) (L.take L.length) = putK (p1, p2) L) := Lib.hid (by rw [List.take_length])
  have HKb : Hid (∀ k, putK (p1, p2) (L.take k) ≤ L.length) := Lib.hid (fun k => Nat.le_trans (putK_le _ _) (by rw [List.length_take]; omega))
  clear hi hinfo hR hVh
  go_enter Tryz.func28, Tryz.ntmps28
  go_upto_region 1 with fail
  rw [← HV.out]
  go_wp2_with fail
  go_loopw [5, 6] (fun u v wr => ∃ (k q : Nat), k ≤ L.length ∧ q ≤ L.length ∧ u = .int .i64 q ∧ v = .int .i64 k ∧ Hid (q = putK (p1, p2) (L.take k)) ∧ Hid (Below V.heap.size V wr)) (fun _ v _ => L.length - (intOf v).toNat)
  case atStart => exact ⟨0, 0, Nat.zero_le _, Nat.zero_le _, rfl, rfl, Lib.hid hK0.symm, Lib.hid (Below.refl _ _)⟩
  case round =>
    obtain ⟨k, q, hk, hq, rfl, rfl, HQ, HB⟩ := hrel
    obtain ⟨x0, x1⟩ := HBox.out wr HB.out
    by_cases hlt : k < L.length
    · obtain ⟨⟨y1, y2⟩, hy⟩ : ∃ y, L[k]? = some y := ⟨_, List.getElem?_eq_getElem hlt⟩
      have hst := HK.out k _ hy
      rcases HPA.out wr HB.out with h0 | ⟨b, o, rfl, hA, hcell⟩
      · rw [h0] at hlt; simp at hlt
      obtain ⟨_, hd2⟩ := hcell k _ hy
      dsimp only at hd2 hst
      clear hcell hy
      by_cases hle : y2 ≤ p2
      · rw [if_pos hle] at hst
        have HQ2 : Hid (k + 1 = putK (p1, p2) (L.take (k + 1))) := Lib.hid hst.symm
        clear hst
        go_wp2_with fail
        go_quiet (fail)
        have HB2 : Hid (Below V.heap.size V (wr.drewN nq)) := Lib.hid (bdn HB.out)
        go_wp2_with fail
        go_roundw
        case rel => exact ⟨k + 1, k + 1, by omega, by omega, by go_num, by go_num, HQ2, HB2⟩
        case measure => simp [intOf]; omega
      · rw [if_neg hle, ← HQ.out] at hst
        have HQ2 : Hid (q = putK (p1, p2) (L.take (k + 1))) := Lib.hid hst.symm
        clear hst
        go_wp2_with fail
        go_quiet (fail)
        have HB2 : Hid (Below V.heap.size V (wr.drewN nq)) := Lib.hid (bdn HB.out)
        go_wp2_with fail
        go_roundw
        case rel => exact ⟨k + 1, q, by omega, hq, rfl, by go_num, HQ2, HB2⟩
        case measure => simp [intOf]; omega
    · obtain rfl : k = L.length := by omega
      have hqk : q = putK (p1, p2) L := by rw [HQ.out, HKa.out]
      have HPB2 : Hid (putB L (p1, p2) = L.take q ++ (p1, p2) :: L.drop q) := Lib.hid (by rw [HPB.out, hqk])
      clear hlt HQ hqk HPB HK HKl HKa HKb
      by_cases h0 : L = []
      · subst h0
        have hlo := hne rfl
        subst hlo
        have hlc := hnil rfl
        subst hlc
        have hq0 : q = 0 := by simp at hq; exact hq
        subst hq0
        have hws : w.heap.size ≤ wr.heap.size := Nat.le_trans HVB.out.size HB.out.size
        have HO1 := Lib.hid (own_newP wr w.heap.size hws)
        have b1 : Below wr.heap.size wr (wr.alloc (.cells #[] 36)) := (Below.refl _ wr).alloc (Nat.le_refl _) _
        have HB1 := Lib.hid (below_up HB.out b1)
        have hbs : w.heap.size ≤ (wr.alloc (.cells #[] 36)).heap.size := by simp; omega
        clear b1 hne hnil
        go_wp2_with (at_builtin; refine wpList_append_any rfl _ _ 28 rfl w.heap.size 36 i0 (.agg #[.int .i64 0, .int .i64 0]) 2 16 Tryz.underlying28 HI.out hz0 hz1 hz2 rfl (by decide) _ _ _ rfl HO1.out none 0 0 [] rfl (fun h => ⟨rfl, rfl⟩) rfl (fun ad h => by cases h) (fun u hu => by cases hu) (by unfold maxLen; omega) (by omega) hbs ?_)
        intro v1 w2 ho1 hg1
        obtain ⟨ao1, cp1, rfl⟩ := own_slice ho1
        have b2 : Below w.heap.size w w2 := ((show Below w.heap.size w (wr.alloc (.cells #[] 36)) from below_up HVB.out HB1.out)).grown hg1 hbs (fun k h => by cases h; exact hws)
        have bV2 : Below V.heap.size V w2 := HB1.out.grown hg1 (by have := HB.out.size; simp; omega) (fun k h => by cases h; exact HB.out.size)
        obtain ⟨x0', x1'⟩ := HBox.out w2 bV2
        have HB2 := Lib.hid b2
        have HO2 := Lib.hid (ho1.alloc (.cells #[Value.int .i64 p1, Value.int .i64 p2] 36))
        have HO2' := Lib.hid ho1
        have hw2 : w.heap.size ≤ w2.heap.size := b2.size
        have hbs2 : w.heap.size ≤ (w2.alloc (.cells #[Value.int .i64 p1, Value.int .i64 p2] 36)).heap.size := by simp; omega
        clear ho1 hg1 b2 bV2 HO1 hbs x0 x1
        go_wp2_with (at_builtin; refine wpList_append_own _ rfl _ _ 28 rfl w.heap.size 36 i0 (.agg #[.int .i64 0, .int .i64 0]) 2 16 Tryz.underlying28 HI.out hz0 hz1 hz2 rfl (by decide) _ _ _ rfl HO2.out ⟨w2.heap.size, 0, none⟩ 1 1 [Value.int .i64 p1, Value.int .i64 p2] rfl rfl (lit_cellP w2 _ _ _) (fun u hu => by simp at hu; rcases hu with rfl | rfl <;> rfl) (by unfold maxLen; omega) (by omega) hbs2 ?_)
        intro v2 w3 ho2 hg2 _
        obtain ⟨ao2, cp2, rfl⟩ := own_slice ho2
        have b3 : Below w.heap.size w w3 := own_grownI HB2.out hw2 HO2'.out hg2
        have HB3 := Lib.hid b3
        have HO3 := Lib.hid ho2
        have hw3 : w.heap.size ≤ w3.heap.size := b3.size
        clear ho2 hg2 b3
        go_wp2_with (at_builtin; refine wpList_append_any rfl _ _ 28 rfl w.heap.size 36 i0 (.agg #[.int .i64 0, .int .i64 0]) 2 16 Tryz.underlying28 HI.out hz0 hz1 hz2 rfl (by decide) _ _ _ rfl HO3.out none 0 0 [] rfl (fun h => ⟨rfl, rfl⟩) rfl (fun ad h => by cases h) (fun u hu => by cases hu) (by unfold maxLen; omega) (by omega) hw3 ?_)
        intro v3 w4 ho3 hg3
        have b4 : Below w.heap.size w w4 := HB3.out.grown hg3 hw3 (fun k h => (HO3.out.lt k h).1)
        have HE : Hid (OwnL w4 w.heap.size v3 (putB [] (p1, p2))) := Lib.hid (by
          unfold OwnL
          simpa [putB, putK, cellsP] using ho3)
        have HE2 := Lib.hid (OwnL.end_ HE.out b4)
        obtain ⟨ao3, cp3, rfl⟩ := own_slice ho3
        clear ho3 hg3 b4 HE
        go_wp2_with fail
        go_ret
        exact HE2.out
      · rcases HPA.out wr HB.out with h | ⟨b, o, rfl, hA, hcell⟩
        · exact absurd h h0
        clear hcell
        have hlp : 0 < L.length := List.length_pos_iff.2 h0
        have hws : w.heap.size ≤ wr.heap.size := Nat.le_trans HVB.out.size HB.out.size
        have HO1 := Lib.hid (own_newP wr w.heap.size hws)
        have b1 : Below wr.heap.size wr (wr.alloc (.cells #[] 36)) := (Below.refl _ wr).alloc (Nat.le_refl _) _
        have HP1 := Lib.hid ((HPA.out _ (below_up HB.out b1)).front q)
        have HB1 := Lib.hid (below_up HB.out b1)
        have htl : (L.take q).length = q := by rw [List.length_take]; omega
        have hcl : (cellsP (L.take q)).length = q * 2 := by rw [cellsP_length, htl]
        have hbs : w.heap.size ≤ (wr.alloc (.cells #[] 36)).heap.size := by simp; omega
        clear b1
        go_wp2_with (at_builtin; refine wpList_append_any rfl _ _ 28 rfl w.heap.size 36 i0 (.agg #[.int .i64 0, .int .i64 0]) 2 16 Tryz.underlying28 HI.out hz0 hz1 hz2 rfl (by decide) _ _ _ rfl HO1.out (some ⟨b, o, none⟩) q lc (cellsP (L.take q)) rfl (fun h => by cases h) hcl (fun ad h => by cases h; exact pairs_cells HP1.out) (cellsP_ones _) (by unfold maxLen; omega) (by omega) hbs ?_)
        intro v1 w2 ho1 hg1
        obtain ⟨ao1, cp1, rfl⟩ := own_slice ho1
        have b2 : Below w.heap.size w w2 := ((show Below w.heap.size w (wr.alloc (.cells #[] 36)) from below_up HVB.out HB1.out)).grown hg1 hbs (fun k h => by cases h; exact hws)
        have bV2 : Below V.heap.size V w2 := HB1.out.grown hg1 (by have := HB.out.size; simp; omega) (fun k h => by cases h; exact HB.out.size)
        obtain ⟨x0', x1'⟩ := HBox.out w2 bV2
        have HB2 := Lib.hid b2
        have HBV2 := Lib.hid bV2
        have HO2 := Lib.hid (ho1.alloc (.cells #[Value.int .i64 p1, Value.int .i64 p2] 36))
        have HO2' := Lib.hid ho1
        have hw2 : w.heap.size ≤ w2.heap.size := b2.size
        have hbs2 : w.heap.size ≤ (w2.alloc (.cells #[Value.int .i64 p1, Value.int .i64 p2] 36)).heap.size := by simp; omega
        clear ho1 hg1 b2 bV2 HO1 HP1 hbs x0 x1
        go_wp2_with (at_builtin; refine wpList_append_own _ rfl _ _ 28 rfl w.heap.size 36 i0 (.agg #[.int .i64 0, .int .i64 0]) 2 16 Tryz.underlying28 HI.out hz0 hz1 hz2 rfl (by decide) _ _ _ rfl HO2.out ⟨w2.heap.size, 0, none⟩ 1 1 [Value.int .i64 p1, Value.int .i64 p2] rfl rfl (lit_cellP w2 _ _ _) (fun u hu => by simp at hu; rcases hu with rfl | rfl <;> rfl) (by unfold maxLen; omega) (by omega) hbs2 ?_)
        intro v2 w3 ho2 hg2 _
        obtain ⟨ao2, cp2, rfl⟩ := own_slice ho2
        have b3 : Below w.heap.size w w3 := own_grownI HB2.out hw2 HO2'.out hg2
        have HB3 := Lib.hid b3
        have HO3 := Lib.hid ho2
        have hw3 : w.heap.size ≤ w3.heap.size := b3.size
        clear ho2 hg2 b3
        by_cases hql : q = lc
        · have hqL : q = L.length := by omega
          have hdr : L.drop q = [] := List.drop_eq_nil_of_le (by omega)
          have HDr := Lib.hid hdr
          have hql3 : lc = q := hql.symm
          subst hql3
          have hlq : L.length = lc := hqL.symm
          rw [hlq] at hq
          clear hdr hqL
          go_wp2_with (at_builtin; refine wpList_append_any rfl _ _ 28 rfl w.heap.size 36 i0 (.agg #[.int .i64 0, .int .i64 0]) 2 16 Tryz.underlying28 HI.out hz0 hz1 hz2 rfl (by decide) _ _ _ rfl HO3.out (some _) 0 _ [] rfl (fun h => by cases h) rfl (fun ad h j u hu => by simp at hu) (fun u hu => by cases hu) (by unfold maxLen; omega) (by omega) hw3 ?_)
          intro v3 w4 ho3 hg3
          have b4 : Below w.heap.size w w4 := HB3.out.grown hg3 hw3 (fun k h => (HO3.out.lt k h).1)
          have HE : Hid (OwnL w4 w.heap.size v3 (putB L (p1, p2))) := Lib.hid (by
            unfold OwnL
            rw [HPB2.out, cellsP_app, cellsP_cons]
            have hlen : (L.take lc ++ (p1, p2) :: L.drop lc).length = lc + 1 + 0 := by simp; omega
            rw [hlen]
            rw [HDr.out]; simpa [cellsP] using ho3)
          have HE2 := Lib.hid (OwnL.end_ HE.out b4)
          obtain ⟨ao3, cp3, rfl⟩ := own_slice ho3
          clear ho3 hg3 b4 HE
          go_wp2_with fail
          go_ret
          exact HE2.out
        · have hql2 : q < lc := by omega
          have hnq : (q : Int) ≤ (lc : Int) := by omega
          have HP3 := Lib.hid ((HRo.out.kept HB3.out).rest q)
          have hdl : (L.drop q).length = L.length - q := List.length_drop ..
          have hcl2 : (cellsP (L.drop q)).length = (L.length - q) * 2 := by rw [cellsP_length, hdl]
          go_wp2_with (at_builtin; refine wpList_append_any rfl _ _ 28 rfl w.heap.size 36 i0 (.agg #[.int .i64 0, .int .i64 0]) 2 16 Tryz.underlying28 HI.out hz0 hz1 hz2 rfl (by decide) _ _ _ rfl HO3.out (some ⟨b, o + q * 2, none⟩) (L.length - q) _ (cellsP (L.drop q)) rfl (fun h => by cases h) hcl2 (fun ad h => by cases h; exact pairs_cells HP3.out) (cellsP_ones _) (by unfold maxLen; omega) (by omega) hw3 ?_)
          intro v3 w4 ho3 hg3
          have b4 : Below w.heap.size w w4 := HB3.out.grown hg3 hw3 (fun k h => (HO3.out.lt k h).1)
          have HE : Hid (OwnL w4 w.heap.size v3 (putB L (p1, p2))) := Lib.hid (by
            unfold OwnL
            rw [HPB2.out, cellsP_app, cellsP_cons]
            have hlen : (L.take q ++ (p1, p2) :: L.drop q).length = q + 1 + (L.length - q) := by simp; omega
            rw [hlen]
            simpa using ho3)
          have HE2 := Lib.hid (OwnL.end_ HE.out b4)
          obtain ⟨ao3, cp3, rfl⟩ := own_slice ho3
          clear ho3 hg3 b4 HE
          go_wp2_with fail
          go_ret
          exact HE2.out

theorem sortB_step (l : PL) (k : Nat) (p : Int × Int) (h : l[k]? = some p) : sortB ((l.take (k + 1)).map swapP) = putB (sortB ((l.take k).map swapP)) (swapP p) := by
  obtain ⟨hk, e⟩ := List.getElem?_eq_some_iff.1 h
  rw [List.take_succ_eq_append_getElem hk, e, List.map_append]
  exact sortB_snoc _ _

end Go.Proofs.YtigijgcldgbokaaGreat
namespace Go.Proofs.YtigijgcldgbokaaGreat
set_option linter.unusedVariables false
set_option linter.unusedSectionVars false

section
variable {α β : Type} [DecidableEq α] [DecidableEq β]
/-- how long the longest common row is -/
def lcsN : List α → List α → Nat
  | [], _ => 0
  | _ :: _, [] => 0
  | x :: a, y :: b => if x = y then lcsN a b + 1 else max (lcsN a (y :: b)) (lcsN (x :: a) b)
termination_by a b => a.length + b.length
/-- the one that the document names -/
def wayC : Nat → Nat → List α → List α → List (Int × Int)
  | _, _, [], _ => []
  | _, _, _ :: _, [] => []
  | i, j, x :: a, y :: b => if x = y then ((i : Int), (j : Int)) :: wayC (i + 1) (j + 1) a b else if lcsN (x :: a) b ≤ lcsN a (y :: b) then wayC (i + 1) j a (y :: b) else wayC i (j + 1) (x :: a) b
termination_by _ _ a b => a.length + b.length
theorem lcs_nil (b : List α) : lcsN [] b = 0 := by rw [lcsN]
theorem lcs_nil2 (a : List α) : lcsN a [] = 0 := by cases a <;> rw [lcsN]
theorem lcs_cons (x y : α) (a b : List α) : lcsN (x :: a) (y :: b) = if x = y then lcsN a b + 1 else max (lcsN a (y :: b)) (lcsN (x :: a) b) := by rw [lcsN]
theorem way_nil (i j : Nat) (b : List α) : wayC i j [] b = [] := by rw [wayC]
theorem way_nil2 (i j : Nat) (a : List α) : wayC i j a [] = [] := by cases a <;> rw [wayC]
theorem way_cons (i j : Nat) (x y : α) (a b : List α) : wayC i j (x :: a) (y :: b) = if x = y then ((i : Int), (j : Int)) :: wayC (i + 1) (j + 1) a b else if lcsN (x :: a) b ≤ lcsN a (y :: b) then wayC (i + 1) j a (y :: b) else wayC i (j + 1) (x :: a) b := by rw [wayC]
theorem wayC_len (i j : Nat) (a b : List α) : (wayC i j a b).length = lcsN a b := by
  induction i, j, a, b using wayC.induct with
  | case1 i j b => rw [way_nil, lcs_nil]; rfl
  | case2 i j x a => rw [way_nil2, lcs_nil2]; rfl
  | case3 i j a x b ih => rw [way_cons, lcs_cons, if_pos rfl, if_pos rfl, List.length_cons, ih]
  | case4 i j x a y b h h2 ih => rw [way_cons, lcs_cons, if_neg h, if_neg h, if_pos h2, ih]; omega
  | case5 i j x a y b h h2 ih => rw [way_cons, lcs_cons, if_neg h, if_neg h, if_neg h2, ih]; omega
theorem lcs_le (a b : List α) : lcsN a b ≤ a.length ∧ lcsN a b ≤ b.length := by
  induction a, b using lcsN.induct with
  | case1 b => rw [lcs_nil]; simp
  | case2 x a => rw [lcs_nil2]; simp
  | case3 a x b ih => rw [lcs_cons, if_pos rfl]; simp only [List.length_cons]; omega
  | case4 x a y b h ih1 ih2 => rw [lcs_cons, if_neg h]; simp only [List.length_cons] at *; omega
/-- there is a common row so long .. -/
theorem lcs_wit (a b : List α) : ∃ s, List.Sublist s a ∧ List.Sublist s b ∧ s.length = lcsN a b := by
  induction a, b using lcsN.induct with
  | case1 b => exact ⟨[], by simp, by simp, by rw [lcs_nil]; rfl⟩
  | case2 x a => exact ⟨[], by simp, by simp, by rw [lcs_nil2]; rfl⟩
  | case3 a x b ih =>
    obtain ⟨s, h1, h2, h3⟩ := ih
    exact ⟨x :: s, h1.cons_cons x, h2.cons_cons x, by rw [lcs_cons, if_pos rfl, List.length_cons, h3]⟩
  | case4 x a y b h ih1 ih2 =>
    obtain ⟨s, h1, h2, h3⟩ := ih1
    obtain ⟨s', h1', h2', h3'⟩ := ih2
    rw [lcs_cons, if_neg h]
    rcases Nat.le_total (lcsN a (y :: b)) (lcsN (x :: a) b) with hl | hl
    · exact ⟨s', h1', h2'.cons y, by omega⟩
    · exact ⟨s, h1.cons x, h2, by omega⟩
theorem tail_sub {x : α} {s a : List α} (h : List.Sublist s (x :: a)) : List.Sublist s.tail a := by
  cases h with
  | cons _ h => exact (List.tail_sublist s).trans h
  | cons_cons _ h => exact h
/-- .. and none is longer -/
theorem lcs_max (a b : List α) : ∀ s, List.Sublist s a → List.Sublist s b → s.length ≤ lcsN a b := by
  induction a, b using lcsN.induct with
  | case1 b => intro s h1 _; rw [List.sublist_nil.1 h1]; simp
  | case2 x a => intro s _ h2; rw [List.sublist_nil.1 h2]; simp
  | case3 a x b ih =>
    intro s h1 h2
    have := ih _ (tail_sub h1) (tail_sub h2)
    rw [lcs_cons, if_pos rfl]
    simp only [List.length_tail] at this; omega
  | case4 x a y b h ih1 ih2 =>
    intro s h1 h2
    rw [lcs_cons, if_neg h]
    cases h1 with
    | cons _ h1 => have := ih1 _ h1 h2; omega
    | cons_cons _ h1 =>
      cases h2 with
      | cons _ h2 => have := ih2 _ (h1.cons_cons x) h2; omega
      | cons_cons _ _ => exact absurd rfl h
theorem lcs_mono {a b a' b' : List α} (h : List.Sublist a a') (k : List.Sublist b b') : lcsN a b ≤ lcsN a' b' := by
  obtain ⟨s, h1, h2, h3⟩ := lcs_wit a b
  rw [← h3]; exact lcs_max _ _ s (h1.trans h) (h2.trans k)
theorem lcs_symm (a b : List α) : lcsN b a = lcsN a b := by
  obtain ⟨s, h1, h2, h3⟩ := lcs_wit a b
  obtain ⟨t, k1, k2, k3⟩ := lcs_wit b a
  have := lcs_max _ _ s h2 h1
  have := lcs_max _ _ t k2 k1
  omega
theorem lcs_front (c a b : List α) : lcsN (c ++ a) (c ++ b) = lcsN a b + c.length := by
  induction c with
  | nil => simp
  | cons x c ih => rw [List.cons_append, List.cons_append, lcs_cons, if_pos rfl, ih]; simp; omega
theorem lcs_end (a b c : List α) : lcsN (a ++ c) (b ++ c) = lcsN a b + c.length := by
  obtain ⟨s, h1, h2, h3⟩ := lcs_wit a b
  have ge := lcs_max _ _ (s ++ c) (h1.append (List.Sublist.refl c)) (h2.append (List.Sublist.refl c))
  rw [List.length_append, h3] at ge
  obtain ⟨t, k1, k2, k3⟩ := lcs_wit (a ++ c) (b ++ c)
  obtain ⟨t1, t2, e1, m1, m2⟩ := List.sublist_append_iff.1 k1
  obtain ⟨u1, u2, e2, n1, n2⟩ := List.sublist_append_iff.1 k2
  have hl2 := m2.length_le
  have hl2' := n2.length_le
  have e : t1 ++ t2 = u1 ++ u2 := e1.symm.trans e2
  have key : t.length ≤ lcsN a b + c.length := by
    rcases Nat.le_total t1.length u1.length with hl | hl
    · have hp : t1 <+: u1 := List.prefix_of_prefix_length_le (List.prefix_append t1 t2) (by rw [e]; exact List.prefix_append u1 u2) hl
      have := lcs_max _ _ t1 m1 (hp.sublist.trans n1)
      rw [e1, List.length_append]; omega
    · have hp : u1 <+: t1 := List.prefix_of_prefix_length_le (List.prefix_append u1 u2) (by rw [← e]; exact List.prefix_append t1 t2) hl
      have := lcs_max _ _ u1 (hp.sublist.trans m1) n1
      rw [e2, List.length_append]; omega
  omega
theorem lcs_self (a : List α) : lcsN a a = a.length := by
  have h1 := lcs_max a a a (List.Sublist.refl _) (List.Sublist.refl _)
  have h2 := (lcs_le a a).1
  omega
theorem lcs_less (a : List α) (k : Nat) (h : k < a.length) : lcsN a (a.take k ++ a.drop (k + 1)) = a.length - 1 ∧ lcsN (a.take k ++ a.drop (k + 1)) a = a.length - 1 := by
  have hs : List.Sublist (a.take k ++ a.drop (k + 1)) a := by
    conv => rhs; rw [← List.take_append_drop k a]
    refine (List.Sublist.refl _).append ?_
    rw [List.drop_eq_getElem_cons h]
    exact List.sublist_cons_self _ _
  have hl : (a.take k ++ a.drop (k + 1)).length = a.length - 1 := by simp; omega
  have h1 := lcs_max a _ _ hs (List.Sublist.refl _)
  have h2 := (lcs_le a (a.take k ++ a.drop (k + 1))).2
  have : lcsN a (a.take k ++ a.drop (k + 1)) = a.length - 1 := by omega
  exact ⟨this, by rw [lcs_symm]; exact this⟩
theorem way_self (i : Nat) (a : List α) : ∀ k, k < a.length → (wayC i i a a)[k]? = some (((i + k : Nat) : Int), ((i + k : Nat) : Int)) := by
  induction a generalizing i with
  | nil => intro k hk; simp at hk
  | cons x a ih =>
    intro k hk
    rw [way_cons, if_pos rfl]
    cases k with
    | zero => simp
    | succ k =>
      rw [List.getElem?_cons_succ, ih (i + 1) k (by simpa using hk)]
      simp only [Option.some.injEq, Prod.mk.injEq]; omega
/-- the same of texts and of what stands for them -/
theorem lcs_map (f : α → β) (a b : List α) (h : ∀ x ∈ a, ∀ y ∈ b, f x = f y → x = y) : lcsN (a.map f) (b.map f) = lcsN a b := by
  induction a, b using lcsN.induct with
  | case1 b => rw [List.map_nil, lcs_nil, lcs_nil]
  | case2 x a => rw [List.map_nil, lcs_nil2, lcs_nil2]
  | case3 a x b ih => rw [List.map_cons, List.map_cons, lcs_cons, lcs_cons, if_pos rfl, if_pos rfl, ih (fun u hu v hv => h u (by simp [hu]) v (by simp [hv]))]
  | case4 x a y b hne ih1 ih2 =>
    have hf : f x ≠ f y := fun e => hne (h x (by simp) y (by simp) e)
    have e1 := ih1 (fun u hu v hv => h u (by simp [hu]) v hv)
    have e2 := ih2 (fun u hu v hv => h u hu v (by simp [hv]))
    rw [List.map_cons] at e1 e2
    rw [List.map_cons, List.map_cons, lcs_cons, lcs_cons, if_neg hne, if_neg hf, e1, e2]
theorem way_map (f : α → β) (i j : Nat) (a b : List α) (h : ∀ x ∈ a, ∀ y ∈ b, f x = f y → x = y) : wayC i j (a.map f) (b.map f) = wayC i j a b := by
  induction i, j, a, b using wayC.induct with
  | case1 i j b => rw [List.map_nil, way_nil, way_nil]
  | case2 i j x a => rw [List.map_nil, way_nil2, way_nil2]
  | case3 i j a x b ih => rw [List.map_cons, List.map_cons, way_cons, way_cons, if_pos rfl, if_pos rfl, ih (fun u hu v hv => h u (by simp [hu]) v (by simp [hv]))]
  | case4 i j x a y b hne h2 ih =>
    have hf : f x ≠ f y := fun e => hne (h x (by simp) y (by simp) e)
    have e1 := lcs_map f (x :: a) b (fun u hu v hv => h u hu v (by simp [hv]))
    have e2 := lcs_map f a (y :: b) (fun u hu v hv => h u (by simp [hu]) v hv)
    have e3 := ih (fun u hu v hv => h u (by simp [hu]) v hv)
    rw [List.map_cons] at e1 e2 e3
    rw [List.map_cons, List.map_cons, way_cons, way_cons, if_neg hne, if_neg hf, e1, e2, if_pos h2, if_pos h2, e3]
  | case5 i j x a y b hne h2 ih =>
    have hf : f x ≠ f y := fun e => hne (h x (by simp) y (by simp) e)
    have e1 := lcs_map f (x :: a) b (fun u hu v hv => h u hu v (by simp [hv]))
    have e2 := lcs_map f a (y :: b) (fun u hu v hv => h u (by simp [hu]) v hv)
    have e3 := ih (fun u hu v hv => h u hu v (by simp [hv]))
    rw [List.map_cons] at e1 e2 e3
    rw [List.map_cons, List.map_cons, way_cons, way_cons, if_neg hne, if_neg hf, e1, e2, if_neg h2, if_neg h2, e3]
/-! step by step, by places -/
theorem drop_at {γ : Type} (a : List γ) (i : Nat) (x : γ) (h : a[i]? = some x) : a.drop i = x :: a.drop (i + 1) := by
  obtain ⟨hi, e⟩ := List.getElem?_eq_some_iff.1 h
  rw [List.drop_eq_getElem_cons hi, e]
theorem way_both (a b : List α) (i j : Nat) (x : α) (ha : a[i]? = some x) (hb : b[j]? = some x) : wayC i j (a.drop i) (b.drop j) = ((i : Int), (j : Int)) :: wayC (i + 1) (j + 1) (a.drop (i + 1)) (b.drop (j + 1)) := by
  rw [drop_at a i x ha, drop_at b j x hb, way_cons, if_pos rfl]
theorem way_a (a b : List α) (i j : Nat) (x y : α) (ha : a[i]? = some x) (hb : b[j]? = some y) (hne : x ≠ y) (h : lcsN (a.drop i) (b.drop (j + 1)) ≤ lcsN (a.drop (i + 1)) (b.drop j)) : wayC i j (a.drop i) (b.drop j) = wayC (i + 1) j (a.drop (i + 1)) (b.drop j) := by
  rw [drop_at a i x ha] at h ⊢
  rw [drop_at b j y hb] at h ⊢
  rw [way_cons, if_neg hne, if_pos h]
theorem way_b (a b : List α) (i j : Nat) (x y : α) (ha : a[i]? = some x) (hb : b[j]? = some y) (hne : x ≠ y) (h : ¬ lcsN (a.drop i) (b.drop (j + 1)) ≤ lcsN (a.drop (i + 1)) (b.drop j)) : wayC i j (a.drop i) (b.drop j) = wayC i (j + 1) (a.drop i) (b.drop (j + 1)) := by
  rw [drop_at a i x ha] at h ⊢
  rw [drop_at b j y hb] at h ⊢
  rw [way_cons, if_neg hne, if_neg h]
theorem way_end (a b : List α) (i j : Nat) (h : a.length ≤ i ∨ b.length ≤ j) : wayC i j (a.drop i) (b.drop j) = [] := by
  rcases h with h | h
  · rw [List.drop_eq_nil_of_le h, way_nil]
  · rw [List.drop_eq_nil_of_le h, way_nil2]
/-- the lengths from each place of b on -/
def rowOf (a b : List α) : List Int := (List.range (b.length + 1)).map fun j => ((lcsN a (b.drop j) : Nat) : Int)
theorem rowOf_len (a b : List α) : (rowOf a b).length = b.length + 1 := by simp [rowOf]
theorem rowOf_at (a b : List α) (j : Nat) (h : j ≤ b.length) : (rowOf a b)[j]? = some ((lcsN a (b.drop j) : Nat) : Int) := by
  unfold rowOf
  rw [List.getElem?_map, List.getElem?_range (by omega)]; rfl
theorem lcs_hit (x : α) (a b : List α) (j : Nat) (h : b[j]? = some x) : lcsN (x :: a) (b.drop j) = lcsN a (b.drop (j + 1)) + 1 := by
  rw [drop_at b j x h, lcs_cons, if_pos rfl]
theorem lcs_miss (x y : α) (a b : List α) (j : Nat) (h : b[j]? = some y) (hne : x ≠ y) : lcsN (x :: a) (b.drop j) = max (lcsN a (b.drop j)) (lcsN (x :: a) (b.drop (j + 1))) := by
  rw [drop_at b j y h, lcs_cons, if_neg hne]
/-! a common row by places -/
def Ahead (p q : Int × Int) : Prop := p.1 < q.1 ∧ p.2 < q.2
def InBoth (a b : List α) (i j : Nat) (p : Int × Int) : Prop := ∃ (s t : Nat) (x : α), p = ((s : Int), (t : Int)) ∧ i ≤ s ∧ j ≤ t ∧ a[s]? = some x ∧ b[t]? = some x
theorem rows_le (a b : List α) (l : List (Int × Int)) : ∀ i j, (∀ p ∈ l, InBoth a b i j p) → l.Pairwise Ahead → l.length ≤ lcsN (a.drop i) (b.drop j) := by
  induction l with
  | nil => intro i j _ _; simp
  | cons p l ih =>
    intro i j h hp
    obtain ⟨s, t, x, rfl, h1, h2, h3, h4⟩ := h p (by simp)
    obtain ⟨g1, g2⟩ := List.pairwise_cons.1 hp
    have k := ih (s + 1) (t + 1) (fun q hq => by
      obtain ⟨s', t', x', e, _, _, h3', h4'⟩ := h q (by simp [hq])
      have := g1 q hq
      rw [e] at this
      obtain ⟨m1, m2⟩ := this
      dsimp only at m1 m2
      exact ⟨s', t', x', e, by omega, by omega, h3', h4'⟩) g2
    have e : lcsN (a.drop s) (b.drop t) = lcsN (a.drop (s + 1)) (b.drop (t + 1)) + 1 := by rw [drop_at a s x h3]; exact lcs_hit x _ b t h4
    have sub : ∀ (c : List α) (i s : Nat), i ≤ s → List.Sublist (c.drop s) (c.drop i) := fun c i s h => by
      rw [show c.drop s = (c.drop i).drop (s - i) from by rw [List.drop_drop]; congr 1; omega]
      exact List.drop_sublist _ _
    have := lcs_mono (sub a i s h1) (sub b j t h2)
    simp only [List.length_cons]; omega
theorem way_in (i j : Nat) (a b : List α) : (∀ p ∈ wayC i j a b, ∃ (s t : Nat) (x : α), p = (((i + s : Nat) : Int), ((j + t : Nat) : Int)) ∧ a[s]? = some x ∧ b[t]? = some x) ∧ (wayC i j a b).Pairwise Ahead := by
  induction i, j, a, b using wayC.induct with
  | case1 i j b => rw [way_nil]; exact ⟨(fun p hp => by cases hp), List.Pairwise.nil⟩
  | case2 i j x a => rw [way_nil2]; exact ⟨(fun p hp => by cases hp), List.Pairwise.nil⟩
  | case3 i j a x b ih =>
    obtain ⟨h1, h2⟩ := ih
    rw [way_cons, if_pos rfl]
    refine ⟨fun p hp => ?_, List.pairwise_cons.2 ⟨fun q hq => ?_, h2⟩⟩
    · rcases List.mem_cons.1 hp with rfl | hp
      · exact ⟨0, 0, x, by simp, by simp, by simp⟩
      · obtain ⟨s, t, y, rfl, e1, e2⟩ := h1 p hp
        refine ⟨s + 1, t + 1, y, ?_, by simpa using e1, by simpa using e2⟩
        simp only [Prod.mk.injEq]; omega
    · obtain ⟨s, t, y, rfl, _, _⟩ := h1 q hq
      refine ⟨?_, ?_⟩ <;> simp only <;> omega
  | case4 i j x a y b hne h2 ih =>
    obtain ⟨h1, h3⟩ := ih
    rw [way_cons, if_neg hne, if_pos h2]
    refine ⟨fun p hp => ?_, h3⟩
    obtain ⟨s, t, z, rfl, e1, e2⟩ := h1 p hp
    exact ⟨s + 1, t, z, by rw [show i + 1 + s = i + (s + 1) from by omega], by simpa using e1, e2⟩
  | case5 i j x a y b hne h2 ih =>
    obtain ⟨h1, h3⟩ := ih
    rw [way_cons, if_neg hne, if_neg h2]
    refine ⟨fun p hp => ?_, h3⟩
    obtain ⟨s, t, z, rfl, e1, e2⟩ := h1 p hp
    exact ⟨s, t + 1, z, by rw [show j + 1 + t = j + (t + 1) from by omega], e1, by simpa using e2⟩
theorem way_both_in (a b : List α) (p : Int × Int) (h : p ∈ wayC 0 0 a b) : InBoth a b 0 0 p := by
  obtain ⟨s, t, x, rfl, e1, e2⟩ := (way_in 0 0 a b).1 p h
  exact ⟨s, t, x, by simp, by omega, by omega, e1, e2⟩
theorem ahead_trans {p q r : Int × Int} (h : Ahead p q) (k : Ahead q r) : Ahead p r := ⟨Int.lt_trans h.1 k.1, Int.lt_trans h.2 k.2⟩
theorem ahead_next (l : List (Int × Int)) (k : Nat) (p : Int × Int) (hp : l[k]? = some p) (h : (l.take k).Pairwise Ahead) (hk : k = 0 ∨ ∃ q, l[k - 1]? = some q ∧ Ahead q p) : (l.take (k + 1)).Pairwise Ahead := by
  obtain ⟨hl, e⟩ := List.getElem?_eq_some_iff.1 hp
  rw [List.take_succ_eq_append_getElem hl, e, List.pairwise_append]
  refine ⟨h, List.pairwise_singleton _ _, fun x hx y hy => ?_⟩
  simp at hy; subst hy
  rcases hk with rfl | ⟨q, hq, ha⟩
  · simp at hx
  · rcases Nat.eq_zero_or_pos k with h0 | h0
    · subst h0; simp at hx
    · obtain ⟨m, rfl⟩ : ∃ m, k = m + 1 := ⟨k - 1, by omega⟩
      simp only [Nat.add_sub_cancel] at hq
      obtain ⟨hl', e'⟩ := List.getElem?_eq_some_iff.1 hq
      rw [List.take_succ_eq_append_getElem hl', e', List.pairwise_append] at h
      rw [List.take_succ_eq_append_getElem hl', e', List.mem_append] at hx
      rcases hx with hx | hx
      · exact ahead_trans (h.2.2 x hx q (by simp)) ha
      · simp at hx; subst hx; exact ha
theorem ahead_of (l : List (Int × Int)) (k : Nat) (p q : Int × Int) (h : l.Pairwise Ahead) (hp : l[k]? = some p) (hq : l[k + 1]? = some q) : Ahead p q := by
  obtain ⟨h1, e1⟩ := List.getElem?_eq_some_iff.1 hp
  obtain ⟨h2, e2⟩ := List.getElem?_eq_some_iff.1 hq
  have := List.pairwise_iff_getElem.1 h k (k + 1) h1 h2 (by omega)
  rwa [e1, e2] at this
end
end Go.Proofs.YtigijgcldgbokaaGreat
namespace Go.Proofs.YtigijgcldgbokaaGreat
set_option linter.unusedVariables false
set_option linter.unusedSectionVars false

section
variable {α : Type} [DecidableEq α]
/-- how often a thing is in a list -/
def cntN (x : α) : List α → Nat
  | [] => 0
  | y :: ys => (if y = x then 1 else 0) + cntN x ys
/-- how much is in common -/
def overL : List α → List α → Nat
  | [], _ => 0
  | x :: a, b => overL a b + if cntN x a < cntN x b then 1 else 0
theorem cnt_append (x : α) (a b : List α) : cntN x (a ++ b) = cntN x a + cntN x b := by
  induction a with
  | nil => simp [cntN]
  | cons y a ih => simp only [List.cons_append, cntN, ih]; omega
theorem cnt_le (x : α) (a : List α) : cntN x a ≤ a.length := by
  induction a with
  | nil => simp [cntN]
  | cons y a ih => simp only [cntN, List.length_cons]; split <;> omega
theorem cnt_pos (x : α) (a : List α) : 0 < cntN x a ↔ x ∈ a := by
  induction a with
  | nil => simp [cntN]
  | cons y a ih =>
    simp only [cntN, List.mem_cons]
    by_cases h : y = x
    · rw [if_pos h]; exact ⟨fun _ => .inl h.symm, fun _ => by omega⟩
    · rw [if_neg h, Nat.zero_add, ih]
      exact ⟨fun h1 => .inr h1, fun h1 => h1.resolve_left (fun e => h e.symm)⟩
theorem cnt_none (x : α) (a : List α) (h : x ∉ a) : cntN x a = 0 := by
  have := cnt_pos x a
  have : ¬ 0 < cntN x a := fun h1 => h (this.1 h1)
  omega
theorem cnt_perm (x : α) {a b : List α} (h : a.Perm b) : cntN x a = cntN x b := by
  induction h with
  | nil => rfl
  | cons y _ ih => simp only [cntN, ih]
  | swap y z l => simp only [cntN]; omega
  | trans _ _ h1 h2 => exact h1.trans h2
theorem cnt_sub (x : α) {a b : List α} (h : List.Sublist a b) : cntN x a ≤ cntN x b := by
  induction h with
  | slnil => exact Nat.le_refl _
  | cons y _ ih => simp only [cntN]; omega
  | cons_cons y _ ih => simp only [cntN]; omega
/-- the sum over some things, each once -/
def sumN (f : α → Nat) : List α → Nat
  | [] => 0
  | x :: l => f x + sumN f l
theorem sum_append (f : α → Nat) (a b : List α) : sumN f (a ++ b) = sumN f a + sumN f b := by
  induction a with
  | nil => simp [sumN]
  | cons y a ih => simp only [List.cons_append, sumN, ih]; omega
theorem sum_congr (f g : α → Nat) (l : List α) (h : ∀ x ∈ l, f x = g x) : sumN f l = sumN g l := by
  induction l with
  | nil => rfl
  | cons y l ih => simp only [sumN]; rw [h y List.mem_cons_self, ih (fun x hx => h x (List.mem_cons_of_mem _ hx))]
theorem sum_le_sum (f g : α → Nat) (l : List α) (h : ∀ x ∈ l, f x ≤ g x) : sumN f l ≤ sumN g l := by
  induction l with
  | nil => exact Nat.le_refl _
  | cons y l ih => simp only [sumN]; have := h y List.mem_cons_self; have := ih (fun x hx => h x (List.mem_cons_of_mem _ hx)); omega
theorem sum_zero (l : List α) : sumN (fun _ => 0) l = 0 := by
  induction l with
  | nil => rfl
  | cons y l ih => simp only [sumN, ih]
theorem sum_one (f g : α → Nat) (x : α) (d : Nat) (l : List α) (hn : l.Nodup) (ho : ∀ y, y ≠ x → f y = g y) (hx : f x = g x + d) : sumN f l = sumN g l + if x ∈ l then d else 0 := by
  induction l with
  | nil => simp [sumN]
  | cons y l ih =>
    obtain ⟨h1, h2⟩ := List.nodup_cons.1 hn
    simp only [sumN]
    by_cases e : y = x
    · subst e
      rw [sum_congr f g l (fun z hz => ho z (fun e' => h1 (e' ▸ hz))), hx, if_pos List.mem_cons_self]; omega
    · rw [ih h2, ho y e]
      have : (x ∈ y :: l) ↔ x ∈ l := by simp [Ne.symm e]
      by_cases hm : x ∈ l
      · rw [if_pos hm, if_pos (this.2 hm)]; omega
      · rw [if_neg hm, if_neg (fun h' => hm (this.1 h'))]; omega
/-- what is in common, thing by thing -/
theorem over_sum (a b ss : List α) (hn : ss.Nodup) (hs : ∀ s, s ∈ a → s ∈ b → s ∈ ss) : overL a b = sumN (fun s => min (cntN s b) (cntN s a)) ss := by
  induction a with
  | nil => rw [overL, sum_congr _ (fun _ => 0) ss (fun x _ => by simp [cntN]), sum_zero]
  | cons x a ih =>
    rw [overL, ih (fun s h1 h2 => hs s (List.mem_cons_of_mem _ h1) h2)]
    rw [sum_one (fun s => min (cntN s b) (cntN s (x :: a))) (fun s => min (cntN s b) (cntN s a)) x (if cntN x a < cntN x b then 1 else 0) ss hn
      (fun y hy => by simp only [cntN]; rw [if_neg (Ne.symm hy), Nat.zero_add]) (by simp only [cntN, if_true]; split <;> omega)]
    by_cases hb : x ∈ b
    · rw [if_pos (hs x List.mem_cons_self hb)]
    · rw [cnt_none x b hb]; simp
theorem sum_le_over (a b ss : List α) (hn : ss.Nodup) : sumN (fun s => min (cntN s b) (cntN s a)) ss ≤ overL a b := by
  induction a with
  | nil => rw [overL, sum_congr _ (fun _ => 0) ss (fun x _ => by simp [cntN]), sum_zero]; exact Nat.le_refl _
  | cons x a ih =>
    rw [overL]
    rw [sum_one (fun s => min (cntN s b) (cntN s (x :: a))) (fun s => min (cntN s b) (cntN s a)) x (if cntN x a < cntN x b then 1 else 0) ss hn
      (fun y hy => by simp only [cntN]; rw [if_neg (Ne.symm hy), Nat.zero_add]) (by simp only [cntN, if_true]; split <;> omega)]
    split <;> omega
/-- each thing of a list, once -/
def once : List α → List α
  | [] => []
  | x :: l => if x ∈ once l then once l else x :: once l
theorem once_nodup (l : List α) : (once l).Nodup := by
  induction l with
  | nil => simp [once]
  | cons x l ih => rw [once]; split; exact ih; exact List.nodup_cons.2 ⟨by assumption, ih⟩
theorem mem_once (x : α) (l : List α) : x ∈ once l ↔ x ∈ l := by
  induction l with
  | nil => simp [once]
  | cons y l ih =>
    rw [once]
    split
    · rw [ih]; constructor
      · exact fun h => List.mem_cons_of_mem _ h
      · intro h; rcases List.mem_cons.1 h with rfl | h
        · rename_i h1; exact ih.1 h1
        · exact h
    · rw [List.mem_cons, List.mem_cons, ih]
theorem over_once (a b : List α) : overL a b = sumN (fun s => min (cntN s b) (cntN s a)) (once b) := over_sum a b _ (once_nodup b) (fun s _ h => (mem_once s b).2 h)
theorem over_symm (a b : List α) : overL b a = overL a b := by
  rw [over_sum b a (once b) (once_nodup b) (fun s h _ => (mem_once s b).2 h), over_once a b]
  exact sum_congr _ _ _ (fun x _ => Nat.min_comm _ _)
theorem over_mono {a a' b b' : List α} (h : ∀ x, cntN x a ≤ cntN x a') (k : ∀ x, cntN x b ≤ cntN x b') : overL a b ≤ overL a' b' := by
  have sub : ∀ s, s ∈ b → s ∈ b' := fun s hs => (cnt_pos s b').1 (Nat.lt_of_lt_of_le ((cnt_pos s b).2 hs) (k s))
  rw [over_sum a b (once b') (once_nodup b') (fun s _ h => (mem_once s b').2 (sub s h)), over_once a' b']
  exact sum_le_sum _ _ _ (fun x _ => by have := h x; have := k x; omega)
theorem over_same {a a' b b' : List α} (h : ∀ x, cntN x a = cntN x a') (k : ∀ x, cntN x b = cntN x b') : overL a b = overL a' b' :=
  Nat.le_antisymm (over_mono (fun x => Nat.le_of_eq (h x)) (fun x => Nat.le_of_eq (k x))) (over_mono (fun x => Nat.le_of_eq (h x).symm) (fun x => Nat.le_of_eq (k x).symm))
theorem over_perm {a a' b b' : List α} (h : a.Perm a') (k : b.Perm b') : overL a b = overL a' b' := over_same (fun x => cnt_perm x h) (fun x => cnt_perm x k)
theorem over_snoc (a b : List α) (x : α) : overL (a ++ [x]) b = overL a b + if cntN x a < cntN x b then 1 else 0 := by
  rw [over_perm (a' := x :: a) (b' := b) (List.perm_append_comm) (List.Perm.refl _), overL]
theorem over_le1 (a b : List α) : overL a b ≤ a.length := by
  induction a with
  | nil => simp [overL]
  | cons x a ih => rw [overL, List.length_cons]; split <;> omega
theorem over_le2 (a b : List α) : overL a b ≤ b.length := by rw [← over_symm]; exact over_le1 b a
theorem over_full (a b : List α) (h : ∀ x, cntN x a ≤ cntN x b) : overL a b = a.length := by
  induction a with
  | nil => simp [overL]
  | cons x a ih =>
    have h1 := h x
    simp only [cntN, if_true] at h1
    rw [overL, ih (fun y => by have := h y; simp only [cntN] at this; omega), if_pos (by omega), List.length_cons]
theorem over_self (a : List α) : overL a a = a.length := over_full a a (fun _ => Nat.le_refl _)
theorem over_both (a b : List α) (x : α) : overL (x :: a) (b ++ [x]) = overL a b + 1 := by
  rw [overL, ← over_symm, over_snoc, over_symm, cnt_append]
  simp only [cntN, if_true]
  by_cases h : cntN x b < cntN x a
  · rw [if_pos h, if_neg (by omega)]
  · rw [if_neg h, if_pos (by omega)]
theorem over_lcs (a b : List α) : lcsN a b ≤ overL a b := by
  obtain ⟨s, h1, h2, h3⟩ := lcs_wit a b
  rw [← h3, ← over_full s b (fun x => cnt_sub x h2)]
  exact over_mono (fun x => cnt_sub x h1) (fun _ => Nat.le_refl _)
/-- those of a list of which something holds, counted -/
theorem cnt_filter (p : α → Bool) (x : α) (a : List α) : cntN x (a.filter p) = if p x = true then cntN x a else 0 := by
  induction a with
  | nil => simp [cntN]
  | cons y a ih =>
    rw [List.filter_cons]
    by_cases hy : p y = true
    · rw [if_pos hy]
      simp only [cntN, ih]
      by_cases e : y = x
      · subst e; simp [hy]
      · simp only [if_neg e, Nat.zero_add]
    · rw [if_neg hy, ih]
      simp only [cntN]
      by_cases e : y = x
      · subst e; simp [hy]
      · simp only [if_neg e, Nat.zero_add]
end
/-- two things of a list change places -/
theorem swap_perm {α : Type} (a : List α) (j k : Nat) (x y : α) (hj : a[j]? = some x) (hk : a[k]? = some y) : ((a.set j y).set k x).Perm a := by
  obtain ⟨hj1, ej⟩ := List.getElem?_eq_some_iff.1 hj
  obtain ⟨hk1, ek⟩ := List.getElem?_eq_some_iff.1 hk
  have := List.set_set_perm hj1 hk1
  rw [ej, ek] at this
  exact this
end Go.Proofs.YtigijgcldgbokaaGreat
namespace Go.Proofs.YtigijgcldgbokaaGreat
set_option linter.unusedVariables false

/-- the pair of a column of b, if its name is in a's head -/
def namedO (ha hb : List ByteArray) (q : Nat) : Option (Int × Int) := match hb[q]? with | some s => if 0 ≤ findL ha s then some (findL ha s, (q : Int)) else none | none => none
/-- the first k of them -/
def namedK (ha hb : List ByteArray) (k : Nat) : PL := (List.range k).filterMap (namedO ha hb)
def namedL (ha hb : List ByteArray) : PL := namedK ha hb hb.length
theorem named_next (ha hb : List ByteArray) (k : Nat) (s : ByteArray) (hs : hb[k]? = some s) : namedK ha hb (k + 1) = if 0 ≤ findL ha s then namedK ha hb k ++ [(findL ha s, (k : Int))] else namedK ha hb k := by
  unfold namedK
  rw [List.range_succ, List.filterMap_append]
  have e : namedO ha hb k = if 0 ≤ findL ha s then some (findL ha s, (k : Int)) else none := by unfold namedO; rw [hs]
  by_cases h : 0 ≤ findL ha s
  · rw [if_pos h] at e ⊢; simp [e]
  · rw [if_neg h] at e ⊢; simp [e]
theorem named_le (ha hb : List ByteArray) (k : Nat) : (namedK ha hb k).length ≤ k := by
  unfold namedK; exact Nat.le_trans (List.length_filterMap_le _ _) (by simp)
theorem named_mem (ha hb : List ByteArray) (p q : Int) : (p, q) ∈ namedL ha hb ↔ ∃ (k : Nat) (s : ByteArray), q = k ∧ hb[k]? = some s ∧ findL ha s = p ∧ 0 ≤ p := by
  unfold namedL namedK
  rw [List.mem_filterMap]
  constructor
  · rintro ⟨k, hk, h⟩
    unfold namedO at h
    split at h
    · rename_i s hs
      split at h
      · rename_i h0
        simp only [Option.some.injEq, Prod.mk.injEq] at h
        obtain ⟨rfl, rfl⟩ := h
        exact ⟨k, s, rfl, hs, rfl, h0⟩
      · cases h
    · cases h
  · rintro ⟨k, s, rfl, hs, rfl, h0⟩
    refine ⟨k, List.mem_range.2 (List.getElem?_eq_some_iff.1 hs).1, ?_⟩
    unfold namedO
    rw [hs]
    simp only
    rw [if_pos h0]
theorem named_rise (ha hb : List ByteArray) (k : Nat) : (namedK ha hb k).Pairwise fun p q => p.2 < q.2 := by
  unfold namedK
  rw [List.pairwise_filterMap]
  refine List.pairwise_lt_range.imp fun {a b} hab p hp q hq => ?_
  have e : ∀ (k : Nat) p, namedO ha hb k = some p → p.2 = k := fun k p h => by
    unfold namedO at h
    split at h
    · split at h
      · simp only [Option.some.injEq] at h; rw [← h]
      · cases h
    · cases h
  rw [e a p hp, e b q hq]; omega
/-- what is found is there, and it is the first one -/
theorem find_there (hd : List ByteArray) (s : ByteArray) (h : 0 ≤ findL hd s) : ∃ k : Nat, findL hd s = k ∧ hd[k]? = some s := by
  unfold findL firstAt at h ⊢
  cases hf : hd.findIdx? (fun c => decide (c.data.toList = s.data.toList)) with
  | none => rw [hf] at h; simp at h
  | some i =>
    obtain ⟨hi, h1, _⟩ := List.findIdx?_eq_some_iff_getElem.1 hf
    refine ⟨i, rfl, ?_⟩
    rw [List.getElem?_eq_getElem hi]
    exact congrArg some (ba_eq (of_decide_eq_true h1))
theorem find_none (hd : List ByteArray) (s : ByteArray) (h : s ∈ hd) : 0 ≤ findL hd s := by
  unfold findL firstAt
  cases hf : hd.findIdx? (fun c => decide (c.data.toList = s.data.toList)) with
  | none =>
    have := List.findIdx?_eq_none_iff.1 hf s h
    simp at this
  | some i => simp
theorem nodup_of_dup (hd : List ByteArray) (h : dupL hd = false) : hd.Nodup := by
  unfold dupL at h
  have h2 : (bytesOf hd).Nodup := by
    by_cases h3 : (bytesOf hd).Nodup
    · exact h3
    · rw [decide_eq_true h3] at h; cases h
  unfold bytesOf at h2
  rw [List.Nodup, List.pairwise_map] at h2
  exact h2.imp fun {a b} hab e => hab (by rw [e])
theorem find_is (hd : List ByteArray) (hn : hd.Nodup) (k : Nat) (s : ByteArray) (hk : hd[k]? = some s) : findL hd s = k := by
  obtain ⟨j, hj, hjs⟩ := find_there hd s (find_none hd s (List.mem_of_getElem? hk))
  rw [hj]
  have hkl := (List.getElem?_eq_some_iff.1 hk).1
  have := (List.getElem?_inj hkl hn).1 (by rw [hk, hjs] : hd[k]? = hd[j]?)
  rw [this]
/-- a choice of two columns -/
def scoreC (ra rb : List (List ByteArray)) (ha hb : List ByteArray) (p q : Int) : Nat := overL (bytesOf (columnT ha ra p)) (bytesOf (columnT hb rb q))
def mayC (ra rb : List (List ByteArray)) (n : Nat) : Bool := decide (ra.length < 2 * n) && decide (rb.length < 2 * n)
def choiceO (ra rb : List (List ByteArray)) (ha hb : List ByteArray) (p q : Int) : Option T3 := if mayC ra rb (scoreC ra rb ha hb p q) then some (p, q, (scoreC ra rb ha hb p q : Int)) else none
/-- the choices of one column of a -/
def choiceRow (ra rb : List (List ByteArray)) (ha hb : List ByteArray) (p : Int) (qs : List Int) : TL := qs.filterMap (choiceO ra rb ha hb p)
def choicesOf (ra rb : List (List ByteArray)) (ha hb : List ByteArray) (ps qs : List Int) : TL := ps.flatMap fun p => choiceRow ra rb ha hb p qs
def freeA (ha : List ByteArray) (l : PL) : List Int := outOf (l.map Prod.fst) ha.length
def freeB (hb : List ByteArray) (l : PL) : List Int := outOf (l.map Prod.snd) hb.length
def choicesA (ra rb : List (List ByteArray)) (ha hb : List ByteArray) : TL := choicesOf ra rb ha hb (freeA ha (namedL ha hb)) (freeB hb (namedL ha hb))
/-- the columns that are the same -/
def alignL (ra rb : List (List ByteArray)) (ha hb : List ByteArray) (rename : Bool) : PL := if rename then (pickL (choicesA ra rb ha hb)).foldl putB (namedL ha hb) else namedL ha hb

theorem out_mem (S : List Int) (n : Nat) (z : Int) : z ∈ outOf S n ↔ (0 ≤ z ∧ z < (n : Int)) ∧ z ∉ S := by
  unfold outOf
  rw [List.mem_filter, upTo_mem]
  simp
theorem choices_mem (ra rb : List (List ByteArray)) (ha hb : List ByteArray) (ps qs : List Int) (c : T3) : c ∈ choicesOf ra rb ha hb ps qs ↔ c.1 ∈ ps ∧ c.2.1 ∈ qs ∧ mayC ra rb (scoreC ra rb ha hb c.1 c.2.1) = true ∧ c.2.2 = (scoreC ra rb ha hb c.1 c.2.1 : Int) := by
  unfold choicesOf choiceRow choiceO
  rw [List.mem_flatMap]
  constructor
  · rintro ⟨p, hp, h⟩
    rw [List.mem_filterMap] at h
    obtain ⟨q, hq, h⟩ := h
    split at h
    · rename_i hm
      simp only [Option.some.injEq] at h
      subst h
      exact ⟨hp, hq, hm, rfl⟩
    · cases h
  · rintro ⟨h1, h2, h3, h4⟩
    refine ⟨c.1, h1, ?_⟩
    rw [List.mem_filterMap]
    refine ⟨c.2.1, h2, ?_⟩
    rw [if_pos h3, ← h4]
theorem putB_perm (l : PL) (p : Int × Int) : (putB l p).Perm (p :: l) := by
  unfold putB
  refine List.perm_middle.trans ?_
  rw [List.take_append_drop]
theorem puts_perm : ∀ (m l : PL), (m.foldl putB l).Perm (l ++ m)
  | [], l => by simp
  | p :: m, l => by
    rw [List.foldl_cons]
    refine (puts_perm m (putB l p)).trans ?_
    refine ((putB_perm l p).append_right m).trans ?_
    exact (List.perm_middle).symm
/-- rising Bs, once more -/
def RiseB (l : PL) : Prop := l.Pairwise fun p q => p.2 < q.2
theorem puts_rise : ∀ (m l : PL), RiseB l → (∀ p ∈ m, ∀ q ∈ l, q.2 ≠ p.2) → (m.map Prod.snd).Nodup → RiseB (m.foldl putB l)
  | [], l, h, _, _ => h
  | p :: m, l, h, hd, hn => by
    rw [List.foldl_cons]
    rw [List.map_cons, List.nodup_cons] at hn
    have hs : Sorted l := h.imp fun h => by omega
    refine puts_rise m _ ?_ (fun r hr q hq => ?_) hn.2
    · have hp := putK_ahead p l hs
      unfold RiseB putB
      rw [List.pairwise_append, List.pairwise_cons]
      refine ⟨h.sublist (List.take_sublist _ _), ⟨fun q hq => hp.2 q hq, h.sublist (List.drop_sublist _ _)⟩, fun a ha b hb => ?_⟩
      have h1 := hp.1 a ha
      have h2 := hd p List.mem_cons_self a (List.mem_of_mem_take ha)
      rcases List.mem_cons.1 hb with rfl | hb
      · omega
      · have := hp.2 b hb; omega
    · rcases List.mem_cons.1 ((putB_perm l p).mem_iff.1 hq) with rfl | hq
      · intro e
        exact hn.1 (List.mem_map.2 ⟨r, hr, e.symm⟩)
      · exact hd r (List.mem_cons_of_mem _ hr) q hq
/-- what is in none of the named pairs: no such name -/
theorem free_a (ha hb : List ByteArray) (hna : ha.Nodup) (p : Int) (h : p ∈ freeA ha (namedL ha hb)) : ∃ (k : Nat) (s : ByteArray), p = k ∧ ha[k]? = some s ∧ s ∉ hb := by
  unfold freeA at h
  obtain ⟨⟨h0, h1⟩, h2⟩ := (out_mem _ _ _).1 h
  obtain ⟨k, rfl⟩ := Int.eq_ofNat_of_zero_le h0
  obtain ⟨s, hs⟩ : ∃ s, ha[k]? = some s := ⟨_, List.getElem?_eq_getElem (by omega)⟩
  refine ⟨k, s, rfl, hs, fun hm => h2 ?_⟩
  obtain ⟨q, hq⟩ := List.mem_iff_getElem?.1 hm
  exact List.mem_map.2 ⟨((k : Int), (q : Int)), (named_mem ha hb _ _).2 ⟨q, s, rfl, hq, find_is ha hna k s hs, by omega⟩, rfl⟩
theorem free_b (ha hb : List ByteArray) (q : Int) (h : q ∈ freeB hb (namedL ha hb)) : ∃ (k : Nat) (s : ByteArray), q = k ∧ hb[k]? = some s ∧ s ∉ ha := by
  unfold freeB at h
  obtain ⟨⟨h0, h1⟩, h2⟩ := (out_mem _ _ _).1 h
  obtain ⟨k, rfl⟩ := Int.eq_ofNat_of_zero_le h0
  obtain ⟨s, hs⟩ : ∃ s, hb[k]? = some s := ⟨_, List.getElem?_eq_getElem (by omega)⟩
  refine ⟨k, s, rfl, hs, fun hm => h2 ?_⟩
  exact List.mem_map.2 ⟨(findL ha s, (k : Int)), (named_mem ha hb _ _).2 ⟨k, s, rfl, hs, rfl, find_none ha s hm⟩, rfl⟩
/-- what is picked -/
theorem picked (ra rb : List (List ByteArray)) (ha hb : List ByteArray) (p q : Int) (h : (p, q) ∈ pickL (choicesA ra rb ha hb)) : p ∈ freeA ha (namedL ha hb) ∧ q ∈ freeB hb (namedL ha hb) := by
  obtain ⟨c, hc, h1, h2⟩ := (pick_taken (choicesA ra rb ha hb)).choice (p, q) h
  obtain ⟨k1, k2, -, -⟩ := (choices_mem ra rb ha hb _ _ c).1 hc
  dsimp only at h1 h2
  rw [h1] at k1; rw [h2] at k2
  exact ⟨k1, k2⟩
theorem align_mem (ra rb : List (List ByteArray)) (ha hb : List ByteArray) (rename : Bool) (p : Int × Int) : p ∈ alignL ra rb ha hb rename ↔ p ∈ namedL ha hb ∨ (rename = true ∧ p ∈ pickL (choicesA ra rb ha hb)) := by
  unfold alignL
  cases rename with
  | false => simp
  | true => rw [if_pos rfl, (puts_perm _ _).mem_iff, List.mem_append]; simp
theorem align_len (ra rb : List (List ByteArray)) (ha hb : List ByteArray) (rename : Bool) : (alignL ra rb ha hb rename).length = (namedL ha hb).length + if rename then (pickL (choicesA ra rb ha hb)).length else 0 := by
  unfold alignL
  cases rename with
  | false => simp
  | true => rw [if_pos rfl, (puts_perm _ _).length_eq, List.length_append]; simp
theorem align_rise (ra rb : List (List ByteArray)) (ha hb : List ByteArray) (rename : Bool) : RiseB (alignL ra rb ha hb rename) := by
  unfold alignL
  cases rename with
  | false => exact named_rise ha hb _
  | true =>
    rw [if_pos rfl]
    refine puts_rise _ _ (named_rise ha hb _) (fun p hp q hq e => ?_) (pick_taken _).snd
    have := (picked ra rb ha hb p.1 p.2 hp).2
    unfold freeB at this
    exact ((out_mem _ _ _).1 this).2 (List.mem_map.2 ⟨q, hq, e⟩)
theorem named_fst (ha hb : List ByteArray) (hnb : hb.Nodup) : ((namedL ha hb).map Prod.fst).Nodup := by
  rw [List.Nodup, List.pairwise_map]
  refine (named_rise ha hb hb.length).imp_of_mem fun {p q} hp hq hlt e => ?_
  obtain ⟨i, s, e1, h1, f1, z1⟩ := (named_mem ha hb p.1 p.2).1 hp
  obtain ⟨j, t, e2, h2, f2, z2⟩ := (named_mem ha hb q.1 q.2).1 hq
  obtain ⟨k, k1, k2⟩ := find_there ha s (by omega)
  obtain ⟨m, m1, m2⟩ := find_there ha t (by omega)
  have : k = m := by omega
  subst this
  rw [k2] at m2
  cases m2
  have hil := (List.getElem?_eq_some_iff.1 h1).1
  have := (List.getElem?_inj hil hnb).1 (by rw [h1, h2] : hb[i]? = hb[j]?)
  omega
theorem align_fst (ra rb : List (List ByteArray)) (ha hb : List ByteArray) (hnb : hb.Nodup) (rename : Bool) : ((alignL ra rb ha hb rename).map Prod.fst).Nodup := by
  unfold alignL
  cases rename with
  | false => exact named_fst ha hb hnb
  | true =>
    rw [if_pos rfl]
    refine ((puts_perm _ _).map Prod.fst).nodup_iff.2 ?_
    rw [List.map_append, List.nodup_append]
    refine ⟨named_fst ha hb hnb, (pick_taken _).fst, fun a ha1 b hb1 e => ?_⟩
    subst e
    obtain ⟨p, hp, rfl⟩ := List.mem_map.1 hb1
    have := (picked ra rb ha hb p.1 p.2 hp).1
    unfold freeA at this
    exact ((out_mem _ _ _).1 this).2 ha1
/-- each pair: the same name, or a name of which neither is in the other head -/
theorem align_pair (ra rb : List (List ByteArray)) (ha hb : List ByteArray) (hna : ha.Nodup) (rename : Bool) (p q : Int) (h : (p, q) ∈ alignL ra rb ha hb rename) :
    ∃ (i j : Nat) (s t : ByteArray), p = i ∧ q = j ∧ ha[i]? = some s ∧ hb[j]? = some t ∧ (s = t ∨ (rename = true ∧ findL hb s < 0 ∧ findL ha t < 0)) := by
  rcases (align_mem ra rb ha hb rename (p, q)).1 h with h | ⟨hr, h⟩
  · obtain ⟨k, s, rfl, hk, hf, h0⟩ := (named_mem ha hb p q).1 h
    obtain ⟨i, hi, his⟩ := find_there ha s (by omega)
    exact ⟨i, k, s, s, by omega, rfl, his, hk, .inl rfl⟩
  · obtain ⟨h1, h2⟩ := picked ra rb ha hb p q h
    obtain ⟨i, s, rfl, hi, hs⟩ := free_a ha hb hna p h1
    obtain ⟨j, t, rfl, hj, ht⟩ := free_b ha hb q h2
    refine ⟨i, j, s, t, rfl, rfl, hi, hj, .inr ⟨hr, ?_, ?_⟩⟩
    · rcases Int.lt_or_le (findL hb s) 0 with h | h
      · exact h
      · obtain ⟨k, _, hk⟩ := find_there hb s h
        exact absurd (List.mem_of_getElem? hk) hs
    · rcases Int.lt_or_le (findL ha t) 0 with h | h
      · exact h
      · obtain ⟨k, _, hk⟩ := find_there ha t h
        exact absurd (List.mem_of_getElem? hk) ht
end Go.Proofs.YtigijgcldgbokaaGreat
namespace Go.Proofs.YtigijgcldgbokaaGreat
open Go.RowKit Go.Shelf Go.Deep
set_option linter.unusedVariables false

/-- pairs that come back: nil, if there are none -/
def PairsOutN (l : PL) (w : World) (e : Ending) (w' : World) : Prop := ∃ ao cap, e = .returned (.slice ao l.length cap) ∧ PairsAt w' ao l ∧ (ao = none → cap = 0) ∧ l.length ≤ cap ∧ (l = [] → ao = none) ∧ Below w.heap.size w w'

set_option maxRecDepth 100000 in
set_option maxHeartbeats 4000000 in
theorem rnamed_any (ho : Option Addr) (hc : Nat) (ha : List ByteArray) (ro : Option Addr) (m rc : Nat) (bo : Option Addr) (bc : Nat) (hb : List ByteArray) (so : Option Addr) (sn sc : Nat) (w : World) (hn : ha.length ≤ 1099511627776) (hn2 : hb.length ≤ 1073741823) (hH : StrRow w ho ha) (hR : StrRow w bo hb) :
    Calls Tryz.prog 14 #[.agg #[.slice ho ha.length hc, .slice ro m rc], .agg #[.slice bo hb.length bc, .slice so sn sc]] w (PairsOutN (namedL ha hb) w) := by
  obtain ⟨W, HW⟩ : ∃ W, Hid (W = (w.alloc (TabO ho ha.length hc ro m rc)).alloc (TabO bo hb.length bc so sn sc)) := ⟨_, Lib.hid rfl⟩
  have hB : Below w.heap.size w W := by rw [HW.out]; exact two_below _ _ _
  have HB0 := Lib.hid hB
  have hN := two_new w (TabO ho ha.length hc ro m rc) (TabO bo hb.length bc so sn sc)
  rw [← HW.out] at hN
  have box : Hid (∀ V, Below W.heap.size W V → (V.cell? ⟨w.heap.size, 0, none⟩ = some (.slice ho ha.length hc) ∧ V.cell? ⟨w.heap.size, 1, none⟩ = some (.slice ro m rc)) ∧ V.cell? ⟨w.heap.size + 1, 0, none⟩ = some (.slice bo hb.length bc) ∧ V.cell? ⟨w.heap.size + 1, 1, none⟩ = some (.slice so sn sc)) := Lib.hid (fun V hV => ⟨tabs ((hV.block _ (lt_of_heap hN.2.1)).trans hN.2.1), tabs ((hV.block _ (lt_of_heap hN.2.2)).trans hN.2.2)⟩)
  have HRo := Lib.hid (hR.kept hB)
  have CF := Lib.hid (fun V (x : ByteArray) (h : Below W.heap.size W V) => rfind_any ho hc ha ro m rc x V hn (hH.kept (below_up hB h)))
  obtain ⟨O, HQ⟩ : ∃ O : Nat → PL, Hid (O = namedK ha hb) := ⟨_, Lib.hid rfl⟩
  have HNx : Hid (∀ (k : Nat) x, hb[k]? = some x → O (k + 1) = if 0 ≤ findL ha x then O k ++ [(findL ha x, (k : Int))] else O k) := Lib.hid (fun k x h => by rw [HQ.out]; exact named_next ha hb k x h)
  have HLe : Hid (∀ k, (O k).length ≤ k) := Lib.hid (fun k => by rw [HQ.out]; exact named_le _ _ _)
  have HZ : Hid (O 0 = []) := Lib.hid (by rw [HQ.out]; rfl)
  rw [show namedL ha hb = O hb.length from by rw [HQ.out]; rfl]
  have hL0 : (O 0).length = 0 := by rw [HZ.out]; rfl
  have HT : Hid (OwnL W W.heap.size (.slice none 0 0) (O 0)) := Lib.hid (by rw [HZ.out]; exact World.ownsRow_nil _ _ _ _)
  have hinfo : (Tryz.prog.info? 36).map (fun i => (i.zero, i.size, i.bytes)) = some (some (.agg #[.int .i64 0, .int .i64 0]), 2, 16) := by kernel_rfl
  obtain ⟨i0, hi, hz0, hz1, hz2⟩ := info_parts2 hinfo
  have HI := Lib.hid hi
  clear hi hinfo hR hB hN hH
  go_enter Tryz.func14, Tryz.ntmps14
  go_wp2_with fail
  rw [show (w.alloc (Obj.cells #[Value.slice ho ha.length hc, Value.slice ro m rc] 25)).alloc (Obj.cells #[Value.slice bo hb.length bc, Value.slice so sn sc] 25) = W from HW.out.symm]
  go_loopw [5, 6] (fun v i wr => ∃ (k q cp : Nat) (go : Option Addr), k ≤ hb.length ∧ i = .int .i64 k ∧ v = .slice go q cp ∧ Hid (q = (O k).length) ∧ Hid (Below W.heap.size W wr) ∧ Hid (OwnL wr W.heap.size (.slice go q cp) (O k)) ∧ Hid (O k = [] → go = none)) (fun _ i _ => hb.length - (intOf i).toNat)
  case atStart => exact ⟨0, 0, 0, none, Nat.zero_le _, rfl, rfl, Lib.hid hL0.symm, Lib.hid (Below.refl _ _), HT, Lib.hid (fun _ => rfl)⟩
  case round =>
    obtain ⟨k, q, cp, go, hk, rfl, rfl, HQ2, HB, HT, HG⟩ := hrel
    obtain ⟨⟨a0, a1⟩, b0, b1⟩ := box.out wr HB.out
    by_cases hlt : k < hb.length
    · obtain ⟨x, hx⟩ : ∃ x, hb[k]? = some x := ⟨_, List.getElem?_eq_getElem hlt⟩
      rcases HRo.out with h0 | ⟨A, rfl, hA, hcell⟩
      · rw [h0] at hlt; simp at hlt
      have HX := Lib.hid hx
      have ca := (HB.out.cell (p := A.add k) (by rw [add_block]; exact hA)).trans (hcell k x hx)
      have C2 := Lib.hid (CF.out wr.drew x HB.out.drew)
      have HST := Lib.hid (HNx.out k x hx)
      have hq : q ≤ k := by rw [HQ2.out]; exact HLe.out k
      have HRc := Lib.hid hcell
      have HTO : Hid (wr.ownsRow W.heap.size 36 2 (.slice go q cp) q (cellsP (O k))) := Lib.hid (by have := HT.out; unfold OwnL at this; rw [← HQ2.out] at this; exact this)
      clear hcell hx HT
      generalize findL ha x = y at C2 HST
      go_upto_region 5 with fail
      go_region_held3 (fun V => V.cell? ⟨w.heap.size, 0, none⟩ = some (.slice ho ha.length hc) ∧ V.cell? ⟨w.heap.size, 1, none⟩ = some (.slice ro m rc) ∧ V.cell? ⟨w.heap.size + 1, 0, none⟩ = some (.slice (some A) hb.length bc) ∧ V.cell? (A.add k) = some (.string x)) ((refine ⟨?_, ?_, ?_, ?_⟩ <;> first | assumption | go_keep))
        (first | (go_at_call 30; refine C2.out.mono ?_; rintro e w2 ⟨rfl, b2⟩; have B2 := Lib.hid (below_up HB.out.drew b2); obtain ⟨⟨a0, a1⟩, b0, b1⟩ := box.out w2 B2.out; have ca := (B2.out.cell (p := A.add k) (by rw [add_block]; exact hA)).trans ((HRc.out) k x HX.out); have HO2 := Lib.hid (ownsRow_below HTO.out.drew b2); clear b2))
      by_cases hy : 0 ≤ y
      · have dy : decide (0 ≤ y) = true := decide_eq_true hy
        have HS2 : Hid (O (k + 1) = O k ++ [(y, (k : Int))]) := Lib.hid (by rw [HST.out, if_pos hy])
        have HT1 := Lib.hid (HO2.out.alloc (.cells #[Value.int .i64 y, Value.int .i64 k] 36))
        have hws := B2.out.size
        have hbs : W.heap.size ≤ (w2.alloc (.cells #[Value.int .i64 y, Value.int .i64 k] 36)).heap.size := by simp; omega
        clear HST
        go_wp2_with (at_builtin; refine wpList_append_own _ rfl _ _ 28 rfl W.heap.size 36 i0 (.agg #[.int .i64 0, .int .i64 0]) 2 16 Tryz.underlying28 HI.out hz0 hz1 hz2 rfl (by decide) _ _ _ rfl HT1.out ⟨w2.heap.size, 0, none⟩ 1 1 [Value.int .i64 y, Value.int .i64 k] rfl rfl (lit_cellP w2 _ _ _) (fun u hu => by simp at hu; rcases hu with rfl | rfl <;> rfl) (by unfold maxLen; omega) (by omega) hbs ?_)
        intro v' w3 hown' hgrow _
        obtain ⟨g, gc, rfl⟩ := ownsRow_succ hown'
        have HB3 := Lib.hid ((B2.out.alloc B2.out.size (.cells #[Value.int .i64 y, Value.int .i64 k] 36)).grown hgrow hbs (fun j h => (HO2.out.lt j h).1))
        have HQ3 : Hid (q + 1 = (O (k + 1)).length) := Lib.hid (by rw [HS2.out, List.length_append, ← HQ2.out]; rfl)
        have HT3 : Hid (OwnL w3 W.heap.size (.slice (some ⟨g, 0, none⟩) (q + 1) gc) (O (k + 1))) := Lib.hid (by unfold OwnL; rw [← HQ3.out, HS2.out, cellsP_app]; exact hown')
        have HG3 : Hid (O (k + 1) = [] → (some (⟨g, 0, none⟩ : Addr)) = none) := Lib.hid (fun h => by rw [HS2.out] at h; simp at h)
        clear hown' hgrow hbs
        go_wp2_with fail
        go_roundw
        case rel => exact ⟨k + 1, q + 1, gc, _, by omega, by go_num, rfl, HQ3, HB3, HT3, HG3⟩
        case measure => simp [intOf]; omega
      · have dy : decide (0 ≤ y) = false := decide_eq_false hy
        have HS2 : Hid (O (k + 1) = O k) := Lib.hid (by rw [HST.out, if_neg hy])
        have HT2 : Hid (OwnL w2 W.heap.size (.slice go q cp) (O (k + 1))) := Lib.hid (by unfold OwnL; rw [HS2.out, ← HQ2.out]; exact HO2.out)
        have HQ3 : Hid (q = (O (k + 1)).length) := Lib.hid (by rw [HS2.out]; exact HQ2.out)
        have HG3 : Hid (O (k + 1) = [] → go = none) := Lib.hid (fun h => HG.out (by rw [← HS2.out]; exact h))
        clear HST
        go_wp2_with fail
        go_roundw
        case rel => exact ⟨k + 1, q, cp, go, by omega, by go_num, rfl, HQ3, B2, HT2, HG3⟩
        case measure => simp [intOf]; omega
    · obtain rfl : k = hb.length := by omega
      have HE : Hid (PairsOutN (O hb.length) w (.returned (.slice go q cp)) wr) := Lib.hid (by
        obtain ⟨ao, cap, h1, h2, h3, h4, h5⟩ := OwnL.end_ HT.out HB.out
        refine ⟨ao, cap, h1, h2, h3, h4, fun h => ?_, below_up HB0.out h5⟩
        have hg := HG.out h
        injection h1 with h1; injection h1 with h1; rw [← h1]; exact hg)
      clear HT HG
      go_wp2_with fail
      go_ret
      exact HE.out
end Go.Proofs.YtigijgcldgbokaaGreat
