/-
  Where a name is found, a cell, a column, and whether two tables are alike: what the program answers.
  Conditions: tables of at most 2^40 names and rows of at most 2^40 cells; texts of at most 2^48 bytes.
-/
import Derived.WalkKit
import Derived.WalkMore
import Derived.Lib.Hide
import Derived.Test.YtigijgcldgbokaaGreatProg
import Derived.Test.YtigijgcldgbokaaGreatTCheck
import Derived.Test.YtigijgcldgbokaaGreatTSame
import Derived.Test.YtigijgcldgbokaaGreatTPut
namespace Go.Proofs.YtigijgcldgbokaaGreat
open Go.RowKit Go.Shelf
set_option linter.unusedVariables false

theorem one_below (w : World) (o : Obj) : Below w.heap.size w (w.alloc o) := (Below.refl _ w).alloc (Nat.le_refl _) _

theorem tfind_any (ho : Option Addr) (hc : Nat) (hd : List ByteArray) (ro : Option Addr) (k rc : Nat) (s : ByteArray) (w : World) (hn : hd.length ≤ 1099511627776) (hH : StrRow w ho hd) :
    Calls Tryz.prog 15 #[.agg #[.slice ho hd.length hc, .slice ro k rc], .string s] w fun e w' => e = .returned (.int .i64 (findL hd s)) ∧ Below w.heap.size w w' := by
  have HB := Lib.hid (one_below w (TabO ho hd.length hc ro k rc))
  have C := Lib.hid (index_any ho hc hd s (w.alloc (TabO ho hd.length hc ro k rc)) hn (hH.kept HB.out))
  clear hH
  go_enter Tryz.func15, Tryz.ntmps15
  go_wp2_with fail
  refine C.out.mono ?_; rintro e w' ⟨rfl, rfl⟩
  go_wp2_with fail
  go_ret
  exact ⟨rfl, HB.out⟩

/-- the cell of a row at a place; the empty text, if there is none -/
def cellL (rs : List (List ByteArray)) (r c : Int) : ByteArray := if 0 ≤ r ∧ 0 ≤ c then (rs[r.toNat]?.bind fun x => x[c.toNat]?).getD ⟨#[]⟩ else ⟨#[]⟩
theorem cellL_row (rs : List (List ByteArray)) (r c : Int) (h : (decide (0 ≤ r) && decide (r < (rs.length : Int))) = false) : cellL rs r c = ⟨#[]⟩ := by
  unfold cellL
  split
  · rename_i hh
    rw [List.getElem?_eq_none (by simp at h; have := h hh.1; omega)]; rfl
  · rfl
theorem cellL_col (rs : List (List ByteArray)) (k : Nat) (x : List ByteArray) (c : Int) (hx : rs[k]? = some x) (h : (decide (0 ≤ c) && decide (c < (x.length : Int))) = false) : cellL rs k c = ⟨#[]⟩ := by
  unfold cellL
  split
  · rename_i hh
    rw [Int.toNat_natCast, hx]
    show (x[c.toNat]?).getD _ = _
    rw [List.getElem?_eq_none (by simp at h; have := h hh.2; omega)]; rfl
  · rfl
theorem cellL_at (rs : List (List ByteArray)) (k j : Nat) (x : List ByteArray) (y : ByteArray) (hx : rs[k]? = some x) (hy : x[j]? = some y) : cellL rs k j = y := by
  unfold cellL
  rw [if_pos ⟨by omega, by omega⟩, Int.toNat_natCast, hx, Int.toNat_natCast]
  show (x[j]?).getD _ = _
  rw [hy]; rfl

set_option maxRecDepth 100000 in
set_option maxHeartbeats 4000000 in
theorem tcell_any (ho : Option Addr) (m hc : Nat) (ro : Option Addr) (rc : Nat) (rs : List (List ByteArray)) (r c : Int) (w : World) (hn2 : rs.length ≤ 1099511627776) (hx : ∀ r ∈ rs, r.length ≤ 1099511627776 ∧ ∀ c ∈ r, c.size ≤ 281474976710656) (hR : RowsAt w ro rs) :
    Calls Tryz.prog 140 #[.agg #[.slice ho m hc, .slice ro rs.length rc], .int .i64 r, .int .i64 c] w fun e w' => e = .returned (.string (cellL rs r c)) ∧ Below w.heap.size w w' := by
  have HB := Lib.hid (one_below w (TabO ho m hc ro rs.length rc))
  have W1 := Lib.hid (fun W => within_any r (rs.length : Int) W)
  have HR := Lib.hid hR
  have HX := Lib.hid hx
  clear hR hx
  cases h1 : (decide (0 ≤ r) && decide (r < (rs.length : Int))) with
  | false =>
    rw [h1] at W1
    have E := Lib.hid (cellL_row rs r c h1)
    clear h1
    go_enter Tryz.func140, Tryz.ntmps140
    go_wp2_with fail
    refine (W1.out _).mono ?_; rintro e w' ⟨rfl, rfl⟩
    go_wp2_with fail
    go_ret
    exact ⟨by rw [E.out]; rfl, HB.out⟩
  | true =>
    rw [h1] at W1
    simp only [Bool.and_eq_true, decide_eq_true_eq] at h1
    obtain ⟨k, rfl⟩ := Int.eq_ofNat_of_zero_le h1.1
    have hlt : k < rs.length := by omega
    clear h1
    obtain ⟨x, hx⟩ : ∃ x, rs[k]? = some x := ⟨_, List.getElem?_eq_getElem hlt⟩
    have HXk := Lib.hid hx
    rcases (HR.out.kept HB.out) with h0 | ⟨A, rfl, hA, hcell⟩
    · rw [h0] at hlt; simp at hlt
    obtain ⟨ro1, rc1, hc1, hs1⟩ := hcell k x hx
    have HS1 := Lib.hid hs1
    have hxl := (HX.out x (List.mem_of_getElem? hx)).1
    have HXc := Lib.hid (HX.out x (List.mem_of_getElem? hx)).2
    have W2 := Lib.hid (fun W => within_any c (x.length : Int) W)
    clear hcell hx hs1
    cases h2 : (decide (0 ≤ c) && decide (c < (x.length : Int))) with
    | false =>
      rw [h2] at W2
      have E := Lib.hid (cellL_col rs k x c HXk.out h2)
      clear h2
      go_enter Tryz.func140, Tryz.ntmps140
      go_wp2_with fail
      refine (W1.out _).mono ?_; rintro e w' ⟨rfl, rfl⟩
      go_wp2_with fail
      refine (W2.out _).mono ?_; rintro e w' ⟨rfl, rfl⟩
      go_wp2_with fail
      go_ret
      exact ⟨by rw [E.out]; rfl, HB.out⟩
    | true =>
      rw [h2] at W2
      simp only [Bool.and_eq_true, decide_eq_true_eq] at h2
      obtain ⟨j, rfl⟩ := Int.eq_ofNat_of_zero_le h2.1
      have hjl : j < x.length := by omega
      clear h2
      obtain ⟨y, hy⟩ : ∃ y, x[j]? = some y := ⟨_, List.getElem?_eq_getElem hjl⟩
      have E := Lib.hid (cellL_at rs k j x y HXk.out hy)
      have CC := Lib.hid (fun W => clone_any y W (HXc.out y (List.mem_of_getElem? hy)))
      rcases HS1.out with h0 | ⟨A1, rfl, hA1, hcell⟩
      · rw [h0] at hjl; simp at hjl
      have hcy := hcell j y hy
      clear hcell hy
      go_enter Tryz.func140, Tryz.ntmps140
      go_wp2_with fail
      refine (W1.out _).mono ?_; rintro e w' ⟨rfl, rfl⟩
      go_wp2_with fail
      refine (W2.out _).mono ?_; rintro e w' ⟨rfl, rfl⟩
      go_wp2_with fail
      refine (CC.out _).mono ?_; rintro e w' ⟨rfl, b1⟩
      have B1 := Lib.hid (below_up HB.out b1)
      clear b1 hc1 hcy
      go_wp2_with fail
      go_ret
      exact ⟨by rw [E.out]; rfl, B1.out⟩

def colL (rs : List (List ByteArray)) (c : Int) : List ByteArray := (List.range rs.length).map fun (i : Nat) => cellL rs (i : Int) c
theorem colL_len (rs : List (List ByteArray)) (c : Int) : (colL rs c).length = rs.length := by simp [colL]
theorem colL_at (rs : List (List ByteArray)) (c : Int) (k : Nat) (h : k < rs.length) : (colL rs c)[k]? = some (cellL rs k c) := by simp [colL, h]
def columnT (hd : List ByteArray) (rs : List (List ByteArray)) (c : Int) : List ByteArray := if 0 ≤ c ∧ c < hd.length then colL rs c else []

set_option maxRecDepth 100000 in
set_option maxHeartbeats 4000000 in
theorem tcolumn_any (ho : Option Addr) (hc : Nat) (hd : List ByteArray) (ro : Option Addr) (rc : Nat) (rs : List (List ByteArray)) (c : Int) (w : World) (hn : hd.length ≤ 1099511627776) (hn2 : rs.length ≤ 1099511627776) (hx : ∀ r ∈ rs, r.length ≤ 1099511627776 ∧ ∀ c ∈ r, c.size ≤ 281474976710656) (hR : RowsAt w ro rs) :
    Calls Tryz.prog 120 #[.agg #[.slice ho hd.length hc, .slice ro rs.length rc], .int .i64 c] w fun e w' => ∃ ao, e = .returned (.slice ao (columnT hd rs c).length (columnT hd rs c).length) ∧ StrRow w' ao (columnT hd rs c) ∧ Below w.heap.size w w' := by
  have HB0 := Lib.hid (one_below w (TabO ho hd.length hc ro rs.length rc))
  have HNew := Lib.hid (World.alloc_heap_new w (TabO ho hd.length hc ro rs.length rc))
  have W1 := Lib.hid (fun W => within_any c (hd.length : Int) W)
  have CC := Lib.hid (fun W (k : Nat) (h : Below w.heap.size w W) => tcell_any ho hd.length hc ro rc rs (k : Int) c W hn2 hx (hR.kept h))
  clear hR hx
  cases h1 : (decide (0 ≤ c) && decide (c < (hd.length : Int))) with
  | false =>
    rw [h1] at W1
    have E := Lib.hid (show columnT hd rs c = [] from by unfold columnT; rw [if_neg]; intro hh; simp at h1; have := h1 hh.1; omega)
    clear h1
    rw [E.out]
    go_enter Tryz.func120, Tryz.ntmps120
    go_wp2_with fail
    refine (W1.out _).mono ?_; rintro e w' ⟨rfl, rfl⟩
    go_wp2_with fail
    go_ret
    exact ⟨none, rfl, .inl rfl, HB0.out⟩
  | true =>
    rw [h1] at W1
    have E := Lib.hid (show columnT hd rs c = colL rs c from by unfold columnT; rw [if_pos]; simpa using h1)
    rw [E.out, colL_len]
    have HA := Lib.hid (colL_at rs c)
    have HL := Lib.hid (colL_len rs c)
    clear h1 E
    generalize colL rs c = xs at HA HL ⊢
    have hinfo : (Tryz.prog.info? 9).map (fun i => (i.zero, i.size, i.bytes)) = some (some (.string ⟨#[]⟩), 1, 16) := by kernel_rfl
    obtain ⟨i0, hi, hz0, hz1, hz2⟩ := info_parts hinfo
    have HI := Lib.hid hi
    have hm : rs.length ≤ maxLen := by unfold maxLen; omega
    clear hi hinfo
    go_enter Tryz.func120, Tryz.ntmps120
    go_wp2_with fail
    refine (W1.out _).mono ?_; rintro e w' ⟨rfl, rfl⟩
    obtain ⟨W, HW⟩ : ∃ W, Hid (W = w.alloc (TabO ho hd.length hc ro rs.length rc)) := ⟨_, Lib.hid rfl⟩
    rw [← HW.out] at HB0 HNew ⊢
    obtain ⟨c0, c1⟩ := tabs HNew.out
    go_wp2_with (at_make; refine wpList_make_full _ rfl _ _ 22 rfl W.heap.size 9 i0 (.string ⟨#[]⟩) 1 Tryz.underlying22 HI.out hz0 hz1 .i64 .i64 (rs.length : Int) (rs.length : Int) rs.length rfl rfl rfl rfl (by rw [hz2]; omega) hm (Nat.le_refl _) ?_; intro w1 ho hg)
    have HB : Hid (Below W.heap.size W w1) := Lib.hid ((Below.refl _ W).grown hg (Nat.le_refl _) (fun k h => by cases h))
    have HO : Hid (w1.ownsRow W.heap.size 9 1 (.slice (some ⟨W.heap.size, 0, none⟩) rs.length rs.length) rs.length (half xs 0)) := Lib.hid (by
      rw [half_zero, HL.out]; rw [Nat.mul_one] at ho; rw [← toList_madeCells_one]; exact ho)
    clear ho hg c0 c1
    go_wp2_with fail
    go_loopw [19] (fun i wr => ∃ k : Nat, k ≤ rs.length ∧ i = .int .i64 k ∧ Hid (Below W.heap.size W wr) ∧ Hid (wr.ownsRow W.heap.size 9 1 (.slice (some ⟨W.heap.size, 0, none⟩) rs.length rs.length) rs.length (half xs k))) (fun i _ => rs.length - (intOf i).toNat)
    case atStart => exact ⟨0, Nat.zero_le _, rfl, HB, HO⟩
    case round =>
      obtain ⟨k, hk, rfl, HB, HO⟩ := hrel
      by_cases hlt : k < rs.length
      · have hw0 := below_up HB0.out HB.out
        have C1 := Lib.hid (CC.out wr k hw0)
        obtain ⟨c0, c1⟩ := tabs ((HB.out.block _ (lt_of_heap HNew.out)).trans HNew.out)
        have HX := Lib.hid (HA.out k hlt)
        clear hw0
        generalize cellL rs k c = x at C1 HX
        go_wp2_with fail
        refine C1.out.mono ?_; rintro e w2 ⟨rfl, b2⟩
        have HB2 := Lib.hid (below_up HB.out b2)
        have HO2 := Lib.hid (ownsRow_below HO.out b2)
        clear b2 c0 c1
        have hhl : (half xs k).length = rs.length := by rw [half_len xs k (by rw [HL.out]; omega), HL.out]
        have hcell : w2.cell? ⟨W.heap.size, k, none⟩ = some ((half xs k)[k]'(by omega)) := by
          rw [HO2.out.cellAt k (by omega), List.getElem?_eq_getElem]
        have hfr : w2.frozen? ⟨W.heap.size, k, none⟩ = false := HO2.out.frozenAt k
        generalize (half xs k)[k]'(by omega) = old at hcell
        have HO3 := Lib.hid (HO2.out.stored k (.string x)).1
        rw [half_next xs k x HX.out] at HO3
        have HB3 := Lib.hid (HB2.out.setCell (p := ⟨W.heap.size, k, none⟩) (Nat.le_refl _) (.string x))
        clear hhl
        go_wp2_with fail
        go_roundw
        case rel => exact ⟨k + 1, by omega, by go_num, HB3, HO3⟩
        case measure => simp [intOf]; omega
      · obtain rfl : k = rs.length := by omega
        have HO4 := HO
        rw [show half xs rs.length = xs.map Value.string from by rw [← HL.out]; exact half_all xs] at HO4
        have HS : Hid (StrRow wr (some ⟨W.heap.size, 0, none⟩) xs) := Lib.hid (own_strs (e := 9) (base := W.heap.size) (cap := rs.length) (by rw [HL.out]; exact HO4.out))
        go_wp2_with fail
        go_ret
        exact ⟨_, rfl, HS.out, below_up HB0.out HB.out⟩
end Go.Proofs.YtigijgcldgbokaaGreat
