/-
  Where a name is found, a cell, a column, and whether two tables are alike: what the program answers.
  Conditions: tables of at most 2^40 names and rows of at most 2^40 cells; texts of at most 2^48 bytes.
-/
import Derived.WalkKit
import Derived.WalkMore
import Derived.Lib.Hide
import Derived.Test.YtmomjhnbhckhpaaDoorProg
import Derived.Test.YtmomjhnbhckhpaaDoorTCheck
import Derived.Test.YtmomjhnbhckhpaaDoorTSame
import Derived.Test.YtmomjhnbhckhpaaDoorTPut
namespace Go.Proofs.YtmomjhnbhckhpaaDoor
open Go.RowKit Go.Shelf
set_option linter.unusedVariables false

theorem one_below (w : World) (o : Obj) : Below w.heap.size w (w.alloc o) := (Below.refl _ w).alloc (Nat.le_refl _) _

/-- the cell of a row at a place; the empty text, if there is none -/
def cellL (rs : List (List ByteArray)) (r c : Int) : ByteArray := if 0 ≤ r ∧ 0 ≤ c then (rs[r.toNat]?.bind fun x => x[c.toNat]?).getD ⟨#[]⟩ else ⟨#[]⟩
theorem cellL_row (rs : List (List ByteArray)) (r c : Int) (h : (decide (0 ≤ r) && decide (r < (rs.length : Int))) = false) : cellL rs r c = ⟨#[]⟩ := by
  unfold cellL
  split
  · rename_i hh
    rw [List.getElem?_eq_none (by simp at h; have := h hh.1; omega)]; rfl
  · rfl
theorem cellL_col (rs : List (List ByteArray)) (k : Nat) (x : List ByteArray) (c : Int) (hx : rs[k]? = some x) (h : (decide (0 ≤ c) && decide (c < (x.length : Int))) = false) : cellL rs k c = ⟨#[]⟩ := by
  unfold cellL
  split
  · rename_i hh
    rw [Int.toNat_natCast, hx]
    show (x[c.toNat]?).getD _ = _
    rw [List.getElem?_eq_none (by simp at h; have := h hh.2; omega)]; rfl
  · rfl
theorem cellL_at (rs : List (List ByteArray)) (k j : Nat) (x : List ByteArray) (y : ByteArray) (hx : rs[k]? = some x) (hy : x[j]? = some y) : cellL rs k j = y := by
  unfold cellL
  rw [if_pos ⟨by omega, by omega⟩, Int.toNat_natCast, hx, Int.toNat_natCast]
  show (x[j]?).getD _ = _
  rw [hy]; rfl

set_option maxRecDepth 100000 in
set_option maxHeartbeats 4000000 in
theorem tcell_any (ho : Option Addr) (m hc : Nat) (ro : Option Addr) (rc : Nat) (rs : List (List ByteArray)) (r c : Int) (w : World) (hn2 : rs.length ≤ 1099511627776) (hx : ∀ r ∈ rs, r.length ≤ 1099511627776 ∧ ∀ c ∈ r, c.size ≤ 281474976710656) (hR : RowsAt w ro rs) :
    Calls Tryd.prog 30 #[.agg #[.slice ho m hc, .slice ro rs.length rc], .int .i64 r, .int .i64 c] w fun e w' => e = .returned (.string (cellL rs r c)) ∧ Below w.heap.size w w' := by
  have HB := Lib.hid (one_below w (TabO ho m hc ro rs.length rc))
  have W1 := Lib.hid (fun W => within_any r (rs.length : Int) W)
  have HR := Lib.hid hR
  have HX := Lib.hid hx
  clear hR hx
  cases h1 : (decide (0 ≤ r) && decide (r < (rs.length : Int))) with
  | false =>
    rw [h1] at W1
    have E := Lib.hid (cellL_row rs r c h1)
    clear h1
    go_enter Tryd.func30, Tryd.ntmps30
    go_wp2_with fail
    refine (W1.out _).mono ?_; rintro e w' ⟨rfl, rfl⟩
    go_wp2_with fail
    go_ret
    exact ⟨by rw [E.out]; rfl, HB.out⟩
  | true =>
    rw [h1] at W1
    simp only [Bool.and_eq_true, decide_eq_true_eq] at h1
    obtain ⟨k, rfl⟩ := Int.eq_ofNat_of_zero_le h1.1
    have hlt : k < rs.length := by omega
    clear h1
    obtain ⟨x, hx⟩ : ∃ x, rs[k]? = some x := ⟨_, List.getElem?_eq_getElem hlt⟩
    have HXk := Lib.hid hx
    rcases (HR.out.kept HB.out) with h0 | ⟨A, rfl, hA, hcell⟩
    · rw [h0] at hlt; simp at hlt
    obtain ⟨ro1, rc1, hc1, hs1⟩ := hcell k x hx
    have HS1 := Lib.hid hs1
    have hxl := (HX.out x (List.mem_of_getElem? hx)).1
    have HXc := Lib.hid (HX.out x (List.mem_of_getElem? hx)).2
    have W2 := Lib.hid (fun W => within_any c (x.length : Int) W)
    clear hcell hx hs1
    cases h2 : (decide (0 ≤ c) && decide (c < (x.length : Int))) with
    | false =>
      rw [h2] at W2
      have E := Lib.hid (cellL_col rs k x c HXk.out h2)
      clear h2
      go_enter Tryd.func30, Tryd.ntmps30
      go_wp2_with fail
      refine (W1.out _).mono ?_; rintro e w' ⟨rfl, rfl⟩
      go_wp2_with fail
      refine (W2.out _).mono ?_; rintro e w' ⟨rfl, rfl⟩
      go_wp2_with fail
      go_ret
      exact ⟨by rw [E.out]; rfl, HB.out⟩
    | true =>
      rw [h2] at W2
      simp only [Bool.and_eq_true, decide_eq_true_eq] at h2
      obtain ⟨j, rfl⟩ := Int.eq_ofNat_of_zero_le h2.1
      have hjl : j < x.length := by omega
      clear h2
      obtain ⟨y, hy⟩ : ∃ y, x[j]? = some y := ⟨_, List.getElem?_eq_getElem hjl⟩
      have E := Lib.hid (cellL_at rs k j x y HXk.out hy)
      have CC := Lib.hid (fun W => clone_any y W (HXc.out y (List.mem_of_getElem? hy)))
      rcases HS1.out with h0 | ⟨A1, rfl, hA1, hcell⟩
      · rw [h0] at hjl; simp at hjl
      have hcy := hcell j y hy
      clear hcell hy
      go_enter Tryd.func30, Tryd.ntmps30
      go_wp2_with fail
      refine (W1.out _).mono ?_; rintro e w' ⟨rfl, rfl⟩
      go_wp2_with fail
      refine (W2.out _).mono ?_; rintro e w' ⟨rfl, rfl⟩
      go_wp2_with fail
      refine (CC.out _).mono ?_; rintro e w' ⟨rfl, b1⟩
      have B1 := Lib.hid (below_up HB.out b1)
      clear b1 hc1 hcy
      go_wp2_with fail
      go_ret
      exact ⟨by rw [E.out]; rfl, B1.out⟩

def colL (rs : List (List ByteArray)) (c : Int) : List ByteArray := (List.range rs.length).map fun (i : Nat) => cellL rs (i : Int) c
theorem colL_len (rs : List (List ByteArray)) (c : Int) : (colL rs c).length = rs.length := by simp [colL]
theorem colL_at (rs : List (List ByteArray)) (c : Int) (k : Nat) (h : k < rs.length) : (colL rs c)[k]? = some (cellL rs k c) := by simp [colL, h]
def columnT (hd : List ByteArray) (rs : List (List ByteArray)) (c : Int) : List ByteArray := if 0 ≤ c ∧ c < hd.length then colL rs c else []

end Go.Proofs.YtmomjhnbhckhpaaDoor
