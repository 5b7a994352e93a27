/-
  Whether it may be a table: what the program answers.
  Conditions: tables of at most 2^40 names and rows of at most 2^40 cells; all texts have together at most 2^60 bytes.
-/
import Derived.WalkKit
import Derived.WalkMore
import Derived.Lib.Hide
import Derived.Deep.QuietTactic
import Derived.BigQuiet
import Derived.Deep.RegionWith
import Derived.Lib.QuietBelow
import Derived.Test.YtmomjhnbhckhpaaDoorProg
import Derived.Test.YtmomjhnbhckhpaaDoorTSum
import Derived.Test.YtmomjhnbhckhpaaDoorTTwice
namespace Go.Proofs.YtmomjhnbhckhpaaDoor
open Go.RowKit Go.Shelf

theorem tabs {W : World} {B : Nat} {ho : Option Addr} {m hc : Nat} {ro : Option Addr} {k rc : Nat} (h : W.heap[B]? = some (TabO ho m hc ro k rc)) : W.cell? ⟨B, 0, none⟩ = some (.slice ho m hc) ∧ W.cell? ⟨B, 1, none⟩ = some (.slice ro k rc) :=
  ⟨(Lib.cell_of_heap h 0).trans rfl, (Lib.cell_of_heap h 1).trans rfl⟩
def wideB (n : Nat) (r : List ByteArray) : Bool := decide (r.length ≠ n)
def raggedB (hd : List ByteArray) (rs : List (List ByteArray)) : Bool := rs.any (wideB hd.length)

def tellI (e : Int) (b : Bool) : Int := if b then e else 0
def largeB (hd : List ByteArray) (rs : List (List ByteArray)) : Bool := decide (40 < hd.length) || decide (400 < rs.length) || longT (allT hd rs) || decide (40000 < sumT (allT hd rs))
def faultI (hd : List ByteArray) (rs : List (List ByteArray)) : Nat → Int | 0 => tellI 8 (decide (hd.length = 0)) | 1 => tellI 9 (raggedB hd rs) | 2 => tellI 10 (dupL hd) | _ => tellI 7 (largeB hd rs)
/-- what is wrong with a table; 0: nothing -/
def checkI (hd : List ByteArray) (rs : List (List ByteArray)) : Int := if hd.length = 0 then 8 else if raggedB hd rs then 9 else if dupL hd then 10 else if largeB hd rs then 7 else 0

theorem tell_no {e : Int} {b : Bool} (he : e ≠ 0) (h : tellI e b = 0) : b = false := by cases b <;> simp_all [tellI]
theorem tell_yes {e : Int} {b : Bool} (h : tellI e b ≠ 0) : b = true ∧ tellI e b = e := by cases b <;> simp_all [tellI]
theorem check_none (hd : List ByteArray) (rs : List (List ByteArray)) (h : ∀ j, j < 4 → faultI hd rs j = 0) : checkI hd rs = 0 := by
  have h0 := tell_no (by decide) (h 0 (by decide)); have h1 := tell_no (by decide) (h 1 (by decide)); have h2 := tell_no (by decide) (h 2 (by decide)); have h3 := tell_no (by decide) (h 3 (by decide))
  have h0' : ¬ hd.length = 0 := of_decide_eq_false h0
  unfold checkI; rw [if_neg h0', h1, h2, h3]; rfl
theorem check_one (hd : List ByteArray) (rs : List (List ByteArray)) (i : Nat) (hi : i < 4) (h : ∀ j, j < i → faultI hd rs j = 0) (hne : faultI hd rs i ≠ 0) : checkI hd rs = faultI hd rs i := by
  have k0 : 0 < i → ¬ hd.length = 0 := fun hh => of_decide_eq_false (tell_no (by decide) (h 0 hh))
  have k1 : 1 < i → raggedB hd rs = false := fun hh => tell_no (by decide) (h 1 hh)
  have k2 : 2 < i → dupL hd = false := fun hh => tell_no (by decide) (h 2 hh)
  match i, hi with
  | 0, _ => have := tell_yes hne; show _ = tellI _ _; rw [this.2]; unfold checkI; rw [if_pos (of_decide_eq_true this.1)]
  | 1, _ => have := tell_yes hne; show _ = tellI _ _; rw [this.2]; unfold checkI; rw [if_neg (k0 (by decide)), this.1]; rfl
  | 2, _ => have := tell_yes hne; show _ = tellI _ _; rw [this.2]; unfold checkI; rw [if_neg (k0 (by decide)), k1 (by decide), this.1]; rfl
  | 3, _ => have := tell_yes hne; show _ = tellI _ _; rw [this.2]; unfold checkI; rw [if_neg (k0 (by decide)), k1 (by decide), k2 (by decide), this.1]; rfl

section
variable (ho : Option Addr) (hc : Nat) (hd : List ByteArray) (ro : Option Addr) (rc : Nat) (rs : List (List ByteArray)) (w : World)
  (hn : hd.length ≤ 1099511627776) (hn2 : rs.length ≤ 1099511627776) (hn3 : ∀ r ∈ rs, r.length ≤ 1099511627776) (hH : StrRow w ho hd) (hR : RowsAt w ro rs)
include hn hn2 hn3 hH hR

end
end Go.Proofs.YtmomjhnbhckhpaaDoor
