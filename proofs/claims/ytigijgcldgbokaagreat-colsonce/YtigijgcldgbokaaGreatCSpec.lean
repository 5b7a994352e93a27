/-
  What the code of layer 13 answers, told once, and the tables that the statements give it.
  Conditions: none.
-/
import Derived.WalkKit
import Derived.WalkMore
import Derived.Lib.Hide
import Derived.Test.YtigijgcldgbokaaGreatProg
import Derived.Test.YtigijgcldgbokaaGreatCRef3
namespace Go.Proofs.YtigijgcldgbokaaGreat
open Go.RowKit Go.Shelf
set_option linter.unusedVariables false

/-- a table that is small, as it lies -/
structure TabIn (w : World) (ho : Option Addr) (hc : Nat) (hd : List ByteArray) (ro : Option Addr) (rc : Nat) (rs : List (List ByteArray)) : Prop where
  hl : hd.length ≤ 60
  rl : rs.length ≤ 400
  el : ∀ r ∈ rs, r.length ≤ 60
  sum : sumT (allT hd rs) ≤ 100000
  row : StrRow w ho hd
  rows : RowsAt w ro rs
  hcap : hd.length ≤ hc
  rcap : rs.length ≤ rc
  hnil : ho = none → hc = 0
  rnil : ro = none → rc = 0
theorem TabIn.kept {w w' : World} {ho : Option Addr} {hc : Nat} {hd : List ByteArray} {ro : Option Addr} {rc : Nat} {rs : List (List ByteArray)} (h : TabIn w ho hc hd ro rc rs) (hB : Below w.heap.size w w') : TabIn w' ho hc hd ro rc rs :=
  ⟨h.hl, h.rl, h.el, h.sum, h.row.kept hB, h.rows.kept hB, h.hcap, h.rcap, h.hnil, h.rnil⟩
theorem TabIn.size {w : World} {ho : Option Addr} {hc : Nat} {hd : List ByteArray} {ro : Option Addr} {rc : Nat} {rs : List (List ByteArray)} (h : TabIn w ho hc hd ro rc rs) : ∀ c ∈ allT hd rs, c.size ≤ 100000 := fun c hc => by
  obtain ⟨a, b, e⟩ := List.append_of_mem hc
  have := h.sum
  rw [e] at this; simp [sumT] at this; omega
theorem TabIn.two {w : World} {ho : Option Addr} {hc : Nat} {hd : List ByteArray} {ro : Option Addr} {rc : Nat} {rs : List (List ByteArray)} (h : TabIn w ho hc hd ro rc rs) {o : Obj} : TabIn (w.alloc o) ho hc hd ro rc rs := h.kept (one_below _ _)
/-- the answers of cols.Named and cols.Align -/
def NamedOK : Prop := ∀ (ho : Option Addr) (hc : Nat) (ha : List ByteArray) (ro : Option Addr) (rc : Nat) (ra : List (List ByteArray)) (bo : Option Addr) (bc : Nat) (hb : List ByteArray) (so : Option Addr) (sc : Nat) (rb : List (List ByteArray)) (w : World),
  TabIn w ho hc ha ro rc ra → TabIn w bo bc hb so sc rb →
    Calls Tryz.prog 13 #[.agg #[.slice ho ha.length hc, .slice ro ra.length rc], .agg #[.slice bo hb.length bc, .slice so rb.length sc]] w (PairsOut (namedL ha hb) w)
def AlignOK : Prop := ∀ (ho : Option Addr) (hc : Nat) (ha : List ByteArray) (ro : Option Addr) (rc : Nat) (ra : List (List ByteArray)) (bo : Option Addr) (bc : Nat) (hb : List ByteArray) (so : Option Addr) (sc : Nat) (rb : List (List ByteArray)) (rename : Bool) (w : World),
  TabIn w ho hc ha ro rc ra → TabIn w bo bc hb so sc rb →
    Calls Tryz.prog 10 #[.agg #[.slice ho ha.length hc, .slice ro ra.length rc], .agg #[.slice bo hb.length bc, .slice so rb.length sc], .bool rename] w (AlignOut (alignE ha ra hb rb) (alignR ha ra hb rb rename) w)
/-- the document's answers, of such tables -/
theorem ralign_in (ho : Option Addr) (hc : Nat) (ha : List ByteArray) (ro : Option Addr) (rc : Nat) (ra : List (List ByteArray)) (bo : Option Addr) (bc : Nat) (hb : List ByteArray) (so : Option Addr) (sc : Nat) (rb : List (List ByteArray)) (rename : Bool) (w : World)
    (hA : TabIn w ho hc ha ro rc ra) (hB : TabIn w bo bc hb so sc rb) :
    Calls Tryz.prog 11 #[.agg #[.slice ho ha.length hc, .slice ro ra.length rc], .agg #[.slice bo hb.length bc, .slice so rb.length sc], .bool rename] w (AlignOut (alignE ha ra hb rb) (alignR ha ra hb rb rename) w) :=
  ralign_any ho hc ha ro rc ra bo bc hb so sc rb rename w (by have := hA.hl; omega) (by have := hB.hl; omega) (by have := hA.rl; omega) (by have := hB.rl; omega) (fun r hr => by have := hA.el r hr; omega) (fun r hr => by have := hB.el r hr; omega) (by have := hA.sum; omega) (by have := hB.sum; omega) hA.row hB.row hA.rows hB.rows
theorem rnamed_in (ho : Option Addr) (hc : Nat) (ha : List ByteArray) (ro : Option Addr) (rc : Nat) (ra : List (List ByteArray)) (bo : Option Addr) (bc : Nat) (hb : List ByteArray) (so : Option Addr) (sc : Nat) (rb : List (List ByteArray)) (w : World)
    (hA : TabIn w ho hc ha ro rc ra) (hB : TabIn w bo bc hb so sc rb) :
    Calls Tryz.prog 14 #[.agg #[.slice ho ha.length hc, .slice ro ra.length rc], .agg #[.slice bo hb.length bc, .slice so rb.length sc]] w (PairsOutN (namedL ha hb) w) :=
  rnamed_any ho hc ha ro ra.length rc bo bc hb so rb.length sc w (by have := hA.hl; omega) (by have := hB.hl; omega) hA.row hB.row
theorem alignR_le (ha : List ByteArray) (ra : List (List ByteArray)) (hb : List ByteArray) (rb : List (List ByteArray)) (rename : Bool) (h1 : ha.length ≤ 60) (h2 : hb.length ≤ 60) : (alignR ha ra hb rb rename).length ≤ 1048700 := by
  unfold alignR
  split
  · rw [align_len]
    have h3 := named_le ha hb hb.length
    have h4 := pick_len (choicesA ra rb ha hb)
    have h5 := choicesA_le ra rb ha hb (by omega) (by omega)
    unfold namedL
    split <;> omega
  · simp
end Go.Proofs.YtigijgcldgbokaaGreat
