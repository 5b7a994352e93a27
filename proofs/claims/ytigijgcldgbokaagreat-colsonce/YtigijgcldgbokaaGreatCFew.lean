/-
  A table that is few is small; the example's frame of a statement of layer 13.
  Conditions: none.
-/
import Derived.WalkKit
import Derived.WalkMore
import Derived.Lib.Hide
import Derived.Test.YtigijgcldgbokaaGreatProg
import Derived.Test.YtigijgcldgbokaaGreatCWorks
import Derived.Test.YtigijgcldgbokaaGreatPkA
namespace Go.Proofs.YtigijgcldgbokaaGreat
open Go.RowKit Go.Shelf
set_option linter.unusedVariables false

theorem tabIn_of {w V : World} {ho : Option Addr} {hc : Nat} {hd : List ByteArray} {ro : Option Addr} {rc : Nat} {rs : List (List ByteArray)} (hA : StrArg w ho hc hd) (hB : RowsArg w ro rc rs) (hf : fewT hd rs) (hk : Below w.heap.size w V) : TabIn V ho hc hd ro rc rs :=
  ⟨hf.2.1, by have := hf.1.1; omega, hf.1.2.1, by have := hf.2.2; omega, hA.row.kept hk, hB.rows.kept hk, hA.cap, hB.cap, hA.nil, hB.nil⟩
theorem few_in {w V : World} {ho : Option Addr} {hc : Nat} {hd : List ByteArray} {ro : Option Addr} {rc : Nat} {rs : List (List ByteArray)} (hA : StrArg w ho hc hd) (hB : RowsArg w ro rc rs) (hk : Below w.heap.size w V) :
    Calls Tryz.prog 9 #[.agg #[.slice ho hd.length hc, .slice ro rs.length rc]] V fun e w' => ∃ b, e = .returned (.bool b) ∧ (b = true → fewT hd rs) ∧ Below V.heap.size V w' :=
  rfew_any ho hc hd ro rc rs V hA.len hB.len hB.each hA.size (hA.row.kept hk) (hB.rows.kept hk)
theorem tcheck_in {V : World} {ho : Option Addr} {hc : Nat} {hd : List ByteArray} {ro : Option Addr} {rc : Nat} {rs : List (List ByteArray)} (h : TabIn V ho hc hd ro rc rs) :
    Calls Tryz.prog 17 #[.agg #[.slice ho hd.length hc, .slice ro rs.length rc]] V fun e w' => e = .returned (.int .i64 (checkI hd rs)) ∧ Below V.heap.size V w' :=
  check_any ho hc hd ro rc rs V (by have := h.hl; omega) (by have := h.rl; omega) (fun r hr => by have := h.el r hr; omega) h.row h.rows (fun c hc => by
    have := h.size c (List.mem_append_left _ hc); unfold maxLen; omega) (by have := h.sum; omega)
theorem same_pairs (l : PL) : sameL l l = true := by simp [sameL]
/-- two tables, boxed -/
structure BoxedC (w W : World) (ho : Option Addr) (hn hc : Nat) (ro : Option Addr) (rn rc : Nat) (bo : Option Addr) (bn bc : Nat) (so : Option Addr) (sn sc : Nat) : Prop where
  start : Below w.heap.size w W
  cell : ∀ V, Below W.heap.size W V → (V.cell? ⟨w.heap.size, 0, none⟩ = some (.slice ho hn hc) ∧ V.cell? ⟨w.heap.size, 1, none⟩ = some (.slice ro rn rc)) ∧ V.cell? ⟨w.heap.size + 1, 0, none⟩ = some (.slice bo bn bc) ∧ V.cell? ⟨w.heap.size + 1, 1, none⟩ = some (.slice so sn sc)
theorem boxedC (w : World) (ho : Option Addr) (hn hc : Nat) (ro : Option Addr) (rn rc : Nat) (bo : Option Addr) (bn bc : Nat) (so : Option Addr) (sn sc : Nat) : BoxedC w ((w.alloc (TabO ho hn hc ro rn rc)).alloc (TabO bo bn bc so sn sc)) ho hn hc ro rn rc bo bn bc so sn sc := by
  have hN := two_new w (TabO ho hn hc ro rn rc) (TabO bo bn bc so sn sc)
  exact ⟨two_below _ _ _, fun V hV => ⟨tabs ((hV.block _ (lt_of_heap hN.2.1)).trans hN.2.1), tabs ((hV.block _ (lt_of_heap hN.2.2)).trans hN.2.2)⟩⟩
/-- one table, boxed -/
structure BoxC (w W : World) (ho : Option Addr) (hn hc : Nat) (ro : Option Addr) (rn rc : Nat) : Prop where
  start : Below w.heap.size w W
  cell : ∀ V, Below W.heap.size W V → V.cell? ⟨w.heap.size, 0, none⟩ = some (.slice ho hn hc) ∧ V.cell? ⟨w.heap.size, 1, none⟩ = some (.slice ro rn rc)
theorem boxC (w : World) (ho : Option Addr) (hn hc : Nat) (ro : Option Addr) (rn rc : Nat) : BoxC w (w.alloc (TabO ho hn hc ro rn rc)) ho hn hc ro rn rc := by
  have hN := World.alloc_heap_new w (TabO ho hn hc ro rn rc)
  exact ⟨one_below _ _, fun V hV => tabs ((hV.block _ (lt_of_heap hN)).trans hN)⟩
theorem alignE_self (hd : List ByteArray) (rs : List (List ByteArray)) : alignE hd rs hd rs = checkI hd rs := by
  unfold alignE; split <;> rfl
theorem check_dup {hd : List ByteArray} {rs : List (List ByteArray)} (h : checkI hd rs = 0) : dupL hd = false := by
  cases e : dupL hd with
  | false => rfl
  | true =>
    exfalso
    unfold checkI at h
    rw [e] at h
    split at h
    · cases h
    · split at h
      · cases h
      · simp at h
theorem alignR_self (hd : List ByteArray) (rs : List (List ByteArray)) (rename : Bool) (h : checkI hd rs = 0) : alignR hd rs hd rs rename = diagL hd.length := by
  rw [(align_good hd rs hd rs rename h h).2]
  exact same_align rs rs hd (nodup_of_dup hd (check_dup h)) rename
end Go.Proofs.YtigijgcldgbokaaGreat
