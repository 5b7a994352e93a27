/-
  Whether two lists are alike but for their order: the program's answer.
  Conditions: lists of at most 2^20 Go strings.
-/
import Derived.Test.YtcdpadchbphggaaProg
import Derived.Test.YtcdpadchbphggaaBOver
namespace Go.Proofs.Ytcdpadchbphggaa
open Go.RowKit Go.Shelf Go.Maps
set_option linter.unusedVariables false

/-- alike but for their order -/
def sameB (ts us : List Txt) : Bool := decide (ts.length = us.length) && decide (overL ts us = ts.length)

set_option maxRecDepth 100000 in
set_option maxHeartbeats 2000000 in
theorem bsame_any (ao bo : Option Addr) (ca cb : Nat) (xs ys : List ByteArray) (w : World) (hn : xs.length ≤ 1048576) (hm : ys.length ≤ 1048576) (hs : ∀ c ∈ xs, c.size ≤ maxLen) (ht : ∀ c ∈ ys, c.size ≤ maxLen) (hR : StrRow w ao xs) (hS : StrRow w bo ys) :
    Calls Try.prog 10 #[.slice ao xs.length ca, .slice bo ys.length cb] w fun e w' => e = .returned (.bool (sameB (bytesOf xs) (bytesOf ys))) ∧ Below w.heap.size w w' := by
  by_cases hl : xs.length = ys.length
  · have C := Lib.hid (over_any ao bo ca cb xs ys w hn hm hs ht hR hS)
    have hb : ((xs.length : Int) == (ys.length : Int)) = true := by rw [beq_iff_eq]; omega
    have HQ : Hid ((((overL (bytesOf xs) (bytesOf ys) : Nat) : Int) == (xs.length : Int)) = (sameB (bytesOf xs) (bytesOf ys))) := Lib.hid (by
      unfold sameB
      rw [bytes_len, bytes_len, decide_eq_true hl, Bool.true_and]
      by_cases h : overL (bytesOf xs) (bytesOf ys) = xs.length
      · rw [h]; simp
      · rw [decide_eq_false h, beq_eq_false_iff_ne]; omega)
    clear hR hS hs ht
    generalize overL (bytesOf xs) (bytesOf ys) = N at C HQ
    generalize sameB (bytesOf xs) (bytesOf ys) = F at HQ ⊢
    have HL := Lib.hid hl
    clear hl
    go_enter Try.func10, Try.ntmps10
    go_wp2_with fail
    refine C.out.mono ?_; rintro e w1 ⟨rfl, b1⟩
    have hq := HQ.out
    have HB := Lib.hid b1
    clear b1 C
    go_wp2_with fail
    go_ret
    exact ⟨rfl, HB.out⟩
  · have hb : ((xs.length : Int) == (ys.length : Int)) = false := by rw [beq_eq_false_iff_ne]; omega
    have HQ : Hid (sameB (bytesOf xs) (bytesOf ys) = false) := Lib.hid (by unfold sameB; rw [bytes_len, bytes_len, decide_eq_false hl, Bool.false_and])
    clear hR hS hs ht
    go_enter Try.func10, Try.ntmps10
    go_wp2_with fail
    go_ret
    exact ⟨by rw [HQ.out]; rfl, Below.refl _ _⟩
end Go.Proofs.Ytcdpadchbphggaa
