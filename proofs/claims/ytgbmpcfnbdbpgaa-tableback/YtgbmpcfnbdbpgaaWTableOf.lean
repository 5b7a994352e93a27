/-
  The walk of the statement TableOf.
  Conditions: none beyond the form of claims.
-/
import Derived.WalkKit
import Derived.WalkMore
import Derived.Lib.Hide
import Derived.Test.YtgbmpcfnbdbpgaaProg
import Derived.Test.YtgbmpcfnbdbpgaaTOpen
import Derived.Test.YtgbmpcfnbdbpgaaTWorks
import Derived.Test.YtgbmpcfnbdbpgaaTRefC
namespace Go.Proofs.Ytgbmpcfnbdbpgaa
open Go.RowKit Go.Shelf
set_option linter.unusedVariables false

theorem few_bounds (rs : List (List ByteArray)) (h : fewP rs) : rs.length ≤ 60 ∧ (∀ r ∈ rs, r.length ≤ 60) ∧ (∀ r ∈ rs, ∀ c ∈ r, c.size ≤ 8000) ∧ sumT rs.flatten ≤ 8000 :=
  ⟨h.1, h.2.1, fun r hr => (few_small rs h r hr).2, Nat.le_trans (sum_rows rs) h.2.2⟩
/-- Of, whatever small records there are -/
theorem of_small (ao : Option Addr) (cap : Nat) (rs : List (List ByteArray)) (w : World) (hf : fewP rs) (hc : rs.length ≤ cap) (hR : RowsAt w ao rs) :
    Calls Try.prog 27 #[.slice ao rs.length cap] w (OfPost rs w) := by
  obtain ⟨b1, b2, b3, b4⟩ := few_bounds rs hf
  cases rs with
  | nil => exact of_nil ao cap w
  | cons x t =>
    obtain ⟨A, rfl⟩ : ∃ A, ao = some A := by rcases hR with h | ⟨A, h, _⟩; cases h; exact ⟨A, h⟩
    have hx := b2 x List.mem_cons_self
    have hs : ∀ c ∈ x, c.size ≤ 281474976710656 := fun c hc => by have := b3 x List.mem_cons_self c hc; omega
    have hsum : sumT (allT x t) ≤ 1152921504606846976 := by rw [show allT x t = (x :: t).flatten from rfl]; omega
    simp only [List.length_cons] at b1 hc
    by_cases h1 : cap = 1
    · subst h1
      obtain rfl : t = [] := List.eq_nil_of_length_eq_zero (by omega)
      exact of_one A x w (by omega) hs hsum hR
    · exact of_more A cap x t w hc h1 (by omega) hs (by omega) (fun r hr => ⟨by have := b2 r (List.mem_cons_of_mem _ hr); omega, fun c hc => by have := b3 r (List.mem_cons_of_mem _ hr) c hc; omega⟩) hsum hR
theorem rof_small (ao : Option Addr) (cap : Nat) (rs : List (List ByteArray)) (w : World) (hf : fewP rs) (hc : rs.length ≤ cap) (hR : RowsAt w ao rs) :
    Calls Try.prog 28 #[.slice ao rs.length cap] w (OfPost rs w) := by
  obtain ⟨b1, b2, b3, b4⟩ := few_bounds rs hf
  cases rs with
  | nil => exact rof_nil ao cap w
  | cons x t =>
    obtain ⟨A, rfl⟩ : ∃ A, ao = some A := by rcases hR with h | ⟨A, h, _⟩; cases h; exact ⟨A, h⟩
    have hx := b2 x List.mem_cons_self
    have hsum : sumT (allT x t) ≤ 1152921504606846976 := by rw [show allT x t = (x :: t).flatten from rfl]; omega
    simp only [List.length_cons] at b1 hc
    by_cases h1 : cap = 1
    · subst h1
      obtain rfl : t = [] := List.eq_nil_of_length_eq_zero (by omega)
      exact rof_one A x w (by omega) hsum hR
    · exact rof_more A cap x t w hc h1 (by omega) (by omega) (fun r hr => by have := b2 r (List.mem_cons_of_mem _ hr); omega) hsum hR
theorem ofHead_le (rs : List (List ByteArray)) (hf : fewP rs) : (ofHead rs).length ≤ 60 ∧ (ofRows rs).length ≤ 60 ∧ ∀ r ∈ ofRows rs, r.length ≤ 60 := by
  obtain ⟨b1, b2, b3, b4⟩ := few_bounds rs hf
  cases rs with
  | nil => exact ⟨by simp [ofHead], by simp [ofRows], fun r hr => by cases hr⟩
  | cons x t =>
    simp only [ofHead, ofRows]
    split
    · exact ⟨b2 x List.mem_cons_self, by simp at b1; omega, fun r hr => b2 r (List.mem_cons_of_mem _ hr)⟩
    · exact ⟨by simp, by simp, fun r hr => by cases hr⟩

set_option maxRecDepth 100000 in
set_option maxHeartbeats 4000000 in
theorem walkTableOf (ao : Option Addr) (cap : Nat) (rs : List (List ByteArray)) (w : World) (hA : RowsArg w ao cap rs) :
    Calls Try.prog 5 #[.slice ao rs.length cap] w fun e w' => e = .returned (.bool true) ∧ Below w.heap.size w w' := by
  have hn := hA.len
  have HA := Lib.hid hA
  unfold maxLen at hn
  clear hA
  go_enter Try.func5, Try.ntmps5
  go_wp2_with fail
  refine (tworks_any _).mono ?_; rintro e w1 ⟨rfl, b1⟩
  have B1 := Lib.hid b1
  have C1 := Lib.hid (fewReach_any ao cap rs w1 HA.out.len HA.out.each (HA.out.rows.kept b1))
  clear b1
  go_wp2_with fail
  refine C1.out.mono ?_; rintro e w2 ⟨b, rfl, hb, rfl⟩
  cases b with
  | false =>
    go_wp2_with fail
    go_ret
    exact ⟨rfl, B1.out⟩
  | true =>
    have HF := Lib.hid (hb rfl)
    clear hb C1
    have C1 := Lib.hid (of_small ao cap rs w1 HF.out HA.out.cap (HA.out.rows.kept B1.out))
    have C2 := Lib.hid (fun W (h : Below w.heap.size w W) => rof_small ao cap rs W HF.out HA.out.cap (HA.out.rows.kept h))
    have HL := Lib.hid (ofHead_le rs HF.out)
    unfold OfPost at C1 C2
    generalize ofHead rs = oh at C1 C2 HL
    generalize ofRows rs = orr at C1 C2 HL
    generalize ofErr rs = er at C1 C2
    go_wp2_with fail
    refine C1.out.mono ?_; rintro e w3 ⟨ho, hc, ro, rc, rfl, h1, h2, b3⟩
    have X1 := Lib.hid (And.intro (h1.kept (one_below w3 (TabO ho oh.length hc ro orr.length rc))) (h2.kept (one_below w3 (TabO ho oh.length hc ro orr.length rc))))
    have T1 := Lib.hid (World.alloc_heap_new w3 (TabO ho oh.length hc ro orr.length rc))
    have B3 := Lib.hid (below_up (below_up B1.out b3) (one_below w3 (TabO ho oh.length hc ro orr.length rc)))
    clear h1 h2 b3
    go_wp2_with fail
    refine (C2.out _ B3.out).mono ?_; rintro e w4 ⟨ho2, hc2, ro2, rc2, rfl, h1, h2, b4⟩
    have b5 := one_below w4 (TabO ho2 oh.length hc2 ro2 orr.length rc2)
    have X2 := Lib.hid (And.intro (h1.kept b5) (h2.kept b5))
    have X1 := Lib.hid (And.intro ((X1.out.1.kept b4).kept b5) ((X1.out.2.kept b4).kept b5))
    have t1 := (b5.block _ (lt_of_heap ((b4.block _ (lt_of_heap T1.out)).trans T1.out))).trans ((b4.block _ (lt_of_heap T1.out)).trans T1.out)
    have t2 := World.alloc_heap_new w4 (TabO ho2 oh.length hc2 ro2 orr.length rc2)
    have B4 := Lib.hid (below_up (below_up B3.out b4) b5)
    have S := Lib.hid (rsameT_any ho ho2 hc hc2 oh oh ro ro2 rc rc2 orr orr _ (by have := HL.out.1; omega) (by have := HL.out.2.1; omega) (fun r hr => by have := HL.out.2.2 r hr; omega) X1.out.1 X2.out.1 X1.out.2 X2.out.2)
    rw [show (sameRow oh oh && sameRecs orr orr) = true from by simp [sameRow, sameRecs]] at S
    obtain ⟨p0, p1⟩ := tabs t1
    obtain ⟨q0, q1⟩ := tabs t2
    have hlt : w3.heap.size < w4.heap.size := by have := b4.size; simp at this; omega
    clear h1 h2 b4 b5 t1 t2 T1
    go_wp2_with fail
    refine S.out.mono ?_; rintro e w5 ⟨rfl, b6⟩
    have B6 := Lib.hid (below_up B4.out b6)
    clear b6 p0 p1 q0 q1
    have hbe : (er == er) = true := by simp
    go_wp2_with fail
    go_ret
    exact ⟨rfl, B6.out⟩
end Go.Proofs.Ytgbmpcfnbdbpgaa
