/-
  What is printed is parsed back: the statement's walk.
-/
import Derived.WalkKit
import Derived.WalkMore
import Derived.Lib.Hide
import Derived.Test.YtebnmenglgadpaaProg
import Derived.Test.YtebnmenglgadpaaCsvLaw
namespace Go.Proofs.Ytebnmenglgadpaa
open Go.RowKit Go.Shelf

set_option maxRecDepth 100000 in
set_option maxHeartbeats 4000000 in
theorem walkCsvBack (ao : Option Addr) (cap : Nat) (rs : List (List ByteArray)) (d : Int) (crlf : Bool) (w : World) (hn : rs.length ≤ maxLen) (hR : RowsAt w ao rs) (hs : sized rs) (_hz : ao = none → cap = 0) (hd : (Lit.int .u8 d).wf = true) :
    Calls Try.prog 5 #[.slice ao rs.length cap, .int .u8 d, .bool crlf] w fun e w' => e = .returned (.bool true) ∧ Below w.heap.size w w' := by
  obtain ⟨u, rfl⟩ := u8_of d hd
  have HR := Lib.hid hR; have HS := Lib.hid hs; have HN := Lib.hid hn
  clear hR hs hd hn
  go_enter Try.func5, Try.ntmps5
  go_wp2_with fail
  refine (cworks_any _).mono ?_; rintro e w1 ⟨rfl, b1⟩
  have H1 := Lib.hid (HR.out.kept b1)
  have B1 := Lib.hid b1
  clear b1
  go_wp2_with fail
  refine (few_any ao cap rs w1 HN.out HS.out H1.out).mono ?_; rintro e w2 ⟨b, rfl, hb, rfl⟩
  have HBf := Lib.hid hb
  clear hb
  cases b with
  | false =>
    go_wp2_with fail
    go_ret
    exact ⟨rfl, B1.out⟩
  | true =>
    have HQ := Lib.hid (HBf.out rfl)
    obtain ⟨q1, q2, q3⟩ := few_bounds rs HQ.out HS.out
    have P := Lib.hid (print_any u crlf ao cap rs w1 q1 q2 H1.out)
    have Q1 := Lib.hid q1; have Q3 := Lib.hid q3
    obtain ⟨y, Hy⟩ : ∃ y, Hid (y = printL rs u crlf) := ⟨_, Lib.hid rfl⟩
    rw [← Hy.out] at P
    obtain ⟨t, e⟩ := y
    obtain ⟨T, HT⟩ : ∃ T : ByteArray, Hid (T = ⟨t.toArray⟩) := ⟨_, Lib.hid rfl⟩
    simp only [printV] at P
    rw [← HT.out] at P
    clear q1 q2 q3
    go_wp2_with fail
    refine P.out.mono ?_; rintro e' w2 ⟨rfl, b2⟩
    have H2 := Lib.hid (H1.out.kept b2)
    have B2 := Lib.hid (below_up B1.out b2)
    clear b2 P H1 B1
    by_cases he : e = 0
    · subst he
      obtain ⟨g1, g2, g3, g4, g5, g6⟩ := print_ok rs u crlf t Hy.out.symm
      have C := Lib.hid (fun W => back_any T u W (recsOf rs) (by rw [HT.out, mk_data, g2]; rw [g2] at g3; exact parse_text u g1 crlf _ (by rw [recs_length]; exact g4) g5 g3) (by rw [← ba_size, HT.out, mk_data]; omega) (by rw [recs_length]; exact g4) g5)
      clear g1 g2 g3 g4 g5 g6
      go_wp2_with fail
      refine (C.out _).mono ?_; rintro e' w3 ⟨ao', cap', rs', rfl, hr', b3⟩
      have H3 := Lib.hid (H2.out.kept b3)
      have HR' := Lib.hid hr'
      have B3 := Lib.hid (below_up B2.out b3)
      clear b3 hr' C H2 B2
      have S := Lib.hid (rsame_any ao ao' cap cap' rs rs' w3 Q1.out Q3.out H3.out HR'.out.1)
      rw [same_true rs rs' HR'.out.2.1.symm] at S
      go_wp2_with fail
      refine S.out.mono ?_; rintro e' w4 ⟨rfl, b4⟩
      go_wp2_with fail
      go_ret
      exact ⟨rfl, below_up B3.out b4⟩
    · have hne : ((e : Int) != 0) = true := by simpa using he
      have hem := str_nil T t HT.out (print_err rs u crlf t e Hy.out.symm he)
      clear he
      go_wp2_with fail
      go_ret
      exact ⟨rfl, B2.out⟩
end Go.Proofs.Ytebnmenglgadpaa
