/-
  Records that are unlike have unlike texts: the statement's walk.
-/
import Derived.WalkKit
import Derived.WalkMore
import Derived.Lib.Hide
import Derived.Test.YtebnmenglgadpaaProg
import Derived.Test.YtebnmenglgadpaaCsvLaw
namespace Go.Proofs.Ytebnmenglgadpaa
open Go.RowKit Go.Shelf

theorem texts_apart (a b : List (List ByteArray)) (u : UInt8) (crlf : Bool) (s t : List UInt8) (ha : printL a u crlf = (s, 0)) (hb : printL b u crlf = (t, 0)) : decide (s = t) = sameRecs a b := by
  obtain ⟨g1, g2, g3, g4, g5, _⟩ := print_ok a u crlf s ha
  obtain ⟨k1, k2, k3, k4, k5, _⟩ := print_ok b u crlf t hb
  have pa := parse_text u g1 crlf (recsOf a) (by rw [recs_length]; exact g4) g5 (by rw [← g2]; exact g3)
  have pb := parse_text u g1 crlf (recsOf b) (by rw [recs_length]; exact k4) k5 (by rw [← k2]; exact k3)
  unfold sameRecs
  by_cases h : recsOf a = recsOf b
  · rw [decide_eq_true h, decide_eq_true (by rw [g2, k2, h])]
  · rw [decide_eq_false h, decide_eq_false]
    intro e
    rw [g2, k2] at e
    rw [e, pb] at pa
    simp only [Prod.mk.injEq] at pa
    exact h pa.1.symm

set_option maxRecDepth 100000 in
set_option maxHeartbeats 4000000 in
theorem walkCsvApart (ao : Option Addr) (cap : Nat) (rs : List (List ByteArray)) (bo : Option Addr) (bcap : Nat) (ss : List (List ByteArray)) (d : Int) (crlf : Bool) (w : World) (hn : rs.length ≤ maxLen) (hR : RowsAt w ao rs) (hs : sized rs) (_hz : ao = none → cap = 0) (hn2 : ss.length ≤ maxLen) (hR2 : RowsAt w bo ss) (hs2 : sized ss) (_hz2 : bo = none → bcap = 0) (hd : (Lit.int .u8 d).wf = true) :
    Calls Try.prog 10 #[.slice ao rs.length cap, .slice bo ss.length bcap, .int .u8 d, .bool crlf] w fun e w' => e = .returned (.bool true) ∧ Below w.heap.size w w' := by
  obtain ⟨u, rfl⟩ := u8_of d hd
  have HR := Lib.hid hR; have HS := Lib.hid hs; have HN := Lib.hid hn
  have KR := Lib.hid hR2; have KS := Lib.hid hs2; have KN := Lib.hid hn2
  clear hR hs hd hn hR2 hs2 hn2
  go_enter Try.func10, Try.ntmps10
  go_wp2_with fail
  refine (cworks_any _).mono ?_; rintro e w1 ⟨rfl, b1⟩
  have H1 := Lib.hid (HR.out.kept b1)
  have K1 := Lib.hid (KR.out.kept b1)
  have B1 := Lib.hid b1
  clear b1
  go_wp2_with fail
  refine (few_any ao cap rs w1 HN.out HS.out H1.out).mono ?_; rintro e w2 ⟨b, rfl, hb, rfl⟩
  have HBf := Lib.hid hb
  clear hb
  cases b with
  | false =>
    go_wp2_with fail
    go_ret
    exact ⟨rfl, B1.out⟩
  | true =>
    have HQ := Lib.hid (HBf.out rfl)
    clear HBf
    go_wp2_with fail
    refine (few_any bo bcap ss w1 KN.out KS.out K1.out).mono ?_; rintro e w2 ⟨b, rfl, hb, rfl⟩
    have KBf := Lib.hid hb
    clear hb
    cases b with
    | false =>
      go_wp2_with fail
      go_ret
      exact ⟨rfl, B1.out⟩
    | true =>
      have KQ := Lib.hid (KBf.out rfl)
      clear KBf
      obtain ⟨q1, q2, q3⟩ := few_bounds rs HQ.out HS.out
      obtain ⟨p1, p2, p3⟩ := few_bounds ss KQ.out KS.out
      have P := Lib.hid (print_any u crlf ao cap rs w1 q1 q2 H1.out)
      have P2 := Lib.hid (fun W h => print_any u crlf bo bcap ss W p1 p2 h)
      have Q1 := Lib.hid q1; have Q3 := Lib.hid q3
      obtain ⟨y, Hy⟩ : ∃ y, Hid (y = printL rs u crlf) := ⟨_, Lib.hid rfl⟩
      rw [← Hy.out] at P
      obtain ⟨t, e⟩ := y
      obtain ⟨T, HT⟩ : ∃ T : ByteArray, Hid (T = ⟨t.toArray⟩) := ⟨_, Lib.hid rfl⟩
      simp only [printV] at P
      rw [← HT.out] at P
      obtain ⟨z, Hz⟩ : ∃ z, Hid (z = printL ss u crlf) := ⟨_, Lib.hid rfl⟩
      rw [← Hz.out] at P2
      obtain ⟨s, f⟩ := z
      obtain ⟨S, HSt⟩ : ∃ S : ByteArray, Hid (S = ⟨s.toArray⟩) := ⟨_, Lib.hid rfl⟩
      simp only [printV] at P2
      rw [← HSt.out] at P2
      clear q1 q2 q3 p1 p2 p3
      go_wp2_with fail
      refine P.out.mono ?_; rintro e' w2 ⟨rfl, b2⟩
      have H2 := Lib.hid (H1.out.kept b2)
      have K2 := Lib.hid (K1.out.kept b2)
      have B2 := Lib.hid (below_up B1.out b2)
      clear b2 P H1 B1 K1
      go_wp2_with fail
      refine (P2.out _ K2.out).mono ?_; rintro e' w3 ⟨rfl, b3⟩
      have H3 := Lib.hid (H2.out.kept b3)
      have K3 := Lib.hid (K2.out.kept b3)
      have B3 := Lib.hid (below_up B2.out b3)
      clear b3 P2 H2 B2 K2
      by_cases he : e = 0
      · subst he
        by_cases hf : f = 0
        · subst hf
          have hq := texts_apart rs ss u crlf t s Hy.out.symm Hz.out.symm
          have hbe : (T.toList == S.toList) = sameRecs rs ss := by
            rw [str_beq, HT.out, HSt.out, mk_data, mk_data]; exact hq
          have C := Lib.hid (csame_any ao bo cap bcap rs ss w3 Q1.out Q3.out H3.out K3.out)
          rw [← hbe] at C
          clear hq hbe
          go_wp2_with fail
          refine C.out.mono ?_; rintro e' w4 ⟨rfl, b4⟩
          go_wp2_with fail
          go_ret
          exact ⟨by simp, below_up B3.out b4⟩
        · have hne : ((f : Int) != 0) = true := by simpa using hf
          clear hf
          go_wp2_with fail
          go_ret
          exact ⟨rfl, B3.out⟩
      · have hne : ((e : Int) != 0) = true := by simpa using he
        clear he
        go_wp2_with fail
        go_ret
        exact ⟨rfl, B3.out⟩
end Go.Proofs.Ytebnmenglgadpaa
