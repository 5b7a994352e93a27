/-
  The text of records, and whether two are alike, are just what the document says: the statement's walk.
-/
import Derived.WalkKit
import Derived.WalkMore
import Derived.Lib.Hide
import Derived.Test.YtebnmenglgadpaaProg
import Derived.Test.YtebnmenglgadpaaCsvLaw
import Derived.Test.YtebnmenglgadpaaCsvFew
import Derived.Test.YtebnmenglgadpaaCsvReach
namespace Go.Proofs.Ytebnmenglgadpaa
open Go.RowKit Go.Shelf

set_option maxRecDepth 100000 in
set_option maxHeartbeats 4000000 in
theorem walkCsvPrints (ao : Option Addr) (cap : Nat) (rs : List (List ByteArray)) (bo : Option Addr) (bcap : Nat) (ss : List (List ByteArray)) (d : Int) (crlf : Bool) (w : World) (hn : rs.length ≤ maxLen) (hR : RowsAt w ao rs) (hs : sized rs) (hz : ∀ r ∈ rs, ∀ c ∈ r, c.size ≤ 140737488351232) (hn2 : ss.length ≤ maxLen) (hR2 : RowsAt w bo ss) (hs2 : sized ss) (hz2 : ∀ r ∈ ss, ∀ c ∈ r, c.size ≤ 140737488351232) (hd : (Lit.int .u8 d).wf = true) :
    Calls Try.prog 4 #[.slice ao rs.length cap, .slice bo ss.length bcap, .int .u8 d, .bool crlf] w fun e w' => e = .returned (.bool true) ∧ Below w.heap.size w w' := by
  obtain ⟨u, rfl⟩ := u8_of d hd
  have HR := Lib.hid hR; have HN := Lib.hid hn
  have KR := Lib.hid hR2; have KN := Lib.hid hn2
  have HS := Lib.hid (fun r hr => And.intro (hs r hr).1 (hz r hr))
  have KS := Lib.hid (fun r hr => And.intro (hs2 r hr).1 (hz2 r hr))
  clear hR hs hd hn hR2 hs2 hn2 hz hz2
  go_enter Try.func4, Try.ntmps4
  go_wp2_with fail
  refine (cworks_any _).mono ?_; rintro e w1 ⟨rfl, b1⟩
  have H1 := Lib.hid (HR.out.kept b1)
  have K1 := Lib.hid (KR.out.kept b1)
  have B1 := Lib.hid b1
  clear b1
  go_wp2_with fail
  refine (fewReach_any ao cap rs w1 HN.out HS.out H1.out).mono ?_; rintro e w2 ⟨b, rfl, hb, rfl⟩
  have HBf := Lib.hid hb
  clear hb
  cases b with
  | false =>
    go_wp2_with fail
    go_ret
    exact ⟨rfl, B1.out⟩
  | true =>
    have HQ := Lib.hid (HBf.out rfl)
    clear HBf
    go_wp2_with fail
    refine (fewReach_any bo bcap ss w1 KN.out KS.out K1.out).mono ?_; rintro e w2 ⟨b, rfl, hb, rfl⟩
    clear hb
    cases b with
    | false =>
      go_wp2_with fail
      go_ret
      exact ⟨rfl, B1.out⟩
    | true =>
      have hsm := few_small rs HQ.out
      have h60 := HQ.out.1
      have P := Lib.hid (print_any u crlf ao cap rs w1 (by omega) (fun r hr => ⟨by have := (hsm r hr).1; omega, fun c hc => by have := (hsm r hr).2 c hc; omega⟩) H1.out)
      have P2 := Lib.hid (fun W h => rprint_any u crlf ao cap rs W HQ.out h)
      have Q3 : Hid (∀ r ∈ rs, r.length ≤ 1099511627776) := Lib.hid (fun r hr => by have := (hsm r hr).1; omega)
      obtain ⟨y, Hy⟩ : ∃ y, Hid (y = printL rs u crlf) := ⟨_, Lib.hid rfl⟩
      rw [← Hy.out] at P P2
      obtain ⟨t, e⟩ := y
      obtain ⟨T, HT⟩ : ∃ T : ByteArray, Hid (T = ⟨t.toArray⟩) := ⟨_, Lib.hid rfl⟩
      simp only [printV] at P P2
      rw [← HT.out] at P P2
      clear hsm
      go_wp2_with fail
      refine P.out.mono ?_; rintro e' w2 ⟨rfl, b2⟩
      have H2 := Lib.hid (H1.out.kept b2)
      have K2 := Lib.hid (K1.out.kept b2)
      have B2 := Lib.hid (below_up B1.out b2)
      clear b2 P H1 B1 K1
      go_wp2_with fail
      refine (P2.out _ H2.out).mono ?_; rintro e' w3 ⟨rfl, b3⟩
      have H3 := Lib.hid (H2.out.kept b3)
      have K3 := Lib.hid (K2.out.kept b3)
      have B3 := Lib.hid (below_up B2.out b3)
      clear b3 P2 H2 B2 K2
      have R := Lib.hid (rsame_any ao bo cap bcap rs ss w3 (by omega) Q3.out H3.out K3.out)
      have C := Lib.hid (fun W h k => csame_any ao bo cap bcap rs ss W (by omega) Q3.out h k)
      generalize sameRecs rs ss = B at R C
      go_wp2_with fail
      refine R.out.mono ?_; rintro e' w4 ⟨rfl, b4⟩
      have H4 := Lib.hid (H3.out.kept b4)
      have K4 := Lib.hid (K3.out.kept b4)
      have B4 := Lib.hid (below_up B3.out b4)
      clear b4 R H3 K3 B3
      go_wp2_with fail
      refine (C.out _ H4.out K4.out).mono ?_; rintro e' w5 ⟨rfl, b5⟩
      go_wp2_with fail
      go_ret
      exact ⟨by simp, below_up B4.out b5⟩
end Go.Proofs.Ytebnmenglgadpaa
