/-
  Of two texts that are printed, one behind the other, come the records of both: the statement's walk.
-/
import Derived.WalkKit
import Derived.WalkMore
import Derived.Lib.Hide
import Derived.Test.YtebnmenglgadpaaProg
import Derived.Test.YtebnmenglgadpaaCsvLaw2
namespace Go.Proofs.Ytebnmenglgadpaa
open Go.RowKit Go.Shelf

theorem none_empty {o : Option Addr} {c : Nat} {l : List (List ByteArray)} {W : World} (h : RowsAt W o l) (k : o = none → c = 0) (e : o = none) : l.length = 0 ∧ c = 0 := by
  refine ⟨?_, k e⟩
  rcases h with rfl | ⟨A, hA, _⟩
  · rfl
  · rw [e] at hA; cases hA
theorem recs_app (a b : List (List ByteArray)) : recsOf (a ++ b) = recsOf a ++ recsOf b := by simp [recsOf]

set_option maxRecDepth 100000 in
set_option maxHeartbeats 4000000 in
theorem walkCsvJoins (ao : Option Addr) (cap : Nat) (rs : List (List ByteArray)) (bo : Option Addr) (bcap : Nat) (ss : List (List ByteArray)) (d : Int) (x y : Bool) (w : World) (hn : rs.length ≤ maxLen) (hR : RowsAt w ao rs) (hs : sized rs) (hz : ao = none → cap = 0) (hn2 : ss.length ≤ maxLen) (hR2 : RowsAt w bo ss) (hs2 : sized ss) (hz2 : bo = none → bcap = 0) (hd : (Lit.int .u8 d).wf = true) :
    Calls Try.prog 7 #[.slice ao rs.length cap, .slice bo ss.length bcap, .int .u8 d, .bool x, .bool y] w fun e w' => e = .returned (.bool true) ∧ Below w.heap.size w w' := by
  obtain ⟨u, rfl⟩ := u8_of d hd
  have Z1 := Lib.hid (none_empty hR hz)
  have Z2 := Lib.hid (none_empty hR2 hz2)
  have HR := Lib.hid hR; have HS := Lib.hid hs; have HN := Lib.hid hn
  have KR := Lib.hid hR2; have KS := Lib.hid hs2; have KN := Lib.hid hn2
  have hinfo : (Try.prog.info? 34).map (fun i => (i.zero, i.size, i.bytes)) = some (some (.slice none 0 0), 1, 24) := by kernel_rfl
  obtain ⟨i0, hi, hz0, hz1, hz2'⟩ := info_parts hinfo
  have HIN := Lib.hid hi
  clear hi hinfo hR hs hd hn hR2 hs2 hn2 hz hz2
  go_enter Try.func7, Try.ntmps7
  go_wp2_with fail
  refine (cworks_any _).mono ?_; rintro e w1 ⟨rfl, b1⟩
  have H1 := Lib.hid (HR.out.kept b1)
  have K1 := Lib.hid (KR.out.kept b1)
  have B1 := Lib.hid b1
  clear b1
  go_wp2_with fail
  refine (few_any ao cap rs w1 HN.out HS.out H1.out).mono ?_; rintro e w2 ⟨b, rfl, hb, rfl⟩
  have HBf := Lib.hid hb
  clear hb
  cases b with
  | false =>
    go_wp2_with fail
    go_ret
    exact ⟨rfl, B1.out⟩
  | true =>
    have HQ := Lib.hid (HBf.out rfl)
    clear HBf
    go_wp2_with fail
    refine (few_any bo bcap ss w1 KN.out KS.out K1.out).mono ?_; rintro e w2 ⟨b, rfl, hb, rfl⟩
    have KBf := Lib.hid hb
    clear hb
    cases b with
    | false =>
      go_wp2_with fail
      go_ret
      exact ⟨rfl, B1.out⟩
    | true =>
      have KQ := Lib.hid (KBf.out rfl)
      clear KBf
      obtain ⟨q1, q2, q3⟩ := few_bounds rs HQ.out HS.out
      obtain ⟨p1, p2, p3⟩ := few_bounds ss KQ.out KS.out
      have P := Lib.hid (print_any u x ao cap rs w1 q1 q2 H1.out)
      have P2 := Lib.hid (fun W h => print_any u y bo bcap ss W p1 p2 h)
      obtain ⟨yy, Hy⟩ : ∃ yy, Hid (yy = printL rs u x) := ⟨_, Lib.hid rfl⟩
      rw [← Hy.out] at P
      obtain ⟨t, e⟩ := yy
      obtain ⟨T, HT⟩ : ∃ T : ByteArray, Hid (T = ⟨t.toArray⟩) := ⟨_, Lib.hid rfl⟩
      simp only [printV] at P
      rw [← HT.out] at P
      obtain ⟨z, Hz⟩ : ∃ z, Hid (z = printL ss u y) := ⟨_, Lib.hid rfl⟩
      rw [← Hz.out] at P2
      obtain ⟨s, f⟩ := z
      obtain ⟨S, HSt⟩ : ∃ S : ByteArray, Hid (S = ⟨s.toArray⟩) := ⟨_, Lib.hid rfl⟩
      simp only [printV] at P2
      rw [← HSt.out] at P2
      clear q1 q2 q3 p1 p2 p3
      go_wp2_with fail
      refine P.out.mono ?_; rintro e' w2 ⟨rfl, b2⟩
      have H2 := Lib.hid (H1.out.kept b2)
      have K2 := Lib.hid (K1.out.kept b2)
      have B2 := Lib.hid (below_up B1.out b2)
      clear b2 P H1 B1 K1
      go_wp2_with fail
      refine (P2.out _ K2.out).mono ?_; rintro e' w3 ⟨rfl, b3⟩
      have H3 := Lib.hid (H2.out.kept b3)
      have K3 := Lib.hid (K2.out.kept b3)
      have B3 := Lib.hid (below_up B2.out b3)
      clear b3 P2 H2 B2 K2
      by_cases he : e = 0
      · subst he
        by_cases hf : f = 0
        · subst hf
          obtain ⟨g1, g2, g3, g4, g5, g6⟩ := print_ok rs u x t Hy.out.symm
          obtain ⟨_, j2, j3, j4, j5, j6⟩ := print_ok ss u y s Hz.out.symm
          have hts : t.length ≤ 24120 := by rw [g2]; exact few_text u x rs (few_kept rs HQ.out g6)
          have hss : s.length ≤ 24120 := by rw [j2]; exact few_text u y ss (few_kept ss KQ.out j6)
          have hTs : T.size ≤ 24120 := by rw [← ba_size, HT.out, mk_data]; exact hts
          have hSs : S.size ≤ 24120 := by rw [← ba_size, HSt.out, mk_data]; exact hss
          have l1 := HQ.out.1
          have l2 := KQ.out.1
          have hfine : ∀ r ∈ recsOf rs ++ recsOf ss, fine r := fun r hr => by
            rcases List.mem_append.1 hr with h | h
            · exact g5 r h
            · exact j5 r h
          have C := Lib.hid (fun W => back_any (T ++ S) u W (recsOf rs ++ recsOf ss) (by
            rw [ba_app, HT.out, HSt.out, mk_data, mk_data, g2, j2]
            rw [g2] at hts; rw [j2] at hss
            exact parse_two u g1 x y _ _ (by rw [recs_length, recs_length]; omega) g5 j5 (by simp; omega)) (by rw [ByteArray.size_append]; omega) (by simp [recs_length]; omega) hfine)
          clear g1 g2 g3 g4 g5 g6 j2 j3 j4 j5 j6 hts hss hfine
          go_wp2_with fail
          refine (C.out _).mono ?_; rintro e' w4 ⟨lo, lcap, ls, rfl, hr', b4⟩
          have H4 := Lib.hid (H3.out.kept b4)
          have K4 := Lib.hid (K3.out.kept b4)
          have B4 := Lib.hid (below_up B3.out b4)
          have HL := Lib.hid hr'
          clear b4 hr' C H3 K3 B3
          obtain ⟨V, HV⟩ : ∃ V, Hid (V = w4.alloc (.cells #[] 34)) := ⟨_, Lib.hid rfl⟩
          have hVB : Below w4.heap.size w4 V := by rw [HV.out]; exact (Below.refl _ w4).alloc (Nat.le_refl _) _
          have own0 : V.ownsRow w4.heap.size 34 1 (.slice (some ⟨w4.heap.size, 0, none⟩) 0 0) 0 [] :=
            ⟨rfl, .inr ⟨w4.heap.size, 0, #[], rfl, Nat.le_refl _, by rw [HV.out]; exact World.alloc_heap_new w4 _, Nat.le_refl _, Nat.zero_le _, rfl, rfl⟩⟩
          have HVB := Lib.hid hVB
          have O0 := Lib.hid own0
          obtain ⟨hs1, HD1⟩ := heads_of w4 ao rs H4.out
          obtain ⟨hs2, HD2⟩ := heads_of w4 bo ss K4.out
          have D1 := Lib.hid HD1; have D2 := Lib.hid HD2
          have DV := Lib.hid (HD1.kept H4.out hVB)
          have hVs : w4.heap.size ≤ V.heap.size := hVB.size
          obtain ⟨ys, HYS⟩ : ∃ ys, Hid (ys = rs ++ ss) := ⟨_, Lib.hid rfl⟩
          clear hVB own0 HD1 HD2
          go_wp2_with (at_builtin; rw [← HV.out]; refine wpList_append_any rfl _ _ 23 rfl w4.heap.size 34 i0 (.slice none 0 0) 1 24 Try.underlying23 HIN.out hz0 hz1 hz2' rfl (by decide) _ _ _ rfl O0.out ao rs.length cap hs1 rfl Z1.out (by rw [D1.out.1]; simp) DV.out.2.1 DV.out.one ?c1 ?c2 ?c3 ?_)
          case c1 => unfold maxLen; omega
          case c2 => omega
          case c3 => exact hVs
          intro v1 w5 o1 g1
          have b5 : Below w4.heap.size w4 w5 := HVB.out.grown g1 hVs (fun j hj => (O0.out.lt j hj).1)
          obtain ⟨vo, vc, rfl⟩ := own_slice o1
          have E5 := Lib.hid (D2.out.kept K4.out b5)
          have O1 := Lib.hid o1
          have B5 := Lib.hid b5
          have h5s := b5.size
          clear o1 g1 b5 DV O0
          go_wp2_with (at_builtin; refine wpList_append_any rfl _ _ 23 rfl w4.heap.size 34 i0 (.slice none 0 0) 1 24 Try.underlying23 HIN.out hz0 hz1 hz2' rfl (by decide) _ _ _ rfl O1.out bo ss.length bcap hs2 rfl Z2.out (by rw [D2.out.1]; simp) E5.out.2.1 E5.out.one ?c1 ?c2 ?c3 ?_)
          case c1 => unfold maxLen; omega
          case c2 => omega
          case c3 => exact h5s
          intro v2 w6 o2 g2
          have b6 : Below w4.heap.size w4 w6 := B5.out.grown g2 h5s (fun j hj => (O1.out.lt j hj).1)
          obtain ⟨co, ccap, rfl, hco⟩ := heads_join (D1.out.kept H4.out b6) (D2.out.kept K4.out b6) o2
          have S := Lib.hid (rsame_any lo co lcap ccap ls (rs ++ ss) w6 HL.out.2.2.1 HL.out.2.2.2 (HL.out.1.kept b6) hco)
          rw [same_true ls (rs ++ ss) (by rw [recs_app]; exact HL.out.2.1), ← HYS.out] at S
          rw [← HYS.out]
          have B6 := Lib.hid (below_up B4.out b6)
          clear o2 g2 b6 hco O1 E5 B5 D1 D2
          go_wp2_with fail
          refine S.out.mono ?_; rintro e' w7 ⟨rfl, b7⟩
          go_wp2_with fail
          go_ret
          exact ⟨rfl, below_up B6.out b7⟩
        · have hne : ((f : Int) != 0) = true := by simpa using hf
          clear hf
          go_wp2_with fail
          go_ret
          exact ⟨rfl, B3.out⟩
      · have hne : ((e : Int) != 0) = true := by simpa using he
        clear he
        go_wp2_with fail
        go_ret
        exact ⟨rfl, B3.out⟩
end Go.Proofs.Ytebnmenglgadpaa
