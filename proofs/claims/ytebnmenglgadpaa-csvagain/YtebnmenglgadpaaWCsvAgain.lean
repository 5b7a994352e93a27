/-
  What is parsed is printed, and parsed, the same; it is no longer then, but for a break: the statement's walk.
-/
import Derived.WalkKit
import Derived.WalkMore
import Derived.Lib.Hide
import Derived.Test.YtebnmenglgadpaaProg
import Derived.Test.YtebnmenglgadpaaCsvLaw
import Derived.Test.YtebnmenglgadpaaCsvMath3
namespace Go.Proofs.Ytebnmenglgadpaa
open Go.RowKit Go.Shelf

theorem parse_good (l : List UInt8) (u : UInt8) (hl : l.length ≤ 3000) (rs : Recs) (n : Int) (h : parseL l (u.toNat : Int) = (rs, n, 0)) : goodI (u.toNat : Int) = true ∧ n = 0 ∧ (∀ r ∈ rs, fine r) ∧ rs.length ≤ 2048 ∧ (textL rs u false).length ≤ l.length + 1 := by
  unfold parseL at h
  by_cases c1 : goodI (u.toNat : Int) = false
  · rw [if_pos c1] at h; simp at h
  rw [if_neg c1, if_neg (by omega)] at h
  have hn : n = 0 := by
    have key : ∀ (f a : Nat) (done : Recs) (row : List (List UInt8)), readL l (u.toNat : Int) f a done row = (rs, n, 0) → n = 0 := by
      intro f
      induction f with
      | zero => intro a done row h; simp only [readL, Prod.mk.injEq] at h; exact h.2.1.symm
      | succ f ih =>
        intro a done row h
        rcases read_step l _ f a done row _ h with ⟨_, _, e⟩ | ⟨t, m, k, e, _, he, e2⟩ | ⟨t, to, hc, hr⟩ | ⟨t, to, k, hc, hk, hr⟩
        · simp only [Prod.mk.injEq] at e; exact e.2.1
        · simp only [Prod.mk.injEq] at e2; exact absurd e2.2.2.symm he
        · exact ih _ _ _ hr
        · exact ih _ _ _ hr
    exact key _ _ _ _ h
  subst hn
  obtain ⟨h1, h2⟩ := read_props l _ rs _ 0 [] [] h (by simp) (by simp) (by simp) (by simp)
  exact ⟨by simpa using c1, rfl, h1, h2, read_size l u rs _ 0 [] [] h (by omega) (by simp [textL, costL, sumL])⟩
theorem parse_bad (l : List UInt8) (u : UInt8) (hl : l.length ≤ 3000) (rs : Recs) (n : Int) (e : Nat) (he : e ≠ 0) (h : parseL l (u.toNat : Int) = (rs, n, e)) : rs = [] ∧ 0 ≤ n ∧ n ≤ (l.length : Int) := by
  unfold parseL at h
  by_cases c1 : goodI (u.toNat : Int) = false
  · rw [if_pos c1] at h; simp only [Prod.mk.injEq] at h; obtain ⟨rfl, rfl, _⟩ := h; exact ⟨rfl, by omega, by omega⟩
  rw [if_neg c1, if_neg (by omega)] at h
  exact read_errs l _ rs n e he _ 0 [] [] (by omega) h
/-- fine records are printed -/
theorem print_fine (rs : List (List ByteArray)) (u : UInt8) (x : Bool) (hg : goodI (u.toNat : Int) = true) (hf : ∀ r ∈ recsOf rs, fine r) (hn : rs.length ≤ 2048) (ht : (textL (recsOf rs) u x).length ≤ 4194304) : printL rs u x = (textL (recsOf rs) u x, 0) := by
  have hfr : ∀ r ∈ rs, r.length ≠ 0 ∧ r.length ≤ 128 ∧ ∀ c ∈ r, c.size ≤ 4096 := fun r hr => by
    obtain ⟨h1, h2, h3⟩ := hf (bytesOf r) (List.mem_map.2 ⟨r, hr, rfl⟩)
    refine ⟨fun e => h1 (by simp [bytesOf, List.eq_nil_of_length_eq_zero e]), by simpa [bytesOf] using h2, fun c hc => ?_⟩
    have := h3 c.data.toList (List.mem_map.2 ⟨c, hc, rfl⟩)
    rwa [ba_size] at this
  unfold printL
  rw [if_neg (by simp [hg]), if_neg (by
    intro h
    obtain ⟨r, hr, h0⟩ := List.any_eq_true.1 h
    exact (hfr r hr).1 (by simpa [bareRow] using h0)), if_neg (by
    unfold tooLarge
    rw [decide_eq_false (show ¬ 2048 < rs.length by omega), Bool.false_or]
    intro h
    obtain ⟨r, hr, h0⟩ := List.any_eq_true.1 h
    simp only [largeRow, Bool.or_eq_true, decide_eq_true_eq, List.any_eq_true] at h0
    rcases h0 with h0 | ⟨c, hc, h0⟩
    · have := (hfr r hr).2.1; omega
    · have := (hfr r hr).2.2 c hc; omega), if_neg (by omega)]

set_option maxRecDepth 100000 in
set_option maxHeartbeats 4000000 in
theorem walkCsvAgain (s : ByteArray) (d : Int) (crlf : Bool) (w : World) (hs : s.size ≤ maxLen) (hd : (Lit.int .u8 d).wf = true) :
    Calls Try.prog 8 #[.string s, .int .u8 d, .bool crlf] w fun e w' => e = .returned (.bool true) ∧ Below w.heap.size w w' := by
  obtain ⟨u, rfl⟩ := u8_of d hd
  unfold maxLen at hs
  clear hd
  go_enter Try.func8, Try.ntmps8
  go_wp2_with fail
  refine (cworks_any _).mono ?_; rintro e w1 ⟨rfl, b1⟩
  have B1 := Lib.hid b1
  clear b1
  by_cases hb : 3000 < s.size
  · go_wp2_with fail
    go_ret
    exact ⟨rfl, B1.out⟩
  have C := Lib.hid (fun W => parse_any s u W (by omega))
  obtain ⟨y, Hy⟩ : ∃ y, Hid (y = parseL s.data.toList (u.toNat : Int)) := ⟨_, Lib.hid rfl⟩
  rw [← Hy.out] at C
  obtain ⟨L, n, e⟩ := y
  go_wp2_with fail
  refine (C.out _).mono ?_; rintro e1 w2 ⟨ao, cap, rs, rfl, h2, h3, b2⟩
  simp only [parseV]
  have H2 := Lib.hid h2
  have E2 := Lib.hid h3
  have B2 := Lib.hid (below_up B1.out b2)
  clear h2 h3 b2 C B1
  by_cases he : e = 0
  · subst he
    obtain ⟨g1, rfl, g3, g4, g5⟩ := parse_good s.data.toList u (by rw [ba_size]; omega) L n Hy.out.symm
    rw [ba_size] at g5
    have E3 : recsOf rs = L := E2.out
    have hlen : rs.length ≤ 2048 := by rw [← recs_length, E3]; exact g4
    have hfine : ∀ r ∈ recsOf rs, fine r := by rw [E3]; exact g3
    have hbd := fine_bounds (recsOf rs) (by rw [recs_length]; exact hlen) hfine
    have hrows := (rows_len rs (recsOf rs) rfl).2 _ hbd.2
    have hcells : ∀ r ∈ rs, r.length ≤ 1099511627776 ∧ ∀ c ∈ r, c.size ≤ 9223372036854775807 := fun r hr => ⟨hrows r hr, fun c hc => by
      have := (hfine (bytesOf r) (List.mem_map.2 ⟨r, hr, rfl⟩)).2.2 c.data.toList (List.mem_map.2 ⟨c, hc, rfl⟩)
      rw [ba_size] at this; omega⟩
    have htl : ∀ x, (textL (recsOf rs) u x).length ≤ 5049 := fun x => by
      have := text_breaks u (recsOf rs) x
      rw [recs_length] at this
      rw [← E3] at g5; omega
    have htf : (textL (recsOf rs) u false).length ≤ s.size + 1 := by rw [E3]; exact g5
    have P1 := Lib.hid (fun W (h : RowsAt W ao rs) => print_any u crlf ao cap rs W (by omega) hcells h)
    have P2 := Lib.hid (fun W (h : RowsAt W ao rs) => print_any u false ao cap rs W (by omega) hcells h)
    rw [print_fine rs u crlf g1 hfine hlen (by have := htl crlf; omega)] at P1
    rw [print_fine rs u false g1 hfine hlen (by have := htl false; omega)] at P2
    obtain ⟨T, HT⟩ : ∃ T : ByteArray, Hid (T = ⟨(textL (recsOf rs) u crlf).toArray⟩) := ⟨_, Lib.hid rfl⟩
    obtain ⟨V, HV⟩ : ∃ V : ByteArray, Hid (V = ⟨(textL (recsOf rs) u false).toArray⟩) := ⟨_, Lib.hid rfl⟩
    simp only [printV] at P1 P2
    rw [← HT.out] at P1
    rw [← HV.out] at P2
    have hVs : V.size ≤ s.size + 1 := by rw [← ba_size, HV.out, mk_data]; exact htf
    have C := Lib.hid (fun W => back_any T u W (recsOf rs) (by
      rw [HT.out, mk_data]
      exact parse_text u g1 crlf _ (by rw [recs_length]; exact hlen) hfine (by have := htl crlf; omega)) (by rw [← ba_size, HT.out, mk_data]; have := htl crlf; omega) (by rw [recs_length]; exact hlen) hfine)
    have HRw := Lib.hid hrows
    clear g1 g3 g4 g5 E3 hfine hbd hrows hcells htl htf
    go_wp2_with fail
    refine (P1.out _ H2.out).mono ?_; rintro e1 w3 ⟨rfl, b3⟩
    have H3 := Lib.hid (H2.out.kept b3)
    have B3 := Lib.hid (below_up B2.out b3)
    clear b3 P1 H2 B2
    go_wp2_with fail
    refine (C.out _).mono ?_; rintro e1 w4 ⟨mo, mcap, ms, rfl, hm, b4⟩
    have H4 := Lib.hid (H3.out.kept b4)
    have HM := Lib.hid hm
    have B4 := Lib.hid (below_up B3.out b4)
    clear b4 hm C H3 B3
    have S := Lib.hid (rsame_any ao mo cap mcap rs ms w4 (by omega) HRw.out H4.out HM.out.1)
    rw [same_true rs ms HM.out.2.1.symm] at S
    go_wp2_with fail
    refine S.out.mono ?_; rintro e1 w5 ⟨rfl, b5⟩
    have H5 := Lib.hid (H4.out.kept b5)
    have B5 := Lib.hid (below_up B4.out b5)
    clear b5 S H4 B4
    go_wp2_with fail
    refine (P2.out _ H5.out).mono ?_; rintro e1 w6 ⟨rfl, b6⟩
    have hle : decide ((V.size : Int) ≤ (s.size : Int) + 1) = true := decide_eq_true (by omega)
    go_wp2_with fail
    go_ret
    exact ⟨by simp, below_up B5.out b6⟩
  · obtain ⟨rfl, g2, g3⟩ := parse_bad s.data.toList u (by rw [ba_size]; omega) L n e he Hy.out.symm
    rw [ba_size] at g3
    have hne : ((e : Int) != 0) = true := by simpa using he
    have hrs : rs = [] := by
      have h1 : recsOf rs = [] := E2.out
      simpa [recsOf] using h1
    subst hrs
    clear he
    go_wp2_with fail
    go_ret
    exact ⟨by simp, B2.out⟩
end Go.Proofs.Ytebnmenglgadpaa
