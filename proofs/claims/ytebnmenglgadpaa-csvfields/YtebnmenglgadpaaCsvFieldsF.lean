/-
  A text is read field by field, as it is parsed: a text that is wrong.
-/
import Derived.WalkKit
import Derived.WalkMore
import Derived.Lib.Hide
import Derived.Test.YtebnmenglgadpaaProg
import Derived.Test.YtebnmenglgadpaaCsvFields
namespace Go.Proofs.Ytebnmenglgadpaa
open Go.RowKit Go.Shelf

set_option maxRecDepth 100000 in
set_option maxHeartbeats 4000000 in
theorem fieldsFault (s : ByteArray) (u : UInt8) (w : World) (hs : s.size ≤ maxLen) (hz : (parseL s.data.toList (u.toNat : Int)).2.2 ≠ 0) :
    Calls Try.prog 9 #[.string s, .int .u8 (u.toNat : Int)] w fun e w' => e = .returned (.bool true) ∧ Below w.heap.size w w' := by
  unfold maxLen at hs
  have G := Lib.hid (fun w => good_any (u.toNat : Int) w)
  go_enter Try.func9, Try.ntmps9
  go_wp2_with fail
  refine (cworks_any _).mono ?_; rintro e w1 ⟨rfl, b1⟩
  have B1 := Lib.hid b1
  clear b1
  by_cases hb : 3000 < s.size
  · go_wp2_with fail
    go_ret
    exact ⟨rfl, B1.out⟩
  have hb3 : s.size ≤ 3000 := by omega
  have C := Lib.hid (fun W => parse_any s u W (by omega))
  obtain ⟨y, Hy⟩ : ∃ y, Hid (y = parseL s.data.toList (u.toNat : Int)) := ⟨_, Lib.hid rfl⟩
  rw [← Hy.out] at C hz
  obtain ⟨L, n, e⟩ := y
  have hz0 : e ≠ 0 := hz
  have HZ := Lib.hid hz0
  clear hz hz0
  go_wp2_with fail
  refine (C.out _).mono ?_; rintro e1 w2 ⟨lo, lcap, ls, rfl, h2, h3, b2⟩
  simp only [parseV]
  have H2 := Lib.hid h2
  have E2 : Hid (recsOf ls = L) := Lib.hid h3
  have B2 := Lib.hid (below_up B1.out b2)
  clear h2 h3 b2 C B1 hb
  by_cases h7 : e = 7
  · subst h7
    obtain ⟨rfl, _, _⟩ := parse_bad s.data.toList u (by rw [ba_size]; omega) L n 7 (by decide) Hy.out.symm
    have hrs : ls = [] := by simpa [recsOf] using E2.out
    subst hrs
    go_wp2_with fail
    go_ret
    exact ⟨by simp, B2.out⟩
  have h7' : ((e : Int) == 7) = false := by rw [beq_eq_false_iff_ne]; omega
  by_cases hg : goodI (u.toNat : Int) = false
  · have hp := Hy.out
    unfold parseL at hp
    rw [if_pos hg] at hp
    simp only [Prod.mk.injEq] at hp
    obtain ⟨rfl, rfl, rfl⟩ := hp
    have hrs : ls = [] := by simpa [recsOf] using E2.out
    subst hrs
    rw [hg] at G
    go_wp2_with fail
    refine (G.out _).mono ?_; rintro e1 w3 ⟨rfl, rfl⟩
    go_wp2_with fail
    go_ret
    exact ⟨by simp, B2.out⟩
  have hg' : goodI (u.toNat : Int) = true := by simpa using hg
  rw [hg'] at G
  have HA0 : Hid (Along s.data.toList (u.toNat : Int) (L, n, e) 0 0 0) := Lib.hid ⟨[], [], _, rfl, rfl, start_enough _, by
    rw [Hy.out]; exact parse_ok _ u hg' (by rw [ba_size]; omega)⟩
  have H7 := Lib.hid h7
  clear hg hg' h7
  go_wp2_with fail
  refine (G.out _).mono ?_; rintro e1 w3 ⟨rfl, rfl⟩
  clear G
  go_wp2_with fail
  go_loopw [9, 10, 11, 12] (fun p q r i wr => ∃ (a i' k st : Nat), a ≤ s.size ∧ i' ≤ st ∧ k ≤ st ∧ (st ≤ a ∨ (k = 0 ∧ a = s.size ∧ st ≤ s.size + 1)) ∧ p = .int .i64 a ∧ q = .int .i64 i' ∧ r = .int .i64 k ∧ i = .int .i64 st ∧ Hid (Along s.data.toList (u.toNat : Int) (L, n, e) a i' k) ∧ Hid (Below w2.heap.size w2 wr)) (fun _ _ _ i _ => s.size + 2 - (intOf i).toNat)
  case atStart => exact ⟨0, 0, 0, 0, Nat.zero_le _, Nat.le_refl _, Nat.le_refl _, .inl (Nat.le_refl _), rfl, rfl, rfl, rfl, HA0, Lib.hid (Below.refl _ _)⟩
  case round =>
    obtain ⟨a, i, k, st, ha, hi, hk, hst, rfl, rfl, rfl, rfl, HA, HB⟩ := hrel
    by_cases hgo : a < s.size ∨ 0 < k
    · have hsta : st ≤ a := by omega
      have hst1 : st ≤ s.size := by omega
      have Fc := Lib.hid (fun W => field_any s (a : Int) (u.toNat : Int) W (by omega) (by omega) (by omega))
      obtain ⟨y, Hf⟩ : ∃ y, Hid (y = fieldOut s.data.toList (a : Int) (u.toNat : Int)) := ⟨_, Lib.hid rfl⟩
      rw [← Hf.out] at Fc
      obtain ⟨t, to, kd, f⟩ := y
      have HX := Lib.hid (along_next s.data.toList (u.toNat : Int) (by rw [ba_size]; omega) L n e H7.out a i k HA.out (by rw [ba_size]; exact hgo) t to kd f Hf.out.symm)
      simp only [fieldV] at Fc
      obtain ⟨T, HT⟩ : ∃ T : ByteArray, Hid (T = ⟨t.toArray⟩) := ⟨_, Lib.hid rfl⟩
      rw [← HT.out] at Fc
      have H3 := Lib.hid (H2.out.kept HB.out)
      clear hst Hf
      rcases HX.out with ⟨x1, x2, x3, x4⟩ | ⟨x1, b, x2, x3, x4, x5, x6, x7, x8, x9⟩
      · subst x2 x3 x4
        have hls : ls = [] := by simpa [recsOf] using E2.out
        subst hls
        have hne : ((e : Int) != 0) = true := by simpa using x1
        clear HX x1
        rcases hgo with hgo | hgo
        · go_wp2_with fail
          refine (Fc.out _).mono ?_; rintro e1 w4 ⟨rfl, b4⟩
          go_wp2_with fail
          go_ret
          exact ⟨by simp, below_up (below_up B2.out HB.out) b4⟩
        · go_wp2_with fail
          all_goals (refine (Fc.out _).mono ?_; rintro e1 w4 ⟨rfl, b4⟩)
          all_goals go_wp2_with fail
          all_goals go_ret
          all_goals exact ⟨by simp, below_up (below_up B2.out HB.out) b4⟩
      · subst x1 x2
        rw [ba_size] at x3 x5
        rw [show ((0 : Nat) : Int) = 0 from rfl] at Fc
        clear HX
        have hne : ((e : Int) == 0) = false := by rw [beq_eq_false_iff_ne]; have := HZ.out; omega
        clear x7
        by_cases hkd : kd = 1
        · have XA := Lib.hid (x8 hkd)
          subst hkd
          rw [show ((1 : Nat) : Int) = 1 from rfl] at Fc
          have hab : a < b := by omega
          clear x8 x9 x5 x6
          rcases Nat.lt_or_ge a s.size with hlt | hge
          · go_wp2_with fail
            refine (Fc.out _).mono ?_; rintro e1 w4 ⟨rfl, b4⟩
            have HB4 := Lib.hid (below_up HB.out b4)
            clear b4 Fc
            go_wp2_with fail
            go_roundw
            case rel => exact ⟨b, i, k + 1, st + 1, by omega, by omega, by omega, .inl (by omega), rfl, rfl, by go_num, by go_num, XA, HB4⟩
            case measure => simp [intOf]; omega
          · exfalso; omega
        · have XA := Lib.hid (x9 hkd)
          have hkd' : ((kd : Int) != 1) = true := by simpa using (show ¬ (kd : Int) = 1 by omega)
          have hab : a < b ∨ b = s.size := by omega
          have HKd := Lib.hid hkd
          clear x8 x9 x5 x6 hkd
          rcases Nat.lt_or_ge a s.size with hlt | hge
          · go_wp2_with fail
            refine (Fc.out _).mono ?_; rintro e1 w4 ⟨rfl, b4⟩
            have HB4 := Lib.hid (below_up HB.out b4)
            clear b4 Fc
            go_wp2_with fail
            go_roundw
            case rel => exact ⟨b, i + 1, 0, st + 1, by omega, by omega, by omega, by omega, rfl, by go_num, rfl, by go_num, XA, HB4⟩
            case measure => simp [intOf]; omega
          · have hk1 : 0 < k := by omega
            go_wp2_with fail
            refine (Fc.out _).mono ?_; rintro e1 w4 ⟨rfl, b4⟩
            have HB4 := Lib.hid (below_up HB.out b4)
            clear b4 Fc
            go_wp2_with fail
            go_roundw
            case rel => exact ⟨b, i + 1, 0, st + 1, by omega, by omega, by omega, by omega, rfl, by go_num, rfl, by go_num, XA, HB4⟩
            case measure => simp [intOf]; omega
    · have hk0 : k = 0 := by omega
      have haz : a = s.size := by omega
      subst hk0 haz
      obtain ⟨x1, x2⟩ := along_end s.data.toList (u.toNat : Int) L n e s.size i HA.out (by rw [ba_size]; exact Nat.le_refl _)
      exact absurd x1 HZ.out
end Go.Proofs.Ytebnmenglgadpaa
