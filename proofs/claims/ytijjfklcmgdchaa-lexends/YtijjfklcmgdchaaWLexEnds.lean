/-
  The walk of the statement LexEnds: at every text, every place and every byte between fields it answers true.
  Conditions: none but that the text is a Go string and the place a Go int.
-/
import Derived.Test.YtijjfklcmgdchaaWLexEnds0
namespace Go.Proofs.Ytijjfklcmgdchaa
open Go.RowKit Go.Shelf

theorem back_get {s : ByteArray} {j : Nat} {c : UInt8} (h : s.data.toList[j]? = some c) : ∃ hj : j < s.size, s[j] = c := by
  have hj := lt_of_get h
  rw [ba_size] at hj
  rw [bget s j hj] at h
  exact ⟨hj, by simpa using h⟩

set_option maxRecDepth 100000 in
set_option maxHeartbeats 2000000 in
theorem ends_err (s : ByteArray) (a d n : Int) (er : Nat) (w : World) (hs : s.size ≤ 2000) (he : er ≠ 0)
    (A1 : Hid (∀ w, Calls Try.prog 8 #[.string s, .int .i64 a, .int .u8 d] w fun e w' => e = .returned (.tuple #[.string ⟨#[]⟩, .int .i64 n, .int .i64 0, .int .i64 (er : Int)]) ∧ Below w.heap.size w w'))
    (h : er = 11 ∨ er = 2 ∨ (a ≤ n ∧ n < (s.size : Int))) :
    Calls Try.prog 6 #[.string s, .int .i64 a, .int .u8 d] w fun e w' => e = .returned (.bool true) ∧ Below w.heap.size w w' := by
  have q0 : ((er : Int) != 0) = true := by simpa using he
  cases q1 : ((er : Int) == 11) with
  | true =>
    go_enter Try.func6, Try.ntmps6
    go_wp2_with fail
    refine (lworks_any _).mono ?_; rintro e w1 ⟨rfl, b1⟩
    go_wp2_with fail
    refine (A1.out _).mono ?_; rintro e w2 ⟨rfl, b2⟩
    replace b2 := below_up b1 b2; clear b1 A1
    go_wp2_with fail
    go_ret
    exact ⟨rfl, b2⟩
  | false =>
    cases q2 : ((er : Int) == 2) with
    | true =>
      go_enter Try.func6, Try.ntmps6
      go_wp2_with fail
      refine (lworks_any _).mono ?_; rintro e w1 ⟨rfl, b1⟩
      go_wp2_with fail
      refine (A1.out _).mono ?_; rintro e w2 ⟨rfl, b2⟩
      replace b2 := below_up b1 b2; clear b1 A1
      go_wp2_with fail
      go_ret
      exact ⟨rfl, b2⟩
    | false =>
      have h3 : a ≤ n ∧ n < (s.size : Int) := by
        rcases h with h | h | h
        · subst h; simp at q1
        · subst h; simp at q2
        · exact h
      obtain ⟨h4, h5⟩ := h3
      clear h
      go_enter Try.func6, Try.ntmps6
      go_wp2_with fail
      refine (lworks_any _).mono ?_; rintro e w1 ⟨rfl, b1⟩
      go_wp2_with fail
      refine (A1.out _).mono ?_; rintro e w2 ⟨rfl, b2⟩
      replace b2 := below_up b1 b2; clear b1 A1
      go_wp2_with fail
      go_ret
      exact ⟨rfl, b2⟩

set_option maxRecDepth 100000 in
set_option maxHeartbeats 2000000 in
theorem walkLexEnds (s : ByteArray) (a d : Int) (w0 : s.size ≤ maxLen) (h1 : (Lit.int .i64 a).wf = true) (_ : (Lit.int .u8 d).wf = true) (w : World) :
    Calls Try.prog 6 #[.string s, .int .i64 a, .int .u8 d] w fun e w' => e = .returned (.bool true) ∧ Below w.heap.size w w' := by
  unfold maxLen at w0
  obtain ⟨ha, ha'⟩ := i64_wf a h1
  clear h1
  by_cases hbig : 2000 < s.size
  · go_enter Try.func6, Try.ntmps6
    go_wp2_with fail
    refine (lworks_any _).mono ?_; rintro e w1 ⟨rfl, b1⟩
    go_wp2_with fail
    go_ret
    exact ⟨rfl, b1⟩
  have hs : s.size ≤ 2000 := by omega
  have A1 := Lib.hid (fun w => field_any s a d w (by omega) ha ha')
  obtain ⟨⟨t, n, k, er⟩, hx⟩ : ∃ x, fieldOut s.data.toList a d = x := ⟨_, rfl⟩
  rw [hx] at A1
  by_cases he : er = 0
  · subst he
    obtain ⟨i, j, rfl, hij, hj, rfl, rfl, hk, ht, hb⟩ := field_good _ _ _ _ _ _ hx
    have hl := ba_size s
    rw [hl] at hj
    have hX : CellOr (s.extract i j) ⟨t.toArray⟩ ⟨(quoted t).toArray⟩ := by
      rcases ht with ht | ht
      · exact .inl (ba_eq (by rw [ba_ext, ht]))
      · refine .inr ⟨str_ne (by rw [ba_ext, ht]; exact quoted_ne t), ba_eq (by rw [ba_ext, ht])⟩
    have hts : t.length ≤ 2000 := by
      have h3 := List.length_drop (l := s.data.toList.take j) (i := i)
      have h4 := List.length_take (l := s.data.toList) (i := j)
      have h5 := quoted_length t
      rcases ht with ht | ht
      · rw [ht] at h3; omega
      · rw [ht] at h3; omega
    have A2 := Lib.hid (fun w => quoted_any (⟨t.toArray⟩ : ByteArray) w (by rw [ba_mk_size]; omega))
    have empty : i = j → (⟨t.toArray⟩ : ByteArray) = ByteArray.empty := fun e => by
      have h3 : (s.data.toList.take j).drop i = [] := by rw [e]; exact List.drop_of_length_le (by rw [List.length_take]; omega)
      rcases ht with ht | ht
      · rw [← ht, h3]; rfl
      · rw [h3] at ht; simp [quoted] at ht
    rcases endAt_ways _ d j (by rw [hl]; exact hj) hk with ⟨e1, e2⟩ | ⟨e1, c, e2, e3⟩ | ⟨e1, e2⟩
    · rw [hl] at e2
      subst e2
      rw [e1] at A1
      exact ends_text s _ i d w hs hij (by simpa [fieldV] using A1) _ A2 hX
    · obtain ⟨hlt, e4⟩ := back_get e2
      rw [e1] at A1
      exact ends_field s _ i j d w hs hij hj (by simpa [fieldV] using A1) _ A2 hX hlt (by rw [e4, e3]; simp)
    · have A3 := Lib.hid (fun w => break_any s (j : Int) w (by omega) (by omega) (by omega))
      rw [brkI_nat] at A3
      rcases e2 with e2 | e2
      · obtain ⟨hlt, _⟩ := back_get (brk_one _ _ e2)
        rw [e1, e2] at A1
        rw [e2] at A3
        by_cases h0 : j = 0
        · subst h0
          obtain rfl : i = 0 := by omega
          rw [fieldV, empty rfl] at A1
          exact ends_line1a s d w hs A1 hlt A3
        · by_cases hc : s[j - 1] = 13
          · have e : i = j := by
              by_cases hlt2 : i < j
              · exact absurd e2 (hb hlt2 (by rw [bget s (j - 1) (by omega), hc]))
              · omega
            subst e
            rw [fieldV, empty rfl] at A1
            exact ends_line1c s i d w hs A1 hlt (by omega) (by omega) (b13y _ hc) A3
          · exact ends_line1b s _ i j d w hs hij hj (by simpa [fieldV] using A1) _ A2 hX hlt (by omega) (b13n _ hc) A3
      · obtain ⟨e5, e6⟩ := brk_of_two _ _ e2
        obtain ⟨hlt, e7⟩ := back_get e5
        obtain ⟨hlt2, _⟩ := back_get e6
        rw [e1, e2] at A1
        rw [e2] at A3
        exact ends_line2 s _ i j d w hs hij hj (by simpa [fieldV] using A1) _ A2 hX hlt2 (b13y _ e7) A3
  · obtain ⟨rfl, rfl, h⟩ := field_err _ _ _ _ _ _ _ hx he
    rw [ba_size] at h
    exact ends_err s a d n er w hs he A1 h
end Go.Proofs.Ytijjfklcmgdchaa
