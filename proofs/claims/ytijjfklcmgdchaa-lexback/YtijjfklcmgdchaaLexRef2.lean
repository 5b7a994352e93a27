/-
  What the document's reference answers for what ends a field, and for a field.
  Conditions: the text is at most 2^40 bytes long (the statements ask about far shorter ones).
-/
import Derived.WalkKit
import Derived.WalkMore
import Derived.Lib.Hide
import Derived.Test.YtijjfklcmgdchaaProg
import Derived.Test.YtijjfklcmgdchaaLexRef
namespace Go.Proofs.Ytijjfklcmgdchaa
open Go.RowKit Go.Shelf

theorem endAt_delim (s : ByteArray) (d : Int) (k : Nat) (h : k < s.size) (hc : ((s[k].toNat : Int) == d) = true) : endAt s.data.toList d k = (1, 1) := by
  unfold endAt; rw [bget s k h]; simp only [if_pos (eq_of_beq hc)]
theorem endAt_brk (s : ByteArray) (d : Int) (k : Nat) (h : k < s.size) (hc : ((s[k].toNat : Int) == d) = false) (hb : brk s.data.toList k ≠ 0) : endAt s.data.toList d k = (2, brk s.data.toList k) := by
  unfold endAt; rw [bget s k h]; simp only [if_neg (ne_of_beq_false hc), if_neg hb]
theorem endAt_no (s : ByteArray) (d : Int) (k : Nat) (h : k < s.size) (hc : ((s[k].toNat : Int) == d) = false) (hb : brk s.data.toList k = 0) : endAt s.data.toList d k = (0, 0) := by
  unfold endAt; rw [bget s k h]; simp only [if_neg (ne_of_beq_false hc), if_pos hb]
theorem endAt_out (s : ByteArray) (d : Int) (k : Nat) (h : s.size ≤ k) : endAt s.data.toList d k = (3, 0) := endAt_end _ d k (by rw [ba_size]; exact h)
theorem fault_quote (s : ByteArray) (k : Nat) (h : k < s.size) (hc : s[k] = 34) : faultAt s.data.toList k = 3 := by
  unfold faultAt; rw [bget s k h]; simp [hc]
theorem fault_return (s : ByteArray) (k : Nat) (h : k < s.size) (hc : s[k] = 13) : faultAt s.data.toList k = 6 := by
  unfold faultAt; rw [bget s k h]; simp [hc]
theorem fault_no (s : ByteArray) (k : Nat) (h : k < s.size) (hc : s[k] ≠ 34) (hd : s[k] ≠ 13) : faultAt s.data.toList k = 0 := by
  unfold faultAt; rw [bget s k h]; simp [hc, hd]
theorem ret_two {a b a' b' : Int} (h1 : a = a') (h2 : b = b') : Ending.returned (.tuple #[.int .i64 a, .int .i64 b]) = .returned (.tuple #[.int .i64 a', .int .i64 b']) := by rw [h1, h2]

set_option maxHeartbeats 1000000 in
theorem rends_any (s : ByteArray) (d : Int) (k : Nat) (w : World) (hs : s.size ≤ 1099511627776) (hk : k ≤ s.size) :
    Calls Try.prog 21 #[.string s, .int .i64 k, .int .u8 d] w fun e w' => e = .returned (.tuple #[.int .i64 ((endAt s.data.toList d k).1 : Int), .int .i64 ((k : Int) + ((endAt s.data.toList d k).2 : Int))]) ∧ w = w' := by
  by_cases h1 : s.size ≤ k
  · obtain rfl : k = s.size := by omega
    have H := Lib.hid (endAt_out s d _ h1)
    go_enter Try.func21, Try.ntmps21
    go_wp2_with fail
    go_ret2
    exact ⟨ret_two (by rw [H.out]; rfl) (by rw [H.out]; simp), rfl⟩
  have hlt : k < s.size := by omega
  clear h1
  cases hc : ((s[k].toNat : Int) == d) with
  | true =>
    have H := Lib.hid (endAt_delim s d k hlt hc)
    go_enter Try.func21, Try.ntmps21
    go_wp2_with fail
    go_ret2
    exact ⟨ret_two (by rw [H.out]; rfl) (by rw [H.out]; rfl), rfl⟩
  | false =>
    have C := Lib.hid (fun w => rbreak_any s (k : Int) w hs (by omega) (by omega))
    rw [brkI_nat] at C
    have hb2 := brk_lt s.data.toList k
    by_cases hb : brk s.data.toList k = 0
    · have H := Lib.hid (endAt_no s d k hlt hc hb)
      rw [hb] at C
      clear hb hb2
      go_enter Try.func21, Try.ntmps21
      go_wp2_with fail
      refine (C.out _).mono ?_; rintro e _ ⟨rfl, rfl⟩
      go_wp2_with fail
      go_ret2
      exact ⟨ret_two (by rw [H.out]; rfl) (by rw [H.out]; simp), rfl⟩
    · have H := Lib.hid (endAt_brk s d k hlt hc hb)
      generalize brk s.data.toList k = n at C H hb hb2
      have hn : 0 < (n : Int) := by omega
      go_enter Try.func21, Try.ntmps21
      go_wp2_with fail
      refine (C.out _).mono ?_; rintro e _ ⟨rfl, rfl⟩
      go_wp2_with fail
      go_ret2
      exact ⟨ret_two (by rw [H.out]; rfl) (by rw [H.out]), rfl⟩

def fieldV (x : List UInt8 × Int × Nat × Nat) : Value := .tuple #[.string ⟨x.1.toArray⟩, .int .i64 x.2.1, .int .i64 (x.2.2.1 : Int), .int .i64 (x.2.2.2 : Int)]
theorem ret_field {t : ByteArray} {n k e : Int} {x : List UInt8 × Int × Nat × Nat} (h1 : t.data.toList = x.1) (h2 : n = x.2.1) (h3 : k = (x.2.2.1 : Int)) (h4 : e = (x.2.2.2 : Int)) : Ending.returned (.tuple #[.string t, .int .i64 n, .int .i64 k, .int .i64 e]) = .returned (fieldV x) := by
  have : t = ⟨x.1.toArray⟩ := ba_eq (by rw [h1])
  rw [fieldV, this, h2, h3, h4]

theorem plain_stop (s : ByteArray) (d : Int) (a j : Nat) (haj : a ≤ j) (hj : j ≤ s.size) (hno : ∀ k, a ≤ k → k < j → stops s.data.toList d k = false) (hk : (endAt s.data.toList d j).1 ≠ 0) :
    plainOut s.data.toList d a = ((s.extract a j).data.toList, (j : Int) + ((endAt s.data.toList d j).2 : Int), (endAt s.data.toList d j).1, 0) := by
  have e := stopOf_eq s.data.toList d a j haj (by rw [ba_size]; exact hj) hno (by simp [stops, hk])
  unfold plainOut; rw [e, if_neg hk, ba_ext]
theorem plain_fault (s : ByteArray) (d : Int) (a j : Nat) (haj : a ≤ j) (hj : j ≤ s.size) (hno : ∀ k, a ≤ k → k < j → stops s.data.toList d k = false) (hk : (endAt s.data.toList d j).1 = 0) (hf : faultAt s.data.toList j ≠ 0) :
    plainOut s.data.toList d a = ([], (j : Int), 0, faultAt s.data.toList j) := by
  have e := stopOf_eq s.data.toList d a j haj (by rw [ba_size]; exact hj) hno (by simp [stops, hf])
  unfold plainOut; rw [e, if_pos hk]
theorem stops_next (l : List UInt8) (d : Int) (a k : Nat) (hno : ∀ j, a ≤ j → j < k → stops l d j = false) (h1 : (endAt l d k).1 = 0) (h2 : faultAt l k = 0) : ∀ j, a ≤ j → j < k + 1 → stops l d j = false := by
  intro j h3 h4
  by_cases e : j = k
  · subst e; simp [stops, h1, h2]
  · exact hno j h3 (by omega)

theorem field_place (l : List UInt8) (a d : Int) (h : a < 0 ∨ (l.length : Int) < a) : fieldOut l a d = ([], a, 0, 11) := by unfold fieldOut; rw [if_pos h]
theorem field_delim (l : List UInt8) (k : Nat) (d : Int) (h : k ≤ l.length) (hg : goodI d = false) : fieldOut l (k : Int) d = ([], (k : Int), 0, 2) := by
  unfold fieldOut; rw [if_neg (by omega), if_pos hg]
theorem field_quoted (s : ByteArray) (k : Nat) (d : Int) (h : k < s.size) (hg : goodI d = true) (hc : s[k] = 34) : fieldOut s.data.toList (k : Int) d = quotedOut s.data.toList d k := by
  have := ba_size s
  unfold fieldOut; rw [if_neg (by omega), if_neg (by simp [hg]), Int.toNat_natCast, if_pos (by rw [bget s k h, hc])]
theorem field_plain (s : ByteArray) (k : Nat) (d : Int) (h : k ≤ s.size) (hg : goodI d = true) (hc : ∀ hk : k < s.size, s[k] ≠ 34) : fieldOut s.data.toList (k : Int) d = plainOut s.data.toList d k := by
  have := ba_size s
  unfold fieldOut; rw [if_neg (by omega), if_neg (by simp [hg]), Int.toNat_natCast, if_neg ?_]
  by_cases hk : k < s.size
  · rw [bget s k hk]; simpa using hc hk
  · rw [List.getElem?_eq_none (by omega)]; simp

theorem quoted_err (l : List UInt8) (d : Int) (a : Nat) (h : (getL (l.drop a)).2.2 ≠ 0) : quotedOut l d a = ([], (a : Int), 0, (getL (l.drop a)).2.2) := by
  unfold quotedOut; rw [if_pos h]
theorem quoted_behind (l : List UInt8) (d : Int) (a n : Nat) (t : List UInt8) (h : getL (l.drop a) = (t, n, 0)) (hk : (endAt l d (a + n)).1 = 0) : quotedOut l d a = ([], ((a + n : Nat) : Int), 0, 5) := by
  unfold quotedOut; rw [h]; simp [hk]
theorem quoted_ok (l : List UInt8) (d : Int) (a n : Nat) (t : List UInt8) (h : getL (l.drop a) = (t, n, 0)) (hk : (endAt l d (a + n)).1 ≠ 0) : quotedOut l d a = (t, ((a + n : Nat) : Int) + ((endAt l d (a + n)).2 : Int), (endAt l d (a + n)).1, 0) := by
  unfold quotedOut; rw [h]; simp [hk]
theorem got_le (l : List UInt8) (a n : Nat) (t : List UInt8) (h : getL (l.drop a) = (t, n, 0)) (ha : a ≤ l.length) : a + n ≤ l.length := by
  obtain ⟨b, e, _, rfl⟩ := get_only _ _ _ h
  have := congrArg List.length e
  simp at this; omega
theorem ba_tail (s : ByteArray) (a : Nat) : (s.extract a s.size).data.toList = s.data.toList.drop a := by
  rw [ba_ext, List.take_of_length_le (by rw [ba_size]; exact Nat.le_refl _)]

theorem int_le {a b : Nat} (h : a ≤ b) : (a : Int) ≤ (b : Int) := by omega

set_option maxHeartbeats 2000000 in
theorem rfield_last (s : ByteArray) (d : Int) (w : World) (hs : s.size ≤ 1099511627776) (hg : goodI d = true) :
    Calls Try.prog 9 #[.string s, .int .i64 s.size, .int .u8 d] w fun e w' => e = .returned (fieldV (plainOut s.data.toList d s.size)) ∧ w = w' := by
  have G := Lib.hid (fun w => rgood_any d w)
  rw [hg] at G
  have E := Lib.hid (endAt_out s d _ (Nat.le_refl _))
  have HP := Lib.hid (plain_stop s d s.size s.size (Nat.le_refl _) (Nat.le_refl _) (fun k h1 h2 => by omega) (by rw [E.out]; decide))
  have C := Lib.hid (fun w => rends_any s d s.size w hs (Nat.le_refl _))
  rw [E.out] at C
  rw [E.out] at HP
  go_enter Try.func9, Try.ntmps9
  go_wp2_with fail
  refine (G.out _).mono ?_; rintro e _ ⟨rfl, rfl⟩
  go_wp2_with fail
  go_loop [15] (fun i => i = .int .i64 s.size) (fun _ => 0)
  case atStart => rfl
  case round =>
    subst hrel
    go_wp2_with fail
    refine (C.out _).mono ?_; rintro e _ ⟨rfl, rfl⟩
    go_wp2_with fail
    refine bodyPost_ret (results_tmp4 rfl _ _ _) rfl ?_
    exact ⟨ret_field (by rw [HP.out]; simp) (by rw [HP.out]; simp) (by rw [HP.out]; rfl) (by rw [HP.out]; rfl), rfl⟩

set_option maxHeartbeats 4000000 in
theorem rfield_loop (s : ByteArray) (d : Int) (a : Nat) (w : World) (hs : s.size ≤ 1099511627776) (ha : a < s.size) (hg : goodI d = true) (hc : s[a] ≠ 34) :
    Calls Try.prog 9 #[.string s, .int .i64 a, .int .u8 d] w fun e w' => e = .returned (fieldV (plainOut s.data.toList d a)) ∧ w = w' := by
  have G := Lib.hid (fun w => rgood_any d w)
  rw [hg] at G
  have q0 := (byte_no _ hc).1
  clear hc
  go_enter Try.func9, Try.ntmps9
  go_wp2_with fail
  refine (G.out _).mono ?_; rintro e _ ⟨rfl, rfl⟩
  go_wp2_with fail
  go_loop [15] (fun i => ∃ k : Nat, a ≤ k ∧ k ≤ s.size ∧ i = .int .i64 k ∧ Hid (∀ j, a ≤ j → j < k → stops s.data.toList d j = false)) (fun i => s.size - (intOf i).toNat)
  case atStart => exact ⟨a, Nat.le_refl _, by omega, rfl, Lib.hid (fun j h1 h2 => by omega)⟩
  case round =>
    obtain ⟨k, hak, hk, rfl, HS⟩ := hrel
    have hak' : (a : Int) ≤ (k : Int) := by omega
    have C := Lib.hid (fun w => rends_any s d k w hs hk)
    have h2 := endAt_le2 s.data.toList d k
    by_cases h0 : (endAt s.data.toList d k).1 = 0
    · have E : Hid ((endAt s.data.toList d k).1 = 0) := Lib.hid h0
      rw [h0] at C
      have hlt : k < s.size := by
        by_cases h : k < s.size
        · exact h
        · rw [endAt_out s d k (by omega)] at h0; simp at h0
      clear h0
      generalize (endAt s.data.toList d k).2 = m at C h2
      by_cases hq : s[k] = 34
      · have q1 := (byte_yes _ hq).1
        have F := fault_quote s k hlt hq
        have HP := Lib.hid (plain_fault s d a k hak (by omega) HS.out E.out (by rw [F]; decide))
        rw [F] at HP
        clear hq F
        go_wp2_with fail
        refine (C.out _).mono ?_; rintro e _ ⟨rfl, rfl⟩
        go_wp2_with fail
        refine bodyPost_ret (results_tmp4 rfl _ _ _) rfl ?_
        exact ⟨ret_field (by rw [HP.out]) (by rw [HP.out]) (by rw [HP.out]; rfl) (by rw [HP.out]; rfl), rfl⟩
      · have q1 := (byte_no _ hq).1
        by_cases hr : s[k] = 13
        · have q2 := b13y _ hr
          have F := fault_return s k hlt hr
          have HP := Lib.hid (plain_fault s d a k hak (by omega) HS.out E.out (by rw [F]; decide))
          rw [F] at HP
          clear hq hr F
          go_wp2_with fail
          refine (C.out _).mono ?_; rintro e _ ⟨rfl, rfl⟩
          go_wp2_with fail
          refine bodyPost_ret (results_tmp4 rfl _ _ _) rfl ?_
          exact ⟨ret_field (by rw [HP.out]) (by rw [HP.out]) (by rw [HP.out]; rfl) (by rw [HP.out]; rfl), rfl⟩
        · have q2 := b13n _ hr
          have HN := Lib.hid (stops_next s.data.toList d a k HS.out E.out (fault_no s k hlt hq hr))
          clear hq hr
          go_wp2_with fail
          refine (C.out _).mono ?_; rintro e _ ⟨rfl, rfl⟩
          go_wp2_with fail
          go_round
          case rel => exact ⟨k + 1, by omega, by omega, by go_num, HN⟩
          case measure => simp [intOf]; omega
    · have HP := Lib.hid (plain_stop s d a k hak hk HS.out h0)
      generalize endAt s.data.toList d k = p at C HP h0 h2
      obtain ⟨x, y⟩ := p
      simp only at C HP h0 h2
      have hx : 0 < (x : Int) := by omega
      have hk' : (k : Int) ≤ (s.size : Int) := by omega
      go_wp2_with fail
      refine (C.out _).mono ?_; rintro e _ ⟨rfl, rfl⟩
      go_wp2_with fail
      refine bodyPost_ret (results_tmp4 rfl _ _ _) rfl ?_
      exact ⟨ret_field (by rw [HP.out]) (by rw [HP.out]) (by rw [HP.out]) (by rw [HP.out]; rfl), rfl⟩

set_option maxHeartbeats 4000000 in
theorem rfield_any (s : ByteArray) (a d : Int) (w : World) (hs : s.size ≤ 1099511627776) (ha : -9223372036854775808 ≤ a) (ha' : a ≤ 9223372036854775807) :
    Calls Try.prog 9 #[.string s, .int .i64 a, .int .u8 d] w fun e w' => e = .returned (fieldV (fieldOut s.data.toList a d)) ∧ w = w' := by
  by_cases h0 : a < 0
  · have H := Lib.hid (field_place s.data.toList a d (.inl h0))
    go_enter Try.func9, Try.ntmps9
    go_wp2_with fail
    refine bodyPost_ret (results_tmp4 rfl _ _ _) rfl ?_
    exact ⟨ret_field (by rw [H.out]) (by rw [H.out]) (by rw [H.out]; rfl) (by rw [H.out]; rfl), rfl⟩
  obtain ⟨k, rfl⟩ : ∃ k : Nat, a = (k : Int) := ⟨a.toNat, by omega⟩
  by_cases h1 : s.size < k
  · have H := Lib.hid (field_place s.data.toList (k : Int) d (.inr (by rw [ba_size]; omega)))
    go_enter Try.func9, Try.ntmps9
    go_wp2_with fail
    refine bodyPost_ret (results_tmp4 rfl _ _ _) rfl ?_
    exact ⟨ret_field (by rw [H.out]) (by rw [H.out]) (by rw [H.out]; rfl) (by rw [H.out]; rfl), rfl⟩
  have hk : k ≤ s.size := by omega
  clear h0 h1 ha ha'
  cases hg : goodI d with
  | false =>
    have H := Lib.hid (field_delim s.data.toList k d (by rw [ba_size]; exact hk) hg)
    have G := Lib.hid (fun w => rgood_any d w)
    rw [hg] at G
    go_enter Try.func9, Try.ntmps9
    go_wp2_with fail
    refine (G.out _).mono ?_; rintro e _ ⟨rfl, rfl⟩
    go_wp2_with fail
    refine bodyPost_ret (results_tmp4 rfl _ _ _) rfl ?_
    exact ⟨ret_field (by rw [H.out]) (by rw [H.out]) (by rw [H.out]; rfl) (by rw [H.out]; rfl), rfl⟩
  | true =>
    by_cases hq : ∃ hk : k < s.size, s[k] = 34
    · obtain ⟨hlt, hq⟩ := hq
      have q1 := (byte_yes _ hq).1
      rw [field_quoted s k d hlt hg hq]
      have G := Lib.hid (fun w => rgood_any d w)
      rw [hg] at G
      have A := Lib.hid (fun w => rget_any (s.extract k s.size) w (by simp; omega))
      rw [ba_tail] at A
      have HB := Lib.hid (fun t n h => quoted_behind s.data.toList d k n t h)
      have HO := Lib.hid (fun t n h => quoted_ok s.data.toList d k n t h)
      have HE := Lib.hid (quoted_err s.data.toList d k)
      have HL := Lib.hid (fun t n h => got_le s.data.toList k n t h (by rw [ba_size]; exact hk))
      generalize getL (s.data.toList.drop k) = g at A HB HO HE HL
      obtain ⟨t, n, er⟩ := g
      clear hq
      by_cases he : er = 0
      · subst he
        have hn := HL.out t n rfl
        rw [ba_size] at hn
        have C := Lib.hid (fun w => rends_any s d (k + n) w hs hn)
        have h2 := endAt_le2 s.data.toList d (k + n)
        by_cases h0 : (endAt s.data.toList d (k + n)).1 = 0
        · have HP := Lib.hid (HB.out t n rfl h0)
          clear HB HO HE HL
          rw [h0] at C
          clear h0
          generalize (endAt s.data.toList d (k + n)).2 = m at C h2
          go_enter Try.func9, Try.ntmps9
          go_wp2_with fail
          refine (G.out _).mono ?_; rintro e _ ⟨rfl, rfl⟩
          go_wp2_with fail
          refine (A.out _).mono ?_; rintro e _ ⟨rfl, rfl⟩
          simp only [gotV]
          go_wp2_with fail
          refine (C.out _).mono ?_; rintro e _ ⟨rfl, rfl⟩
          go_wp2_with fail
          refine bodyPost_ret (results_tmp4 rfl _ _ _) rfl ?_
          exact ⟨ret_field (by rw [HP.out]) (by rw [HP.out]; simp) (by rw [HP.out]; rfl) (by rw [HP.out]; rfl), rfl⟩
        · have HP := Lib.hid (HO.out t n rfl h0)
          clear HB HO HE HL
          generalize endAt s.data.toList d (k + n) = p at C HP h0 h2
          obtain ⟨x, y⟩ := p
          simp only at C HP h0 h2
          have hx : ((x : Int) == 0) = false := by simpa using h0
          go_enter Try.func9, Try.ntmps9
          go_wp2_with fail
          refine (G.out _).mono ?_; rintro e _ ⟨rfl, rfl⟩
          go_wp2_with fail
          refine (A.out _).mono ?_; rintro e _ ⟨rfl, rfl⟩
          simp only [gotV]
          go_wp2_with fail
          refine (C.out _).mono ?_; rintro e _ ⟨rfl, rfl⟩
          go_wp2_with fail
          refine bodyPost_ret (results_tmp4 rfl _ _ _) rfl ?_
          exact ⟨ret_field (by rw [HP.out]) (by rw [HP.out]; simp) (by rw [HP.out]) (by rw [HP.out]; rfl), rfl⟩
      · have HP := Lib.hid (HE.out he)
        simp only at HP
        have hx : ((er : Int) != 0) = true := by simpa using he
        clear HB HO HE HL
        go_enter Try.func9, Try.ntmps9
        go_wp2_with fail
        refine (G.out _).mono ?_; rintro e _ ⟨rfl, rfl⟩
        go_wp2_with fail
        refine (A.out _).mono ?_; rintro e _ ⟨rfl, rfl⟩
        simp only [gotV]
        go_wp2_with fail
        refine bodyPost_ret (results_tmp4 rfl _ _ _) rfl ?_
        exact ⟨ret_field (by rw [HP.out]) (by rw [HP.out]) (by rw [HP.out]; rfl) (by rw [HP.out]), rfl⟩
    · rw [field_plain s k d hk hg (fun h1 h2 => hq ⟨h1, h2⟩)]
      by_cases hlt : k < s.size
      · exact rfield_loop s d k w hs hlt hg (fun h => hq ⟨hlt, h⟩)
      · obtain rfl : k = s.size := by omega
        exact rfield_last s d w hs hg
end Go.Proofs.Ytijjfklcmgdchaa
