/-
  Plain mathematics on lists of bytes, with no program in it: cells in quotes, and what stands in quotes.
  Conditions: none.
-/
namespace Go.Proofs.Ytacclgfpmkhodaa

/-- may the byte stand between fields? -/
def goodI (d : Int) : Bool := !(d == 34 || d == 13 || d == 10)
/-- are no quotes needed? -/
def plainB (l : List UInt8) (d : Int) : Bool := l.all fun c => goodI (c.toNat : Int) && (c.toNat : Int) != d
/-- each quote twice -/
def twice : List UInt8 → List UInt8
  | [] => []
  | c :: r => if c = 34 then 34 :: 34 :: twice r else c :: twice r
def quoted (l : List UInt8) : List UInt8 := 34 :: (twice l ++ [34])
def putL (l : List UInt8) (d : Int) : List UInt8 := if plainB l d = true then l else quoted l
/-- how many quotes there are -/
def cnt (l : List UInt8) : Nat := (l.filter fun c => c == 34).length
/-- what stands up to the last quote, and how many bytes that was written with -/
def scan : List UInt8 → Option (List UInt8 × Nat)
  | [] => none
  | [c] => if c = 34 then some ([], 1) else none
  | c :: c2 :: r =>
    if c = 34 then
      if c2 = 34 then (scan r).map fun x => (34 :: x.1, x.2 + 2) else some ([], 1)
    else (scan (c2 :: r)).map fun x => (c :: x.1, x.2 + 1)
/-- the answer of reading what stands in quotes: text, count, error number -/
def getL : List UInt8 → List UInt8 × Nat × Nat
  | [] => ([], 0, 3)
  | c :: r => if c = 34 then (match scan r with | some x => (x.1, x.2 + 1, 0) | none => ([], 0, 4)) else ([], 0, 3)

theorem twice_append (a b : List UInt8) : twice (a ++ b) = twice a ++ twice b := by
  induction a with
  | nil => rfl
  | cons c r ih => simp only [List.cons_append, twice, ih]; split <;> simp
theorem cnt_append (a b : List UInt8) : cnt (a ++ b) = cnt a + cnt b := by simp [cnt]
theorem cnt_le (l : List UInt8) : cnt l ≤ l.length := List.length_filter_le _ _
theorem twice_length (l : List UInt8) : (twice l).length = l.length + cnt l := by
  induction l with
  | nil => rfl
  | cons c r ih =>
    have e : cnt (c :: r) = (if c = 34 then 1 else 0) + cnt r := by
      by_cases h : c = 34 <;> simp [cnt, h, Nat.add_comm]
    rw [e]; simp only [twice]
    split <;> simp_all <;> omega
theorem quoted_length (l : List UInt8) : (quoted l).length = l.length + cnt l + 2 := by
  simp [quoted, twice_length]
theorem plainB_append (a b : List UInt8) (d : Int) : plainB (a ++ b) d = (plainB a d && plainB b d) := by simp [plainB]

/-! ### what is scanned -/
theorem scan_quote_end : scan [34] = some ([], 1) := by simp [scan]
theorem scan_close (c2 : UInt8) (r : List UInt8) (h : c2 ≠ 34) : scan (34 :: c2 :: r) = some ([], 1) := by simp [scan, h]
theorem scan_two (r : List UInt8) : scan (34 :: 34 :: r) = (scan r).map fun x => (34 :: x.1, x.2 + 2) := by simp [scan]
theorem scan_other (c : UInt8) (r : List UInt8) (h : c ≠ 34) : scan (c :: r) = (scan r).map fun x => (c :: x.1, x.2 + 1) := by
  cases r with
  | nil => simp [scan, h]
  | cons c2 r => simp [scan, h]
/-- whether a text begins with no quote -/
def noQuote : List UInt8 → Bool
  | [] => true
  | c :: _ => c != 34
theorem scan_end (b : List UInt8) (h : noQuote b = true) : scan (34 :: b) = some ([], 1) := by
  cases b with
  | nil => exact scan_quote_end
  | cons c r => exact scan_close c r (by simpa [noQuote] using h)
theorem scan_twice (l b : List UInt8) (h : noQuote b = true) : scan (twice l ++ 34 :: b) = some (l, (twice l).length + 1) := by
  induction l with
  | nil => simpa [twice] using scan_end b h
  | cons c r ih =>
    by_cases hc : c = 34
    · subst hc; simp [twice, scan_two, ih]
    · simp [twice, hc, scan_other, ih]
theorem get_quoted (l b : List UInt8) (h : noQuote b = true) : getL (quoted l ++ b) = (l, (quoted l).length, 0) := by
  have e : quoted l ++ b = 34 :: (twice l ++ 34 :: b) := by simp [quoted]
  rw [e]; simp [getL, scan_twice l b h, quoted]
theorem scan_only (l : List UInt8) : ∀ t n, scan l = some (t, n) → ∃ b, l = twice t ++ 34 :: b ∧ noQuote b = true ∧ n = (twice t).length + 1 := by
  induction l using scan.induct with
  | case1 => intro t n h; simp [scan] at h
  | case2 => intro t n h; simp [scan] at h; obtain ⟨rfl, rfl⟩ := h; exact ⟨[], by simp [twice], rfl, by simp [twice]⟩
  | case3 c hc => intro t n h; simp [scan, hc] at h
  | case4 r ih =>
    intro t n h
    rw [scan_two] at h
    cases hs : scan r with
    | none => simp [hs] at h
    | some x =>
      simp [hs] at h; obtain ⟨rfl, rfl⟩ := h
      obtain ⟨b, hb, hq, hn⟩ := ih x.1 x.2 hs
      exact ⟨b, by simp [twice, ← hb], hq, by simp [twice]; omega⟩
  | case5 c2 r h2 =>
    intro t n h
    rw [scan_close c2 r h2] at h; simp at h; obtain ⟨rfl, rfl⟩ := h
    exact ⟨c2 :: r, by simp [twice], by simp [noQuote, h2], by simp [twice]⟩
  | case6 c c2 r hc ih =>
    intro t n h
    rw [scan_other c _ hc] at h
    cases hs : scan (c2 :: r) with
    | none => simp [hs] at h
    | some x =>
      simp [hs] at h; obtain ⟨rfl, rfl⟩ := h
      obtain ⟨b, hb, hq, hn⟩ := ih x.1 x.2 hs
      exact ⟨b, by simp [twice, hc, ← hb], hq, by simp [twice, hc]; omega⟩
/-- what is got was quoted just so -/
theorem get_only (l t : List UInt8) (n : Nat) (h : getL l = (t, n, 0)) : ∃ b, l = quoted t ++ b ∧ noQuote b = true ∧ n = (quoted t).length := by
  cases l with
  | nil => simp [getL] at h
  | cons c r =>
    by_cases hc : c = 34
    · subst hc
      cases hs : scan r with
      | none => simp [getL, hs] at h
      | some x =>
        simp [getL, hs] at h; obtain ⟨rfl, rfl⟩ := h
        obtain ⟨b, hb, hq, hn⟩ := scan_only r x.1 x.2 hs
        exact ⟨b, by simp [quoted, hb], hq, by simp [quoted]; omega⟩
    · simp [getL, hc] at h
theorem get_err (l t : List UInt8) (n e : Nat) (h : getL l = (t, n, e)) (he : e ≠ 0) : t = [] ∧ n = 0 := by
  cases l with
  | nil => simp [getL] at h; exact ⟨h.1, h.2.1.symm⟩
  | cons c r =>
    by_cases hc : c = 34
    · cases hs : scan r with
      | none => simp [getL, hs, hc] at h; exact ⟨h.1, h.2.1.symm⟩
      | some x => simp [getL, hs, hc] at h; exact absurd h.2.2.symm he
    · simp [getL, hc] at h; exact ⟨h.1, h.2.1.symm⟩
theorem quoted_inj {a b : List UInt8} (h : quoted a = quoted b) : a = b := by
  have ha := get_quoted a [] rfl; have hb := get_quoted b [] rfl
  rw [h] at ha; rw [hb] at ha; simp at ha; exact ha.symm
theorem quoted_not_plain (l : List UInt8) (d : Int) : plainB (quoted l) d = false := by
  simp [plainB, quoted, goodI]
theorem put_inj {a b : List UInt8} (d : Int) (h : putL a d = putL b d) : a = b := by
  unfold putL at h
  split at h <;> split at h
  · exact h
  · rename_i ha _; rw [h, quoted_not_plain] at ha; cases ha
  · rename_i hb; rw [← h, quoted_not_plain] at hb; cases hb
  · exact quoted_inj h
theorem put_length_eq (l : List UInt8) (d : Int) : ((putL l d).length = l.length) ↔ plainB l d = true := by
  unfold putL; split
  · simp_all
  · simp_all [quoted_length]; omega

/-! ### what is halved -/
/-- a step of halving: what is out, and whether the last byte was the first of two quotes -/
def haStep (x : List UInt8 × Bool) (c : UInt8) : List UInt8 × Bool := if c = 34 ∧ x.2 = true then (x.1, false) else (x.1 ++ [c], c == 34)
def haTo (l : List UInt8) : List UInt8 × Bool := l.foldl haStep ([], false)
theorem haTo_snoc (l : List UInt8) (c : UInt8) : haTo (l ++ [c]) = haStep (haTo l) c := by simp [haTo]
theorem ha_twice (l o : List UInt8) : (twice l).foldl haStep (o, false) = (o ++ l, false) := by
  induction l generalizing o with
  | nil => simp [twice]
  | cons c r ih =>
    by_cases hc : c = 34
    · subst hc; simp only [twice, if_true, List.foldl_cons]
      have : haStep (haStep (o, false) 34) 34 = (o ++ [34], false) := by simp [haStep]
      rw [this, ih]; simp
    · simp only [twice, hc, if_false, List.foldl_cons]
      have : haStep (o, false) c = (o ++ [c], false) := by simp [haStep, hc]
      rw [this, ih]; simp
theorem haTo_twice (l : List UInt8) : haTo (twice l) = (l, false) := by simpa [haTo] using ha_twice l []
theorem haStep_length (x : List UInt8 × Bool) (c : UInt8) : (haStep x c).1.length ≤ x.1.length + 1 := by
  unfold haStep; split <;> simp
theorem haTo_length (l : List UInt8) : (haTo l).1.length ≤ l.length := by
  have : ∀ (l : List UInt8) x, (l.foldl haStep x).1.length ≤ x.1.length + l.length := by
    intro l; induction l with
    | nil => intro x; simp
    | cons c r ih => intro x; have h1 := ih (haStep x c); have h2 := haStep_length x c; simp only [List.foldl_cons, List.length_cons]; omega
  have := this l ([], false); simpa [haTo] using this

/-! ### where the last quote stands -/
/-- the place of the quote that ends what is scanned from place k on; 0, if none does -/
def lastAt (l : List UInt8) (k : Nat) : Nat := match scan (l.drop k) with | some x => k + x.2 - 1 | none => 0
theorem scan_pos {l t : List UInt8} {n : Nat} (h : scan l = some (t, n)) : 1 ≤ n ∧ n ≤ l.length := by
  obtain ⟨b, rfl, _, rfl⟩ := scan_only l t n h; simp
theorem lastAt_end (l : List UInt8) (k : Nat) (h : l.length ≤ k) : lastAt l k = 0 := by
  simp [lastAt, List.drop_of_length_le h, scan]
theorem drop_at (l : List UInt8) (k : Nat) (h : k < l.length) : l.drop k = l[k] :: l.drop (k + 1) := List.drop_eq_getElem_cons h
theorem lastAt_other (l : List UInt8) (k : Nat) (h : k < l.length) (hc : l[k] ≠ 34) : lastAt l k = lastAt l (k + 1) := by
  unfold lastAt; rw [drop_at l k h, scan_other _ _ hc]
  cases hs : scan (l.drop (k + 1)) with
  | none => rfl
  | some x => simp only [Option.map_some]; omega
theorem lastAt_two (l : List UInt8) (k : Nat) (h : k + 1 < l.length) (hc : l[k] = 34) (hd : l[k + 1] = 34) : lastAt l k = lastAt l (k + 2) := by
  unfold lastAt; rw [drop_at l k (by omega), drop_at l (k + 1) h, hc, hd, scan_two]
  cases hs : scan (l.drop (k + 2)) with
  | none => rfl
  | some x => simp; omega
theorem lastAt_last (l : List UInt8) (k : Nat) (h : k + 1 = l.length) (hc : l[k] = 34) : lastAt l k = k := by
  unfold lastAt; rw [drop_at l k (by omega), hc, List.drop_of_length_le (by omega), scan_quote_end]; simp
theorem lastAt_close (l : List UInt8) (k : Nat) (h : k + 1 < l.length) (hc : l[k] = 34) (hd : l[k + 1] ≠ 34) : lastAt l k = k := by
  unfold lastAt; rw [drop_at l k (by omega), drop_at l (k + 1) h, hc, scan_close _ _ hd]; simp
theorem lastAt_one (r : List UInt8) : lastAt (34 :: r) 1 = match scan r with | some x => x.2 | none => 0 := by
  unfold lastAt; simp only [List.drop_succ_cons, List.drop_zero]; cases scan r with
  | none => rfl
  | some x => simp
/-- Get by way of the last quote's place -/
theorem get_by_last (r : List UInt8) : getL (34 :: r) = if lastAt (34 :: r) 1 = 0 then ([], 0, 4) else ((haTo (r.take (lastAt (34 :: r) 1 - 1))).1, lastAt (34 :: r) 1 + 1, 0) := by
  rw [lastAt_one]
  cases hs : scan r with
  | none => simp [getL, hs]
  | some x =>
    obtain ⟨b, hb, _, hn⟩ := scan_only r x.1 x.2 hs
    have h0 : x.2 ≠ 0 := by omega
    have ht : r.take (x.2 - 1) = twice x.1 := by rw [hb, hn]; simp
    simp only [getL, hs, if_true, h0, if_false, ht, haTo_twice]
theorem lastAt_le (l : List UInt8) (k : Nat) : lastAt l k < l.length ∨ lastAt l k = 0 := by
  unfold lastAt
  cases hs : scan (l.drop k) with
  | none => exact .inr rfl
  | some x => have := scan_pos hs; simp at this; left; simp; omega
end Go.Proofs.Ytacclgfpmkhodaa
