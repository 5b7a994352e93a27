/-
  Mathematics of records that are written and read back.
  Conditions: none.
-/
import Derived.Test.YtacclgfpmkhodaaCsvPrint
namespace Go.Proofs.Ytacclgfpmkhodaa

/-- cells that may stand in a record -/
def fine (r : List (List UInt8)) : Prop := r ≠ [] ∧ r.length ≤ 128 ∧ ∀ c ∈ r, c.length ≤ 4096
theorem cellOut_fits (l : List UInt8) (a : Nat) (d : Int) (t : List UInt8) (n : Int) (k : Nat) (h : fieldOut l (a : Int) d = (t, n, k, 0)) (ht : t.length ≤ 4096) : cellOut l a d true = (t, n, k, 0) := by
  unfold cellOut; rw [if_neg (by simp), h, if_neg (by simp only; omega)]
theorem fits_true (done : Recs) (row : List (List UInt8)) (h1 : done.length < 2048) (h2 : row.length < 128) : fitsB done row = true := by simp [fitsB, h1, h2]

/-- a record is read, its cells written one behind the other, what ends it behind them -/
theorem read_rec (d : UInt8) (hd : goodI (d.toNat : Int) = true) (T : List UInt8) (k m : Nat) (hT : endAt T (d.toNat : Int) 0 = (k, m)) (hk : k ≠ 0) (hk1 : k ≠ 1) (hT0 : ∀ b, T[0]? = some b → b ≠ 34) (done : Recs) (hdone : done.length < 2048) (l : List UInt8) (R : Recs × Int × Nat) :
    ∀ (cs : List (List UInt8)) (A c : List UInt8) (row : List (List UInt8)) (f : Nat), l = A ++ (recL d (c :: cs) ++ T) → row.length + (c :: cs).length ≤ 128 → (∀ x ∈ c :: cs, x.length ≤ 4096) → (row ≠ [] ∨ A.length < l.length) →
      enough l A.length row f → R = readL l (d.toNat : Int) f A.length done row →
      ∃ f', enough l (A.length + (recL d (c :: cs)).length + m) [] f' ∧ R = readL l (d.toNat : Int) f' (A.length + (recL d (c :: cs)).length + m) (done ++ [row ++ c :: cs]) [] := by
  intro cs
  induction cs with
  | nil =>
    intro A c row f hl hn hc hr hf hR
    have hrec : recL d [c] = putL c (d.toNat : Int) := by simp [recL, restL]
    rw [hrec] at hl ⊢
    have h := read_cell A c T (d.toNat : Int) hd (by rw [hT]; exact hk) hT0
    rw [hT, ← hl] at h
    have hcell := cellOut_fits l A.length _ _ _ _ h (hc c (by simp))
    rw [← fits_true done row hdone (by simp at hn; omega)] at hcell
    obtain ⟨f', g1, g2⟩ := read_next l _ f A.length done row hf hr _ _ k hk1 hcell
    have e : ((((A.length + (putL c (d.toNat : Int)).length : Nat) : Int) + ((m : Nat) : Int))).toNat = A.length + (putL c (d.toNat : Int)).length + m := by omega
    rw [e] at g1 g2
    exact ⟨f', g1, by rw [hR, g2]⟩
  | cons c2 cs ih =>
    intro A c row f hl hn hc hr hf hR
    have hrec : recL d (c :: c2 :: cs) = putL c (d.toNat : Int) ++ d :: recL d (c2 :: cs) := by simp [recL, restL]
    rw [hrec] at hl ⊢
    have hl2 : l = A ++ (putL c (d.toNat : Int) ++ (d :: (recL d (c2 :: cs) ++ T))) := by rw [hl]; simp
    have h := read_cell A c (d :: (recL d (c2 :: cs) ++ T)) (d.toNat : Int) hd (by rw [delim_end]; simp) (fun b hb => by
      simp at hb; subst hb
      intro e; exact (good_ne _ hd).1 (by rw [e]; rfl))
    rw [delim_end, ← hl2] at h
    have hcell := cellOut_fits l A.length _ _ _ _ h (hc c (by simp))
    rw [← fits_true done row hdone (by simp at hn; omega)] at hcell
    obtain ⟨f', g1, g2⟩ := read_more l _ f A.length done row hf hr _ _ hcell
    have e : ((((A.length + (putL c (d.toNat : Int)).length : Nat) : Int) + ((1 : Nat) : Int))).toNat = (A ++ putL c (d.toNat : Int) ++ [d]).length := by simp; omega
    rw [e] at g1 g2
    obtain ⟨f'', k1, k2⟩ := ih (A ++ putL c (d.toNat : Int) ++ [d]) c2 (row ++ [c]) f' (by rw [hl2]; simp) (by simp at hn ⊢; omega) (fun x hx => hc x (List.mem_cons_of_mem _ hx)) (.inl (by simp)) g1 (by rw [hR, g2])
    refine ⟨f'', ?_, ?_⟩
    · have : A.length + (putL c (d.toNat : Int) ++ d :: recL d (c2 :: cs)).length + m = (A ++ putL c (d.toNat : Int) ++ [d]).length + (recL d (c2 :: cs)).length + m := by simp; omega
      rw [this]; exact k1
    · have : A.length + (putL c (d.toNat : Int) ++ d :: recL d (c2 :: cs)).length + m = (A ++ putL c (d.toNat : Int) ++ [d]).length + (recL d (c2 :: cs)).length + m := by simp; omega
      rw [this, k2]; simp
/-- records are read, each with its break -/
theorem read_text (d : UInt8) (hd : goodI (d.toNat : Int) = true) (crlf : Bool) (X l : List UInt8) (R : Recs × Int × Nat) :
    ∀ (rs : Recs) (A : List UInt8) (done : Recs) (f : Nat), l = A ++ (textL rs d crlf ++ X) → done.length + rs.length ≤ 2048 → (∀ r ∈ rs, fine r) → enough l A.length [] f → R = readL l (d.toNat : Int) f A.length done [] →
      ∃ f', enough l (A ++ textL rs d crlf).length [] f' ∧ R = readL l (d.toNat : Int) f' (A ++ textL rs d crlf).length (done ++ rs) [] := by
  intro rs
  induction rs with
  | nil => intro A done f hl hn hr hf hR; exact ⟨f, by simpa [textL] using hf, by simpa [textL] using hR⟩
  | cons r rs ih =>
    intro A done f hl hn hr hf hR
    obtain ⟨h1, h2, h3⟩ := hr r (by simp)
    have ht : textL (r :: rs) d crlf = recL d r ++ brkL crlf ++ textL rs d crlf := by simp [textL, writeL]
    have hl2 : l = A ++ (recL d r ++ (brkL crlf ++ (textL rs d crlf ++ X))) := by rw [hl, ht]; simp
    have hb : 0 < (brkL crlf).length := by cases crlf <;> decide
    cases r with
    | nil => exact absurd rfl h1
    | cons c cs =>
      obtain ⟨f', g1, g2⟩ := read_rec d hd (brkL crlf ++ (textL rs d crlf ++ X)) 2 (brkL crlf).length (brkL_end crlf _ _ hd) (by decide) (by decide) (brkL_first crlf _) done (by simp at hn; omega) l R cs A c [] f hl2 (by simpa using h2) h3 (.inr (by rw [hl2]; simp; omega)) hf hR
      have e : A.length + (recL d (c :: cs)).length + (brkL crlf).length = (A ++ (recL d (c :: cs) ++ brkL crlf)).length := by simp; omega
      rw [e] at g1 g2
      obtain ⟨f'', k1, k2⟩ := ih (A ++ (recL d (c :: cs) ++ brkL crlf)) (done ++ [[] ++ c :: cs]) f' (by rw [hl2]; simp) (by simp at hn ⊢; omega) (fun r hr' => hr r (List.mem_cons_of_mem _ hr')) g1 g2
      refine ⟨f'', ?_, ?_⟩
      · rw [ht]; simpa using k1
      · rw [ht, k2]; simp
theorem parse_ok (l : List UInt8) (d : UInt8) (hd : goodI (d.toNat : Int) = true) (hl : l.length ≤ 4194304) : parseL l (d.toNat : Int) = readL l (d.toNat : Int) (2 * l.length + 1) 0 [] [] := by
  unfold parseL; rw [if_neg (by simp [hd]), if_neg (by omega)]
theorem start_enough (l : List UInt8) : enough l 0 [] (2 * l.length + 1) := by unfold enough; simp
/-- two texts that are printed, one behind the other -/
theorem parse_two (d : UInt8) (hd : goodI (d.toNat : Int) = true) (x y : Bool) (rs ss : Recs) (hn : rs.length + ss.length ≤ 2048) (hr : ∀ r ∈ rs, fine r) (hs : ∀ r ∈ ss, fine r) (hl : (textL rs d x ++ textL ss d y).length ≤ 4194304) :
    parseL (textL rs d x ++ textL ss d y) (d.toNat : Int) = (rs ++ ss, 0, 0) := by
  rw [parse_ok _ d hd hl]
  obtain ⟨f, h1, h2⟩ := read_text d hd x (textL ss d y) (textL rs d x ++ textL ss d y) _ rs [] [] _ (by simp) (by simp; omega) hr (start_enough _) rfl
  obtain ⟨f', h3, h4⟩ := read_text d hd y [] (textL rs d x ++ textL ss d y) _ ss ([] ++ textL rs d x) ([] ++ rs) f (by simp) (by simp; omega) hs h1 h2
  have h2' := h2.trans (h2.symm.trans h4)
  simp only [List.length_nil] at h2'
  rw [h2', read_stop _ _ _ _ _ (by simp)]; simp
theorem parse_text (d : UInt8) (hd : goodI (d.toNat : Int) = true) (x : Bool) (rs : Recs) (hn : rs.length ≤ 2048) (hr : ∀ r ∈ rs, fine r) (hl : (textL rs d x).length ≤ 4194304) : parseL (textL rs d x) (d.toNat : Int) = (rs, 0, 0) := by
  have := parse_two d hd x x rs [] (by simpa using hn) hr (by simp) (by simpa [textL] using hl)
  simpa [textL] using this
/-- .. without the last break -/
theorem parse_short (d : UInt8) (hd : goodI (d.toNat : Int) = true) (x : Bool) (rs : Recs) (r : List (List UInt8)) (hn : rs.length + 1 ≤ 2048) (hr : ∀ r ∈ rs, fine r) (hr' : fine r) (hl : (textL rs d x ++ recL d r).length ≤ 4194304) :
    parseL (textL rs d x ++ recL d r) (d.toNat : Int) = (if r = [[]] then rs else rs ++ [r], 0, 0) := by
  by_cases he : r = [[]]
  · rw [if_pos he]
    have : recL d r = [] := by rw [he]; simp [recL, restL, putL, plainB]
    rw [this, List.append_nil]
    exact parse_text d hd x rs (by omega) hr (by rw [this, List.append_nil] at hl; exact hl)
  · rw [if_neg he, parse_ok _ d hd hl]
    obtain ⟨f, h1, h2⟩ := read_text d hd x (recL d r) (textL rs d x ++ recL d r) _ rs [] [] _ (by simp) (by simp; omega) hr (start_enough _) rfl
    obtain ⟨g1, g2, g3⟩ := hr'
    cases r with
    | nil => exact absurd rfl g1
    | cons c cs =>
      have hpos : 0 < (recL d (c :: cs)).length := by
        cases cs with
        | nil =>
          have hc : c ≠ [] := fun e => he (by rw [e])
          simp only [recL, restL, List.flatMap_nil, List.append_nil]
          unfold putL; split
          · exact List.length_pos_iff.2 hc
          · simp [quoted]
        | cons c2 cs => simp [recL, restL]; omega
      obtain ⟨f', h3, h4⟩ := read_rec d hd [] 3 0 rfl (by decide) (by decide) (by simp) ([] ++ rs) (by simp; omega) (textL rs d x ++ recL d (c :: cs)) _ cs ([] ++ textL rs d x) c [] f (by simp) (by simpa using g2) g3 (.inr (by simp; omega)) h1 h2
      have h2' := h2.trans (h2.symm.trans h4)
      simp only [List.length_nil] at h2'
      rw [h2', read_stop _ _ _ _ _ (by simp)]; simp
end Go.Proofs.Ytacclgfpmkhodaa
