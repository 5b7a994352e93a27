/-
  By which columns rows are told apart: what it means, and what holds of it; a row's cells at columns as one text, and that it tells which cells they are.
  Conditions: none.
-/
import Derived.Lib.ItoaNum
import Derived.Test.YtmomjhnbhckhpaaDoorTRest
namespace Go.Proofs.YtmomjhnbhckhpaaDoor
open Go.Lib
set_option linter.unusedVariables false

/-- a row's cells at columns -/
def keyL (rs : List (List ByteArray)) (cols : List Int) (i : Nat) : List ByteArray := cols.map (cellL rs i)
theorem key_eq (rs : List (List ByteArray)) (cols : List Int) (i j : Nat) : keyL rs cols i = keyL rs cols j ↔ ∀ c ∈ cols, cellL rs i c = cellL rs j c := by
  unfold keyL; exact List.map_inj_left
def apartRows (rs : List (List ByteArray)) (cols : List Int) : Bool := (List.range rs.length).all fun j => (List.range j).all fun i => decide (keyL rs cols i ≠ keyL rs cols j)
def inHead (n : Nat) (cols : List Int) : Bool := cols.all fun c => decide (0 ≤ c) && decide (c < (n : Int))
def uniqL (n : Nat) (rs : List (List ByteArray)) (cols : List Int) : Bool := !cols.isEmpty && inHead n cols && apartRows rs cols
theorem apart_iff (rs : List (List ByteArray)) (cols : List Int) : apartRows rs cols = true ↔ ∀ i j, i < j → j < rs.length → keyL rs cols i ≠ keyL rs cols j := by
  unfold apartRows
  rw [List.all_eq_true]
  constructor
  · intro h i j hij hj
    have := h j (List.mem_range.2 hj)
    rw [List.all_eq_true] at this
    exact of_decide_eq_true (this i (List.mem_range.2 hij))
  · intro h j hj
    rw [List.all_eq_true]
    intro i hi
    exact decide_eq_true (h i j (List.mem_range.1 hi) (List.mem_range.1 hj))
theorem inHead_iff (n : Nat) (cols : List Int) : inHead n cols = true ↔ ∀ c ∈ cols, 0 ≤ c ∧ c < (n : Int) := by
  unfold inHead; rw [List.all_eq_true]; simp
theorem uniq_iff (n : Nat) (rs : List (List ByteArray)) (cols : List Int) : uniqL n rs cols = true ↔ cols ≠ [] ∧ (∀ c ∈ cols, 0 ≤ c ∧ c < (n : Int)) ∧ ∀ i j, i < j → j < rs.length → ∃ c ∈ cols, cellL rs i c ≠ cellL rs j c := by
  unfold uniqL
  rw [Bool.and_eq_true, Bool.and_eq_true, inHead_iff, apart_iff]
  constructor
  · rintro ⟨⟨h1, h2⟩, h3⟩
    refine ⟨by intro e; rw [e] at h1; simp at h1, h2, fun i j hij hj => ?_⟩
    have := h3 i j hij hj
    rw [Ne, key_eq] at this
    simpa using this
  · rintro ⟨h1, h2, h3⟩
    refine ⟨⟨by cases cols <;> simp at h1 ⊢, h2⟩, fun i j hij hj => ?_⟩
    rw [Ne, key_eq]
    obtain ⟨c, hc, hne⟩ := h3 i j hij hj
    exact fun h => hne (h c hc)
/-- what counts is which columns there are -/
theorem uniq_mem (n : Nat) (rs : List (List ByteArray)) (cols own : List Int) (h : ∀ c, c ∈ own ↔ c ∈ cols) : uniqL n rs own = uniqL n rs cols := by
  rw [Bool.eq_iff_iff, uniq_iff, uniq_iff]
  have hn : own ≠ [] ↔ cols ≠ [] := by
    constructor
    · intro h1 e; subst e
      cases own with
      | nil => exact h1 rfl
      | cons a l => have := (h a).1 List.mem_cons_self; simp at this
    · intro h1 e; subst e
      cases cols with
      | nil => exact h1 rfl
      | cons a l => have := (h a).2 List.mem_cons_self; simp at this
  simp only [h, hn]
/-- what tells rows apart does so with more columns -/
theorem uniq_more (n : Nat) (rs : List (List ByteArray)) (cols own : List Int) (hs : ∀ c ∈ cols, c ∈ own) (hr : ∀ c ∈ own, 0 ≤ c ∧ c < (n : Int)) (h : uniqL n rs cols = true) : uniqL n rs own = true := by
  rw [uniq_iff] at h ⊢
  obtain ⟨h1, h2, h3⟩ := h
  refine ⟨?_, hr, fun i j hij hj => ?_⟩
  · intro e
    cases cols with
    | nil => exact h1 rfl
    | cons a l => have := hs a List.mem_cons_self; rw [e] at this; simp at this
  · obtain ⟨c, hc, hne⟩ := h3 i j hij hj
    exact ⟨c, hs c hc, hne⟩
theorem uniq_none (n : Nat) (rs : List (List ByteArray)) : uniqL n rs [] = false := rfl
theorem uniq_out (n : Nat) (rs : List (List ByteArray)) (cols : List Int) (c : Int) (hc : c ∈ cols) (h : c < 0 ∨ (n : Int) ≤ c) : uniqL n rs cols = false := by
  cases hu : uniqL n rs cols with
  | false => rfl
  | true =>
    have := ((uniq_iff n rs cols).1 hu).2.1 c hc
    omega

/-! numbers as texts -/
theorem dec_digits : ∀ (u : Nat), ∀ c ∈ decDigits u, 48 ≤ c.toNat ∧ c.toNat ≤ 57 := fun u => by
  induction u using Nat.strongRecOn with
  | ind u ih =>
    intro c hc
    rw [decDigits] at hc
    have key : ∀ d, d < 10 → 48 ≤ (UInt8.ofNat (48 + d)).toNat ∧ (UInt8.ofNat (48 + d)).toNat ≤ 57 := fun d hd => by
      rw [UInt8.toNat_ofNat']; omega
    split at hc
    · rename_i h
      simp only [List.mem_singleton] at hc; subst hc; exact key u h
    · rename_i h
      rw [List.mem_append] at hc
      rcases hc with hc | hc
      · exact ih (u / 10) (by omega) c hc
      · simp only [List.mem_singleton] at hc; subst hc; exact key _ (by omega)
theorem dec_inj : ∀ (u v : Nat), decDigits u = decDigits v → u = v := fun u => by
  have key : ∀ d e, d < 10 → e < 10 → UInt8.ofNat (48 + d) = UInt8.ofNat (48 + e) → d = e := fun d e hd he h => by
    have := congrArg UInt8.toNat h
    rw [UInt8.toNat_ofNat', UInt8.toNat_ofNat'] at this; omega
  induction u using Nat.strongRecOn with
  | ind u ih =>
    intro v h
    have hpos : ∀ u, decDigits u ≠ [] := fun u => by rw [decDigits]; split <;> simp
    rw [decDigits, decDigits.eq_1 v] at h
    split at h <;> split at h
    · simp only [List.cons.injEq, and_true] at h; exact key u v (by assumption) (by assumption) h
    · have := congrArg List.length h
      have h2 := hpos (v / 10)
      simp at this
      exact absurd this h2
    · have := congrArg List.length h
      have h2 := hpos (u / 10)
      simp at this
      exact absurd this h2
    · have h2 := List.append_inj' h rfl
      have e1 := ih (u / 10) (by omega) (v / 10) h2.1
      have e2 := key (u % 10) (v % 10) (by omega) (by omega) (by simpa using h2.2)
      omega
theorem itoa_bytes (n : Int) : ∀ c ∈ itoa n, c ≠ 32 := fun c hc e => by
  subst e
  unfold itoa at hc
  split at hc
  · rw [List.mem_cons] at hc
    rcases hc with hc | hc
    · exact absurd hc (by decide)
    · have := dec_digits _ _ hc; exact absurd this.1 (by decide)
  · have := dec_digits _ _ hc; exact absurd this.1 (by decide)
theorem itoa_inj (a b : Int) (h : itoa a = itoa b) : a = b := by
  have hne : ∀ u v, (45 : UInt8) :: decDigits u ≠ decDigits v := fun u v e => by
    have : (45 : UInt8) ∈ decDigits v := by rw [← e]; exact List.mem_cons_self
    have := dec_digits _ _ this; exact absurd this.1 (by decide)
  unfold itoa at h
  split at h <;> split at h
  · have := dec_inj _ _ (List.cons.inj h).2; omega
  · exact absurd h (hne _ _)
  · exact absurd h.symm (hne _ _)
  · have := dec_inj _ _ h; omega
/-- up to the first space -/
theorem upto_space : ∀ (x y r s : List UInt8), (∀ c ∈ x, c ≠ 32) → (∀ c ∈ y, c ≠ 32) → x ++ 32 :: r = y ++ 32 :: s → x = y ∧ r = s
  | [], [], r, s, _, _, h => ⟨rfl, (List.cons.inj h).2⟩
  | [], b :: y, r, s, _, hy, h => absurd (List.cons.inj h).1.symm (hy b List.mem_cons_self)
  | a :: x, [], r, s, hx, _, h => absurd (List.cons.inj h).1 (hx a List.mem_cons_self)
  | a :: x, b :: y, r, s, hx, hy, h => by
    obtain ⟨e1, e2⟩ := List.cons.inj h
    obtain ⟨h1, h2⟩ := upto_space x y r s (fun c hc => hx c (List.mem_cons_of_mem _ hc)) (fun c hc => hy c (List.mem_cons_of_mem _ hc)) e2
    exact ⟨by rw [e1, h1], h2⟩
theorem num_space (a b : Int) (r s : List UInt8) (h : itoa a ++ 32 :: r = itoa b ++ 32 :: s) : a = b ∧ r = s := by
  obtain ⟨h1, h2⟩ := upto_space _ _ r s (itoa_bytes a) (itoa_bytes b) h
  exact ⟨itoa_inj _ _ h1, h2⟩
/-- one cell, as it stands in the text of some -/
def partL (c : Int) (x : ByteArray) : List UInt8 := if x.data.toList = [] then [] else itoa c ++ 32 :: (itoa (x.size : Int) ++ 32 :: x.data.toList)
def textL (rs : List (List ByteArray)) (i : Nat) (cols : List Int) : List UInt8 := cols.flatMap fun c => partL c (cellL rs i c)
theorem part_head (f : Int → ByteArray) : ∀ (cols : List Int) (t : List UInt8), cols.flatMap (fun c => partL c (f c)) = t → t = [] ∨ ∃ c ∈ cols, ∃ r, t = itoa c ++ 32 :: r
  | [], t, h => .inl h.symm
  | c :: cols, t, h => by
    rw [List.flatMap_cons] at h
    unfold partL at h
    split at h
    · rcases part_head f cols t (by unfold partL; simpa using h) with h1 | ⟨d, hd, r, hr⟩
      · exact .inl h1
      · exact .inr ⟨d, List.mem_cons_of_mem _ hd, r, hr⟩
    · exact .inr ⟨c, List.mem_cons_self, itoa ((f c).size : Int) ++ 32 :: ((f c).data.toList ++ cols.flatMap fun c => partL c (f c)), by rw [← h]; simp only [List.append_assoc, List.cons_append]; rfl⟩
theorem parts_inj (f g : Int → ByteArray) : ∀ (cols : List Int), cols.Nodup → cols.flatMap (fun c => partL c (f c)) = cols.flatMap (fun c => partL c (g c)) → ∀ c ∈ cols, f c = g c
  | [], _, _ => fun c hc => by simp at hc
  | c :: cols, hn, h => by
    rw [List.nodup_cons] at hn
    rw [List.flatMap_cons, List.flatMap_cons] at h
    have hclash : ∀ (x : ByteArray) (k : Int → ByteArray) (r : List UInt8), partL c x ≠ [] → partL c x ++ r = cols.flatMap (fun c => partL c (k c)) → False := fun x k r hx he => by
      rcases part_head k cols _ he.symm with h1 | ⟨d, hd, r', hr⟩
      · exact hx (List.append_eq_nil_iff.1 h1).1
      · unfold partL at hr hx
        split at hr
        · rename_i h0; rw [if_pos h0] at hx; exact hx rfl
        · rw [List.append_assoc, List.cons_append] at hr
          have := (num_space _ _ _ _ hr).1
          subst this; exact hn.1 hd
    have hemp : ∀ x : ByteArray, partL c x = [] → x = ⟨#[]⟩ := fun x hx => by
      unfold partL at hx
      split at hx
      · rename_i h0; exact ba_eq (by simpa using h0)
      · simp at hx
    by_cases hf : partL c (f c) = [] <;> by_cases hg : partL c (g c) = []
    · rw [hf, hg] at h
      intro d hd
      rcases List.mem_cons.1 hd with rfl | hd
      · rw [hemp _ hf, hemp _ hg]
      · exact parts_inj f g cols hn.2 (by simpa using h) d hd
    · rw [hf, List.nil_append] at h
      exact (hclash _ _ _ hg h.symm).elim
    · rw [hg, List.nil_append] at h
      exact (hclash _ _ _ hf h).elim
    · have hf' : ¬ (f c).data.toList = [] := fun e => hf (by unfold partL; rw [if_pos e])
      have hg' : ¬ (g c).data.toList = [] := fun e => hg (by unfold partL; rw [if_pos e])
      have u1 : partL c (f c) = itoa c ++ 32 :: (itoa ((f c).size : Int) ++ 32 :: (f c).data.toList) := if_neg hf'
      have u2 : partL c (g c) = itoa c ++ 32 :: (itoa ((g c).size : Int) ++ 32 :: (g c).data.toList) := if_neg hg'
      rw [u1, u2] at h
      simp only [List.append_assoc, List.cons_append] at h
      have h1 := (num_space _ _ _ _ h).2
      have h2 := num_space _ _ _ _ h1
      have hl : (f c).data.toList.length = (g c).data.toList.length := by
        rw [ba_size, ba_size]; have := h2.1; omega
      obtain ⟨h3, h4⟩ := List.append_inj h2.2 hl
      intro d hd
      rcases List.mem_cons.1 hd with rfl | hd
      · exact ba_eq h3
      · exact parts_inj f g cols hn.2 h4 d hd
theorem text_inj (rs : List (List ByteArray)) (i j : Nat) (cols : List Int) (hn : cols.Nodup) (h : textL rs i cols = textL rs j cols) : ∀ c ∈ cols, cellL rs i c = cellL rs j c := parts_inj _ _ cols hn h
theorem text_eq (rs : List (List ByteArray)) (i j : Nat) (cols : List Int) (hn : cols.Nodup) : textL rs i cols = textL rs j cols ↔ ∀ c ∈ cols, cellL rs i c = cellL rs j c :=
  ⟨text_inj rs i j cols hn, fun h => by
    unfold textL
    rw [List.flatMap_def, List.flatMap_def, List.map_congr_left fun c hc => by rw [h c hc]]⟩

/-! a row's key, as the program keeps it: three texts -/
def emptyT : ByteArray := ⟨#[]⟩
def key3 (rs : List (List ByteArray)) (cols : List Int) (i : Nat) : ByteArray × ByteArray × ByteArray :=
  if 3 < cols.length then (cellL rs i (cols.getD 0 0), cellL rs i (cols.getD 1 0), ⟨(textL rs i (cols.drop 2)).toArray⟩)
  else ((keyL rs cols i).getD 0 emptyT, (keyL rs cols i).getD 1 emptyT, (keyL rs cols i).getD 2 emptyT)
theorem key3_eq (rs : List (List ByteArray)) (cols : List Int) (hn : cols.Nodup) (i j : Nat) : key3 rs cols i = key3 rs cols j ↔ keyL rs cols i = keyL rs cols j := by
  unfold key3
  split
  · rename_i h
    match cols, h, hn with
    | a :: b :: rest, h, hn =>
      simp only [List.getD_cons_zero, List.getD_cons_succ, List.drop_succ_cons, List.drop_zero, Prod.mk.injEq]
      have e : ((⟨(textL rs i rest).toArray⟩ : ByteArray) = ⟨(textL rs j rest).toArray⟩) ↔ textL rs i rest = textL rs j rest := ⟨fun h => by simpa using congrArg (fun x : ByteArray => x.data.toList) h, fun h => by rw [h]⟩
      rw [e, text_eq rs i j rest (by rw [List.nodup_cons, List.nodup_cons] at hn; exact hn.2.2), key_eq]
      simp
  · rename_i h
    constructor
    · intro he
      simp only [Prod.mk.injEq] at he
      unfold keyL at he ⊢
      match cols, h with
      | [], _ => rfl
      | [a], _ => simpa using he.1
      | [a, b], _ => simpa using ⟨he.1, he.2.1⟩
      | [a, b, c], _ => simpa using he
      | a :: b :: c :: d :: l, h => simp at h
    · intro he; rw [he]
end Go.Proofs.YtmomjhnbhckhpaaDoor
