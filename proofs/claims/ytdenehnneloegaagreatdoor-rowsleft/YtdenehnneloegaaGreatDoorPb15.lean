/-
  Texts of these rows' proofs, laid one behind the other: KMath, KShelf.
  Conditions: those of each theorem.
-/
import Derived.Lib.ItoaNum
import Derived.Test.YtdenehnneloegaaGreatDoorPb3
import Derived.Shelf.SortM.Plain
import Derived.Shelf.SortM.SortNone
import Derived.Shelf.SlicesG.CompactI
import Derived.Shelf.Strconv.AppendIntPublic10
import Derived.Test.YtdenehnneloegaaGreatDoorProg
namespace Go.Proofs.YtdenehnneloegaaGreatDoor
open Go.Lib
set_option linter.unusedVariables false
/-- a row's cells at columns -/
def keyL (rs : List (List ByteArray)) (cols : List Int) (i : Nat) : List ByteArray := cols.map (cellL rs i)
theorem key_eq (rs : List (List ByteArray)) (cols : List Int) (i j : Nat) : keyL rs cols i = keyL rs cols j ↔ ∀ c ∈ cols, cellL rs i c = cellL rs j c := by
  unfold keyL; exact List.map_inj_left
def apartRows (rs : List (List ByteArray)) (cols : List Int) : Bool := (List.range rs.length).all fun j => (List.range j).all fun i => decide (keyL rs cols i ≠ keyL rs cols j)
def inHead (n : Nat) (cols : List Int) : Bool := cols.all fun c => decide (0 ≤ c) && decide (c < (n : Int))
def uniqL (n : Nat) (rs : List (List ByteArray)) (cols : List Int) : Bool := !cols.isEmpty && inHead n cols && apartRows rs cols
theorem apart_iff (rs : List (List ByteArray)) (cols : List Int) : apartRows rs cols = true ↔ ∀ i j, i < j → j < rs.length → keyL rs cols i ≠ keyL rs cols j := by
  unfold apartRows
  rw [List.all_eq_true]
  constructor
  · intro h i j hij hj
    have := h j (List.mem_range.2 hj)
    rw [List.all_eq_true] at this
    exact of_decide_eq_true (this i (List.mem_range.2 hij))
  · intro h j hj
    rw [List.all_eq_true]
    intro i hi
    exact decide_eq_true (h i j (List.mem_range.1 hi) (List.mem_range.1 hj))
theorem inHead_iff (n : Nat) (cols : List Int) : inHead n cols = true ↔ ∀ c ∈ cols, 0 ≤ c ∧ c < (n : Int) := by
  unfold inHead; rw [List.all_eq_true]; simp
theorem uniq_iff (n : Nat) (rs : List (List ByteArray)) (cols : List Int) : uniqL n rs cols = true ↔ cols ≠ [] ∧ (∀ c ∈ cols, 0 ≤ c ∧ c < (n : Int)) ∧ ∀ i j, i < j → j < rs.length → ∃ c ∈ cols, cellL rs i c ≠ cellL rs j c := by
  unfold uniqL
  rw [Bool.and_eq_true, Bool.and_eq_true, inHead_iff, apart_iff]
  constructor
  · rintro ⟨⟨h1, h2⟩, h3⟩
    refine ⟨by intro e; rw [e] at h1; simp at h1, h2, fun i j hij hj => ?_⟩
    have := h3 i j hij hj
    rw [Ne, key_eq] at this
    simpa using this
  · rintro ⟨h1, h2, h3⟩
    refine ⟨⟨by cases cols <;> simp at h1 ⊢, h2⟩, fun i j hij hj => ?_⟩
    rw [Ne, key_eq]
    obtain ⟨c, hc, hne⟩ := h3 i j hij hj
    exact fun h => hne (h c hc)
/-- what counts is which columns there are -/
theorem uniq_mem (n : Nat) (rs : List (List ByteArray)) (cols own : List Int) (h : ∀ c, c ∈ own ↔ c ∈ cols) : uniqL n rs own = uniqL n rs cols := by
  rw [Bool.eq_iff_iff, uniq_iff, uniq_iff]
  have hn : own ≠ [] ↔ cols ≠ [] := by
    constructor
    · intro h1 e; subst e
      cases own with
      | nil => exact h1 rfl
      | cons a l => have := (h a).1 List.mem_cons_self; simp at this
    · intro h1 e; subst e
      cases cols with
      | nil => exact h1 rfl
      | cons a l => have := (h a).2 List.mem_cons_self; simp at this
  simp only [h, hn]
theorem uniq_none (n : Nat) (rs : List (List ByteArray)) : uniqL n rs [] = false := rfl
theorem uniq_out (n : Nat) (rs : List (List ByteArray)) (cols : List Int) (c : Int) (hc : c ∈ cols) (h : c < 0 ∨ (n : Int) ≤ c) : uniqL n rs cols = false := by
  cases hu : uniqL n rs cols with
  | false => rfl
  | true =>
    have := ((uniq_iff n rs cols).1 hu).2.1 c hc
    omega
/-! numbers as texts -/
theorem dec_digits : ∀ (u : Nat), ∀ c ∈ decDigits u, 48 ≤ c.toNat ∧ c.toNat ≤ 57 := fun u => by
  induction u using Nat.strongRecOn with
  | ind u ih =>
    intro c hc
    rw [decDigits] at hc
    have key : ∀ d, d < 10 → 48 ≤ (UInt8.ofNat (48 + d)).toNat ∧ (UInt8.ofNat (48 + d)).toNat ≤ 57 := fun d hd => by
      rw [UInt8.toNat_ofNat']; omega
    split at hc
    · rename_i h
      simp only [List.mem_singleton] at hc; subst hc; exact key u h
    · rename_i h
      rw [List.mem_append] at hc
      rcases hc with hc | hc
      · exact ih (u / 10) (by omega) c hc
      · simp only [List.mem_singleton] at hc; subst hc; exact key _ (by omega)
theorem dec_inj : ∀ (u v : Nat), decDigits u = decDigits v → u = v := fun u => by
  have key : ∀ d e, d < 10 → e < 10 → UInt8.ofNat (48 + d) = UInt8.ofNat (48 + e) → d = e := fun d e hd he h => by
    have := congrArg UInt8.toNat h
    rw [UInt8.toNat_ofNat', UInt8.toNat_ofNat'] at this; omega
  induction u using Nat.strongRecOn with
  | ind u ih =>
    intro v h
    have hpos : ∀ u, decDigits u ≠ [] := fun u => by rw [decDigits]; split <;> simp
    rw [decDigits, decDigits.eq_1 v] at h
    split at h <;> split at h
    · simp only [List.cons.injEq, and_true] at h; exact key u v (by assumption) (by assumption) h
    · have := congrArg List.length h
      have h2 := hpos (v / 10)
      simp at this
      exact absurd this h2
    · have := congrArg List.length h
      have h2 := hpos (u / 10)
      simp at this
      exact absurd this h2
    · have h2 := List.append_inj' h rfl
      have e1 := ih (u / 10) (by omega) (v / 10) h2.1
      have e2 := key (u % 10) (v % 10) (by omega) (by omega) (by simpa using h2.2)
      omega
theorem itoa_bytes (n : Int) : ∀ c ∈ itoa n, c ≠ 32 := fun c hc e => by
  subst e
  unfold itoa at hc
  split at hc
  · rw [List.mem_cons] at hc
    rcases hc with hc | hc
    · exact absurd hc (by decide)
    · have := dec_digits _ _ hc; exact absurd this.1 (by decide)
  · have := dec_digits _ _ hc; exact absurd this.1 (by decide)
theorem itoa_inj (a b : Int) (h : itoa a = itoa b) : a = b := by
  have hne : ∀ u v, (45 : UInt8) :: decDigits u ≠ decDigits v := fun u v e => by
    have : (45 : UInt8) ∈ decDigits v := by rw [← e]; exact List.mem_cons_self
    have := dec_digits _ _ this; exact absurd this.1 (by decide)
  unfold itoa at h
  split at h <;> split at h
  · have := dec_inj _ _ (List.cons.inj h).2; omega
  · exact absurd h (hne _ _)
  · exact absurd h.symm (hne _ _)
  · have := dec_inj _ _ h; omega
/-- up to the first space -/
theorem upto_space : ∀ (x y r s : List UInt8), (∀ c ∈ x, c ≠ 32) → (∀ c ∈ y, c ≠ 32) → x ++ 32 :: r = y ++ 32 :: s → x = y ∧ r = s
  | [], [], r, s, _, _, h => ⟨rfl, (List.cons.inj h).2⟩
  | [], b :: y, r, s, _, hy, h => absurd (List.cons.inj h).1.symm (hy b List.mem_cons_self)
  | a :: x, [], r, s, hx, _, h => absurd (List.cons.inj h).1 (hx a List.mem_cons_self)
  | a :: x, b :: y, r, s, hx, hy, h => by
    obtain ⟨e1, e2⟩ := List.cons.inj h
    obtain ⟨h1, h2⟩ := upto_space x y r s (fun c hc => hx c (List.mem_cons_of_mem _ hc)) (fun c hc => hy c (List.mem_cons_of_mem _ hc)) e2
    exact ⟨by rw [e1, h1], h2⟩
theorem num_space (a b : Int) (r s : List UInt8) (h : itoa a ++ 32 :: r = itoa b ++ 32 :: s) : a = b ∧ r = s := by
  obtain ⟨h1, h2⟩ := upto_space _ _ r s (itoa_bytes a) (itoa_bytes b) h
  exact ⟨itoa_inj _ _ h1, h2⟩
/-- one cell, as it stands in the text of some -/
def partL (c : Int) (x : ByteArray) : List UInt8 := if x.data.toList = [] then [] else itoa c ++ 32 :: (itoa (x.size : Int) ++ 32 :: x.data.toList)
def textL (rs : List (List ByteArray)) (i : Nat) (cols : List Int) : List UInt8 := cols.flatMap fun c => partL c (cellL rs i c)
theorem part_head (f : Int → ByteArray) : ∀ (cols : List Int) (t : List UInt8), cols.flatMap (fun c => partL c (f c)) = t → t = [] ∨ ∃ c ∈ cols, ∃ r, t = itoa c ++ 32 :: r
  | [], t, h => .inl h.symm
  | c :: cols, t, h => by
    rw [List.flatMap_cons] at h
    unfold partL at h
    split at h
    · rcases part_head f cols t (by unfold partL; simpa using h) with h1 | ⟨d, hd, r, hr⟩
      · exact .inl h1
      · exact .inr ⟨d, List.mem_cons_of_mem _ hd, r, hr⟩
    · exact .inr ⟨c, List.mem_cons_self, itoa ((f c).size : Int) ++ 32 :: ((f c).data.toList ++ cols.flatMap fun c => partL c (f c)), by rw [← h]; simp only [List.append_assoc, List.cons_append]; rfl⟩
theorem parts_inj (f g : Int → ByteArray) : ∀ (cols : List Int), cols.Nodup → cols.flatMap (fun c => partL c (f c)) = cols.flatMap (fun c => partL c (g c)) → ∀ c ∈ cols, f c = g c
  | [], _, _ => fun c hc => by simp at hc
  | c :: cols, hn, h => by
    rw [List.nodup_cons] at hn
    rw [List.flatMap_cons, List.flatMap_cons] at h
    have hclash : ∀ (x : ByteArray) (k : Int → ByteArray) (r : List UInt8), partL c x ≠ [] → partL c x ++ r = cols.flatMap (fun c => partL c (k c)) → False := fun x k r hx he => by
      rcases part_head k cols _ he.symm with h1 | ⟨d, hd, r', hr⟩
      · exact hx (List.append_eq_nil_iff.1 h1).1
      · unfold partL at hr hx
        split at hr
        · rename_i h0; rw [if_pos h0] at hx; exact hx rfl
        · rw [List.append_assoc, List.cons_append] at hr
          have := (num_space _ _ _ _ hr).1
          subst this; exact hn.1 hd
    have hemp : ∀ x : ByteArray, partL c x = [] → x = ⟨#[]⟩ := fun x hx => by
      unfold partL at hx
      split at hx
      · rename_i h0; exact ba_eq (by simpa using h0)
      · simp at hx
    by_cases hf : partL c (f c) = [] <;> by_cases hg : partL c (g c) = []
    · rw [hf, hg] at h
      intro d hd
      rcases List.mem_cons.1 hd with rfl | hd
      · rw [hemp _ hf, hemp _ hg]
      · exact parts_inj f g cols hn.2 (by simpa using h) d hd
    · rw [hf, List.nil_append] at h
      exact (hclash _ _ _ hg h.symm).elim
    · rw [hg, List.nil_append] at h
      exact (hclash _ _ _ hf h).elim
    · have hf' : ¬ (f c).data.toList = [] := fun e => hf (by unfold partL; rw [if_pos e])
      have hg' : ¬ (g c).data.toList = [] := fun e => hg (by unfold partL; rw [if_pos e])
      have u1 : partL c (f c) = itoa c ++ 32 :: (itoa ((f c).size : Int) ++ 32 :: (f c).data.toList) := if_neg hf'
      have u2 : partL c (g c) = itoa c ++ 32 :: (itoa ((g c).size : Int) ++ 32 :: (g c).data.toList) := if_neg hg'
      rw [u1, u2] at h
      simp only [List.append_assoc, List.cons_append] at h
      have h1 := (num_space _ _ _ _ h).2
      have h2 := num_space _ _ _ _ h1
      have hl : (f c).data.toList.length = (g c).data.toList.length := by
        rw [ba_size, ba_size]; have := h2.1; omega
      obtain ⟨h3, h4⟩ := List.append_inj h2.2 hl
      intro d hd
      rcases List.mem_cons.1 hd with rfl | hd
      · exact ba_eq h3
      · exact parts_inj f g cols hn.2 h4 d hd
theorem text_inj (rs : List (List ByteArray)) (i j : Nat) (cols : List Int) (hn : cols.Nodup) (h : textL rs i cols = textL rs j cols) : ∀ c ∈ cols, cellL rs i c = cellL rs j c := parts_inj _ _ cols hn h
theorem text_eq (rs : List (List ByteArray)) (i j : Nat) (cols : List Int) (hn : cols.Nodup) : textL rs i cols = textL rs j cols ↔ ∀ c ∈ cols, cellL rs i c = cellL rs j c :=
  ⟨text_inj rs i j cols hn, fun h => by
    unfold textL
    rw [List.flatMap_def, List.flatMap_def, List.map_congr_left fun c hc => by rw [h c hc]]⟩
/-! a row's key, as the program keeps it: three texts -/
def emptyT : ByteArray := ⟨#[]⟩
def key3 (rs : List (List ByteArray)) (cols : List Int) (i : Nat) : ByteArray × ByteArray × ByteArray :=
  if 3 < cols.length then (cellL rs i (cols.getD 0 0), cellL rs i (cols.getD 1 0), ⟨(textL rs i (cols.drop 2)).toArray⟩)
  else ((keyL rs cols i).getD 0 emptyT, (keyL rs cols i).getD 1 emptyT, (keyL rs cols i).getD 2 emptyT)
theorem key3_eq (rs : List (List ByteArray)) (cols : List Int) (hn : cols.Nodup) (i j : Nat) : key3 rs cols i = key3 rs cols j ↔ keyL rs cols i = keyL rs cols j := by
  unfold key3
  split
  · rename_i h
    match cols, h, hn with
    | a :: b :: rest, h, hn =>
      simp only [List.getD_cons_zero, List.getD_cons_succ, List.drop_succ_cons, List.drop_zero, Prod.mk.injEq]
      have e : ((⟨(textL rs i rest).toArray⟩ : ByteArray) = ⟨(textL rs j rest).toArray⟩) ↔ textL rs i rest = textL rs j rest := ⟨fun h => by simpa using congrArg (fun x : ByteArray => x.data.toList) h, fun h => by rw [h]⟩
      rw [e, text_eq rs i j rest (by rw [List.nodup_cons, List.nodup_cons] at hn; exact hn.2.2), key_eq]
      simp
  · rename_i h
    constructor
    · intro he
      simp only [Prod.mk.injEq] at he
      unfold keyL at he ⊢
      match cols, h with
      | [], _ => rfl
      | [a], _ => simpa using he.1
      | [a, b], _ => simpa using ⟨he.1, he.2.1⟩
      | [a, b, c], _ => simpa using he
      | a :: b :: c :: d :: l, h => simp at h
    · intro he; rw [he]
end Go.Proofs.YtdenehnneloegaaGreatDoor
namespace Go.Proofs.YtdenehnneloegaaGreatDoor
open Go.Shelf
def laysO_ren : Go.Shelf.Ren := ⟨fun | 5 => 156 | 8 => 104 | 7 => 198 | 19 => 166 | 20 => 167 | 10 => 232 | 11 => 233 | 12 => 234 | 13 => 235 | 14 => 236 | 15 => 237 | 16 => 238 | 17 => 239 | 18 => 240 | 30 => 271 | 31 => 200 | 32 => 201 | 33 => 272 | 34 => 273 | 35 => 105 | 40 => 286 | n => n, fun | 23 => 41 | 25 => 3 | 3 => 3 | 32 => 142 | 22 => 41 | 0 => 0 | 44 => 203 | 46 => 205 | 4 => 4 | 36 => 197 | 35 => 196 | 41 => 58 | 5 => 5 | 9 => 9 | 53 => 237 | 57 => 241 | 63 => 273 | 64 => 274 | n => n, fun | n => n⟩
theorem laysO : Go.Proofs.SlLaysM.n5 Tryz.prog laysO_ren := {
  mixed := by kernel_rfl
  f5 := ⟨Tryz.f156.name, by decide, Tryz.func156.trans (congrArg some (by kernel_rfl))⟩
  f7 := ⟨Tryz.f198.name, by decide, Tryz.func198.trans (congrArg some (by kernel_rfl))⟩
  f8 := Tryz.func104.trans (congrArg some (by kernel_rfl))
  f10 := ⟨Tryz.f232.name, by decide, Tryz.func232.trans (congrArg some (by kernel_rfl))⟩
  f11 := ⟨Tryz.f233.name, by decide, Tryz.func233.trans (congrArg some (by kernel_rfl))⟩
  f12 := ⟨Tryz.f234.name, by decide, Tryz.func234.trans (congrArg some (by kernel_rfl))⟩
  f13 := ⟨Tryz.f235.name, by decide, Tryz.func235.trans (congrArg some (by kernel_rfl))⟩
  f14 := ⟨Tryz.f236.name, by decide, Tryz.func236.trans (congrArg some (by kernel_rfl))⟩
  f15 := ⟨Tryz.f237.name, by decide, Tryz.func237.trans (congrArg some (by kernel_rfl))⟩
  f16 := ⟨Tryz.f238.name, by decide, Tryz.func238.trans (congrArg some (by kernel_rfl))⟩
  f17 := ⟨Tryz.f239.name, by decide, Tryz.func239.trans (congrArg some (by kernel_rfl))⟩
  f18 := ⟨Tryz.f240.name, by decide, Tryz.func240.trans (congrArg some (by kernel_rfl))⟩
  f19 := Tryz.func166.trans (congrArg some (by kernel_rfl))
  f20 := Tryz.func167.trans (congrArg some (by kernel_rfl))
  f30 := ⟨Tryz.f271.name, by decide, Tryz.func271.trans (congrArg some (by kernel_rfl))⟩
  f31 := Tryz.func200.trans (congrArg some (by kernel_rfl))
  f32 := Tryz.func201.trans (congrArg some (by kernel_rfl))
  f33 := ⟨Tryz.f272.name, by decide, Tryz.func272.trans (congrArg some (by kernel_rfl))⟩
  f34 := ⟨Tryz.f273.name, by decide, Tryz.func273.trans (congrArg some (by kernel_rfl))⟩
  f35 := ⟨Tryz.f105.name, by decide, Tryz.func105.trans (congrArg some (by kernel_rfl))⟩
  f40 := ⟨Tryz.f286.name, by decide, Tryz.func286.trans (congrArg some (by kernel_rfl))⟩
  t0 := Tryz.underlying0
  a0 := Tryz.isAgg0
  z0 := Tryz.sizeOf0
  v0 := Tryz.zeroValue0
  t3 := Tryz.underlying3
  a3 := Tryz.isAgg3
  z3 := Tryz.sizeOf3
  v3 := Tryz.zeroValue3
  t4 := Tryz.underlying4
  a4 := Tryz.isAgg4
  z4 := Tryz.sizeOf4
  v4 := Tryz.zeroValue4
  t5 := Tryz.underlying5
  a5 := Tryz.isAgg5
  z5 := Tryz.sizeOf5
  v5 := Tryz.zeroValue5
  t9 := Tryz.underlying9
  a9 := Tryz.isAgg9
  z9 := Tryz.sizeOf9
  v9 := Tryz.zeroValue9
  t22 := Tryz.underlying41
  a22 := Tryz.isAgg41
  z22 := Tryz.sizeOf41
  v22 := Tryz.zeroValue41
  t23 := Tryz.underlying41
  a23 := Tryz.isAgg41
  z23 := Tryz.sizeOf41
  v23 := Tryz.zeroValue41
  t25 := Tryz.underlying3
  a25 := Tryz.isAgg3
  z25 := Tryz.sizeOf3
  v25 := Tryz.zeroValue3
  t32 := Tryz.underlying142
  a32 := Tryz.isAgg142
  z32 := Tryz.sizeOf142
  v32 := Tryz.zeroValue142
  t35 := Tryz.underlying196
  a35 := Tryz.isAgg196
  z35 := Tryz.sizeOf196
  v35 := Tryz.zeroValue196
  t36 := Tryz.underlying197
  a36 := Tryz.isAgg197
  z36 := Tryz.sizeOf197
  v36 := Tryz.zeroValue197
  t41 := Tryz.underlying58
  a41 := Tryz.isAgg58
  z41 := Tryz.sizeOf58
  v41 := Tryz.zeroValue58
  t44 := Tryz.underlying203
  a44 := Tryz.isAgg203
  z44 := Tryz.sizeOf203
  v44 := Tryz.zeroValue203
  t46 := Tryz.underlying205
  a46 := Tryz.isAgg205
  z46 := Tryz.sizeOf205
  v46 := Tryz.zeroValue205
  t53 := Tryz.underlying237
  a53 := Tryz.isAgg237
  z53 := Tryz.sizeOf237
  v53 := Tryz.zeroValue237
  t57 := Tryz.underlying241
  a57 := Tryz.isAgg241
  z57 := Tryz.sizeOf241
  v57 := Tryz.zeroValue241
  t63 := Tryz.underlying273
  a63 := Tryz.isAgg273
  z63 := Tryz.sizeOf273
  v63 := Tryz.zeroValue273
  t64 := Tryz.underlying274
  a64 := Tryz.isAgg274
  z64 := Tryz.sizeOf274
  v64 := Tryz.zeroValue274 }
def laysC_ren : Go.Shelf.Ren := ⟨fun | 43 => 170 | n => n, fun | 22 => 41 | 23 => 3 | 3 => 3 | 4 => 4 | 0 => 0 | n => n, fun | n => n⟩
theorem laysC : Go.Proofs.SlLaysN.n43 Tryz.prog laysC_ren := {
  mixed := by kernel_rfl
  f43 := ⟨Tryz.f170.name, by decide, Tryz.func170.trans (congrArg some (by kernel_rfl))⟩
  t0 := Tryz.underlying0
  a0 := Tryz.isAgg0
  z0 := Tryz.sizeOf0
  v0 := Tryz.zeroValue0
  t3 := Tryz.underlying3
  a3 := Tryz.isAgg3
  z3 := Tryz.sizeOf3
  v3 := Tryz.zeroValue3
  t4 := Tryz.underlying4
  a4 := Tryz.isAgg4
  z4 := Tryz.sizeOf4
  v4 := Tryz.zeroValue4
  t22 := Tryz.underlying41
  a22 := Tryz.isAgg41
  z22 := Tryz.sizeOf41
  v22 := Tryz.zeroValue41
  t23 := Tryz.underlying3
  a23 := Tryz.isAgg3
  z23 := Tryz.sizeOf3
  v23 := Tryz.zeroValue3
  i23 := by kernel_rfl }
def laysA_ren : Go.Shelf.Ren := ⟨fun | 176 => 242 | 249 => 274 | 288 => 287 | 283 => 217 | 284 => 218 | 285 => 219 | 286 => 220 | 129 => 167 | 317 => 261 | 318 => 262 | 319 => 263 | 320 => 264 | 337 => 281 | 338 => 282 | n => n, fun | 37 => 144 | 2 => 2 | 3 => 3 | 53 => 205 | 4 => 4 | 9 => 9 | 171 => 256 | 0 => 0 | 173 => 258 | 212 => 289 | 51 => 203 | 5 => 5 | 20 => 20 | 213 => 290 | 46 => 142 | 232 => 307 | 233 => 308 | n => n, fun | 17 => 1 | 18 => 2 | 19 => 3 | n => n⟩
theorem laysA : Go.Proofs.LaysM.n176 Tryz.prog laysA_ren := {
  mixed := by kernel_rfl
  f129 := Tryz.func167.trans (congrArg some (by kernel_rfl))
  f176 := Tryz.func242.trans (congrArg some (by kernel_rfl))
  f249 := Tryz.func274.trans (congrArg some (by kernel_rfl))
  f283 := Tryz.func217.trans (congrArg some (by kernel_rfl))
  f284 := Tryz.func218.trans (congrArg some (by kernel_rfl))
  f285 := Tryz.func219.trans (congrArg some (by kernel_rfl))
  f286 := Tryz.func220.trans (congrArg some (by kernel_rfl))
  f288 := Tryz.func287.trans (congrArg some (by kernel_rfl))
  f317 := Tryz.func261.trans (congrArg some (by kernel_rfl))
  f318 := Tryz.func262.trans (congrArg some (by kernel_rfl))
  f319 := Tryz.func263.trans (congrArg some (by kernel_rfl))
  f320 := Tryz.func264.trans (congrArg some (by kernel_rfl))
  f337 := Tryz.func281.trans (congrArg some (by kernel_rfl))
  f338 := Tryz.func282.trans (congrArg some (by kernel_rfl))
  t0 := Tryz.underlying0
  a0 := Tryz.isAgg0
  z0 := Tryz.sizeOf0
  v0 := Tryz.zeroValue0
  t2 := Tryz.underlying2
  a2 := Tryz.isAgg2
  z2 := Tryz.sizeOf2
  v2 := Tryz.zeroValue2
  t3 := Tryz.underlying3
  a3 := Tryz.isAgg3
  z3 := Tryz.sizeOf3
  v3 := Tryz.zeroValue3
  t4 := Tryz.underlying4
  a4 := Tryz.isAgg4
  z4 := Tryz.sizeOf4
  v4 := Tryz.zeroValue4
  t5 := Tryz.underlying5
  a5 := Tryz.isAgg5
  z5 := Tryz.sizeOf5
  v5 := Tryz.zeroValue5
  t9 := Tryz.underlying9
  a9 := Tryz.isAgg9
  z9 := Tryz.sizeOf9
  v9 := Tryz.zeroValue9
  t20 := Tryz.underlying20
  a20 := Tryz.isAgg20
  z20 := Tryz.sizeOf20
  v20 := Tryz.zeroValue20
  t37 := Tryz.underlying144
  a37 := Tryz.isAgg144
  z37 := Tryz.sizeOf144
  v37 := Tryz.zeroValue144
  t46 := Tryz.underlying142
  a46 := Tryz.isAgg142
  z46 := Tryz.sizeOf142
  v46 := Tryz.zeroValue142
  t51 := Tryz.underlying203
  a51 := Tryz.isAgg203
  z51 := Tryz.sizeOf203
  v51 := Tryz.zeroValue203
  t53 := Tryz.underlying205
  a53 := Tryz.isAgg205
  z53 := Tryz.sizeOf205
  v53 := Tryz.zeroValue205
  t171 := Tryz.underlying256
  a171 := Tryz.isAgg256
  z171 := Tryz.sizeOf256
  v171 := Tryz.zeroValue256
  t173 := Tryz.underlying258
  a173 := Tryz.isAgg258
  z173 := Tryz.sizeOf258
  v173 := Tryz.zeroValue258
  t212 := Tryz.underlying289
  a212 := Tryz.isAgg289
  z212 := Tryz.sizeOf289
  v212 := Tryz.zeroValue289
  t213 := Tryz.underlying290
  a213 := Tryz.isAgg290
  z213 := Tryz.sizeOf290
  t232 := Tryz.underlying307
  a232 := Tryz.isAgg307
  z232 := Tryz.sizeOf307
  v232 := Tryz.zeroValue307
  t233 := Tryz.underlying308
  a233 := Tryz.isAgg308
  z233 := Tryz.sizeOf308
  v233 := Tryz.zeroValue308
  g17 := by kernel_rfl
  g18 := by kernel_rfl
  g19 := by kernel_rfl
  i0 := by kernel_rfl
  i2 := by kernel_rfl
  i3 := by kernel_rfl
  i4 := by kernel_rfl
  i5 := by kernel_rfl
  i9 := by kernel_rfl
  i20 := by kernel_rfl
  i37 := by kernel_rfl
  i46 := by kernel_rfl
  i51 := by kernel_rfl
  i53 := by kernel_rfl
  i171 := by kernel_rfl
  i173 := by kernel_rfl
  i212 := by kernel_rfl
  i232 := by kernel_rfl
  i233 := by kernel_rfl
  m17 := by kernel_rfl
  m18 := by kernel_rfl
  m19 := by kernel_rfl }
end Go.Proofs.YtdenehnneloegaaGreatDoor
