/-
  The document's reference reader, as mathematics: what is known between two bytes, and how a byte changes it.
  Conditions: none.
-/
import Derived.Test.YtacclgfpmkhodaaCsvMath3
import Derived.Test.YtacclgfpmkhodaaCsvLaw2
namespace Go.Proofs.Ytacclgfpmkhodaa
set_option linter.unusedVariables false

/-- what is known between two bytes -/
structure LInv (l : List UInt8) (d : Int) (R : Recs × Int × Nat) (rs : List (List ByteArray)) (xs : List ByteArray) (C : List UInt8) (st beg a : Nat) : Prop where
  read : ∃ f, enough l beg (bytesOf xs) f ∧ R = readL l d f beg (recsOf rs) (bytesOf xs)
  within : Within l d beg a st C
  clen : C.length ≤ a
  ba : beg ≤ a
  al : a ≤ l.length
  rn : rs.length ≤ 2048
  xn : xs.length ≤ 128
  xr : xs ≠ [] → rs.length < 2048
  fit : st ≠ 0 → rs.length < 2048 ∧ xs.length < 128
  st3 : st ≤ 3
theorem recs_len' (rs : List (List ByteArray)) : (recsOf rs).length = rs.length := by simp [recsOf]
theorem bytes_len' (xs : List ByteArray) : (bytesOf xs).length = xs.length := by simp [bytesOf]
theorem fits_of {rs : List (List ByteArray)} {xs : List ByteArray} (h : rs.length < 2048 ∧ xs.length < 128) : fitsB (recsOf rs) (bytesOf xs) = true := by
  unfold fitsB; rw [recs_len', bytes_len']; simp [h]
theorem bytes_ne {xs : List ByteArray} (h : xs ≠ []) : bytesOf xs ≠ [] := by simpa [bytesOf] using h
variable {l : List UInt8} {d : Int} {R : Recs × Int × Nat} {rs : List (List ByteArray)} {xs : List ByteArray} {C : List UInt8} {st beg a : Nat}
theorem LInv.zero (I : LInv l d R rs xs C 0 beg a) : a = beg ∧ C = [] := by
  rcases I.within with ⟨_, h, h'⟩ | ⟨h, _⟩ | ⟨h, _⟩ | ⟨h, _⟩
  · exact ⟨h, h'⟩
  · cases h
  · cases h
  · cases h
theorem LInv.large (I : LInv l d R rs xs C 0 beg a) (ha : a < l.length ∨ xs ≠ []) (h : ¬ (rs.length < 2048 ∧ xs.length < 128)) : R = ([], (a : Int), 7) := by
  obtain ⟨f, hf, hR⟩ := I.read
  obtain ⟨rfl, _⟩ := I.zero
  rw [hR]
  refine read_err l d f a _ _ hf (by rcases ha with h | h; exact .inr h; exact .inl (bytes_ne h)) [] (a : Int) 0 7 ?_ (by decide)
  have : fitsB (recsOf rs) (bytesOf xs) = false := by
    unfold fitsB; rw [recs_len', bytes_len', Bool.and_eq_false_iff]; simp only [decide_eq_false_iff_not]; omega
  unfold cellOut; rw [if_pos this]
/-- a byte within a field -/
theorem LInv.same (I : LInv l d R rs xs C st beg a) (hf : rs.length < 2048 ∧ xs.length < 128) (C' : List UInt8) (st' : Nat) (h : Within l d beg (a + 1) st' C') (hc : C'.length ≤ C.length + 1) (ha : a < l.length) (h3 : st' ≤ 3) : LInv l d R rs xs C' st' beg (a + 1) :=
  ⟨I.read, h, by have := I.clen; omega, by have := I.ba; omega, ha, I.rn, I.xn, I.xr, fun _ => hf, h3⟩
/-- a field is wrong -/
theorem LInv.wrong (I : LInv l d R rs xs C st beg a) (hf : rs.length < 2048 ∧ xs.length < 128) (hr : xs ≠ [] ∨ beg < l.length) (t : List UInt8) (n : Int) (k e : Nat) (h : fieldOut l (beg : Int) d = (t, n, k, e)) (ht : t.length ≤ 4096) (he : e ≠ 0) : R = ([], n, e) := by
  obtain ⟨f, hf', hR⟩ := I.read
  rw [hR]
  refine read_err l d f beg _ _ hf' (by rcases hr with h | h; exact .inl (bytes_ne h); exact .inr h) t n k e ?_ he
  unfold cellOut; rw [if_neg (by rw [fits_of hf]; decide), h, if_neg (by simp; omega)]
theorem LInv.long (I : LInv l d R rs xs C st beg a) (hf : rs.length < 2048 ∧ xs.length < 128) (hr : xs ≠ [] ∨ beg < l.length) (n : Int) (k e : Nat) (h : fieldOut l (beg : Int) d = (C, n, k, e)) (hc : 4096 < C.length) : R = ([], (beg : Int), 7) := by
  obtain ⟨f, hf', hR⟩ := I.read
  rw [hR]
  refine read_err l d f beg _ _ hf' (by rcases hr with h | h; exact .inl (bytes_ne h); exact .inr h) [] (beg : Int) 0 7 ?_ (by decide)
  unfold cellOut; rw [if_neg (by rw [fits_of hf]; decide), h, if_pos (by simpa using hc)]
theorem cell_of {n : Int} {k : Nat} (hf : rs.length < 2048 ∧ xs.length < 128) (h : fieldOut l (beg : Int) d = (C, n, k, 0)) (hc : C.length ≤ 4096) : cellOut l beg d (fitsB (recsOf rs) (bytesOf xs)) = (C, n, k, 0) := by
  unfold cellOut; rw [if_neg (by rw [fits_of hf]; decide), h, if_neg (by simp; omega)]
theorem bytes_snoc1 (xs : List ByteArray) (c : ByteArray) : bytesOf (xs ++ [c]) = bytesOf xs ++ [c.data.toList] := by simp [bytesOf]
theorem recs_snoc1 (rs : List (List ByteArray)) (r : List ByteArray) : recsOf (rs ++ [r]) = recsOf rs ++ [bytesOf r] := by simp [recsOf]
theorem in_zero (b : Nat) : Within l d b b 0 [] := .inl ⟨rfl, rfl, rfl⟩
theorem LInv.more {cell : ByteArray} (I : LInv l d R rs xs cell.data.toList st beg a) (hf : rs.length < 2048 ∧ xs.length < 128) (hr : xs ≠ [] ∨ beg < l.length) (n : Nat) (h : fieldOut l (beg : Int) d = (cell.data.toList, (n : Int), 1, 0)) (hc : cell.data.toList.length ≤ 4096) (hn : n ≤ l.length) :
    LInv l d R rs (xs ++ [cell]) [] 0 n n := by
  obtain ⟨f, hf', hR⟩ := I.read
  obtain ⟨f', h1, h2⟩ := read_more l d f beg _ _ hf' (by rcases hr with h | h; exact .inl (bytes_ne h); exact .inr h) _ _ (cell_of hf h hc)
  rw [Int.toNat_natCast] at h1 h2
  exact ⟨⟨f', by rw [bytes_snoc1]; exact h1, by rw [hR, h2, bytes_snoc1]⟩, in_zero n, by simp, Nat.le_refl _, hn, by omega, by simp; omega, fun _ => hf.1, fun h => absurd rfl h, by decide⟩
theorem LInv.next {cell : ByteArray} (I : LInv l d R rs xs cell.data.toList st beg a) (hf : rs.length < 2048 ∧ xs.length < 128) (hr : xs ≠ [] ∨ beg < l.length) (n k : Nat) (hk : k ≠ 1) (h : fieldOut l (beg : Int) d = (cell.data.toList, (n : Int), k, 0)) (hc : cell.data.toList.length ≤ 4096) (hn : n ≤ l.length) :
    LInv l d R (rs ++ [xs ++ [cell]]) [] [] 0 n n := by
  obtain ⟨f, hf', hR⟩ := I.read
  obtain ⟨f', h1, h2⟩ := read_next l d f beg _ _ hf' (by rcases hr with h | h; exact .inl (bytes_ne h); exact .inr h) _ _ k hk (cell_of hf h hc)
  rw [Int.toNat_natCast] at h1 h2
  exact ⟨⟨f', h1, by rw [hR, h2, recs_snoc1, bytes_snoc1]; rfl⟩, in_zero n, by simp, Nat.le_refl _, hn, by simp; omega, by simp, fun h => absurd rfl h, fun h => absurd rfl h, by decide⟩
theorem LInv.done (I : LInv l d R rs [] C 0 beg a) (h : l.length ≤ beg) : R = (recsOf rs, 0, 0) := by
  obtain ⟨f, hf, hR⟩ := I.read
  rw [hR]; exact read_stop l d f beg _ h
theorem LInv.start (hl : l.length ≤ 4194304) (hg : goodI d = true) : LInv l d (parseL l d) [] [] [] 0 0 0 :=
  ⟨⟨2 * l.length + 1, by simp [enough, bytesOf], by unfold parseL; rw [if_neg (by simp [hg]), if_neg (by omega)]; rfl⟩, in_zero 0, by simp, Nat.le_refl _, Nat.zero_le _, by simp, by simp, fun h => absurd rfl h, fun h => absurd rfl h, by decide⟩
/-- where a field began there is a byte, or cells stand ahead of it -/
theorem LInv.some (I : LInv l d R rs xs C st beg a) (h : a < l.length ∨ st ≠ 0) : beg < l.length := by
  have := I.ba; have := I.al
  rcases h with h | h
  · omega
  · rcases I.within with ⟨h0, _⟩ | ⟨_, h1, _⟩ | ⟨_, h1, _⟩ | ⟨_, h1, _⟩
    · exact absurd h0 h
    · omega
    · omega
    · omega
end Go.Proofs.Ytacclgfpmkhodaa
