/-
  Mathematics of a text that is read field by field.
  Conditions: none.
-/
import Derived.WalkKit
import Derived.WalkMore
import Derived.Lib.Hide
import Derived.Test.YtebnmenglgadpaaProg
import Derived.Test.YtebnmenglgadpaaCsvMath4
import Derived.Test.YtebnmenglgadpaaCsvField
namespace Go.Proofs.Ytebnmenglgadpaa
open Go.RowKit Go.Shelf

/-- where the reading stands: done and row are read, the rest is R's -/
def Along (l : List UInt8) (d : Int) (R : Recs × Int × Nat) (a i k : Nat) : Prop := ∃ done row f, done.length = i ∧ row.length = k ∧ enough l a row f ∧ R = readL l d f a done row
theorem small_cell (l : List UInt8) (a d : Int) (hl : l.length ≤ 3000) : (fieldOut l a d).1.length ≤ 4096 := by
  have := field_cell_le l a d; omega
/-- the next field, where nothing is too large: its fault is the text's; or it stands where the records have it -/
theorem along_next (l : List UInt8) (d : Int) (hl : l.length ≤ 3000) (rs : Recs) (n : Int) (e : Nat) (he7 : e ≠ 7) (a i k : Nat) (h : Along l d (rs, n, e) a i k) (hr : a < l.length ∨ 0 < k) (t : List UInt8) (to : Int) (kd f : Nat) (hf : fieldOut l (a : Int) d = (t, to, kd, f)) :
    (f ≠ 0 ∧ e = f ∧ n = to ∧ rs = []) ∨
    (f = 0 ∧ ∃ b : Nat, to = (b : Int) ∧ b ≤ l.length ∧ a ≤ b ∧ (kd = 3 ∧ b = l.length ∨ a < b) ∧ (kd = 1 ∨ kd = 2 ∨ kd = 3) ∧
      (e = 0 → ∃ r, rs[i]? = some r ∧ r[k]? = some t ∧ (kd ≠ 1 → r.length = k + 1)) ∧ (kd = 1 → Along l d (rs, n, e) b i (k + 1)) ∧ (kd ≠ 1 → Along l d (rs, n, e) b (i + 1) 0)) := by
  obtain ⟨done, row, g, h1, h2, h3, h4⟩ := h
  have hr' : row ≠ [] ∨ a < l.length := by
    rcases hr with h | h
    · exact .inr h
    · exact .inl (fun e => by rw [e] at h2; simp at h2; omega)
  by_cases hfit : fitsB done row = true
  · have hsm := small_cell l (a : Int) d hl
    rw [hf] at hsm
    have hcell : cellOut l a d (fitsB done row) = (t, to, kd, f) := by
      unfold cellOut; rw [hfit, if_neg (by simp), hf, if_neg (by simp only at hsm ⊢; omega)]
    by_cases hf0 : f = 0
    · subst hf0
      right
      obtain ⟨_, _, _, b, rfl, g1, g2, g3⟩ := cell_ok l a d _ _ _ _ hcell
      refine ⟨rfl, b, rfl, g2, g1, by omega, by omega, fun he => ?_, fun hk => ?_, fun hk => ?_⟩
      · subst he
        by_cases hk : kd = 1
        · subst hk
          obtain ⟨f', e1, e2⟩ := read_more l d g a done row h3 hr' t _ hcell
          rw [Int.toNat_natCast] at e1 e2
          have hn0 : n = 0 := read_zero l d rs n _ _ _ _ (h4.symm)
          rw [e2, hn0] at h4
          obtain ⟨_, x⟩ := read_begins l d rs f' b done (row ++ [t]) e1 h4.symm
          obtain ⟨y, z, ex⟩ := x (by simp)
          refine ⟨row ++ [t] ++ y, ?_, ?_, fun h => absurd rfl h⟩
          · rw [ex, List.getElem?_append_right (by omega), h1]; simp
          · rw [List.append_assoc, List.getElem?_append_right (by omega), h2]; simp
        · obtain ⟨f', e1, e2⟩ := read_next l d g a done row h3 hr' t _ kd hk hcell
          rw [Int.toNat_natCast] at e1 e2
          have hn0 : n = 0 := read_zero l d rs n _ _ _ _ (h4.symm)
          rw [e2, hn0] at h4
          obtain ⟨⟨x, ex⟩, _⟩ := read_begins l d rs f' b (done ++ [row ++ [t]]) [] e1 h4.symm
          refine ⟨row ++ [t], ?_, ?_, fun _ => by simp; omega⟩
          · rw [ex, List.append_assoc, List.getElem?_append_right (by omega), h1]; simp
          · rw [List.getElem?_append_right (by omega), h2]; simp
      · subst hk
        obtain ⟨f', e1, e2⟩ := read_more l d g a done row h3 hr' t _ hcell
        rw [Int.toNat_natCast] at e1 e2
        exact ⟨done, row ++ [t], f', h1, by simp; omega, e1, by rw [h4, e2]⟩
      · obtain ⟨f', e1, e2⟩ := read_next l d g a done row h3 hr' t _ kd hk hcell
        rw [Int.toNat_natCast] at e1 e2
        exact ⟨done ++ [row ++ [t]], [], f', by simp; omega, rfl, e1, by rw [h4, e2]⟩
    · left
      have := read_err l d g a done row h3 hr' t to kd f hcell hf0
      rw [this] at h4
      simp only [Prod.mk.injEq] at h4
      exact ⟨hf0, h4.2.2, h4.2.1, h4.1⟩
  · exfalso
    have hfit' : fitsB done row = false := by simpa using hfit
    have := read_err l d g a done row h3 hr' [] (a : Int) 0 7 (by unfold cellOut; rw [hfit', if_pos rfl]) (by decide)
    rw [this] at h4
    simp only [Prod.mk.injEq] at h4
    exact he7 h4.2.2
/-- at the end -/
theorem along_end (l : List UInt8) (d : Int) (rs : Recs) (n : Int) (e : Nat) (a i : Nat) (h : Along l d (rs, n, e) a i 0) (ha : l.length ≤ a) : e = 0 ∧ rs.length = i := by
  obtain ⟨done, row, g, h1, h2, h3, h4⟩ := h
  have hrow : row = [] := List.eq_nil_of_length_eq_zero h2
  subst hrow
  rw [read_stop _ _ _ _ _ ha] at h4
  simp only [Prod.mk.injEq] at h4
  exact ⟨h4.2.2, by rw [h4.1]; exact h1⟩

/-- a cell of the records, where it lies -/
theorem cell_at (W : World) (lo : Option Addr) (ls : List (List ByteArray)) (rs : Recs) (hR : RowsAt W lo ls) (he : recsOf ls = rs) (i k : Nat) (r : List (List UInt8)) (t : List UInt8) (hi : rs[i]? = some r) (hk : r[k]? = some t) :
    ∃ A ro c row D x, lo = some A ∧ i < ls.length ∧ W.cell? (A.add i) = some (.slice ro row c) ∧ row = r.length ∧ k < row ∧ ro = some D ∧ W.cell? (D.add k) = some (.string x) ∧ x.data.toList = t := by
  subst he
  simp only [recsOf, List.getElem?_map, Option.map_eq_some_iff] at hi
  obtain ⟨q, h1, rfl⟩ := hi
  simp only [bytesOf, List.getElem?_map, Option.map_eq_some_iff] at hk
  obtain ⟨x, h2, rfl⟩ := hk
  have hil := (List.getElem?_eq_some_iff.1 h1).1
  have hkl := (List.getElem?_eq_some_iff.1 h2).1
  rcases hR with h0 | ⟨A, hA, _, hcell⟩
  · rw [h0] at hil; simp at hil
  obtain ⟨ro, c, g1, g2⟩ := hcell i q h1
  rcases g2 with h0 | ⟨D, hD, _, hc2⟩
  · rw [h0] at hkl; simp at hkl
  exact ⟨A, ro, c, q.length, D, x, hA, hil, g1, by simp [bytesOf], hkl, hD, hc2 k x h2, rfl⟩
end Go.Proofs.Ytebnmenglgadpaa
