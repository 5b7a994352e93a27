/-
  The calls of package edit: what each makes of a table, or the error that it tells.
  Conditions: tables of at most 1000 rows of at most 1000 cells of at most 10000 bytes (the statements ask about far smaller ones).
-/
import Derived.WalkKit
import Derived.WalkMore
import Derived.WalkLawsBesides
import Derived.Lib.Hide
import Derived.Deep.RegionWith
import Derived.StillTailTactics
import Derived.Laws.EntriesVeiled
import Derived.Test.YtigijgcldgbokaaGreatProg
import Derived.Test.YtigijgcldgbokaaGreatESize
namespace Go.Proofs.YtigijgcldgbokaaGreat
open Go.RowKit Go.Shelf
set_option linter.unusedVariables false

theorem tur_mem {rs r : List (List ByteArray)} {i : Int} {f : List ByteArray → Except Int (List ByteArray)} (h : turL rs i f = .ok r) : 0 ≤ i ∧ i < (rs.length : Int) ∧ ∃ x y, rs[i.toNat]? = some x ∧ f x = .ok y ∧ r = rs.set i.toNat y := by
  unfold turL at h
  split at h
  · rename_i hk
    cases hx : rs[i.toNat]? with
    | none => rw [hx] at h; cases h
    | some x =>
      rw [hx] at h
      simp only at h
      cases hf : f x with
      | error e => rw [hf] at h; cases h
      | ok y =>
        rw [hf] at h
        simp only [emap] at h
        injection h with h
        exact ⟨hk.1, hk.2, x, y, rfl, hf, h.symm⟩
  · cases h
theorem tur_sm {hd : List ByteArray} {rs r : List (List ByteArray)} {i k : Int} {x : ByteArray} (ht : tiT hd rs) (hx : x.size ≤ 10000) (h : turL rs i (fun r => setL r k x) = .ok r) : smT hd r := by
  obtain ⟨_, _, y, z, h1, h2, rfl⟩ := tur_mem h
  refine ⟨ht.1.sm, by have := ht.2.1; simp; omega, fun q hq => ?_⟩
  rcases List.mem_or_eq_of_mem_set hq with hq | rfl
  · exact (ht.2.2 q hq).sm
  · exact set_sm (ht.2.2 y (List.mem_of_getElem? h1)) hx h2
theorem add_is {k : Int} {cells : List ByteArray} {rs r : List (List ByteArray)} (h : addR k cells rs = .ok r) : cells.length = rs.length ∧ r.length = rs.length ∧ ∀ (i : Nat) x c, rs[i]? = some x → cells[i]? = some c → ∃ y, r[i]? = some y ∧ insV x k c = .ok y := by
  unfold addR at h
  split at h
  · rename_i hl
    obtain ⟨h1, h2⟩ := each_ok h
    refine ⟨hl, h1, fun i x c hx hc => ?_⟩
    obtain ⟨y, hy, hf⟩ := h2 i x hx
    rw [Nat.zero_add, addF, hc] at hf
    exact ⟨y, hy, hf⟩
  · cases h
theorem add_sm {hd h cells : List ByteArray} {rs r : List (List ByteArray)} {k : Int} {nm : ByteArray} (ht : tiT hd rs) (hnm : nm.size ≤ 10000) (tc : tiR cells) (h1 : insV hd k nm = .ok h) (h2 : addR k cells rs = .ok r) : smT h r := by
  obtain ⟨hl, hr, hi⟩ := add_is h2
  refine ⟨ins_sm ht.1 hnm h1, by have := ht.2.1; omega, fun q hq => ?_⟩
  obtain ⟨i, hi', rfl⟩ := List.getElem_of_mem hq
  obtain ⟨y, hy, hf⟩ := hi i (rs[i]'(by omega)) (cells[i]'(by omega)) (List.getElem?_eq_getElem (by omega)) (List.getElem?_eq_getElem (by omega))
  rw [List.getElem?_eq_getElem hi'] at hy
  injection hy with hy
  rw [hy]
  exact ins_sm (ht.2.2 _ (List.getElem_mem _)) (tc.2 _ (List.getElem_mem _)) hf

end Go.Proofs.YtigijgcldgbokaaGreat
