/-
  The program's generic functions at lists of texts, and at rows.
  Conditions: lists of at most 2^38 elements.
-/
import Derived.WalkKit
import Derived.WalkMore
import Derived.WalkLawsBesides
import Derived.Lib.Hide
import Derived.Test.YtigijgcldgbokaaGreatProg
import Derived.Test.YtigijgcldgbokaaGreatEEach
namespace Go.Proofs.YtigijgcldgbokaaGreat
open Go.RowKit Go.Shelf
set_option linter.unusedVariables false

theorem strs_form (xs : List ByteArray) : ∀ u ∈ xs.map Value.string, ∃ xv, u = Value.string xv := fun u hu => by
  obtain ⟨x, _, rfl⟩ := List.mem_map.1 hu; exact ⟨x, rfl⟩
theorem vals_form (L : List RowL) : ∀ u ∈ L.map RowL.val, ∃ xo xn xc, u = Value.slice xo xn xc := fun u hu => by
  obtain ⟨x, _, rfl⟩ := List.mem_map.1 hu; exact ⟨_, _, _, rfl⟩
theorem ins_s (ao : Option Addr) (xs : List ByteArray) (cap : Cap ao xs.length) (k : Int) (x : ByteArray) (w : World) (hn : xs.length ≤ 274877906944) (hc : StrRow w ao xs) :
    Calls Tryz.prog 83 #[.slice ao xs.length cap.1, .int .i64 k, .string x] w (SNew (insV xs k x) w) := by
  have hl : (xs.map Value.string).length = xs.length := by simp
  have h := insertedS ao (xs.map Value.string) ⟨cap.1, Nat.le_trans (Nat.le_of_eq hl) cap.2.1, cap.2.2⟩ k x w (by rw [hl]; omega) hc.cells (strs_ones xs)
  rw [ins_map Value.string xs k x] at h
  have e : (#[.slice ao (xs.map Value.string).length cap.1, .int .i64 k, .string x] : Array Value) = #[.slice ao xs.length cap.1, .int .i64 k, .string x] := congrArg (fun n => (#[.slice ao n cap.1, .int .i64 k, .string x] : Array Value)) hl
  exact (show Calls Tryz.prog 83 #[.slice ao xs.length cap.1, .int .i64 k, .string x] w _ from e ▸ h).mono fun e w' q => q.strs
theorem del_s (ao : Option Addr) (xs : List ByteArray) (cap : Cap ao xs.length) (k : Int) (w : World) (hn : xs.length ≤ 274877906944) (hc : StrRow w ao xs) :
    Calls Tryz.prog 82 #[.slice ao xs.length cap.1, .int .i64 k] w (SNew (delL xs k) w) := by
  have hl : (xs.map Value.string).length = xs.length := by simp
  have h := deletedS ao (xs.map Value.string) ⟨cap.1, Nat.le_trans (Nat.le_of_eq hl) cap.2.1, cap.2.2⟩ k w (by rw [hl]; omega) hc.cells (strs_ones xs)
  rw [del_map Value.string xs k] at h
  have e : (#[.slice ao (xs.map Value.string).length cap.1, .int .i64 k] : Array Value) = #[.slice ao xs.length cap.1, .int .i64 k] := congrArg (fun n => (#[.slice ao n cap.1, .int .i64 k] : Array Value)) hl
  exact (show Calls Tryz.prog 82 #[.slice ao xs.length cap.1, .int .i64 k] w _ from e ▸ h).mono fun e w' q => q.strs
theorem mov_s (ao : Option Addr) (xs : List ByteArray) (cap : Cap ao xs.length) (k t : Int) (w : World) (hn : xs.length ≤ 274877906944) (hc : StrRow w ao xs) :
    Calls Tryz.prog 45 #[.slice ao xs.length cap.1, .int .i64 k, .int .i64 t] w (SNew (movL xs k t) w) := by
  have hl : (xs.map Value.string).length = xs.length := by simp
  have h := movedS ao (xs.map Value.string) ⟨cap.1, Nat.le_trans (Nat.le_of_eq hl) cap.2.1, cap.2.2⟩ k t w (by rw [hl]; omega) hc.cells (strs_form xs)
  rw [mov_map Value.string xs k t] at h
  have e : (#[.slice ao (xs.map Value.string).length cap.1, .int .i64 k, .int .i64 t] : Array Value) = #[.slice ao xs.length cap.1, .int .i64 k, .int .i64 t] := congrArg (fun n => (#[.slice ao n cap.1, .int .i64 k, .int .i64 t] : Array Value)) hl
  exact (show Calls Tryz.prog 45 #[.slice ao xs.length cap.1, .int .i64 k, .int .i64 t] w _ from e ▸ h).mono fun e w' q => q.strs

theorem ins_mem {α : Type} {l o : List α} {k : Int} {x : α} (h : insV l k x = .ok o) : 0 ≤ k ∧ k ≤ (l.length : Int) ∧ o.length = l.length + 1 ∧ ∀ u ∈ o, u = x ∨ u ∈ l := by
  unfold insV at h
  split at h
  · rename_i hk
    injection h with h
    subst h
    refine ⟨hk.1, hk.2, by simp; omega, fun u hu => ?_⟩
    simp only [List.append_assoc, List.singleton_append, List.mem_append, List.mem_cons] at hu
    rcases hu with hu | hu | hu
    · exact .inr (List.mem_of_mem_take hu)
    · exact .inl hu
    · exact .inr (List.mem_of_mem_drop hu)
  · cases h
theorem del_mem {α : Type} {l o : List α} {k : Int} (h : delL l k = .ok o) : 0 ≤ k ∧ k < (l.length : Int) ∧ o.length + 1 = l.length ∧ ∀ u ∈ o, u ∈ l := by
  unfold delL at h
  split at h
  · rename_i hk
    injection h with h
    subst h
    refine ⟨hk.1, hk.2, by simp; omega, fun u hu => ?_⟩
    rcases List.mem_append.1 hu with h | h
    · exact List.mem_of_mem_take h
    · exact List.mem_of_mem_drop h
  · cases h
theorem mov_mem {α : Type} {l o : List α} {k t : Int} (h : movL l k t = .ok o) : 0 ≤ k ∧ k < (l.length : Int) ∧ 0 ≤ t ∧ t < (l.length : Int) ∧ o.length = l.length ∧ ∀ u ∈ o, u ∈ l := by
  cases hd : delL l k with
  | error e => rw [mov_err hd] at h; cases h
  | ok d =>
    obtain ⟨h1, h2, h3, h4⟩ := del_mem hd
    obtain ⟨j, rfl⟩ := Int.eq_ofNat_of_zero_le h1
    have hj : j < l.length := by omega
    rw [mov_ok hd (x := l[j]) (by rw [Int.toNat_natCast]; exact List.getElem?_eq_getElem hj)] at h
    obtain ⟨h5, h6, h7, h8⟩ := ins_mem h
    refine ⟨h1, h2, h5, by omega, by omega, fun u hu => ?_⟩
    rcases h8 u hu with rfl | hu
    · exact List.getElem_mem hj
    · exact h4 u hu

end Go.Proofs.YtigijgcldgbokaaGreat
