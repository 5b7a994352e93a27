/-
  The document's reference: an edit of rows is what the program's functions make of a table.
  Conditions: tables of at most 1000 rows of at most 1000 cells of at most 10000 bytes, edits as small.
-/
import Derived.WalkKit
import Derived.WalkMore
import Derived.Lib.Hide
import Derived.Test.YtpbnggnbjboafaaGreatProg
import Derived.Test.YtpbnggnbjboafaaGreatERefD
import Derived.Test.YtpbnggnbjboafaaGreatERefT4
import Derived.Test.YtpbnggnbjboafaaGreatERefT5
import Derived.Test.YtpbnggnbjboafaaGreatERefT6
import Derived.Test.YtpbnggnbjboafaaGreatERefT7
namespace Go.Proofs.YtpbnggnbjboafaaGreat
open Go.RowKit Go.Shelf
set_option linter.unusedVariables false
set_option linter.unusedSectionVars false

theorem ref_turn {g : List (List ByteArray) → Except Int (List (List ByteArray))} {hd : List ByteArray} {rs t : List (List ByteArray)} {f : Int} (h1 : f = 0 → checkI hd rs = 0 → g rs = .ok t) (h2 : f ≠ 0 → checkI hd rs = 0 → g rs = .error f) :
    refR hd rs f (hd, t) = turnR (fun xs => .ok xs) g hd rs := by
  unfold refR turnR
  by_cases h0 : checkI hd rs = 0
  · rw [if_pos h0, if_pos h0]
    by_cases hf : f = 0
    · rw [if_pos hf]; simp only [h1 hf h0]
    · rw [if_neg hf]; simp only [h2 hf h0]
  · rw [if_neg h0, if_neg h0]
theorem inI_iff {a n : Int} : inI a n = true ↔ 0 ≤ a ∧ a < n := by simp [inI]
theorem sm_rows {hd : List ByteArray} {rs t : List (List ByteArray)} (ht : tiT hd rs) (hl : t.length ≤ rs.length + 1) (hm : ∀ r ∈ t, r ∈ rs ∨ smR r) : smT hd t :=
  ⟨ht.1.sm, by have := ht.2.1; omega, fun r hr => by rcases hm r hr with h | h; exact (ht.2.2 r h).sm; exact h⟩
theorem mem_less {α : Type} {l : List α} {j : Nat} {x : α} (h : x ∈ l.take j ++ l.drop (j + 1)) : x ∈ l := by
  rcases List.mem_append.1 h with h | h
  · exact List.mem_of_mem_take h
  · exact List.mem_of_mem_drop h
theorem len_less {α : Type} {l : List α} {j : Nat} (h : j < l.length) : (l.take j ++ l.drop (j + 1)).length = l.length - 1 := by simp; omega
theorem mem_more {α : Type} {l : List α} {j : Nat} {x y : α} (h : y ∈ l.take j ++ x :: l.drop j) : y = x ∨ y ∈ l := by
  rcases List.mem_append.1 h with h | h
  · exact .inr (List.mem_of_mem_take h)
  · rcases List.mem_cons.1 h with h | h
    · exact .inl h
    · exact .inr (List.mem_of_mem_drop h)
theorem len_more {α : Type} {l : List α} {j : Nat} {x : α} (h : j ≤ l.length) : (l.take j ++ x :: l.drop j).length = l.length + 1 := by simp; omega
theorem set_more {α : Type} {l : List α} {j : Nat} {x : α} (h : j < l.length) : (l.take j ++ l.drop (j + 1)).take j ++ x :: (l.take j ++ l.drop (j + 1)).drop j = l.set j x := by
  have e : (l.take j).length = j := by rw [List.length_take]; omega
  rw [List.take_append_of_le_length (by omega), List.take_of_length_le (by omega), List.drop_append_of_le_length (by omega), List.drop_of_length_le (by omega), List.nil_append, List.set_eq_take_append_cons_drop, if_pos h]

section
variable (ho ro : Option Addr) (hd : List ByteArray) (rs : List (List ByteArray)) (hc : Cap ho hd.length) (rc : Cap ro rs.length) (kd a b : Int) (tx : ByteArray) (co : Option Addr) (cells : List ByteArray) (cc : Cap co cells.length) (po : Option Addr) (ps : List Int) (pc : Nat) (w : World)
    (ht : tiT hd rs) (hH : StrRow w ho hd) (hR : RowsAt w ro rs) (htx : tx.size ≤ 10000) (hC : StrRow w co cells) (tc : tiR cells)
include ht hH hR htx hC tc
theorem rdo4 : Calls Tryz.prog 9 #[.agg #[.slice ho hd.length hc.1, .slice ro rs.length rc.1], .agg #[.int .i64 4, .int .i64 a, .int .i64 b, .string tx, .slice co cells.length cc.1, .slice po ps.length pc]] w (TabOut (doR 4 a b tx cells ps hd rs) w) := by
  have e : doR 4 a b tx cells ps hd rs = refR hd rs (wrongR 4 a b hd.length rs.length) (hd, rs.take a.toNat ++ cells :: rs.drop a.toNat) := by
    show turnR (fun xs => .ok xs) (fun rs => insL rs a cells) hd rs = _
    refine (ref_turn (fun hf _ => ?_) (fun hf _ => ?_)).symm
    · have hi : inI a ((rs.length : Int) + 1) = true := by by_cases h : inI a ((rs.length : Int) + 1) = true; exact h; simp [wrongR, h] at hf
      have := inI_iff.1 hi
      unfold insL; rw [if_pos (by omega)]; simp
    · have hi : ¬ inI a ((rs.length : Int) + 1) = true := fun h => hf (by simp [wrongR, h])
      have h2 : ¬ (0 ≤ a ∧ a < (rs.length : Int) + 1) := fun h => hi (inI_iff.2 h)
      unfold insL; rw [if_neg (by omega)]; simp [wrongR, hi]
  rw [e]
  refine rdo_any ho ro hd rs hc rc 4 a b tx co cells cc po ps.length pc w _ _ ht.sm hH hR (fun V hV => rwrong4 ho ro hd.length rs.length hc.1 rc.1 a b tx co cells.length cc.1 po ps.length pc V ht.1.1 ht.2.1) (fun h0 hf => ?_)
  have hi : inI a ((rs.length : Int) + 1) = true := by by_cases h : inI a ((rs.length : Int) + 1) = true; exact h; simp [wrongR, h] at hf
  have hi := inI_iff.1 hi
  obtain ⟨j, rfl⟩ : ∃ j : Nat, a = j := ⟨a.toNat, by omega⟩
  rw [Int.toNat_natCast]
  exact ⟨sm_rows ht (by rw [len_more (by omega)]; exact Nat.le_refl _) (fun r hr => by rcases mem_more hr with rfl | h; exact .inr tc.sm; exact .inl h), fun V hV => rturned4 ho ro hd rs hc rc j b tx co cells cc po ps.length pc V ht.2.1 (hH.kept hV) (hR.kept hV) (hC.kept hV) (by omega)⟩
theorem rdo5 : Calls Tryz.prog 9 #[.agg #[.slice ho hd.length hc.1, .slice ro rs.length rc.1], .agg #[.int .i64 5, .int .i64 a, .int .i64 b, .string tx, .slice co cells.length cc.1, .slice po ps.length pc]] w (TabOut (doR 5 a b tx cells ps hd rs) w) := by
  have e : doR 5 a b tx cells ps hd rs = refR hd rs (wrongR 5 a b hd.length rs.length) (hd, rs.take a.toNat ++ rs.drop (a.toNat + 1)) := by
    show turnR (fun xs => .ok xs) (fun rs => delL rs a) hd rs = _
    refine (ref_turn (fun hf _ => ?_) (fun hf _ => ?_)).symm
    · have hi : inI a rs.length = true := by by_cases h : inI a rs.length = true; exact h; simp [wrongR, h] at hf
      have := inI_iff.1 hi
      unfold delL; rw [if_pos (by omega)]
    · have hi : ¬ inI a rs.length = true := fun h => hf (by simp [wrongR, h])
      have h2 : ¬ (0 ≤ a ∧ a < (rs.length : Int)) := fun h => hi (inI_iff.2 h)
      unfold delL; rw [if_neg (by omega)]; simp [wrongR, hi]
  rw [e]
  refine rdo_any ho ro hd rs hc rc 5 a b tx co cells cc po ps.length pc w _ _ ht.sm hH hR (fun V hV => rwrong5 ho ro hd.length rs.length hc.1 rc.1 a b tx co cells.length cc.1 po ps.length pc V ht.1.1 ht.2.1) (fun h0 hf => ?_)
  have hi : inI a rs.length = true := by by_cases h : inI a rs.length = true; exact h; simp [wrongR, h] at hf
  have hi := inI_iff.1 hi
  obtain ⟨j, rfl⟩ : ∃ j : Nat, a = j := ⟨a.toNat, by omega⟩
  rw [Int.toNat_natCast]
  exact ⟨sm_rows ht (by rw [len_less (by omega)]; omega) (fun r hr => .inl (mem_less hr)), fun V hV => rturned5 ho ro hd rs hc rc j b tx co cells cc po ps.length pc V ht.2.1 (hH.kept hV) (hR.kept hV) (hC.kept hV) (by omega)⟩
theorem rdo6 : Calls Tryz.prog 9 #[.agg #[.slice ho hd.length hc.1, .slice ro rs.length rc.1], .agg #[.int .i64 6, .int .i64 a, .int .i64 b, .string tx, .slice co cells.length cc.1, .slice po ps.length pc]] w (TabOut (doR 6 a b tx cells ps hd rs) w) := by
  have e : doR 6 a b tx cells ps hd rs = refR hd rs (wrongR 6 a b hd.length rs.length) (hd, (rs.take a.toNat ++ rs.drop (a.toNat + 1)).take b.toNat ++ (rs[a.toNat]?.getD []) :: (rs.take a.toNat ++ rs.drop (a.toNat + 1)).drop b.toNat) := by
    show turnR (fun xs => .ok xs) (fun rs => movL rs a b) hd rs = _
    refine (ref_turn (fun hf _ => ?_) (fun hf _ => ?_)).symm
    · have hi : (inI a rs.length && inI b rs.length) = true := by by_cases h : (inI a rs.length && inI b rs.length) = true; exact h; simp only [wrongR] at hf; simp [h] at hf
      have hi := Bool.and_eq_true_iff.1 hi
      have h1 := inI_iff.1 hi.1
      have h2 := inI_iff.1 hi.2
      have hl : a.toNat < rs.length := by omega
      have hdl : delL rs a = .ok (rs.take a.toNat ++ rs.drop (a.toNat + 1)) := by unfold delL; rw [if_pos (by omega)]
      show movL rs a b = _
      rw [mov_ok hdl (List.getElem?_eq_getElem hl)]
      unfold insL; rw [if_pos (by rw [len_less hl]; omega), List.getElem?_eq_getElem hl]; simp
    · have hi : ¬ (inI a rs.length && inI b rs.length) = true := fun h => hf (by simp only [wrongR]; simp [h])
      have hw : wrongR 6 a b hd.length rs.length = 11 := by simp only [wrongR]; simp [hi]
      rw [hw]
      show movL rs a b = _
      by_cases h1 : 0 ≤ a ∧ a < (rs.length : Int)
      · have hl : a.toNat < rs.length := by omega
        have hdl : delL rs a = .ok (rs.take a.toNat ++ rs.drop (a.toNat + 1)) := by unfold delL; rw [if_pos h1]
        have h2 : ¬ (0 ≤ b ∧ b < (rs.length : Int)) := fun h => hi (Bool.and_eq_true_iff.2 ⟨inI_iff.2 h1, inI_iff.2 h⟩)
        rw [mov_ok hdl (List.getElem?_eq_getElem hl)]
        unfold insL; rw [if_neg (by rw [len_less hl]; omega)]
      · exact mov_err (by unfold delL; rw [if_neg h1])
  rw [e]
  refine rdo_any ho ro hd rs hc rc 6 a b tx co cells cc po ps.length pc w _ _ ht.sm hH hR (fun V hV => rwrong6 ho ro hd.length rs.length hc.1 rc.1 a b tx co cells.length cc.1 po ps.length pc V ht.1.1 ht.2.1) (fun h0 hf => ?_)
  have hi : (inI a rs.length && inI b rs.length) = true := by by_cases h : (inI a rs.length && inI b rs.length) = true; exact h; simp only [wrongR] at hf; simp [h] at hf
  have hi := Bool.and_eq_true_iff.1 hi
  have h1 := inI_iff.1 hi.1
  have h2 := inI_iff.1 hi.2
  obtain ⟨j, rfl⟩ : ∃ j : Nat, a = j := ⟨a.toNat, by omega⟩
  obtain ⟨i, rfl⟩ : ∃ i : Nat, b = i := ⟨b.toNat, by omega⟩
  rw [Int.toNat_natCast, Int.toNat_natCast]
  have hl : j < rs.length := by omega
  have hx := List.getElem?_eq_getElem hl
  rw [hx]
  exact ⟨sm_rows ht (by rw [len_more (by rw [len_less hl]; omega), len_less hl]; omega) (fun r hr => by rcases mem_more hr with rfl | h; exact .inl (List.getElem_mem hl); exact .inl (mem_less h)), fun V hV => rturned6 ho ro hd rs hc rc j i _ tx co cells cc po ps.length pc V ht.2.1 (hH.kept hV) (hR.kept hV) (hC.kept hV) hx (by omega)⟩
theorem rdo7 : Calls Tryz.prog 9 #[.agg #[.slice ho hd.length hc.1, .slice ro rs.length rc.1], .agg #[.int .i64 7, .int .i64 a, .int .i64 b, .string tx, .slice co cells.length cc.1, .slice po ps.length pc]] w (TabOut (doR 7 a b tx cells ps hd rs) w) := by
  obtain ⟨x, hxx⟩ : ∃ x, x = rs[a.toNat]?.getD [] := ⟨_, rfl⟩
  have e : doR 7 a b tx cells ps hd rs = refR hd rs (wrongR 7 a b hd.length rs.length) (hd, (rs.take a.toNat ++ rs.drop (a.toNat + 1)).take a.toNat ++ ((x.take b.toNat ++ x.drop (b.toNat + 1)).take b.toNat ++ tx :: (x.take b.toNat ++ x.drop (b.toNat + 1)).drop b.toNat) :: (rs.take a.toNat ++ rs.drop (a.toNat + 1)).drop a.toNat) := by
    show turnR (fun xs => .ok xs) (fun rs => turL rs a (fun r => setL r b tx)) hd rs = _
    refine (ref_turn (fun hf h0 => ?_) (fun hf h0 => ?_)).symm
    · have hi : (inI a rs.length && inI b hd.length) = true := by by_cases h : (inI a rs.length && inI b hd.length) = true; exact h; simp only [wrongR] at hf; simp [h] at hf
      have hi := Bool.and_eq_true_iff.1 hi
      have h1 := inI_iff.1 hi.1
      have h2 := inI_iff.1 hi.2
      have hl : a.toNat < rs.length := by omega
      have hx := List.getElem?_eq_getElem hl
      have hxl : (rs[a.toNat]).length = hd.length := (check_parts.1 h0).2.1 _ (List.getElem_mem hl)
      rw [hx] at hxx
      simp only [Option.getD_some] at hxx
      subst hxx
      show turL rs a _ = _
      unfold turL
      rw [if_pos h1, hx]
      show emap _ (setL _ b tx) = _
      unfold setL
      rw [if_pos (by omega), set_more hl, set_more (by omega)]
      rfl
    · have hi : ¬ (inI a rs.length && inI b hd.length) = true := fun h => hf (by simp only [wrongR]; simp [h])
      have hw : wrongR 7 a b hd.length rs.length = 11 := by simp only [wrongR]; simp [hi]
      rw [hw]
      show turL rs a _ = _
      unfold turL
      by_cases h1 : 0 ≤ a ∧ a < (rs.length : Int)
      · have hl : a.toNat < rs.length := by omega
        have hx := List.getElem?_eq_getElem hl
        have hxl : (rs[a.toNat]).length = hd.length := (check_parts.1 h0).2.1 _ (List.getElem_mem hl)
        have h2 : ¬ (0 ≤ b ∧ b < (hd.length : Int)) := fun h => hi (Bool.and_eq_true_iff.2 ⟨inI_iff.2 h1, inI_iff.2 h⟩)
        rw [if_pos h1, hx]
        show emap _ (setL _ b tx) = _
        unfold setL
        rw [if_neg (by omega)]
        rfl
      · rw [if_neg h1]
  rw [e]
  refine rdo_any ho ro hd rs hc rc 7 a b tx co cells cc po ps.length pc w _ _ ht.sm hH hR (fun V hV => rwrong7 ho ro hd.length rs.length hc.1 rc.1 a b tx co cells.length cc.1 po ps.length pc V ht.1.1 ht.2.1) (fun h0 hf => ?_)
  have hi : (inI a rs.length && inI b hd.length) = true := by by_cases h : (inI a rs.length && inI b hd.length) = true; exact h; simp only [wrongR] at hf; simp [h] at hf
  have hi := Bool.and_eq_true_iff.1 hi
  have h1 := inI_iff.1 hi.1
  have h2 := inI_iff.1 hi.2
  obtain ⟨j, rfl⟩ : ∃ j : Nat, a = j := ⟨a.toNat, by omega⟩
  obtain ⟨i, rfl⟩ : ∃ i : Nat, b = i := ⟨b.toNat, by omega⟩
  rw [Int.toNat_natCast] at hxx ⊢
  rw [Int.toNat_natCast]
  have hl : j < rs.length := by omega
  have hx := List.getElem?_eq_getElem hl
  have hxl : (rs[j]).length = hd.length := (check_parts.1 h0).2.1 _ (List.getElem_mem hl)
  have htr := ht.2.2 _ (List.getElem_mem hl)
  rw [hx] at hxx
  simp only [Option.getD_some] at hxx
  subst hxx
  refine ⟨?_, fun V hV => rturned7 ho ro hd rs hc rc j i _ tx co cells cc po ps.length pc V ht.2.1 (hH.kept hV) (hR.kept hV) (hC.kept hV) hx (by omega) htr.1⟩
  show smT hd _
  rw [set_more hl, set_more (by omega)]
  refine sm_rows ht (by simp) (fun r hr => ?_)
  rcases List.mem_or_eq_of_mem_set hr with h | rfl
  · exact .inl h
  · refine .inr ⟨by have := htr.1; simp; omega, fun c hc => ?_⟩
    rcases List.mem_or_eq_of_mem_set hc with h | rfl
    · exact htr.2 c h
    · exact htx
theorem rdo_rows (hk : 4 ≤ kd ∧ kd ≤ 7) : Calls Tryz.prog 9 #[.agg #[.slice ho hd.length hc.1, .slice ro rs.length rc.1], .agg #[.int .i64 kd, .int .i64 a, .int .i64 b, .string tx, .slice co cells.length cc.1, .slice po ps.length pc]] w (TabOut (doR kd a b tx cells ps hd rs) w) := by
  rcases (show kd = 4 ∨ kd = 5 ∨ kd = 6 ∨ kd = 7 by omega) with rfl | rfl | rfl | rfl
  · exact rdo4 ho ro hd rs hc rc a b tx co cells cc po ps pc w ht hH hR htx hC tc
  · exact rdo5 ho ro hd rs hc rc a b tx co cells cc po ps pc w ht hH hR htx hC tc
  · exact rdo6 ho ro hd rs hc rc a b tx co cells cc po ps pc w ht hH hR htx hC tc
  · exact rdo7 ho ro hd rs hc rc a b tx co cells cc po ps pc w ht hH hR htx hC tc
end
end Go.Proofs.YtpbnggnbjboafaaGreat
