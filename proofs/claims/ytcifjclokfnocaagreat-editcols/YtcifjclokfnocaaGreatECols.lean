/-
  The document's reference: an edit of columns is what the program's functions make of a table.
  Conditions: tables of at most 1000 rows of at most 1000 cells of at most 10000 bytes, edits as small.
-/
import Derived.WalkKit
import Derived.WalkMore
import Derived.Lib.Hide
import Derived.Test.YtcifjclokfnocaaGreatProg
import Derived.Test.YtcifjclokfnocaaGreatERefXY
import Derived.Test.YtcifjclokfnocaaGreatERefL
import Derived.Test.YtcifjclokfnocaaGreatERefTC
import Derived.Test.YtcifjclokfnocaaGreatEFew
namespace Go.Proofs.YtcifjclokfnocaaGreat
open Go.RowKit Go.Shelf
set_option linter.unusedVariables false
set_option linter.unusedSectionVars false

theorem inI_iffC {a n : Int} : inI a n = true ↔ 0 ≤ a ∧ a < n := by simp [inI]
theorem mem_lessC {α : Type} {l : List α} {j : Nat} {x : α} (h : x ∈ l.take j ++ l.drop (j + 1)) : x ∈ l := by
  rcases List.mem_append.1 h with h | h
  · exact List.mem_of_mem_take h
  · exact List.mem_of_mem_drop h
theorem len_lessC {α : Type} {l : List α} {j : Nat} (h : j < l.length) : (l.take j ++ l.drop (j + 1)).length = l.length - 1 := by simp; omega
theorem mem_moreC {α : Type} {l : List α} {j : Nat} {x y : α} (h : y ∈ l.take j ++ x :: l.drop j) : y = x ∨ y ∈ l := by
  rcases List.mem_append.1 h with h | h
  · exact .inr (List.mem_of_mem_take h)
  · rcases List.mem_cons.1 h with h | h
    · exact .inl h
    · exact .inr (List.mem_of_mem_drop h)
theorem len_moreC {α : Type} {l : List α} {j : Nat} {x : α} (h : j ≤ l.length) : (l.take j ++ x :: l.drop j).length = l.length + 1 := by simp; omega
theorem set_moreC {α : Type} {l : List α} {j : Nat} {x : α} (h : j < l.length) : (l.take j ++ l.drop (j + 1)).take j ++ x :: (l.take j ++ l.drop (j + 1)).drop j = l.set j x := by
  have e : (l.take j).length = j := by rw [List.length_take]; omega
  rw [List.take_append_of_le_length (by omega), List.take_of_length_le (by omega), List.drop_append_of_le_length (by omega), List.drop_of_length_le (by omega), List.nil_append, List.set_eq_take_append_cons_drop, if_pos h]

theorem each_map {f : List ByteArray → Except Int (List ByteArray)} {g : List ByteArray → List ByteArray} (l : List (List ByteArray)) (k : Nat) (h : ∀ r ∈ l, f r = .ok (g r)) : eachL (fun _ r => f r) k l = .ok (l.map g) := by
  induction l generalizing k with
  | nil => rfl
  | cons r l ih =>
    unfold eachL
    rw [h r (by simp), ih (k + 1) (fun x hx => h x (by simp [hx]))]; rfl
theorem each_zip {a : Int} {cells : List ByteArray} {g : List ByteArray → ByteArray → List ByteArray} (l : List (List ByteArray)) (k : Nat) (cs : List ByteArray) (hcs : cells.drop k = cs) (hl : cs.length = l.length) (h : ∀ r ∈ l, ∀ c, insL r a c = .ok (g r c)) : eachL (addF a cells) k l = .ok (List.zipWith g l cs) := by
  induction l generalizing k cs with
  | nil => simp [eachL]
  | cons r l ih =>
    cases cs with
    | nil => simp at hl
    | cons c cs =>
      have hk : cells[k]? = some c := by have := congrArg List.head? hcs; simpa using this
      have hd : cells.drop (k + 1) = cs := by rw [← List.tail_drop, hcs]; rfl
      unfold eachL
      have e : addF a cells k r = .ok (g r c) := by unfold addF; rw [hk]; exact h r (by simp) c
      rw [e, ih (k + 1) cs hd (by simpa using hl) (fun x hx => h x (by simp [hx]))]; rfl
theorem check_headC {ys : List ByteArray} {R : List (List ByteArray)} (hw : ∀ r ∈ R, r.length = ys.length) (h : checkI ys [] ≠ 0) : checkI ys R = checkI ys [] := by
  have hne : checkI ys R ≠ 0 := fun h0 => h (check_sub h0 (fun r hr => by cases hr) (by simp) (by simp [sumT]))
  have rag : ∀ S : List (List ByteArray), (∀ r ∈ S, r.length = ys.length) → raggedB ys S = false := fun S hS => by
    unfold raggedB
    rw [List.any_eq_false]
    intro r hr
    simp [wideB, hS r hr]
  unfold checkI at h hne ⊢
  rw [rag R hw] at hne ⊢
  rw [rag [] (fun r hr => by cases hr)] at h ⊢
  by_cases h1 : ys.length = 0
  · rw [if_pos h1, if_pos h1]
  · rw [if_neg h1] at h hne ⊢
    rw [if_neg h1]
    by_cases h2 : dupL ys = true
    · simp [h2]
    · simp only [h2, Bool.false_eq_true, if_false] at h hne ⊢
      by_cases h3 : largeB ys [] = true
      · by_cases h4 : largeB ys R = true
        · simp [h3, h4]
        · simp [h4] at hne
      · simp [h3] at h
theorem ref_turn2 {gh : List ByteArray → Except Int (List ByteArray)} {gr : List (List ByteArray) → Except Int (List (List ByteArray))} {hd : List ByteArray} {rs : List (List ByteArray)} {t : Tab} {f : Int} (h1 : f = 0 → checkI hd rs = 0 → gh hd = .ok t.1 ∧ gr rs = .ok t.2) (h2 : f ≠ 0 → checkI hd rs = 0 → gh hd = .error f ∨ ∃ h, gh hd = .ok h ∧ gr rs = .error f) :
    refR hd rs f t = turnR gh gr hd rs := by
  unfold refR
  by_cases h0 : checkI hd rs = 0
  · rw [if_pos h0]
    by_cases hf : f = 0
    · obtain ⟨e1, e2⟩ := h1 hf h0
      rw [if_pos hf, turn_ok h0 e1 e2]
    · rw [if_neg hf]
      rcases h2 hf h0 with e | ⟨h, e1, e2⟩
      · rw [turn_head h0 e]
      · rw [turn_rows h0 e1 e2]
  · rw [if_neg h0]; unfold turnR; rw [if_neg h0]
theorem ref_cols {g : List ByteArray → Except Int (List ByteArray)} {G : List ByteArray → List ByteArray} {hd : List ByteArray} {rs : List (List ByteArray)} {f : Int} {t : Tab} (ht : checkI hd rs = 0 → f = 0 → t = (G hd, rs.map G)) (h1 : f = 0 → ∀ r, r.length = hd.length → g r = .ok (G r)) (hl : f = 0 → ∀ r, r.length = hd.length → (G r).length = (G hd).length) (h2 : f ≠ 0 → g hd = .error f) :
    refR hd rs f t = turnR (colsH g) (colsR g) hd rs := by
  unfold refR
  by_cases h0 : checkI hd rs = 0
  · rw [if_pos h0]
    have hw := (check_parts.1 h0).2.1
    by_cases hf : f = 0
    · rw [if_pos hf, ht h0 hf]
      have e1 := h1 hf hd rfl
      have e2 : colsR g rs = .ok (rs.map G) := each_map rs 0 (fun r hr => h1 hf r (hw r hr))
      by_cases hc : checkI (G hd) [] = 0
      · rw [turn_ok h0 (by rw [colsH_ok e1, if_pos hc]) e2]
      · have hk : checkI (G hd) (rs.map G) = checkI (G hd) [] := check_headC (fun r hr => by
          obtain ⟨x, hx, rfl⟩ := List.mem_map.1 hr
          exact hl hf x (hw x hx)) hc
        rw [turn_head h0 (by rw [colsH_ok e1, if_neg hc])]
        simp only [hk]; rw [if_neg hc]
    · rw [if_neg hf, turn_head h0 (colsH_err (h2 hf))]
  · rw [if_neg h0]; unfold turnR; rw [if_neg h0]
theorem moreC_len {j : Nat} {r : List ByteArray} {c : ByteArray} (h : j ≤ r.length) : (moreC j r c).length = r.length + 1 := len_moreC h
theorem lessC_len {j : Nat} {r : List ByteArray} (h : j < r.length) : (lessC j r).length = r.length - 1 := len_lessC h
theorem sm_more {j : Nat} {r : List ByteArray} {c : ByteArray} (hr : r.length ≤ 4000 ∧ ∀ x ∈ r, x.size ≤ 10000) (hc : c.size ≤ 10000) (hj : j ≤ r.length) : smR (moreC j r c) :=
  ⟨by rw [moreC_len hj]; omega, fun x hx => by rcases mem_moreC hx with rfl | h; exact hc; exact hr.2 x h⟩
theorem col_is (hd : List ByteArray) (rs : List (List ByteArray)) (j : Nat) (hj : j < hd.length) : columnT hd rs j = rs.map (fun r => r[j]?.getD ⟨#[]⟩) := by
  unfold columnT
  rw [if_pos ⟨by omega, by omega⟩]
  refine List.ext_getElem? fun i => ?_
  by_cases hi : i < rs.length
  · rw [colL_at rs j i hi, List.getElem?_map, List.getElem?_eq_getElem hi]
    unfold cellL
    rw [if_pos ⟨by omega, by omega⟩]
    simp [List.getElem?_eq_getElem hi]
  · rw [List.getElem?_eq_none (by rw [colL_len]; omega), List.getElem?_eq_none (by simp; omega)]
theorem zip_map (rs : List (List ByteArray)) (f : List ByteArray → List ByteArray) (g : List ByteArray → ByteArray) (m : List ByteArray → ByteArray → List ByteArray) : List.zipWith m (rs.map f) (rs.map g) = rs.map (fun r => m (f r) (g r)) := by
  induction rs with
  | nil => rfl
  | cons r rs ih => simp [ih]
theorem in_of {a n : Int} {f : Int} (hf : (if inI a n then (0 : Int) else 11) = 0) : 0 ≤ a ∧ a < n := by
  by_cases h : inI a n = true
  · exact inI_iffC.1 h
  · simp [h] at hf

section
variable (ho ro : Option Addr) (hd : List ByteArray) (rs : List (List ByteArray)) (hc : Cap ho hd.length) (rc : Cap ro rs.length) (kd a b : Int) (tx : ByteArray) (co : Option Addr) (cells : List ByteArray) (cc : Cap co cells.length) (po : Option Addr) (ps : List Int) (pc : Nat) (w : World)
    (ht : tiT hd rs) (hH : StrRow w ho hd) (hR : RowsAt w ro rs) (htx : tx.size ≤ 10000) (hC : StrRow w co cells) (tc : tiR cells)
include ht hH hR htx hC tc
theorem rdo0 : Calls Tryz.prog 8 #[.agg #[.slice ho hd.length hc.1, .slice ro rs.length rc.1], .agg #[.int .i64 0, .int .i64 a, .int .i64 b, .string tx, .slice co cells.length cc.1, .slice po ps.length pc]] w (TabQ (doR 0 a b tx cells ps hd rs) w) := by
  have hwr : ∀ {f : Int}, wrongC 0 a b hd.length rs.length cells.length = 0 → (0 ≤ a ∧ a < (hd.length : Int) + 1) ∧ cells.length = rs.length := fun {f} h => by
    unfold wrongC at h
    rw [if_pos rfl] at h
    by_cases hi : inI a ((hd.length : Int) + 1) = true
    · rw [if_pos hi] at h
      exact ⟨inI_iffC.1 hi, Classical.byContradiction (fun hne => by rw [if_neg hne] at h; cases h)⟩
    · rw [if_neg hi] at h; cases h
  have e : doR 0 a b tx cells ps hd rs = refR hd rs (wrongC 0 a b hd.length rs.length cells.length) (moreC a.toNat hd tx, List.zipWith (moreC a.toNat) rs cells) := by
    show turnR (fun xs => insL xs a tx) (addR a cells) hd rs = _
    refine (ref_turn2 (fun hf h0 => ?_) (fun hf h0 => ?_)).symm
    · obtain ⟨h1, h2⟩ := hwr (f := 0) hf
      have hw := (check_parts.1 h0).2.1
      refine ⟨?_, ?_⟩
      · show insL hd a tx = _
        unfold insL moreC; rw [if_pos (by omega)]; simp
      · unfold addR; rw [if_pos h2]
        exact each_zip rs 0 cells rfl h2 (fun r hr c => by unfold insL moreC; rw [if_pos (by have := hw r hr; omega)]; simp)
    · unfold wrongC at hf ⊢
      rw [if_pos rfl] at hf ⊢
      by_cases hi : inI a ((hd.length : Int) + 1) = true
      · have h1 := inI_iffC.1 hi
        rw [if_pos hi] at hf ⊢
        have hne : ¬ cells.length = rs.length := fun e => hf (by rw [if_pos e])
        rw [if_neg hne]
        exact .inr ⟨_, (by show insL hd a tx = _; unfold insL; rw [if_pos (by omega)]), by unfold addR; rw [if_neg hne]⟩
      · have h1 : ¬ (0 ≤ a ∧ a < (hd.length : Int) + 1) := fun h => hi (inI_iffC.2 h)
        rw [if_neg hi]
        exact .inl (by show insL hd a tx = _; unfold insL; rw [if_neg (by omega)])
  rw [e]
  refine rdoL_any ho ro hd rs hc rc 0 a b tx co cells cc po ps.length pc w _ _ ht.sm hH hR (fun V hV => rwrong0 ho ro hd.length rs.length hc.1 rc.1 a b tx co cells.length cc.1 po ps.length pc V ht.1.1 ht.2.1) (fun h0 hf => ?_)
  obtain ⟨h1, h2⟩ := hwr (f := 0) hf
  have hw := (check_parts.1 h0).2.1
  obtain ⟨j, rfl⟩ : ∃ j : Nat, a = j := ⟨a.toNat, by omega⟩
  rw [Int.toNat_natCast]
  have hrow : ∀ r ∈ rs, j ≤ r.length ∧ r.length ≤ 1000 := fun r hr => ⟨by have := hw r hr; omega, (ht.2.2 r hr).1⟩
  refine ⟨⟨sm_more ⟨by have := ht.1.1; omega, ht.1.2⟩ htx (by omega), ?_, ?_⟩, fun V hV => rturned0 ho ro hd rs hc rc j b tx co cells cc.1 po ps.length pc V w.heap.size hV.size _ (fun U hU => rinsCol ho ro hd rs hc rc j w.heap.size tx co cells cc.1 U h2 ht.1.1 ht.2.1 (by omega) hrow (hH.kept (below_up hV hU)) (hR.kept (below_up hV hU)) (hC.kept (below_up hV hU)))⟩
  · show (List.zipWith (moreC j) rs cells).length ≤ 5000
    rw [List.length_zipWith]; have := ht.2.1; omega
  · intro r hr
    obtain ⟨i, hi, rfl⟩ := List.mem_iff_getElem.1 hr
    rw [List.length_zipWith] at hi
    rw [List.getElem_zipWith]
    have m1 := List.getElem_mem (l := rs) (n := i) (by omega)
    have m2 := List.getElem_mem (l := cells) (n := i) (by omega)
    exact sm_more ⟨by have := (ht.2.2 _ m1).1; omega, (ht.2.2 _ m1).2⟩ (tc.2 _ m2) (hrow _ m1).1
theorem rdo1 : Calls Tryz.prog 8 #[.agg #[.slice ho hd.length hc.1, .slice ro rs.length rc.1], .agg #[.int .i64 1, .int .i64 a, .int .i64 b, .string tx, .slice co cells.length cc.1, .slice po ps.length pc]] w (TabQ (doR 1 a b tx cells ps hd rs) w) := by
  have hwr : wrongC 1 a b hd.length rs.length cells.length = if inI a hd.length then 0 else 11 := rfl
  have e : doR 1 a b tx cells ps hd rs = refR hd rs (wrongC 1 a b hd.length rs.length cells.length) (lessC a.toNat hd, rs.map (lessC a.toNat)) := by
    show turnR (colsH (fun xs => delL xs a)) (colsR (fun xs => delL xs a)) hd rs = _
    rw [hwr]
    refine (ref_cols (G := lessC a.toNat) (fun _ _ => rfl) (fun hf r hr => ?_) (fun hf r hr => ?_) (fun hf => ?_)).symm
    · have := in_of (f := 0) hf
      show delL r a = _
      unfold delL lessC; rw [if_pos (by omega)]
    · have := in_of (f := 0) hf
      rw [lessC_len (by omega), lessC_len (by omega), hr]
    · have hi : ¬ inI a hd.length = true := fun h => hf (by simp [h])
      have h2 : ¬ (0 ≤ a ∧ a < (hd.length : Int)) := fun h => hi (inI_iffC.2 h)
      show delL hd a = _
      unfold delL; rw [if_neg h2, if_neg hi]
  rw [e]
  refine rdoL_any ho ro hd rs hc rc 1 a b tx co cells cc po ps.length pc w _ _ ht.sm hH hR (fun V hV => rwrong1 ho ro hd.length rs.length hc.1 rc.1 a b tx co cells.length cc.1 po ps.length pc V ht.1.1 ht.2.1) (fun h0 hf => ?_)
  rw [hwr] at hf
  have hi := in_of (f := 0) hf
  have hw := (check_parts.1 h0).2.1
  obtain ⟨j, rfl⟩ : ∃ j : Nat, a = j := ⟨a.toNat, by omega⟩
  rw [Int.toNat_natCast]
  have hrow : ∀ r ∈ rs, j < r.length ∧ r.length ≤ 1000 := fun r hr => ⟨by have := hw r hr; omega, (ht.2.2 r hr).1⟩
  have sm : ∀ r, tiR r → j < r.length → smR (lessC j r) := fun r hr hj => ⟨by rw [lessC_len hj]; have := hr.1; omega, fun x hx => hr.2 x (mem_lessC hx)⟩
  refine ⟨⟨sm hd ht.1 (by omega), ?_, ?_⟩, fun V hV => rturned1 ho ro hd rs hc rc j b tx co cells cc.1 po ps.length pc V w.heap.size hV.size _ (fun U hU => rdelCol ho ro hd rs hc rc j w.heap.size U ht.1.1 ht.2.1 (by omega) hrow (hH.kept (below_up hV hU)) (hR.kept (below_up hV hU)))⟩
  · show (rs.map (lessC j)).length ≤ 5000
    rw [List.length_map]; have := ht.2.1; omega
  · intro r hr
    obtain ⟨x, hx, rfl⟩ := List.mem_map.1 hr
    exact sm x (ht.2.2 x hx) (hrow x hx).1
theorem rdo2 : Calls Tryz.prog 8 #[.agg #[.slice ho hd.length hc.1, .slice ro rs.length rc.1], .agg #[.int .i64 2, .int .i64 a, .int .i64 b, .string tx, .slice co cells.length cc.1, .slice po ps.length pc]] w (TabQ (doR 2 a b tx cells ps hd rs) w) := by
  have hwr : wrongC 2 a b hd.length rs.length cells.length = if inI a hd.length then 0 else 11 := rfl
  have e : doR 2 a b tx cells ps hd rs = refR hd rs (wrongC 2 a b hd.length rs.length cells.length) ((hd.take a.toNat ++ hd.drop (a.toNat + 1)).take a.toNat ++ tx :: (hd.take a.toNat ++ hd.drop (a.toNat + 1)).drop a.toNat, rs) := by
    show turnR (fun xs => setL xs a tx) (fun rs => .ok rs) hd rs = _
    rw [hwr]
    refine (ref_turn2 (fun hf h0 => ⟨?_, ?_⟩) (fun hf h0 => .inl ?_)).symm
    · have := in_of (f := 0) hf
      show setL hd a tx = _
      unfold setL; rw [if_pos (by omega), set_moreC (by omega)]
    · rfl
    · have hi : ¬ inI a hd.length = true := fun h => hf (by simp [h])
      have h2 : ¬ (0 ≤ a ∧ a < (hd.length : Int)) := fun h => hi (inI_iffC.2 h)
      show setL hd a tx = _
      unfold setL; rw [if_neg h2, if_neg hi]
  rw [e]
  refine rdoL_any ho ro hd rs hc rc 2 a b tx co cells cc po ps.length pc w _ _ ht.sm hH hR (fun V hV => rwrong2 ho ro hd.length rs.length hc.1 rc.1 a b tx co cells.length cc.1 po ps.length pc V ht.1.1 ht.2.1) (fun h0 hf => ?_)
  rw [hwr] at hf
  have hi := in_of (f := 0) hf
  obtain ⟨j, rfl⟩ : ∃ j : Nat, a = j := ⟨a.toNat, by omega⟩
  rw [Int.toNat_natCast]
  refine ⟨⟨?_, ht.sm.2⟩, fun V hV => rturned2 ho ro hd rs hc rc j b tx co cells cc po ps.length pc V w.heap.size hV.size (fun h0 A hA => ?_) ht.1.1 (hH.kept hV) (hR.kept hV) (hC.kept hV) (by omega)⟩
  · show smR (_ ++ tx :: _)
    rw [set_moreC (by omega)]
    refine ⟨by have := ht.1.1; simp; omega, fun c hc => ?_⟩
    rcases List.mem_or_eq_of_mem_set hc with h | rfl
    · exact ht.1.2 c h
    · exact htx
  · rcases hR with h | ⟨A', e', h3, _⟩
    · exact absurd h h0
    · rw [e'] at hA; cases hA; exact h3
theorem rdo3 : Calls Tryz.prog 8 #[.agg #[.slice ho hd.length hc.1, .slice ro rs.length rc.1], .agg #[.int .i64 3, .int .i64 a, .int .i64 b, .string tx, .slice co cells.length cc.1, .slice po ps.length pc]] w (TabQ (doR 3 a b tx cells ps hd rs) w) := by
  have hwr : wrongC 3 a b hd.length rs.length cells.length = if inI a hd.length && inI b hd.length then 0 else 11 := rfl
  have hin : (if (inI a hd.length && inI b hd.length) = true then (0 : Int) else 11) = 0 → (0 ≤ a ∧ a < (hd.length : Int)) ∧ (0 ≤ b ∧ b < (hd.length : Int)) := fun h => by
    by_cases hi : (inI a hd.length && inI b hd.length) = true
    · have := Bool.and_eq_true_iff.1 hi
      exact ⟨inI_iffC.1 this.1, inI_iffC.1 this.2⟩
    · rw [if_neg hi] at h; cases h
  obtain ⟨G, hG⟩ : ∃ G, G = fun r : List ByteArray => moreC b.toNat (lessC a.toNat r) (r[a.toNat]?.getD ⟨#[]⟩) := ⟨_, rfl⟩
  have e : doR 3 a b tx cells ps hd rs = refR hd rs (wrongC 3 a b hd.length rs.length cells.length) (G hd, rs.map G) := by
    show turnR (colsH (fun xs => movL xs a b)) (colsR (fun xs => movL xs a b)) hd rs = _
    rw [hwr]
    refine (ref_cols (G := G) (fun _ _ => rfl) (fun hf r hr => ?_) (fun hf r hr => ?_) (fun hf => ?_)).symm
    · obtain ⟨h1, h2⟩ := hin hf
      have hl : a.toNat < r.length := by omega
      have hdl : delL r a = .ok (r.take a.toNat ++ r.drop (a.toNat + 1)) := by unfold delL; rw [if_pos (by omega)]
      show movL r a b = _
      rw [mov_ok hdl (List.getElem?_eq_getElem hl), hG]
      unfold insL; rw [if_pos (by rw [len_lessC hl]; omega)]
      simp only [moreC, lessC, List.getElem?_eq_getElem hl, Option.getD_some]
      simp
    · obtain ⟨h1, h2⟩ := hin hf
      rw [hG]
      simp only
      rw [moreC_len (by rw [lessC_len (by omega)]; omega), moreC_len (by rw [lessC_len (by omega)]; omega), lessC_len (by omega), lessC_len (by omega), hr]
    · have hi : ¬ (inI a hd.length && inI b hd.length) = true := fun h => hf (by rw [if_pos h])
      rw [if_neg hi]
      show movL hd a b = _
      by_cases h1 : 0 ≤ a ∧ a < (hd.length : Int)
      · have hl : a.toNat < hd.length := by omega
        have hdl : delL hd a = .ok (hd.take a.toNat ++ hd.drop (a.toNat + 1)) := by unfold delL; rw [if_pos h1]
        have h2 : ¬ (0 ≤ b ∧ b < (hd.length : Int)) := fun h => hi (Bool.and_eq_true_iff.2 ⟨inI_iffC.2 h1, inI_iffC.2 h⟩)
        rw [mov_ok hdl (List.getElem?_eq_getElem hl)]
        unfold insL; rw [if_neg (by rw [len_lessC hl]; omega)]
      · exact mov_err (by unfold delL; rw [if_neg h1])
  rw [e]
  refine rdoL_any ho ro hd rs hc rc 3 a b tx co cells cc po ps.length pc w _ _ ht.sm hH hR (fun V hV => rwrong3 ho ro hd.length rs.length hc.1 rc.1 a b tx co cells.length cc.1 po ps.length pc V ht.1.1 ht.2.1) (fun h0 hf => ?_)
  rw [hwr] at hf
  obtain ⟨h1, h2⟩ := hin hf
  have hw := (check_parts.1 h0).2.1
  obtain ⟨j, rfl⟩ : ∃ j : Nat, a = j := ⟨a.toNat, by omega⟩
  obtain ⟨i, rfl⟩ : ∃ i : Nat, b = i := ⟨b.toNat, by omega⟩
  rw [Int.toNat_natCast, Int.toNat_natCast] at hG
  have hl : j < hd.length := by omega
  have hx := List.getElem?_eq_getElem hl
  have eG : (G hd, rs.map G) = (moreC i (lessC j hd) hd[j], List.zipWith (moreC i) (rs.map (lessC j)) (columnT hd rs j)) := by
    rw [col_is hd rs j hl, zip_map, hG]
    simp only [hx, Option.getD_some]
  rw [eG]
  have hrow : ∀ r ∈ rs, j < r.length ∧ r.length ≤ 1000 := fun r hr => ⟨by have := hw r hr; omega, (ht.2.2 r hr).1⟩
  have smG : ∀ r, tiR r → r.length = hd.length → smR (G r) := fun r hr hrl => by
    have hjr : j < r.length := by omega
    rw [hG]
    simp only [List.getElem?_eq_getElem hjr, Option.getD_some]
    exact sm_more ⟨by rw [lessC_len hjr]; have := hr.1; omega, fun x hx => hr.2 x (mem_lessC hx)⟩ (hr.2 _ (List.getElem_mem hjr)) (by rw [lessC_len hjr]; omega)
  have hsm : smT (G hd) (rs.map G) := ⟨smG hd ht.1 rfl, by rw [List.length_map]; have := ht.2.1; omega, fun r hr => by
    obtain ⟨x, hx', rfl⟩ := List.mem_map.1 hr
    exact smG x (ht.2.2 x hx') (hw x hx')⟩
  refine ⟨by have e1 := congrArg Prod.fst eG; have e2 := congrArg Prod.snd eG; simp only at e1 e2; rw [← e1, ← e2]; exact hsm, fun V hV => ?_⟩
  refine rturned3 ho ro hd rs hc rc j i hd[j] tx co cells cc.1 po ps.length pc V w.heap.size hV.size (lessC j hd, rs.map (lessC j)) _ (columnT hd rs j) hx (hH.kept hV) (fun U hU => rdelCol ho ro hd rs hc rc j w.heap.size U ht.1.1 ht.2.1 hl hrow (hH.kept (below_up hV hU)) (hR.kept (below_up hV hU))) (fun U hU => rcolumn_any ho hc.1 hd ro rc.1 rs j U (by have := ht.2.1; omega) (hR.kept (below_up hV hU))) (fun U so sc qo qc uo uc k1 k2 k3 => ?_)
  exact rinsCol so qo (lessC j hd) (rs.map (lessC j)) sc qc i w.heap.size hd[j] uo (columnT hd rs j) uc U (by rw [col_is hd rs j hl, List.length_map, List.length_map]) (by rw [lessC_len hl]; have := ht.1.1; omega) (by rw [List.length_map]; exact ht.2.1) (by rw [lessC_len hl]; omega) (fun r hr => by
    obtain ⟨x, hx', rfl⟩ := List.mem_map.1 hr
    have := hrow x hx'; have := hw x hx'
    rw [lessC_len (by omega)]; omega) k1 k2 k3
theorem rdo8 (hk : kd < 0 ∨ 7 < kd) (hP : IntsAt w po ps) (hl : ps.length ≤ 1000) : Calls Tryz.prog 8 #[.agg #[.slice ho hd.length hc.1, .slice ro rs.length rc.1], .agg #[.int .i64 kd, .int .i64 a, .int .i64 b, .string tx, .slice co cells.length cc.1, .slice po ps.length pc]] w (TabQ (doR kd a b tx cells ps hd rs) w) := by
  have hin : wrongP ps hd.length = 0 → ∀ p ∈ ps, 0 ≤ p ∧ p < (hd.length : Int) := fun h p hp => by
    unfold wrongP at h
    by_cases hi : ps.all (fun p => inI p hd.length) = true
    · exact inI_iffC.1 (List.all_eq_true.1 hi p hp)
    · rw [if_neg hi] at h; cases h
  have e : doR kd a b tx cells ps hd rs = refR hd rs (wrongP ps hd.length) (pickN ps hd, rs.map (pickN ps)) := by
    unfold doR
    rw [if_neg (by omega), if_neg (by omega), if_neg (by omega), if_neg (by omega), if_neg (by omega), if_neg (by omega), if_neg (by omega), if_neg (by omega)]
    refine (ref_cols (G := pickN ps) (fun _ _ => rfl) (fun hf r hr => ?_) (fun hf r hr => ?_) (fun hf => ?_)).symm
    · show pickL r ps = _
      unfold pickL pickN
      rw [if_pos (List.all_eq_true.2 (fun p hp => by have := hin hf p hp; simp [inB]; omega))]
    · rw [pickN_len ps r (fun p hp => by have := hin hf p hp; omega), pickN_len ps hd (fun p hp => by have := hin hf p hp; omega)]
    · unfold wrongP at hf ⊢
      have hi : ¬ ps.all (fun p => inI p hd.length) = true := fun h => hf (by rw [if_pos h])
      rw [if_neg hi]
      show pickL hd ps = _
      unfold pickL
      have hi2 : ¬ ps.all (fun p => inB p hd.length) = true := hi
      rw [if_neg hi2]
  rw [e]
  refine rdoL_any ho ro hd rs hc rc kd a b tx co cells cc po ps.length pc w _ _ ht.sm hH hR (fun V hV => rwrong8 ho ro hd.length rs.length hc.1 rc.1 kd a b tx co cells.length cc.1 po ps pc V hk ht.1.1 ht.2.1 hl (hP.kept hV)) (fun h0 hf => ?_)
  have hp := hin hf
  have hw := (check_parts.1 h0).2.1
  have sm : ∀ r, tiR r → r.length = hd.length → smR (pickN ps r) := fun r hr hrl => ⟨by rw [pickN_len ps r (fun p hp' => by have := hp p hp'; omega)]; omega, fun x hx => by
    unfold pickN at hx
    obtain ⟨p, _, hpx⟩ := List.mem_filterMap.1 hx
    exact hr.2 x (List.mem_of_getElem? hpx)⟩
  refine ⟨⟨sm hd ht.1 rfl, ?_, ?_⟩, fun V hV => rturned8 ho ro hd rs hc rc kd hk a b tx co cells cc.1 po ps.length pc V w.heap.size hV.size _ (fun U hU => rproject ho ro hd rs hc rc po ps pc w.heap.size U ht.1.1 ht.2.1 hl hp hw (hH.kept (below_up hV hU)) (hR.kept (below_up hV hU)) (hP.kept (below_up hV hU)))⟩
  · show (rs.map (pickN ps)).length ≤ 5000
    rw [List.length_map]; have := ht.2.1; omega
  · intro r hr
    obtain ⟨x, hx, rfl⟩ := List.mem_map.1 hr
    exact sm x (ht.2.2 x hx) (hw x hx)
theorem rdo_cols (hk : ¬ (3 < kd ∧ kd < 8)) (hP : IntsAt w po ps) (hl : ps.length ≤ 1000) : Calls Tryz.prog 8 #[.agg #[.slice ho hd.length hc.1, .slice ro rs.length rc.1], .agg #[.int .i64 kd, .int .i64 a, .int .i64 b, .string tx, .slice co cells.length cc.1, .slice po ps.length pc]] w (TabQ (doR kd a b tx cells ps hd rs) w) := by
  rcases (show kd = 0 ∨ kd = 1 ∨ kd = 2 ∨ kd = 3 ∨ (kd < 0 ∨ 7 < kd) by omega) with rfl | rfl | rfl | rfl | h
  · exact rdo0 ho ro hd rs hc rc a b tx co cells cc po ps pc w ht hH hR htx hC tc
  · exact rdo1 ho ro hd rs hc rc a b tx co cells cc po ps pc w ht hH hR htx hC tc
  · exact rdo2 ho ro hd rs hc rc a b tx co cells cc po ps pc w ht hH hR htx hC tc
  · exact rdo3 ho ro hd rs hc rc a b tx co cells cc po ps pc w ht hH hR htx hC tc
  · exact rdo8 ho ro hd rs hc rc kd a b tx co cells cc po ps pc w ht hH hR htx hC tc h hP hl
end
end Go.Proofs.YtcifjclokfnocaaGreat
