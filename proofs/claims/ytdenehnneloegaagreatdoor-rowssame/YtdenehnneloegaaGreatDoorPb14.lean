/-
  Texts of these rows' proofs, laid one behind the other: QLexMath3.
  Conditions: those of each theorem.
-/
import Derived.Test.YtdenehnneloegaaGreatDoorPb13
namespace Go.Proofs.YtdenehnneloegaaGreatDoor.Q
theorem at_shift (A X : List UInt8) (j : Nat) : (A ++ X)[A.length + j]? = X[j]? := by
  rw [List.getElem?_append_right (by omega)]; congr 1; omega
theorem brk_shift (A X : List UInt8) (j : Nat) : brk (A ++ X) (A.length + j) = brk X j := by
  unfold brk; rw [at_shift, Nat.add_assoc, at_shift]
theorem endAt_shift (A X : List UInt8) (d : Int) (j : Nat) : endAt (A ++ X) d (A.length + j) = endAt X d j := by
  unfold endAt; rw [at_shift, brk_shift]
theorem faultAt_shift (A X : List UInt8) (j : Nat) : faultAt (A ++ X) (A.length + j) = faultAt X j := by
  unfold faultAt; rw [at_shift]
theorem stops_shift (A X : List UInt8) (d : Int) (j : Nat) : stops (A ++ X) d (A.length + j) = stops X d j := by
  unfold stops; rw [endAt_shift, faultAt_shift]
theorem good_ne (d : Int) (h : goodI d = true) : d ≠ 34 ∧ d ≠ 13 ∧ d ≠ 10 := by
  refine ⟨?_, ?_, ?_⟩ <;> (intro e; subst e; exact absurd h (by decide))
theorem plain_stops (c X : List UInt8) (d : Int) (h : plainB c d = true) (k : Nat) (hk : k < c.length) : stops (c ++ X) d k = false ∧ ∃ b, (c ++ X)[k]? = some b ∧ b ≠ 34 := by
  have hb : (c ++ X)[k]? = some c[k] := by rw [List.getElem?_append_left hk, List.getElem?_eq_getElem hk]
  have hg := (List.all_eq_true.1 h) c[k] (List.getElem_mem hk)
  simp only [Bool.and_eq_true, bne_iff_ne, ne_eq] at hg
  obtain ⟨hg1, hg2⟩ := hg
  obtain ⟨n34, n13, n10⟩ := good_ne _ hg1
  have e34 : c[k] ≠ 34 := fun e => n34 (by rw [e]; rfl)
  have e13 : c[k] ≠ 13 := fun e => n13 (by rw [e]; rfl)
  have e10 : c[k] ≠ 10 := fun e => n10 (by rw [e]; rfl)
  have h1 : brk (c ++ X) k = 0 := by unfold brk; rw [hb]; simp [e10, e13]
  have h2 : endAt (c ++ X) d k = (0, 0) := by unfold endAt; rw [hb]; simp [hg2, h1]
  have h3 : faultAt (c ++ X) k = 0 := by unfold faultAt; rw [hb]; simp [e34, e13]
  exact ⟨by simp [stops, h2, h3], _, hb, e34⟩
/-- a cell as it is written, and an end behind it, is read back -/
theorem read_cell (A c X : List UInt8) (d : Int) (hd : goodI d = true) (hX : (endAt X d 0).1 ≠ 0) (hX2 : ∀ b, X[0]? = some b → b ≠ 34) :
    fieldOut (A ++ (putL c d ++ X)) (A.length : Int) d = (c, ((A.length + (putL c d).length : Nat) : Int) + ((endAt X d 0).2 : Int), (endAt X d 0).1, 0) := by
  have hend : endAt (A ++ (putL c d ++ X)) d (A.length + (putL c d).length) = endAt X d 0 := by
    have := endAt_shift (putL c d) X d 0
    rw [Nat.add_zero] at this
    rw [endAt_shift, this]
  unfold fieldOut
  rw [if_neg (by simp; omega), if_neg (by simp [hd]), Int.toNat_natCast]
  have h0 : (A ++ (putL c d ++ X))[A.length]? = (putL c d ++ X)[0]? := by have := at_shift A (putL c d ++ X) 0; simpa using this
  rw [h0]
  cases hp : plainB c d with
  | true =>
    have hput : putL c d = c := by unfold putL; rw [if_pos hp]
    rw [hput] at hend ⊢
    have hne : ¬ (c ++ X)[0]? = some 34 := by
      cases c with
      | nil => intro e; exact hX2 34 (by simpa using e) rfl
      | cons b r =>
        obtain ⟨_, b', h1, h2⟩ := plain_stops (b :: r) X d hp 0 (by simp)
        rw [h1]; simpa using h2
    rw [if_neg hne]
    have hst : stopOf (A ++ (c ++ X)) d A.length = A.length + c.length := by
      refine stopOf_eq _ d _ _ (by omega) (by simp) (fun k hk1 hk2 => ?_) (by simp [stops, hend, hX])
      obtain ⟨j, rfl⟩ : ∃ j, k = A.length + j := ⟨k - A.length, by omega⟩
      rw [stops_shift]
      exact (plain_stops c X d hp j (by omega)).1
    unfold plainOut
    rw [hst, hend, if_neg hX]
    congr 1
    rw [List.drop_take, List.drop_left, Nat.add_sub_cancel_left, List.take_left]
  | false =>
    have hput : putL c d = quoted c := by unfold putL; rw [if_neg (by simp [hp])]
    rw [hput] at hend ⊢
    rw [if_pos (by simp [quoted])]
    have hnq : noQuote X = true := by
      cases X with
      | nil => rfl
      | cons b r => simpa [noQuote] using hX2 b (by simp)
    have hg : getL ((A ++ (quoted c ++ X)).drop A.length) = (c, (quoted c).length, 0) := by
      rw [List.drop_left]; exact get_quoted c X hnq
    unfold quotedOut
    rw [hg]
    simp only [ne_eq, not_true, if_false]
    rw [hend, if_neg hX]
theorem restL_cons (d : UInt8) (c : List UInt8) (r : List (List UInt8)) : restL d (c :: r) = d :: (putL c (d.toNat : Int) ++ restL d r) := by simp [restL]
/-- what stands ahead of a record's next cell -/
def preL (d : UInt8) (x : List (List UInt8)) : List UInt8 := if x.isEmpty = true then [] else recL d x ++ [d]
theorem rec_split (d : UInt8) (x y : List (List UInt8)) (c : List UInt8) : recL d (x ++ c :: y) = preL d x ++ (putL c (d.toNat : Int) ++ restL d y) := by
  cases x with
  | nil => simp [preL, recL]
  | cons a b => simp [preL, recL, restL]
theorem pre_snoc (d : UInt8) (x : List (List UInt8)) (c : List UInt8) : preL d (x ++ [c]) = preL d x ++ putL c (d.toNat : Int) ++ [d] := by
  have h := rec_split d x [] c
  unfold preL at h ⊢
  simp [h, restL]
theorem at_cell (r : List (List UInt8)) (k : Nat) (hk : k < r.length) : r = r.take k ++ r[k] :: r.drop (k + 1) := by
  rw [← List.drop_eq_getElem_cons hk, List.take_append_drop]
/-- where a written record's cell k begins; behind the last: the record's end -/
def posOf (r : List (List UInt8)) (d : UInt8) (crlf : Bool) (k : Nat) : Nat := if k < r.length then (preL d (r.take k)).length else (writeL r d crlf).length
theorem pos_zero (r : List (List UInt8)) (d : UInt8) (crlf : Bool) (h : 0 < r.length) : posOf r d crlf 0 = 0 := by
  unfold posOf; rw [if_pos h]; simp [preL]
theorem pos_end (r : List (List UInt8)) (d : UInt8) (crlf : Bool) : posOf r d crlf r.length = (writeL r d crlf).length := by
  unfold posOf; rw [if_neg (by omega)]
theorem brkL_end (crlf : Bool) (b : List UInt8) (d : Int) (hd : goodI d = true) : endAt (brkL crlf ++ b) d 0 = (2, (brkL crlf).length) := by
  obtain ⟨_, n13, n10⟩ := good_ne d hd
  cases crlf with
  | true =>
    have h : ¬ ((13 : UInt8).toNat : Int) = d := fun e => n13 (by rw [← e]; rfl)
    have h1 : brk ([13, 10] ++ b) 0 = 2 := by simp [brk]
    unfold endAt
    show (match ([13, 10] ++ b)[0]? with | none => (3, 0) | some c => if (c.toNat : Int) = d then (1, 1) else if brk ([13, 10] ++ b) 0 = 0 then (0, 0) else (2, brk ([13, 10] ++ b) 0)) = (2, 2)
    rw [h1]
    simp only [List.cons_append, List.getElem?_cons_zero, if_neg h]
    rfl
  | false =>
    have h : ¬ ((10 : UInt8).toNat : Int) = d := fun e => n10 (by rw [← e]; rfl)
    have h1 : brk ([10] ++ b) 0 = 1 := by simp [brk]
    unfold endAt
    show (match ([10] ++ b)[0]? with | none => (3, 0) | some c => if (c.toNat : Int) = d then (1, 1) else if brk ([10] ++ b) 0 = 0 then (0, 0) else (2, brk ([10] ++ b) 0)) = (2, 1)
    rw [h1]
    simp only [List.cons_append, List.getElem?_cons_zero, if_neg h]
    rfl
theorem brkL_first (crlf : Bool) (b : List UInt8) : ∀ c, (brkL crlf ++ b)[0]? = some c → c ≠ 34 := by
  intro c h
  cases crlf with
  | true => simp [brkL] at h; subst h; decide
  | false => simp [brkL] at h; subst h; decide
theorem delim_end (d : UInt8) (X : List UInt8) : endAt (d :: X) (d.toNat : Int) 0 = (1, 1) := by
  unfold endAt; simp
theorem back_step (r : List (List UInt8)) (d : UInt8) (crlf : Bool) (b : List UInt8) (hd : goodI (d.toNat : Int) = true) (k : Nat) (hk : k < r.length) :
    fieldOut (writeL r d crlf ++ b) (posOf r d crlf k : Int) (d.toNat : Int) = (r[k], (posOf r d crlf (k + 1) : Int), if k + 1 = r.length then 2 else 1, 0) ∧ posOf r d crlf k < posOf r d crlf (k + 1) := by
  have hr := at_cell r k hk
  have hp : posOf r d crlf k = (preL d (r.take k)).length := by unfold posOf; rw [if_pos hk]
  have hs : recL d r = preL d (r.take k) ++ (putL r[k] (d.toNat : Int) ++ restL d (r.drop (k + 1))) := by
    have := rec_split d (r.take k) (r.drop (k + 1)) r[k]
    rwa [← hr] at this
  have hw : writeL r d crlf ++ b = preL d (r.take k) ++ (putL r[k] (d.toNat : Int) ++ (restL d (r.drop (k + 1)) ++ (brkL crlf ++ b))) := by
    unfold writeL; rw [hs]; simp
  rw [hw, hp]
  by_cases hl : k + 1 = r.length
  · have hnil : r.drop (k + 1) = [] := List.drop_of_length_le (by omega)
    rw [hnil] at hs ⊢
    have hr0 : restL d [] = [] := rfl
    rw [hr0, List.nil_append]
    have he := brkL_end crlf b (d.toNat : Int) hd
    have h := read_cell (preL d (r.take k)) r[k] (brkL crlf ++ b) (d.toNat : Int) hd (by rw [he]; simp) (brkL_first crlf b)
    have hq : posOf r d crlf (k + 1) = (preL d (r.take k)).length + (putL r[k] (d.toNat : Int)).length + (brkL crlf).length := by
      rw [hl, pos_end]; unfold writeL; rw [hs, hr0]; simp; omega
    have hb : 0 < (brkL crlf).length := by cases crlf <;> decide
    rw [h, he, hq, if_pos hl]
    exact ⟨by simp, by omega⟩
  · have hk2 : k + 1 < r.length := by omega
    have hdrop : r.drop (k + 1) = r[k + 1] :: r.drop (k + 2) := List.drop_eq_getElem_cons hk2
    have hrest : restL d (r.drop (k + 1)) ++ (brkL crlf ++ b) = d :: (putL r[k + 1] (d.toNat : Int) ++ restL d (r.drop (k + 2)) ++ (brkL crlf ++ b)) := by
      rw [hdrop, restL_cons]; simp only [List.cons_append, List.append_assoc]
    rw [hrest]
    generalize putL r[k + 1] (d.toNat : Int) ++ restL d (r.drop (k + 2)) ++ (brkL crlf ++ b) = X
    have he := delim_end d X
    have h := read_cell (preL d (r.take k)) r[k] (d :: X) (d.toNat : Int) hd (by rw [he]; simp) (fun c hc => by
      simp at hc; subst hc
      intro e; exact (good_ne _ hd).1 (by rw [e]; rfl))
    have hq : posOf r d crlf (k + 1) = (preL d (r.take k)).length + (putL r[k] (d.toNat : Int)).length + 1 := by
      unfold posOf; rw [if_pos hk2, List.take_succ_eq_append_getElem hk, pre_snoc, List.length_append, List.length_append]; rfl
    rw [h, he, hq, if_neg hl]
    exact ⟨by simp, by omega⟩
end Go.Proofs.YtdenehnneloegaaGreatDoor.Q
