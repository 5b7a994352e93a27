/-
  Insertion, as the library sorts short pieces: what it makes of a piece of a list of pairs.
  Conditions: lists of at most 2^38 pairs.
-/
import Derived.WalkKit
import Derived.WalkMore
import Derived.IntWalk
import Derived.RegionTactic
import Derived.BigRegion
import Derived.Lib.Hide
import Derived.StillTailTactics
import Derived.BigQuiet
import Derived.Deep.QuietTactic
import Derived.Deep.Cut
import Derived.Test.YtmomjhnbhckhpaaDoorProg
import Derived.Test.YtmomjhnbhckhpaaDoorPSort
namespace Go.Proofs.YtmomjhnbhckhpaaDoor
open Go.RowKit Go.Shelf
set_option linter.unusedVariables false

/-- how far behind a pair is put: behind the last one whose B is not more -/
def putK (p : Int × Int) : PL → Nat
  | [] => 0
  | q :: l => if putK p l = 0 then (if q.2 ≤ p.2 then 1 else 0) else putK p l + 1
theorem putK_le (p : Int × Int) (l : PL) : putK p l ≤ l.length := by
  induction l with
  | nil => exact Nat.le_refl _
  | cons q l ih => unfold putK; split <;> (try split) <;> simp <;> omega
theorem putK_is (p : Int × Int) (l : PL) (k : Nat) (hk : k ≤ l.length) (h1 : k = 0 ∨ ∃ q, l[k - 1]? = some q ∧ q.2 ≤ p.2) (h2 : ∀ (t : Nat) q, k ≤ t → l[t]? = some q → p.2 < q.2) : putK p l = k := by
  induction l generalizing k with
  | nil => simp at hk; subst hk; rfl
  | cons x l ih =>
    unfold putK
    cases k with
    | zero =>
      have e := ih 0 (Nat.zero_le _) (.inl rfl) (fun t q _ hq => h2 (t + 1) q (Nat.zero_le _) (by simpa using hq))
      have := h2 0 x (Nat.le_refl _) rfl
      rw [if_pos e, if_neg (by omega)]
    | succ k =>
      cases k with
      | zero =>
        have e := ih 0 (Nat.zero_le _) (.inl rfl) (fun t q _ hq => h2 (t + 1) q (by omega) (by simpa using hq))
        rcases h1 with h | ⟨q, hq, hle⟩
        · omega
        · simp at hq; subst hq
          rw [if_pos e, if_pos hle]
      | succ k =>
        have e := ih (k + 1) (by simpa using hk) (by
          rcases h1 with h | ⟨q, hq, hle⟩
          · omega
          · exact .inr ⟨q, by simpa using hq, hle⟩) (fun t q ht hq => h2 (t + 1) q (by omega) (by simpa using hq))
        rw [if_neg (by omega), e]
/-- a pair is put behind the last one whose B is not more -/
def putB (l : PL) (p : Int × Int) : PL := l.take (putK p l) ++ p :: l.drop (putK p l)
theorem putB_len (l : PL) (p : Int × Int) : (putB l p).length = l.length + 1 := by have := putK_le p l; simp [putB]; omega
/-- one by one -/
def sortB (l : PL) : PL := l.foldl putB []
theorem sortB_snoc (l : PL) (p : Int × Int) : sortB (l ++ [p]) = putB (sortB l) p := by simp [sortB, List.foldl_append]
theorem sortB_len (l : PL) : (sortB l).length = l.length := by
  have : ∀ (l m : PL), (l.foldl putB m).length = m.length + l.length := fun l => by
    induction l with
    | nil => intro m; rfl
    | cons p l ih => intro m; rw [List.foldl_cons, ih, putB_len]; simp; omega
  have := this l []; simpa [sortB] using this
/-- a list in which p is on its way -/
def wayL (P S : PL) (p : Int × Int) (k : Nat) (R : PL) : PL := P ++ (S.take k ++ p :: S.drop k) ++ R
theorem way_here (P S : PL) (p : Int × Int) (k : Nat) (R : PL) (hk : k ≤ S.length) : (wayL P S p k R)[P.length + k]? = some p := by
  unfold wayL
  rw [List.append_assoc, List.getElem?_append_right (by omega), List.append_assoc, List.getElem?_append_right (by simp; omega)]
  simp [show min k S.length = k from by omega]
theorem way_ahead (P S : PL) (p q : Int × Int) (k : Nat) (R : PL) (hk : k + 1 ≤ S.length) (hq : S[k]? = some q) : (wayL P S p (k + 1) R)[P.length + k]? = some q := by
  unfold wayL
  rw [List.append_assoc, List.getElem?_append_right (by omega), List.append_assoc, List.getElem?_append_left (by simp; omega), Nat.add_sub_cancel_left, List.getElem?_take, if_pos (by omega), hq]
theorem way_swap (P S : PL) (p q : Int × Int) (k : Nat) (R : PL) (hk : k + 1 ≤ S.length) (hq : S[k]? = some q) : ((wayL P S p (k + 1) R).set (P.length + (k + 1)) q).set (P.length + k) p = wayL P S p k R := by
  obtain ⟨hl, e⟩ := List.getElem?_eq_some_iff.1 hq
  have h1 : wayL P S p (k + 1) R = (P ++ S.take k) ++ q :: p :: (S.drop (k + 1) ++ R) := by
    unfold wayL; rw [List.take_succ_eq_append_getElem hl, e]; simp
  have h2 : wayL P S p k R = (P ++ S.take k) ++ p :: q :: (S.drop (k + 1) ++ R) := by
    unfold wayL; rw [List.drop_eq_getElem_cons hl, e]; simp
  rw [h1, h2]
  have hlen : (P ++ S.take k).length = P.length + k := by simp; omega
  rw [List.set_append_right _ _ (by rw [hlen]; omega), List.set_append_right _ _ (by rw [hlen]; exact Nat.le_refl _), hlen, Nat.sub_self, show P.length + (k + 1) - (P.length + k) = 1 from by omega]
  rfl
theorem way_len (P S : PL) (p : Int × Int) (k : Nat) (R : PL) (hk : k ≤ S.length) : (wayL P S p k R).length = P.length + S.length + 1 + R.length := by simp [wayL]; omega
/-- a list of which the piece from a to i is sorted -/
def insL (l : PL) (a i : Nat) : PL := l.take a ++ sortB ((l.drop a).take (i - a)) ++ l.drop i
theorem insL_start (l : PL) (a : Nat) : insL l a a = l := by simp [insL, sortB]
theorem insL_one (l : PL) (a : Nat) (h : a < l.length) : insL l a (a + 1) = l := by
  unfold insL
  rw [show a + 1 - a = 1 from by omega, List.drop_eq_getElem_cons h]
  simp only [List.take_succ_cons, List.take_zero]
  rw [show sortB [l[a]] = [l[a]] from by simp [sortB, putB, putK], List.append_assoc]
  rw [show [l[a]] ++ l.drop (a + 1) = l.drop a from by rw [List.drop_eq_getElem_cons h]; rfl, List.take_append_drop]
theorem insL_way (l : PL) (a i : Nat) (p : Int × Int) (hai : a ≤ i) (hp : l[i]? = some p) :
    insL l a i = wayL (l.take a) (sortB ((l.drop a).take (i - a))) p (i - a) (l.drop (i + 1)) ∧ insL l a (i + 1) = wayL (l.take a) (sortB ((l.drop a).take (i - a))) p (putK p (sortB ((l.drop a).take (i - a)))) (l.drop (i + 1)) := by
  obtain ⟨hi, e⟩ := List.getElem?_eq_some_iff.1 hp
  have hS : (sortB ((l.drop a).take (i - a))).length = i - a := by rw [sortB_len]; simp; omega
  constructor
  · unfold insL wayL
    generalize sortB ((l.drop a).take (i - a)) = S at hS ⊢
    rw [List.take_of_length_le (show S.length ≤ i - a by omega), List.drop_eq_nil_of_le (show S.length ≤ i - a by omega), List.drop_eq_getElem_cons hi, e]
    simp
  · unfold insL wayL
    have : (l.drop a).take (i + 1 - a) = (l.drop a).take (i - a) ++ [p] := by
      rw [show i + 1 - a = (i - a) + 1 from by omega, List.take_succ_eq_append_getElem (by simp; omega), List.getElem_drop]
      simp [show a + (i - a) = i from by omega, e]
    rw [this, sortB_snoc]
    rfl
theorem insL_len (l : PL) (a i : Nat) (hai : a ≤ i) (hi : i ≤ l.length) : (insL l a i).length = l.length := by
  simp [insL, sortB_len]; omega
theorem grown_trans {a b c : World} {row : Option Nat} (h : a.grownBy b row) (k : b.grownBy c row) : a.grownBy c row :=
  ⟨k.os.trans h.os, k.tape.trans h.tape, k.output.trans h.output, Nat.le_trans h.size k.size, fun i hi hne => (k.block i (Nat.lt_of_lt_of_le hi h.size) hne).trans (h.block i hi hne)⟩
theorem grown_below {w w' : World} {row : Option Nat} (h : Below w.heap.size w w') : w.grownBy w' row := ⟨h.os, h.tape, h.output, h.size, fun k hk _ => h.block k hk⟩
theorem grown_set (w : World) (g i : Nat) (v : Value) : w.grownBy (w.setCell ⟨g, i, none⟩ v) (some g) :=
  ⟨rfl, rfl, rfl, by simp, fun k _ hne => heap_setCell_other w ⟨g, i, none⟩ k v (fun e => hne (by rw [e]))⟩
theorem grown_drewN (w : World) (n : Nat) (row : Option Nat) : w.grownBy (w.drewN n) row := ⟨rfl, rfl, rfl, Nat.le_refl _, fun _ _ _ => rfl⟩
theorem OwnP.swap {w : World} {base : Nat} {T : TypeId} {g n : Nat} {l : PL} (h : OwnP w base T g n l) (i j : Nat) (a b c d : Int) (hi : i < n) (hj : j < n) :
    OwnP ((((w.setCell ⟨g, i * 2, none⟩ (.int .i64 a)).setCell ⟨g, i * 2 + 1, none⟩ (.int .i64 b)).setCell ⟨g, j * 2, none⟩ (.int .i64 c)).setCell ⟨g, j * 2 + 1, none⟩ (.int .i64 d)) base T g n ((l.set i (a, b)).set j (c, d)) :=
  (h.store i a b hi).store j c d hj
theorem grown_swap (w : World) (g i j : Nat) (a b c d : Value) : w.grownBy ((((w.setCell ⟨g, i * 2, none⟩ a).setCell ⟨g, i * 2 + 1, none⟩ b).setCell ⟨g, j * 2, none⟩ c).setCell ⟨g, j * 2 + 1, none⟩ d) (some g) :=
  grown_trans (grown_trans (grown_trans (grown_set w g _ a) (grown_set _ g _ b)) (grown_set _ g _ c)) (grown_set _ g _ d)

end Go.Proofs.YtmomjhnbhckhpaaDoor
