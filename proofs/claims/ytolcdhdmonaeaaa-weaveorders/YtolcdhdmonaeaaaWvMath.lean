/-
  Two lists, woven into one: what the woven list is.
  Conditions: none.
-/
import Derived.Test.YtolcdhdmonaeaaaPMathL
import Derived.Test.YtolcdhdmonaeaaaPCheck
import Derived.Test.YtolcdhdmonaeaaaPRest
namespace Go.Proofs.Ytolcdhdmonaeaaa
set_option linter.unusedVariables false

/-- pairs that may be woven -/
structure May (l : PL) (na nb : Int) : Prop where
  a0 : 0 ≤ na
  b0 : 0 ≤ nb
  within : ∀ p ∈ l, 0 ≤ p.1 ∧ p.1 < na ∧ 0 ≤ p.2 ∧ p.2 < nb
  fst : (l.map Prod.fst).Nodup
  rise : l.Pairwise (fun p q => p.2 < q.2)
theorem riseB_of (l : PL) (h : risesB l = true) (hn : (l.map Prod.snd).Nodup) : l.Pairwise (fun p q => p.2 < q.2) := by
  induction l with
  | nil => exact List.Pairwise.nil
  | cons p l ih =>
    rw [List.map_cons, List.nodup_cons] at hn
    cases l with
    | nil => exact List.pairwise_singleton _ _
    | cons q l =>
      simp only [risesB, Bool.and_eq_true, decide_eq_true_eq] at h
      have h2 := ih h.2 hn.2
      have hpq : p.2 < q.2 := by
        have : p.2 ≠ q.2 := fun e => hn.1 (by rw [e]; simp)
        have := h.1; omega
      refine List.pairwise_cons.2 ⟨fun r hr => ?_, h2⟩
      rcases List.mem_cons.1 hr with rfl | hr
      · exact hpq
      · exact Int.lt_trans hpq ((List.pairwise_cons.1 h2).1 r hr)
theorem may_of (l : PL) (na nb : Int) (h : checkP l na nb = 0) : May l na nb := by
  unfold checkP at h
  split at h
  · omega
  · rename_i h1
    split at h
    · omega
    · rename_i h2
      split at h
      · omega
      · rename_i h3
        split at h
        · rename_i h4
          simp only [twiceL, Decidable.not_not, decide_eq_true_eq] at h3
          refine ⟨by omega, by omega, fun p hp => ?_, h3.1, riseB_of l h4 h3.2⟩
          have : ¬ badP na nb p = true := fun hb => h2 (List.any_eq_true.2 ⟨p, hp, hb⟩)
          simp only [badP, Bool.or_eq_true, decide_eq_true_eq] at this
          omega
        · omega

/-- pairs, and which of them are still -/
abbrev ML := List (Bool × Int × Int)
def marks : Nat → PL → List Int → ML
  | _, [], _ => []
  | k, p :: l, st => if st.head? = some (k : Int) then (true, p) :: marks (k + 1) l st.tail else (false, p) :: marks (k + 1) l st
theorem marks_snd (l : PL) (k : Nat) (st : List Int) : (marks k l st).map Prod.snd = l := by
  induction l generalizing k st with
  | nil => rfl
  | cons p l ih => unfold marks; split <;> simp [ih]
def goneP (g : List Int) : PL := g.map (fun a => (a, -1))
def upToA (a : Int) (g : List Int) : List Int := g.takeWhile (fun x => decide (x ≤ a))
def behindA (a : Int) (g : List Int) : List Int := g.dropWhile (fun x => decide (x ≤ a))
/-- the woven list, from a place of B's on -/
def weaveM : Nat → Int → ML → List Int → PL
  | 0, _, _, g => goneP g
  | n + 1, b, [], g => (-1, b) :: weaveM n (b + 1) [] g
  | n + 1, b, (s, p) :: m, g =>
    if p.2 = b then (if s = true then goneP (upToA p.1 g) ++ p :: weaveM n (b + 1) m (behindA p.1 g) else p :: weaveM n (b + 1) m g)
    else (-1, b) :: weaveM n (b + 1) ((s, p) :: m) g
def weaveL (l : PL) (na nb : Int) : PL := weaveM nb.toNat 0 (marks 0 l (stillL l)) (outOf (l.map Prod.fst) na.toNat)
theorem upTo_behind (a : Int) (g : List Int) : upToA a g ++ behindA a g = g := List.takeWhile_append_dropWhile
theorem weave_len (n : Nat) (b : Int) (m : ML) (g : List Int) : (weaveM n b m g).length = n + g.length := by
  induction n generalizing b m g with
  | zero => simp [weaveM, goneP]
  | succ n ih =>
    cases m with
    | nil => simp [weaveM, ih]; omega
    | cons q m =>
      obtain ⟨s, p⟩ := q
      unfold weaveM
      split
      · split
        · have := congrArg List.length (upTo_behind p.1 g)
          simp only [List.length_append] at this
          simp [ih, goneP]; omega
        · simp [ih]; omega
      · simp [ih]; omega

/-- the parts of a list that was split -/
def bothOf (l : PL) : PL := l.filter (fun p => decide (0 ≤ p.1) && decide (0 ≤ p.2))
def goneOf (l : PL) : List Int := (l.filter (fun p => decide (0 ≤ p.1) && decide (p.2 < 0))).map Prod.fst
def newOf (l : PL) : List Int := (l.filter (fun p => decide (p.1 < 0) && decide (0 ≤ p.2))).map Prod.snd
theorem both_app (l k : PL) : bothOf (l ++ k) = bothOf l ++ bothOf k := by simp [bothOf]
theorem gone_app (l k : PL) : goneOf (l ++ k) = goneOf l ++ goneOf k := by simp [goneOf]
theorem new_app (l k : PL) : newOf (l ++ k) = newOf l ++ newOf k := by simp [newOf]
theorem both_gone (g : List Int) : bothOf (goneP g) = [] := by
  induction g with
  | nil => rfl
  | cons a g ih => unfold bothOf goneP at *; rw [List.map_cons, List.filter_cons]; simp
theorem new_gone (g : List Int) : newOf (goneP g) = [] := by
  induction g with
  | nil => rfl
  | cons a g ih => unfold newOf goneP at *; rw [List.map_cons, List.filter_cons]; simp
theorem gone_gone (g : List Int) (h : ∀ a ∈ g, 0 ≤ a) : goneOf (goneP g) = g := by
  induction g with
  | nil => rfl
  | cons a g ih =>
    have h0 := h a (by simp)
    have := ih (fun x hx => h x (by simp [hx]))
    unfold goneOf goneP at *
    rw [List.map_cons, List.filter_cons]; simp [h0]; simpa using this
theorem both_cons (p : Int × Int) (l : PL) : bothOf (p :: l) = if 0 ≤ p.1 ∧ 0 ≤ p.2 then p :: bothOf l else bothOf l := by
  unfold bothOf; rw [List.filter_cons]; by_cases h : 0 ≤ p.1 <;> by_cases h' : 0 ≤ p.2 <;> simp [h, h']
theorem gone_cons (p : Int × Int) (l : PL) : goneOf (p :: l) = if 0 ≤ p.1 ∧ p.2 < 0 then p.1 :: goneOf l else goneOf l := by
  unfold goneOf; rw [List.filter_cons]; by_cases h : 0 ≤ p.1 <;> by_cases h' : p.2 < 0 <;> simp [h, h']
theorem new_cons (p : Int × Int) (l : PL) : newOf (p :: l) = if p.1 < 0 ∧ 0 ≤ p.2 then p.2 :: newOf l else newOf l := by
  unfold newOf; rw [List.filter_cons]; by_cases h : p.1 < 0 <;> by_cases h' : 0 ≤ p.2 <;> simp [h, h']

/-- what is asked of marked pairs, from a place of B's on -/
structure Row (n : Nat) (b : Int) (m : ML) : Prop where
  b0 : 0 ≤ b
  within : ∀ q ∈ m, 0 ≤ q.2.1 ∧ b ≤ q.2.2 ∧ q.2.2 < b + n
  rise : m.Pairwise (fun p q => p.2.2 < q.2.2)
theorem Row.none {n : Nat} {b : Int} {m : ML} (h : Row (n + 1) b m) (hne : ∀ q, m.head? = some q → q.2.2 ≠ b) : Row n (b + 1) m := by
  refine ⟨by have := h.b0; omega, fun q hq => ?_, h.rise⟩
  have hw := h.within q hq
  have hb : q.2.2 ≠ b := by
    cases m with
    | nil => cases hq
    | cons r m =>
      have hr := hne r rfl
      rcases List.mem_cons.1 hq with rfl | hq
      · exact hr
      · have h1 := (List.pairwise_cons.1 h.rise).1 q hq
        have := h.within r (by simp); omega
  refine ⟨hw.1, by omega, by omega⟩
theorem Row.next {n : Nat} {b : Int} {r : Bool × Int × Int} {m : ML} (h : Row (n + 1) b (r :: m)) : Row n (b + 1) m := by
  refine ⟨by have := h.b0; omega, fun q hq => ?_, (List.pairwise_cons.1 h.rise).2⟩
  have hw := h.within q (by simp [hq])
  have h1 := (List.pairwise_cons.1 h.rise).1 q hq
  have := h.within r (by simp)
  refine ⟨hw.1, by omega, by omega⟩
theorem Row.nil {b : Int} {m : ML} (h : Row 0 b m) : m = [] := by
  cases m with
  | nil => rfl
  | cons r m => have := h.within r (by simp); omega
theorem weave_both (n : Nat) (b : Int) (m : ML) (g : List Int) (h : Row n b m) : bothOf (weaveM n b m g) = m.map Prod.snd := by
  induction n generalizing b m g with
  | zero => rw [h.nil]; exact both_gone g
  | succ n ih =>
    cases m with
    | nil => unfold weaveM; rw [both_cons, ih _ _ _ (h.none (by simp))]; simp
    | cons q m =>
      obtain ⟨s, p⟩ := q
      have hw := h.within (s, p) (by simp)
      have h0 := h.b0
      unfold weaveM
      split
      · split
        · rw [both_app, both_gone, both_cons, if_pos ⟨hw.1, by have := hw.2.1; simp only at this; omega⟩, ih _ _ _ h.next]; rfl
        · rw [both_cons, if_pos ⟨hw.1, by have := hw.2.1; simp only at this; omega⟩, ih _ _ _ h.next]; rfl
      · rename_i hne
        rw [both_cons, ih _ _ _ (h.none (fun q hq => by cases hq; exact hne))]; simp
theorem mem_upToA {a x : Int} {g : List Int} (h : x ∈ upToA a g) : x ∈ g := (List.takeWhile_sublist _).mem h
theorem mem_behindA {a x : Int} {g : List Int} (h : x ∈ behindA a g) : x ∈ g := (List.dropWhile_sublist _).mem h
theorem weave_gone (n : Nat) (b : Int) (m : ML) (g : List Int) (h : Row n b m) (hg : ∀ a ∈ g, 0 ≤ a) : goneOf (weaveM n b m g) = g := by
  induction n generalizing b m g with
  | zero => exact gone_gone g hg
  | succ n ih =>
    cases m with
    | nil => unfold weaveM; rw [gone_cons, ih _ _ _ (h.none (by simp)) hg]; simp
    | cons q m =>
      obtain ⟨s, p⟩ := q
      have hw := h.within (s, p) (by simp)
      have h0 := h.b0
      simp only at hw
      unfold weaveM
      split
      · split
        · rw [gone_app, gone_gone _ (fun a ha => hg a (mem_upToA ha)), gone_cons, if_neg (by omega), ih _ _ _ h.next (fun a ha => hg a (mem_behindA ha))]
          exact upTo_behind p.1 g
        · rw [gone_cons, if_neg (by omega), ih _ _ _ h.next hg]
      · rename_i hne
        rw [gone_cons, ih _ _ _ (h.none (fun q hq => by cases hq; exact hne)) hg]; simp
/-- numbers from one on -/
def upFrom : Nat → Int → List Int
  | 0, _ => []
  | n + 1, b => b :: upFrom n (b + 1)
theorem upFrom_mem (n : Nat) (b x : Int) : x ∈ upFrom n b ↔ b ≤ x ∧ x < b + n := by
  induction n generalizing b with
  | zero => simp [upFrom]
  | succ n ih => simp only [upFrom, List.mem_cons, ih]; omega
theorem upFrom_last (n : Nat) (b : Int) : upFrom (n + 1) b = upFrom n b ++ [b + n] := by
  induction n generalizing b with
  | zero => simp [upFrom]
  | succ n ih =>
    rw [show upFrom (n + 1 + 1) b = b :: upFrom (n + 1) (b + 1) from rfl, ih]
    simp only [upFrom, List.cons_append, List.cons.injEq, true_and]
    congr 2; omega
theorem upFrom_is (n : Nat) : upFrom n 0 = upTo n := by
  induction n with
  | zero => rfl
  | succ n ih => rw [upFrom_last, upTo_next, ih]; simp
theorem weave_new (n : Nat) (b : Int) (m : ML) (g : List Int) (h : Row n b m) : newOf (weaveM n b m g) = (upFrom n b).filter (fun x => decide (x ∉ m.map (fun q => q.2.2))) := by
  induction n generalizing b m g with
  | zero => exact new_gone g
  | succ n ih =>
    cases m with
    | nil =>
      unfold weaveM; rw [new_cons, ih _ _ _ (h.none (by simp)), if_pos ⟨by simp, h.b0⟩]
      simp [upFrom]
    | cons q m =>
      obtain ⟨s, p⟩ := q
      have hw := h.within (s, p) (by simp)
      have h0 := h.b0
      simp only at hw
      have key : ∀ x ∈ upFrom n (b + 1), p.2 = b → (decide (x ∉ m.map (fun q => q.2.2)) = decide (x ∉ ((s, p) :: m).map (fun q => q.2.2))) := fun x hx hb => by
        have := (upFrom_mem _ _ _).1 hx
        have hne : x ≠ p.2 := by omega
        simp [hne]
      unfold weaveM
      split
      · rename_i hb
        have hf : (upFrom (n + 1) b).filter (fun x => decide (x ∉ ((s, p) :: m).map (fun q => q.2.2))) = (upFrom n (b + 1)).filter (fun x => decide (x ∉ m.map (fun q => q.2.2))) := by
          rw [show upFrom (n + 1) b = b :: upFrom n (b + 1) from rfl, List.filter_cons, if_neg (by simp [hb])]
          exact (List.filter_congr (fun x hx => (key x hx hb))).symm
        rw [hf]
        split
        · rw [new_app, new_gone, new_cons, if_neg (by omega), ih _ _ _ h.next]; rfl
        · rw [new_cons, if_neg (by omega), ih _ _ _ h.next]
      · rename_i hne
        have hN := h.none (fun q hq => by cases hq; exact hne)
        rw [new_cons, if_pos ⟨by simp, h0⟩, ih _ _ _ hN]
        rw [show upFrom (n + 1) b = b :: upFrom n (b + 1) from rfl, List.filter_cons, if_pos]
        simp only [decide_eq_true_eq]
        intro hm
        obtain ⟨q, hq, e⟩ := List.mem_map.1 hm
        have := hN.within q hq
        omega

/-- the pairs at places -/
def atP (l : PL) (st : List Int) : PL := st.map (fun s => l.getD s.toNat (0, 0))
theorem Rise.up {al : List Int} {k : Nat} {last : Option Int} {st : List Int} (h : Rise al k last st) (hne : st.head? ≠ some (k : Int)) : Rise al (k + 1) last st := by
  cases st with
  | nil => trivial
  | cons p c =>
    obtain ⟨j, x, rfl, h1, h2, h3, h4⟩ := h
    refine ⟨j, x, rfl, ?_, h2, h3, h4⟩
    have : j ≠ k := fun e => hne (by rw [e]; rfl)
    omega
theorem marks_still (l pre : PL) (k : Nat) (last : Option Int) (st : List Int) (hk : pre.length = k) (h : Rise ((pre ++ l).map Prod.fst) k last st) :
    atP (pre ++ l) st = ((marks k l st).filter Prod.fst).map Prod.snd ∧ (∀ a, last = some a → ∀ q ∈ marks k l st, q.1 = true → a < q.2.1) ∧ (marks k l st).Pairwise (fun p q => p.1 = true → q.1 = true → p.2.1 < q.2.1) := by
  induction l generalizing pre k last st with
  | nil =>
    cases st with
    | nil => exact ⟨rfl, fun a _ q hq => by simp [marks] at hq, List.Pairwise.nil⟩
    | cons p c =>
      obtain ⟨j, x, _, h1, h2, _⟩ := h
      have := (List.getElem?_eq_some_iff.1 h2).1
      simp at this; omega
  | cons p l ih =>
    have hl : (pre ++ p :: l) = (pre ++ [p]) ++ l := by simp
    by_cases hh : st.head? = some (k : Int)
    · cases st with
      | nil => cases hh
      | cons s c =>
        obtain ⟨j, x, rfl, h1, h2, h3, h4⟩ := h
        have hj : j = k := by simp at hh; omega
        subst hj
        have hx : p.1 = x := by
          rw [List.getElem?_map, List.getElem?_append_right (by omega), hk] at h2
          simpa using h2
        rw [hl] at h4
        obtain ⟨i1, i2, i3⟩ := ih (pre ++ [p]) (j + 1) (some x) c (by simp [hk]) h4
        unfold marks
        rw [if_pos hh]
        simp only [List.tail_cons]
        refine ⟨?_, fun a ha q hq hq1 => ?_, List.pairwise_cons.2 ⟨fun q hq _ hq1 => ?_, i3⟩⟩
        · rw [List.filter_cons, if_pos rfl, List.map_cons, ← i1, ← hl]
          show (pre ++ p :: l).getD (j : Int).toNat (0, 0) :: _ = _
          congr 1
          rw [List.getD_eq_getElem?_getD, Int.toNat_natCast, List.getElem?_append_right (by omega), hk]; simp
        · rcases List.mem_cons.1 hq with rfl | hq
          · have := h3 a ha; simp only; omega
          · have := i2 x rfl q hq hq1; have := h3 a ha; omega
        · have := i2 x rfl q hq hq1; simp only; omega
    · have h' := h.up hh
      rw [hl] at h'
      obtain ⟨i1, i2, i3⟩ := ih (pre ++ [p]) (k + 1) last st (by simp [hk]) h'
      unfold marks
      rw [if_neg hh]
      refine ⟨?_, fun a ha q hq hq1 => ?_, List.pairwise_cons.2 ⟨fun q hq h0 => (by cases h0), i3⟩⟩
      · rw [List.filter_cons, if_neg (by simp), ← i1, ← hl]
      · rcases List.mem_cons.1 hq with rfl | hq
        · cases hq1
        · exact i2 a ha q hq hq1
theorem marks_ok (l : PL) : atP l (stillL l) = ((marks 0 l (stillL l)).filter Prod.fst).map Prod.snd ∧ (marks 0 l (stillL l)).Pairwise (fun p q => p.1 = true → q.1 = true → p.2.1 < q.2.1) := by
  have := marks_still l [] 0 none (stillL l) rfl (by simpa using (still_best l).2.1)
  exact ⟨by simpa using this.1, this.2.2⟩
theorem may_row {l : PL} {na nb : Int} (h : May l na nb) (st : List Int) : Row nb.toNat 0 (marks 0 l st) := by
  have hb := h.b0
  have hs := marks_snd l 0 st
  refine ⟨Int.le_refl _, fun q hq => ?_, ?_⟩
  · have : q.2 ∈ l := by rw [← hs]; exact List.mem_map_of_mem (f := Prod.snd) hq
    have := h.within _ this; omega
  · have := h.rise; rw [← hs, List.pairwise_map] at this; exact this
theorem out_ge (S : List Int) (n : Nat) : ∀ a ∈ outOf S n, 0 ≤ a := fun a ha => ((upTo_mem n a).1 (List.mem_filter.1 ha).1).1
theorem split_woven {l : PL} {na nb : Int} (h : May l na nb) : bothOf (weaveL l na nb) = l ∧ goneOf (weaveL l na nb) = outOf (l.map Prod.fst) na.toNat ∧ newOf (weaveL l na nb) = outOf (l.map Prod.snd) nb.toNat := by
  have hR := may_row h (stillL l)
  have hs := marks_snd l 0 (stillL l)
  refine ⟨(weave_both _ _ _ _ hR).trans hs, weave_gone _ _ _ _ hR (out_ge _ _), (weave_new _ _ _ _ hR).trans ?_⟩
  have : (marks 0 l (stillL l)).map (fun q => q.2.2) = l.map Prod.snd := by
    conv => rhs; rw [← hs, List.map_map]
    rfl
  rw [this, upFrom_is]; rfl
theorem out_countW (S : List Int) (n : Nat) (hn : S.Nodup) (hb : ∀ x ∈ S, 0 ≤ x ∧ x < (n : Int)) : (outOf S n).length + S.length = n := by
  have h1 : (outOf S n).length + ((upTo n).filter (fun x => decide (x ∈ S))).length = n := by
    have : ∀ (M : List Int), (M.filter (fun x => decide (x ∉ S))).length + (M.filter (fun x => decide (x ∈ S))).length = M.length := fun M => by
      induction M with
      | nil => rfl
      | cons y M ih =>
        by_cases hy : y ∈ S
        · simp only [List.filter_cons, hy, not_true, decide_false, decide_true, if_true, List.length_cons, Bool.false_eq_true, if_false] at ih ⊢; omega
        · simp only [List.filter_cons, hy, not_false_eq_true, decide_false, decide_true, if_true, List.length_cons, Bool.false_eq_true, if_false] at ih ⊢; omega
    have := this (upTo n)
    rw [upTo_len] at this
    exact this
  have h2 : ((upTo n).filter (fun x => decide (x ∈ S))).length = S.length := by
    have hnu : (upTo n).Nodup := by
      unfold upTo
      refine List.Pairwise.map _ (fun a b hab e => hab (Int.ofNat.inj e)) List.nodup_range
    refine Nat.le_antisymm (sub_len _ _ (hnu.filter _) (fun x hx => by have := (List.mem_filter.1 hx).2; simpa using this)) (sub_len _ _ hn (fun x hx => List.mem_filter.2 ⟨(upTo_mem n x).2 (hb x hx), by simp [hx]⟩))
  omega
theorem weave_count {l : PL} {na nb : Int} (h : May l na nb) : ((weaveL l na nb).length : Int) = na + nb - (l.length : Int) := by
  have h1 := weave_len nb.toNat 0 (marks 0 l (stillL l)) (outOf (l.map Prod.fst) na.toNat)
  have h2 := out_countW (l.map Prod.fst) na.toNat h.fst (fun x hx => by
    obtain ⟨p, hp, rfl⟩ := List.mem_map.1 hx
    have := h.within p hp; have := h.a0; omega)
  rw [List.length_map] at h2
  unfold weaveL
  have := h.a0; have := h.b0
  omega
end Go.Proofs.Ytolcdhdmonaeaaa
