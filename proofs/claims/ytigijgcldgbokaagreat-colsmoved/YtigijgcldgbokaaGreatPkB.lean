/-
  Choices of an A, a B and a score: which one is better, which are taken, and what holds of those that are.
  Conditions: none.
  What lies in memory: slices of choices (structs of three numbers); a new one that the code owns.
  Conditions: none.
  Which of two choices is better: what the program answers; that nothing but boxes of its own is left behind.
  Conditions: none.
  A range over a function whose rounds read what the iterator laid, and whose iterator reads what the rounds wrote: the iterator may rely on a fact that the rounds keep (Rm), a round on a fact of what it is handed (Ok); both sides' invariants stand whatever is laid behind the memory there is (Below).
  Conditions: the loop is an outermost one; a round goes on or returns.
  All names and cells of a table are told one by one; how many bytes they have together, and whether one is too long.
  Conditions: tables of at most 2^40 names and rows of at most 2^40 cells; all texts have together at most 2^60 bytes.
  How many bytes the texts of a table have together, and whether one of them is too long: what the program answers.
  Conditions: as those of TTexts; all texts have together at most 2^60 bytes.
  Whether two slices of strings, or of records, are alike: the program's answer, and the document's reference's; and whether records are few and short.
  Conditions: slices of at most 2^40 elements (the statements ask about far smaller ones).
  Copies of slices of strings; where a text is first found; whether there is such a place.
  Conditions: slices of at most 2^40 elements, texts of at most 2^48 bytes (the statements ask about far smaller ones).
  Whether a text is in a row of texts twice: what the program answers, by a map of the texts that it has seen.
  Conditions: rows of at most 2^40 texts, each a Go string.
  Whether it may be a table: what the program answers.
  Conditions: tables of at most 2^40 names and rows of at most 2^40 cells; all texts have together at most 2^60 bytes.
  A table that is put together: copies of a head and of rows.
  Conditions: slices of at most 2^40 elements, texts of at most 2^48 bytes (the statements ask about far smaller ones).
-/
import Derived.Test.YtigijgcldgbokaaGreatPkA
import Derived.WalkKit
import Derived.WalkMore
import Derived.OwnWalk
import Derived.Lib.Hide
import Derived.Laws.OwnMore
import Derived.Test.YtigijgcldgbokaaGreatProg
import Derived.IntWalk
import Derived.Sort.Grow
import Derived.StillTailTactics
import Derived.Deep.Cut
import Derived.Deep.RegionWith
import Derived.Deep.RegionHeld3
import Derived.RangeFuncNested
import Derived.RangeFuncBound
import Derived.RangeFuncCalls
import Derived.RangeFuncLeaves
import Derived.RangeFuncFrom
import Derived.RangeFuncBox
import Derived.Lib.QuietBelow
import Derived.Shelf.LaysM
import Derived.Shelf.Strconv.Clone
import Derived.Maps.Own
import Derived.Maps.OwnOps
import Derived.Maps.Views
import Derived.StringKeys
import Derived.Deep.QuietTactic
import Derived.BigQuiet
import Derived.Deep.CutRange
import Derived.Deep.OwnRows
import Derived.Deep.Onto
namespace Go.Proofs.YtigijgcldgbokaaGreat
set_option linter.unusedVariables false
set_option linter.unusedSimpArgs false

/-- a choice: an A, a B, and a score -/
abbrev T3 := Int × Int × Int
abbrev TL := List T3
/-- which of two choices stands ahead: the better one -/
def cmpT (c d : T3) : Int := if cmpI d.2.2 c.2.2 ≠ 0 then cmpI d.2.2 c.2.2 else if cmpI c.1 d.1 ≠ 0 then cmpI c.1 d.1 else cmpI c.2.1 d.2.1
/-- is one better -/
def betterT (c d : T3) : Bool := if c.2.2 ≠ d.2.2 then decide (d.2.2 < c.2.2) else if c.1 ≠ d.1 then decide (c.1 < d.1) else decide (c.2.1 < d.2.1)
theorem better_iff (c d : T3) : betterT c d = true ↔ d.2.2 < c.2.2 ∨ (c.2.2 = d.2.2 ∧ (c.1 < d.1 ∨ (c.1 = d.1 ∧ c.2.1 < d.2.1))) := by
  unfold betterT
  split
  · rename_i h; simp; omega
  · rename_i h
    split
    · rename_i h2; simp; omega
    · rename_i h2; simp; omega
theorem cmpT_neg (c d : T3) : decide (cmpT c d < 0) = betterT c d := by
  have key : cmpT c d < 0 ↔ betterT c d = true := by
    rw [better_iff]
    unfold cmpT cmpI
    obtain ⟨a, b, s⟩ := c
    obtain ⟨x, y, t⟩ := d
    dsimp
    rcases Int.lt_trichotomy t s with h | h | h
    · have h2 : ¬ s < t := by omega
      simp only [h, if_true]; simp
    · subst h
      simp only [Int.lt_irrefl, if_false, not_true, false_or, true_and]
      rcases Int.lt_trichotomy a x with g | g | g
      · simp [g]
      · subst g
        simp only [Int.lt_irrefl, if_false, not_true, false_or, true_and]
        rcases Int.lt_trichotomy b y with k | k | k
        · simp [k]
        · subst k; simp
        · have k2 : ¬ b < y := by omega
          simp [k, k2]
      · have g2 : ¬ a < x := by omega
        have g3 : ¬ a = x := by omega
        simp [g, g2, g3]
    · have h2 : ¬ t < s := by omega
      have h3 : ¬ s = t := by omega
      simp [h, h2, h3]
  cases hb : betterT c d with
  | true => exact decide_eq_true (key.2 hb)
  | false => exact decide_eq_false (fun h => by have := key.1 h; rw [hb] at this; cases this)
theorem better_irrefl (c : T3) : betterT c c = false := by
  cases h : betterT c c with
  | false => rfl
  | true => rw [better_iff] at h; omega
theorem better_trans {c d e : T3} (h : betterT c d = true) (k : betterT d e = true) : betterT c e = true := by
  rw [better_iff] at *; omega
theorem better_ntrans {c d e : T3} (h : betterT c d = false) (k : betterT d e = false) : betterT c e = false := by
  cases hc : betterT c e with
  | false => rfl
  | true =>
    have h' : ¬ betterT c d = true := by rw [h]; simp
    have k' : ¬ betterT d e = true := by rw [k]; simp
    rw [better_iff] at *; omega
theorem better_either {c d : T3} (h : betterT c d = false) (k : betterT d c = false) : c = d := by
  have h' : ¬ betterT c d = true := by rw [h]; simp
  have k' : ¬ betterT d c = true := by rw [k]; simp
  rw [better_iff] at *
  obtain ⟨a, b, s⟩ := c
  obtain ⟨x, y, t⟩ := d
  dsimp at *
  have h1 : s = t := by omega
  have h2 : a = x := by omega
  have h3 : b = y := by omega
  rw [h1, h2, h3]
theorem better_one {c d : T3} (h : betterT c d = true) : betterT d c = false := by
  cases k : betterT d c with
  | false => rfl
  | true => have := better_trans h k; rw [better_irrefl] at this; cases this

/-- may a choice be taken, beside those that are -/
def okT (tk : PL) (c : T3) : Bool := decide (0 ≤ c.1) && decide (0 ≤ c.2.1) && decide (c.1 ∉ tk.map Prod.fst) && decide (c.2.1 ∉ tk.map Prod.snd)
theorem ok_iff (tk : PL) (c : T3) : okT tk c = true ↔ 0 ≤ c.1 ∧ 0 ≤ c.2.1 ∧ c.1 ∉ tk.map Prod.fst ∧ c.2.1 ∉ tk.map Prod.snd := by
  simp only [okT, Bool.and_eq_true, decide_eq_true_eq]
  constructor
  · rintro ⟨⟨⟨a, b⟩, c⟩, d⟩; exact ⟨a, b, c, d⟩
  · rintro ⟨a, b, c, d⟩; exact ⟨⟨⟨a, b⟩, c⟩, d⟩
def stepT (tk : PL) (c : T3) : PL := if okT tk c then tk ++ [(c.1, c.2.1)] else tk
/-- those that are taken of a list that is gone through from its front -/
def scanT (l : TL) : PL := l.foldl stepT []
theorem scan_snoc (l : TL) (c : T3) : scanT (l ++ [c]) = stepT (scanT l) c := by simp [scanT, List.foldl_append]
/-- the one than which none is better -/
def bestT (x : T3) (l : TL) : T3 := l.foldl (fun b y => if betterT y b then y else b) x
theorem best_snoc (x : T3) (l : TL) (y : T3) : bestT x (l ++ [y]) = if betterT y (bestT x l) then y else bestT x l := by unfold bestT; rw [List.foldl_append]; rfl
theorem best_spec (l : TL) : ∀ x, bestT x l ∈ x :: l ∧ ∀ y ∈ x :: l, betterT y (bestT x l) = false := by
  induction l with
  | nil => intro x; simp [bestT, better_irrefl]
  | cons z l ih =>
    intro x
    have e : bestT x (z :: l) = bestT (if betterT z x then z else x) l := rfl
    rw [e]
    cases hz : betterT z x with
    | true =>
      obtain ⟨h1, h2⟩ := ih z
      simp only [if_true]
      refine ⟨List.mem_cons_of_mem _ h1, fun y hy => ?_⟩
      rcases List.mem_cons.1 hy with rfl | hy
      · exact better_ntrans (better_one hz) (h2 z (by simp))
      · exact h2 y hy
    | false =>
      obtain ⟨h1, h2⟩ := ih x
      simp only [Bool.false_eq_true, if_false]
      refine ⟨?_, fun y hy => ?_⟩
      · rcases List.mem_cons.1 h1 with h | h
        · rw [h]; simp
        · simp [h]
      · rcases List.mem_cons.1 hy with rfl | hy
        · exact h2 y (by simp)
        · rcases List.mem_cons.1 hy with rfl | hy
          · exact better_ntrans hz (h2 x (by simp))
          · exact h2 y (by simp [hy])
theorem best_is {x m : T3} {l : TL} (hm : m ∈ x :: l) (h : ∀ y ∈ x :: l, betterT y m = false) : bestT x l = m := by
  obtain ⟨h1, h2⟩ := best_spec l x
  exact better_either (h _ h1) (h2 m hm)
/-- choices that have neither the A nor the B of one -/
def withoutT (l : TL) (x : T3) : TL := l.filter (fun y => decide (y.1 ≠ x.1) && decide (y.2.1 ≠ x.2.1))
/-- choices whose A and B are both from 0 on -/
def freeT (l : TL) : TL := l.filter (fun c => decide (0 ≤ c.1) && decide (0 ≤ c.2.1))
/-- one by one: the best one is taken, what has its A or its B is left out -/
def refT : Nat → TL → PL
  | 0, _ => []
  | _ + 1, [] => []
  | n + 1, x :: l => ((bestT x l).1, (bestT x l).2.1) :: refT n (withoutT (x :: l) (bestT x l))
theorem without_less (x : T3) (l : TL) : (withoutT (x :: l) (bestT x l)).length ≤ l.length := by
  have hm := (best_spec l x).1
  unfold withoutT
  have : ∀ (m : T3) (r : TL), m ∈ r → (r.filter (fun y => decide (y.1 ≠ m.1) && decide (y.2.1 ≠ m.2.1))).length < r.length := fun m r hr => by
    refine List.length_filter_lt_length_iff_exists.2 ⟨m, hr, by simp⟩
  have := this _ _ hm
  rw [List.length_cons] at this; omega
theorem ref_none (n : Nat) : refT n [] = [] := by cases n <;> rfl
theorem ref_more : ∀ (n m : Nat) (l : TL), l.length ≤ n → n ≤ m → refT m l = refT n l
  | 0, m, l, h, _ => by
    have : l = [] := List.eq_nil_of_length_eq_zero (by omega)
    subst this; rw [ref_none, ref_none]
  | n + 1, m, [], h, _ => by rw [ref_none, ref_none]
  | n + 1, m, x :: l, h, k => by
    obtain ⟨m, rfl⟩ : ∃ q, m = q + 1 := ⟨m - 1, by omega⟩
    have := without_less x l
    rw [refT, refT, ref_more n m _ (by simp at h; omega) (by omega)]
theorem ref_perm : ∀ (n : Nat) (l l' : TL), l.Perm l' → refT n l = refT n l'
  | 0, l, l', _ => rfl
  | n + 1, [], l', h => by rw [List.nil_perm.1 h]
  | n + 1, x :: l, [], h => by have := h.length_eq; simp at this
  | n + 1, x :: l, x' :: l', h => by
    obtain ⟨h1, h2⟩ := best_spec l' x'
    have e : bestT x l = bestT x' l' := best_is (h.mem_iff.2 h1) (fun y hy => h2 y (h.mem_iff.1 hy))
    rw [refT, refT, e]
    have hp : (withoutT (x :: l) (bestT x' l')).Perm (withoutT (x' :: l') (bestT x' l')) := h.filter _
    rw [ref_perm n _ _ hp]
/-- in order: none is better than one that stands ahead -/
def SortedT (l : TL) : Prop := l.Pairwise (fun x y => betterT y x = false)
theorem scan_ref : ∀ (S : TL) (tk : PL) (n : Nat), SortedT S → S.length ≤ n → S.foldl stepT tk = tk ++ refT n (S.filter (okT tk))
  | [], tk, n, _, _ => by simp [ref_none]
  | c :: S, tk, n, hs, hn => by
    obtain ⟨h1, h2⟩ := List.pairwise_cons.1 hs
    rw [List.foldl_cons]
    cases hc : okT tk c with
    | false =>
      have e : stepT tk c = tk := by simp [stepT, hc]
      rw [e, scan_ref S tk n h2 (by simp at hn; omega), List.filter_cons]
      simp [hc]
    | true =>
      obtain ⟨n, rfl⟩ : ∃ q, n = q + 1 := ⟨n - 1, by simp at hn; omega⟩
      have e : stepT tk c = tk ++ [(c.1, c.2.1)] := by simp [stepT, hc]
      have eb : bestT c (S.filter (okT tk)) = c := best_is (by simp) (fun y hy => by
        rcases List.mem_cons.1 hy with rfl | hy
        · exact better_irrefl _
        · exact h1 y (List.mem_filter.1 hy).1)
      have ef : withoutT (c :: S.filter (okT tk)) c = S.filter (okT (tk ++ [(c.1, c.2.1)])) := by
        unfold withoutT
        rw [List.filter_cons, if_neg (by simp), List.filter_filter]
        refine List.filter_congr (fun y _ => ?_)
        rw [Bool.eq_iff_iff, Bool.and_eq_true, ok_iff, ok_iff]
        simp only [Bool.and_eq_true, decide_eq_true_eq, List.map_append, List.map_cons, List.map_nil, List.mem_append, List.mem_singleton, not_or]
        constructor
        · rintro ⟨⟨a, b⟩, c, d, e, f⟩; exact ⟨c, d, ⟨e, a⟩, f, b⟩
        · rintro ⟨c, d, ⟨e, a⟩, f, b⟩; exact ⟨⟨a, b⟩, c, d, e, f⟩
      rw [e, scan_ref S _ n h2 (by simp at hn; omega), List.filter_cons, if_pos hc, refT, eb, ef]
      simp
theorem free_ok (l : TL) : l.filter (okT []) = freeT l := by
  unfold freeT
  refine List.filter_congr (fun y _ => ?_)
  simp [okT]
/-- a list of choices, the better ones ahead -/
def sortT (l : TL) : TL := l.mergeSort (fun x y => !betterT y x)
theorem sortT_perm (l : TL) : (sortT l).Perm l := List.mergeSort_perm _ _
theorem sortT_len (l : TL) : (sortT l).length = l.length := (sortT_perm l).length_eq
theorem sortT_sorted (l : TL) : SortedT (sortT l) := by
  have := List.pairwise_mergeSort (le := fun x y => !betterT y x) (fun a b c h k => by
    simp only [Bool.not_eq_true'] at h k ⊢
    exact better_ntrans k h) (fun a b => by
    simp only [Bool.or_eq_true, Bool.not_eq_true']
    cases h : betterT b a with
    | false => exact .inl rfl
    | true => exact .inr (better_one h)) l
  exact this.imp (fun h => by simpa using h)
theorem scan_sort (l : TL) : scanT (sortT l) = refT l.length (freeT l) := by
  unfold scanT
  rw [scan_ref (sortT l) [] l.length (sortT_sorted l) (by rw [sortT_len]; exact Nat.le_refl _), free_ok, List.nil_append]
  exact ref_perm _ _ _ ((sortT_perm l).filter _)
/-- what is taken of a list -/
structure TakenT (l : TL) (tk : PL) : Prop where
  from0 : ∀ p ∈ tk, 0 ≤ p.1 ∧ 0 ≤ p.2
  choice : ∀ p ∈ tk, ∃ c ∈ l, c.1 = p.1 ∧ c.2.1 = p.2
  fst : (tk.map Prod.fst).Nodup
  snd : (tk.map Prod.snd).Nodup
  best : ∀ c ∈ l, 0 ≤ c.1 → 0 ≤ c.2.1 → (c.1, c.2.1) ∈ tk ∨ ∃ d ∈ l, (d.1, d.2.1) ∈ tk ∧ (d.1 = c.1 ∨ d.2.1 = c.2.1) ∧ betterT c d = false
theorem nodup_snoc {l : List Int} {a : Int} (h : l.Nodup) (ha : a ∉ l) : (l ++ [a]).Nodup :=
  List.nodup_append.2 ⟨h, by simp, fun x hx y hy => by simp at hy; subst hy; exact fun e => ha (e ▸ hx)⟩
theorem taken_step {l : TL} {tk : PL} (h : TakenT l tk) (c : T3) (hb : ∀ d ∈ l, betterT c d = false) : TakenT (l ++ [c]) (stepT tk c) := by
  cases hc : okT tk c with
  | true =>
    have e : stepT tk c = tk ++ [(c.1, c.2.1)] := by simp [stepT, hc]
    obtain ⟨o1, o2, o3, o4⟩ := (ok_iff tk c).1 hc
    rw [e]
    refine ⟨fun p hp => ?_, fun p hp => ?_, ?_, ?_, fun x hx x1 x2 => ?_⟩
    · rcases List.mem_append.1 hp with hp | hp
      · exact h.from0 p hp
      · simp at hp; subst hp; exact ⟨o1, o2⟩
    · rcases List.mem_append.1 hp with hp | hp
      · obtain ⟨y, hy, e⟩ := h.choice p hp; exact ⟨y, by simp [hy], e⟩
      · simp at hp; subst hp; exact ⟨c, by simp, rfl, rfl⟩
    · rw [List.map_append]; exact nodup_snoc h.fst o3
    · rw [List.map_append]; exact nodup_snoc h.snd o4
    · rcases List.mem_append.1 hx with hx | hx
      · rcases h.best x hx x1 x2 with g | ⟨d, d1, d2, d3, d4⟩
        · exact .inl (by simp [g])
        · exact .inr ⟨d, by simp [d1], by simp [d2], d3, d4⟩
      · simp at hx; subst hx; exact .inl (by simp)
  | false =>
    have e : stepT tk c = tk := by simp [stepT, hc]
    rw [e]
    refine ⟨h.from0, fun p hp => ?_, h.fst, h.snd, fun x hx x1 x2 => ?_⟩
    · obtain ⟨y, hy, e⟩ := h.choice p hp; exact ⟨y, by simp [hy], e⟩
    · rcases List.mem_append.1 hx with hx | hx
      · rcases h.best x hx x1 x2 with g | ⟨d, d1, d2, d3, d4⟩
        · exact .inl g
        · exact .inr ⟨d, by simp [d1], d2, d3, d4⟩
      · simp at hx; subst hx
        have : ∃ p ∈ tk, p.1 = x.1 ∨ p.2 = x.2.1 := by
          by_cases h3 : x.1 ∈ tk.map Prod.fst
          · obtain ⟨p, hp, e⟩ := List.mem_map.1 h3; exact ⟨p, hp, .inl e⟩
          · by_cases h4 : x.2.1 ∈ tk.map Prod.snd
            · obtain ⟨p, hp, e⟩ := List.mem_map.1 h4; exact ⟨p, hp, .inr e⟩
            · have := (ok_iff tk x).2 ⟨x1, x2, h3, h4⟩; rw [hc] at this; cases this
        obtain ⟨p, hp, hor⟩ := this
        obtain ⟨d, hd, e1, e2⟩ := h.choice p hp
        exact .inr ⟨d, by simp [hd], by rw [e1, e2]; exact hp, by rw [e1, e2]; exact hor, hb d hd⟩
theorem taken_scan : ∀ (Q P : TL) (tk : PL), SortedT (P ++ Q) → TakenT P tk → TakenT (P ++ Q) (Q.foldl stepT tk)
  | [], P, tk, _, h => by simpa using h
  | c :: Q, P, tk, hs, h => by
    have := taken_step h c (fun d hd => (List.pairwise_append.1 hs).2.2 d hd c (by simp))
    have := taken_scan Q (P ++ [c]) _ (by simpa using hs) this
    simpa using this
theorem taken_sort (l : TL) : TakenT (sortT l) (scanT (sortT l)) := by
  have := taken_scan (sortT l) [] [] (sortT_sorted l) ⟨by simp, by simp, by simp, by simp, by simp⟩
  simpa [scanT] using this
theorem taken_all (l : TL) : TakenT l (scanT (sortT l)) := by
  have h := taken_sort l
  have hm := fun c => (sortT_perm l).mem_iff (a := c)
  exact ⟨h.from0, fun p hp => by obtain ⟨c, hc, e⟩ := h.choice p hp; exact ⟨c, (hm c).1 hc, e⟩, h.fst, h.snd, fun c hc c1 c2 => by
    rcases h.best c ((hm c).2 hc) c1 c2 with g | ⟨d, d1, d2⟩
    · exact .inl g
    · exact .inr ⟨d, (hm d).1 d1, d2⟩⟩

/-- what is taken, in order of the Bs -/
def pickL (l : TL) : PL := sortB (scanT (sortT l))
theorem pick_perm {l l' : TL} (h : l.Perm l') : pickL l = pickL l' := by
  have hp : (freeT l).Perm (freeT l') := h.filter _
  unfold pickL
  rw [scan_sort, scan_sort, h.length_eq, ref_perm _ _ _ hp]
theorem pick_ref (l : TL) : pickL l = sortB (refT l.length (freeT l)) := by unfold pickL; rw [scan_sort]
theorem sortB_perm (l : PL) : (sortB l).Perm l := stab_perm (sortB_stab l).2
theorem pick_scan (l : TL) : (pickL l).Perm (scanT (sortT l)) := sortB_perm _
theorem pick_taken (l : TL) : TakenT l (pickL l) := by
  have h := taken_all l
  have hp := pick_scan l
  refine ⟨fun p hm => h.from0 p (hp.mem_iff.1 hm), fun p hm => h.choice p (hp.mem_iff.1 hm), (hp.map Prod.fst).nodup_iff.2 h.fst, (hp.map Prod.snd).nodup_iff.2 h.snd, fun c hc c1 c2 => ?_⟩
  rcases h.best c hc c1 c2 with g | ⟨d, d1, d2, d3, d4⟩
  · exact .inl (hp.mem_iff.2 g)
  · exact .inr ⟨d, d1, hp.mem_iff.2 d2, d3, d4⟩
theorem pick_sorted (l : TL) : Sorted (pickL l) := (sortB_stab _).1
theorem pick_keys (l : TL) (ss : List Int) (f : Int → Int) (hp : ss.Perm ((scanT (sortT l)).map Prod.snd)) (hf : ∀ p ∈ scanT (sortT l), f p.2 = p.1) : (ss.mergeSort (fun x y => decide (x ≤ y))).map (fun b => (f b, b)) = pickL l := by
  have h1 : ((ss.mergeSort (fun x y => decide (x ≤ y))).map (fun b => (f b, b))).Perm (scanT (sortT l)) := by
    have e : ((scanT (sortT l)).map Prod.snd).map (fun b => (f b, b)) = scanT (sortT l) := by
      rw [List.map_map]
      exact (List.map_congr_left (fun p hp => by show (f p.2, p.2) = id p; rw [hf p hp]; rfl)).trans (List.map_id _)
    have := ((List.mergeSort_perm ss (fun x y => decide (x ≤ y))).trans hp).map (fun b => (f b, b))
    rwa [e] at this
  refine sorted_perm ?_ (pick_sorted l) (h1.trans (pick_scan l).symm) (pick_taken l).snd
  refine List.pairwise_map.2 ?_
  have := List.pairwise_mergeSort (le := fun x y : Int => decide (x ≤ y)) (fun a b c h k => by simp only [decide_eq_true_eq] at *; omega) (fun a b => by simp only [Bool.or_eq_true, decide_eq_true_eq]; omega) ss
  exact this.imp (fun h => by simpa using h)
theorem taken_len (l : TL) (tk : PL) : (l.foldl stepT tk).length ≤ tk.length + l.length := by
  induction l generalizing tk with
  | nil => simp
  | cons c l ih =>
    have := ih (stepT tk c)
    have h2 : (stepT tk c).length ≤ tk.length + 1 := by unfold stepT; split <;> simp
    rw [List.foldl_cons, List.length_cons]; omega
theorem scan_len (l : TL) : (scanT l).length ≤ l.length := by have := taken_len l []; simpa [scanT] using this
theorem pick_len (l : TL) : (pickL l).length ≤ l.length := by
  rw [(pick_scan l).length_eq]
  exact Nat.le_trans (scan_len _) (by rw [sortT_len]; exact Nat.le_refl _)
theorem pick_okP (l : TL) (h : ∀ c ∈ l, (Lit.int .i64 c.1).wf = true ∧ (Lit.int .i64 c.2.1).wf = true ∧ (Lit.int .i64 c.2.2).wf = true) : okP (pickL l) := fun p hp => by
  obtain ⟨c, hc, e1, e2⟩ := (pick_taken l).choice p hp
  obtain ⟨a, b, _⟩ := h c hc
  rw [← e1, ← e2]; exact ⟨a, b⟩
end Go.Proofs.YtigijgcldgbokaaGreat
namespace Go.Proofs.YtigijgcldgbokaaGreat
open Go.RowKit Go.Shelf
set_option linter.unusedVariables false

/-- numbers that a Go integer holds -/
def okT3 (l : TL) : Prop := ∀ c ∈ l, (Lit.int .i64 c.1).wf = true ∧ (Lit.int .i64 c.2.1).wf = true ∧ (Lit.int .i64 c.2.2).wf = true
/-- the cells of a choice -/
def encT (c : T3) : List Value := [.int .i64 c.1, .int .i64 c.2.1, .int .i64 c.2.2]
/-- the cells of a slice of choices -/
def TripAt (w : World) (ao : Option Addr) (l : TL) : Prop := l = [] ∨ ∃ b o, ao = some ⟨b, o, none⟩ ∧ b < w.heap.size ∧ ∀ (i : Nat) c, l[i]? = some c → w.cell? ⟨b, o + i * 3, none⟩ = some (.int .i64 c.1) ∧ w.cell? ⟨b, o + i * 3 + 1, none⟩ = some (.int .i64 c.2.1) ∧ w.cell? ⟨b, o + i * 3 + 2, none⟩ = some (.int .i64 c.2.2)
theorem TripAt.kept {w w' : World} {ao : Option Addr} {l : TL} (h : TripAt w ao l) (hB : Below w.heap.size w w') : TripAt w' ao l := by
  rcases h with h | ⟨b, o, h1, h2, h3⟩
  · exact .inl h
  · exact .inr ⟨b, o, h1, Nat.lt_of_lt_of_le h2 hB.size, fun i p hp => ⟨(hB.cell (p := ⟨b, o + i * 3, none⟩) h2).trans (h3 i p hp).1, (hB.cell (p := ⟨b, o + i * 3 + 1, none⟩) h2).trans (h3 i p hp).2.1, (hB.cell (p := ⟨b, o + i * 3 + 2, none⟩) h2).trans (h3 i p hp).2.2⟩⟩
/-- the cells of choices -/
def cellsT (l : TL) : List Value := l.flatMap encT
theorem cellsT_cons (p : T3) (l : TL) : cellsT (p :: l) = .int .i64 p.1 :: .int .i64 p.2.1 :: .int .i64 p.2.2 :: cellsT l := rfl
theorem cellsT_length (l : TL) : (cellsT l).length = l.length * 3 := by
  induction l with
  | nil => rfl
  | cons p l ih => rw [cellsT_cons]; simp only [List.length_cons, ih]; omega
theorem cellsT_app (l m : TL) : cellsT (l ++ m) = cellsT l ++ cellsT m := by simp [cellsT]
theorem cellsT_at (l : TL) (k : Nat) (p : T3) (h : l[k]? = some p) : (cellsT l)[k * 3]? = some (.int .i64 p.1) ∧ (cellsT l)[k * 3 + 1]? = some (.int .i64 p.2.1) ∧ (cellsT l)[k * 3 + 2]? = some (.int .i64 p.2.2) := by
  induction l generalizing k with
  | nil => simp at h
  | cons q l ih =>
    cases k with
    | zero => simp at h; subst h; exact ⟨rfl, rfl, rfl⟩
    | succ k =>
      have := ih k (by simpa using h)
      rw [cellsT_cons, show (k + 1) * 3 = k * 3 + 1 + 1 + 1 from by omega]
      simpa using this
theorem cellsT_set (l : TL) (k : Nat) (a b s : Int) (h : k < l.length) : (((cellsT l).set (k * 3) (.int .i64 a)).set (k * 3 + 1) (.int .i64 b)).set (k * 3 + 2) (.int .i64 s) = cellsT (l.set k (a, b, s)) := by
  induction l generalizing k with
  | nil => simp at h
  | cons q l ih =>
    cases k with
    | zero => rfl
    | succ k =>
      have := ih k (by simpa using h)
      rw [cellsT_cons, show (k + 1) * 3 = k * 3 + 1 + 1 + 1 from by omega]
      simp only [List.set_cons_succ, this]
      rfl
theorem cellsT_inv (L : TL) (j : Nat) (u : Value) (h : (cellsT L)[j]? = some u) : ∃ i c, L[i]? = some c ∧ ((j = i * 3 ∧ u = .int .i64 c.1) ∨ (j = i * 3 + 1 ∧ u = .int .i64 c.2.1) ∨ (j = i * 3 + 2 ∧ u = .int .i64 c.2.2)) := by
  have hj := (List.getElem?_eq_some_iff.1 h).1
  rw [cellsT_length] at hj
  obtain ⟨p, hp⟩ : ∃ p, L[j / 3]? = some p := ⟨_, List.getElem?_eq_getElem (by omega)⟩
  obtain ⟨c1, c2, c3⟩ := cellsT_at L (j / 3) p hp
  have hm : j % 3 = 0 ∨ j % 3 = 1 ∨ j % 3 = 2 := by omega
  rcases hm with e | e | e
  · refine ⟨j / 3, p, hp, .inl ⟨by omega, ?_⟩⟩
    rw [show j / 3 * 3 = j from by omega, h] at c1; exact Option.some.inj c1
  · refine ⟨j / 3, p, hp, .inr (.inl ⟨by omega, ?_⟩)⟩
    rw [show j / 3 * 3 + 1 = j from by omega, h] at c2; exact Option.some.inj c2
  · refine ⟨j / 3, p, hp, .inr (.inr ⟨by omega, ?_⟩)⟩
    rw [show j / 3 * 3 + 2 = j from by omega, h] at c3; exact Option.some.inj c3
theorem cellsT_ones (L : TL) : ∀ u ∈ cellsT L, u.oneCell' = true := fun u hu => by
  obtain ⟨i, hi, rfl⟩ := List.getElem_of_mem hu
  obtain ⟨j, p, _, ⟨_, e⟩ | ⟨_, e⟩ | ⟨_, e⟩⟩ := cellsT_inv L i _ (List.getElem?_eq_getElem hi)
  · rw [e]; rfl
  · rw [e]; rfl
  · rw [e]; rfl
theorem cellsT_zero (n : Nat) : (madeCells #[.int .i64 0, .int .i64 0, .int .i64 0] (n * 3)).toList = cellsT (List.replicate n (0, 0, 0)) := by
  have h1 : (madeCells #[.int .i64 0, .int .i64 0, .int .i64 0] (n * 3)).toList = List.replicate (n * 3) (.int .i64 0) := by
    refine List.eq_replicate_iff.2 ⟨by simp [size_madeCells], fun b hb => ?_⟩
    simp only [madeCells, Array.toList_map, List.mem_map] at hb
    obtain ⟨i, _, rfl⟩ := hb
    have : i % 3 = 0 ∨ i % 3 = 1 ∨ i % 3 = 2 := by omega
    rcases this with h | h | h <;> simp [h]
  have h2 : cellsT (List.replicate n (0, 0, 0)) = List.replicate (n * 3) (.int .i64 0) := by
    refine List.eq_replicate_iff.2 ⟨by rw [cellsT_length]; simp, fun b hb => ?_⟩
    simp only [cellsT, List.mem_flatMap] at hb
    obtain ⟨p, hp, hb⟩ := hb
    rw [(List.mem_replicate.1 hp).2] at hb
    simp [encT] at hb
    exact hb
  rw [h1, h2]
/-- a slice of choices that the code owns -/
structure OwnT (w : World) (base : Nat) (T : TypeId) (g n : Nat) (l : TL) : Prop where
  len : l.length = n
  own : w.ownsRow base T 3 (.slice (some ⟨g, 0, none⟩) n n) n (cellsT l)
theorem OwnT.lt {w : World} {base : Nat} {T : TypeId} {g n : Nat} {l : TL} (h : OwnT w base T g n l) : base ≤ g ∧ g < w.heap.size := h.own.lt g rfl
theorem OwnT.kept {w w' : World} {base : Nat} {T : TypeId} {g n : Nat} {l : TL} (h : OwnT w base T g n l) (hB : Below w.heap.size w w') : OwnT w' base T g n l := ⟨h.len, ownsRowP_below h.own hB⟩
theorem OwnT.cell {w : World} {base : Nat} {T : TypeId} {g n : Nat} {l : TL} (h : OwnT w base T g n l) (k : Nat) (p : T3) (hp : l[k]? = some p) : w.cell? ⟨g, k * 3, none⟩ = some (.int .i64 p.1) ∧ w.cell? ⟨g, k * 3 + 1, none⟩ = some (.int .i64 p.2.1) ∧ w.cell? ⟨g, k * 3 + 2, none⟩ = some (.int .i64 p.2.2) := by
  obtain ⟨hk, _⟩ := List.getElem?_eq_some_iff.1 hp
  have hl := h.len
  obtain ⟨h1, h2, h3⟩ := cellsT_at l k p hp
  exact ⟨(h.own.cellAt (k * 3) (by omega)).trans h1, (h.own.cellAt (k * 3 + 1) (by omega)).trans h2, (h.own.cellAt (k * 3 + 2) (by omega)).trans h3⟩
theorem OwnT.frozen {w : World} {base : Nat} {T : TypeId} {g n : Nat} {l : TL} (h : OwnT w base T g n l) (k : Nat) : w.frozen? ⟨g, k, none⟩ = false := h.own.frozenAt k
theorem OwnT.trip {w : World} {base : Nat} {T : TypeId} {g n : Nat} {l : TL} (h : OwnT w base T g n l) : TripAt w (some ⟨g, 0, none⟩) l :=
  .inr ⟨g, 0, rfl, h.lt.2, fun i p hp => by have := h.cell i p hp; simpa using this⟩
theorem OwnT.store {w : World} {base : Nat} {T : TypeId} {g n : Nat} {l : TL} (h : OwnT w base T g n l) (k : Nat) (a b s : Int) (hk : k < n) : OwnT (((w.setCell ⟨g, k * 3, none⟩ (.int .i64 a)).setCell ⟨g, k * 3 + 1, none⟩ (.int .i64 b)).setCell ⟨g, k * 3 + 2, none⟩ (.int .i64 s)) base T g n (l.set k (a, b, s)) := by
  refine ⟨by simp [h.len], ?_⟩
  rw [← cellsT_set l k a b s (by rw [h.len]; exact hk)]
  exact (((h.own.stored (k * 3) (.int .i64 a)).1.stored (k * 3 + 1) (.int .i64 b)).1.stored (k * 3 + 2) (.int .i64 s)).1
theorem trip_cells {w : World} {b o : Nat} {L : TL} (h : TripAt w (some ⟨b, o, none⟩) L) : ∀ (j : Nat) u, (cellsT L)[j]? = some u → w.cell? ((⟨b, o, none⟩ : Addr).add j) = some u := fun j u hu => by
  have e : (⟨b, o, none⟩ : Addr).add j = ⟨b, o + j, none⟩ := by unfold Addr.add; split <;> simp_all
  rw [e]
  rcases h with rfl | ⟨b', o', h1, _, h3⟩
  · simp [cellsT] at hu
  · cases h1
    obtain ⟨i, p, hp, ⟨rfl, rfl⟩ | ⟨rfl, rfl⟩ | ⟨rfl, rfl⟩⟩ := cellsT_inv L j u hu
    · exact (h3 i p hp).1
    · exact (h3 i p hp).2.1
    · exact (h3 i p hp).2.2
theorem lit_trip (w : World) (l : TL) (T : TypeId) : TripAt (w.alloc (.cells (cellsT l).toArray T)) (some ⟨w.heap.size, 0, none⟩) l := by
  refine .inr ⟨w.heap.size, 0, rfl, by simp, fun i p hp => ?_⟩
  obtain ⟨c1, c2, c3⟩ := cellsT_at l i p hp
  have h := World.alloc_heap_new w (.cells (cellsT l).toArray T)
  refine ⟨?_, ?_, ?_⟩
  · rw [Lib.cell_of_heap h]; simpa using c1
  · rw [Lib.cell_of_heap h]; simpa using c2
  · rw [Lib.cell_of_heap h]; simpa using c3
theorem info_parts3 {P : Program} {e : TypeId} {z : Option Value} {s b : Nat} (h : (P.info? e).map (fun i => (i.zero, i.size, i.bytes)) = some (z, s, b)) : ∃ i, P.info? e = some i ∧ i.zero = z ∧ i.size = s ∧ i.bytes = b := by
  obtain ⟨i, hi, e'⟩ := Option.map_eq_some_iff.1 h
  simp only [Prod.mk.injEq] at e'
  exact ⟨i, hi, e'⟩
/-- a new slice of choices, a copy of which the first k are -/
def copyT (l : TL) (k : Nat) : TL := l.take k ++ List.replicate (l.length - k) (0, 0, 0)
theorem copyT_zero (l : TL) : copyT l 0 = List.replicate l.length (0, 0, 0) := by simp [copyT]
theorem copyT_all (l : TL) : copyT l l.length = l := by simp [copyT]
theorem copyT_next (l : TL) (k : Nat) (p : T3) (h : l[k]? = some p) : (copyT l k).set k p = copyT l (k + 1) := by
  obtain ⟨hk, e⟩ := List.getElem?_eq_some_iff.1 h
  unfold copyT
  rw [List.set_append_right _ _ (by simp; omega), List.take_succ_eq_append_getElem hk, e]
  obtain ⟨m, hm⟩ : ∃ m, l.length - k = m + 1 := ⟨l.length - k - 1, by omega⟩
  rw [hm, show l.length - (k + 1) = m from by omega, List.replicate_succ]
  simp [show min k l.length = k from by omega]
theorem copyT_len (l : TL) (k : Nat) (h : k ≤ l.length) : (copyT l k).length = l.length := by simp [copyT]; omega
end Go.Proofs.YtigijgcldgbokaaGreat
namespace Go.Proofs.YtigijgcldgbokaaGreat
open Go.RowKit Go.Shelf Go.Sort
set_option linter.unusedVariables false

/-- the first that is not 0 -/
def orL : List Int → Int
  | [] => 0
  | x :: l => if x ≠ 0 then x else orL l
theorem or_hit (l : List Int) (k : Nat) (x : Int) (hx : l[k]? = some x) (h : ∀ (j : Nat) y, j < k → l[j]? = some y → y = 0) (hne : x ≠ 0) : orL l = x := by
  induction l generalizing k with
  | nil => simp at hx
  | cons a l ih =>
    unfold orL
    cases k with
    | zero => simp at hx; subst hx; rw [if_pos hne]
    | succ k =>
      have e := h 0 a (by omega) rfl
      rw [if_neg (by simp [e])]
      exact ih k (by simpa using hx) (fun j y hj hy => h (j + 1) y (by omega) (by simpa using hy))
theorem or_none (l : List Int) (h : ∀ (j : Nat) y, j < l.length → l[j]? = some y → y = 0) : orL l = 0 := by
  induction l with
  | nil => rfl
  | cons a l ih =>
    unfold orL
    have e := h 0 a (by simp) rfl
    rw [if_neg (by simp [e])]
    exact ih (fun j y hj hy => h (j + 1) y (by simp; omega) (by simpa using hy))
theorem cmpT_or (c d : T3) : cmpT c d = orL [cmpI d.2.2 c.2.2, cmpI c.1 d.1, cmpI c.2.1 d.2.1] := by
  unfold cmpT orL orL orL orL
  split
  · rfl
  · split
    · rfl
    · rename_i h1 h2
      by_cases h : cmpI c.2.1 d.2.1 = 0
      · rw [h]; simp
      · rw [if_pos h]

set_option maxRecDepth 100000 in
set_option maxHeartbeats 1000000 in
theorem or_any (ao : Option Addr) (cap : Nat) (xs : List Int) (w : World) (hn : xs.length ≤ 274877906944) (hR : IntsAt w ao xs) :
    Calls Tryz.prog 142 #[.slice ao xs.length cap] w fun e w' => e = .returned (.int .i64 (orL xs)) ∧ w' = w := by
  have HRo := Lib.hid hR
  have HH := Lib.hid (or_hit xs)
  have HNo := Lib.hid (or_none xs)
  clear hR
  generalize orL xs = F at HH HNo ⊢
  go_enter Tryz.func142, Tryz.ntmps142
  go_wp2_with fail
  go_loopw [8] (fun i wr => ∃ (k : Nat), k ≤ xs.length ∧ i = .int .i64 k ∧ Hid (wr = w) ∧ Hid (∀ (j : Nat) y, j < k → xs[j]? = some y → y = 0)) (fun i _ => xs.length - (intOf i).toNat)
  case atStart => exact ⟨0, Nat.zero_le _, rfl, Lib.hid rfl, Lib.hid (fun j y hj _ => by omega)⟩
  case round =>
    obtain ⟨k, hk, rfl, HW, HZ⟩ := hrel
    by_cases hlt : k < xs.length
    · obtain ⟨x, hx⟩ : ∃ x, xs[k]? = some x := ⟨_, List.getElem?_eq_getElem hlt⟩
      have hR := HRo.out
      rw [← HW.out] at hR
      rcases hR with h0 | ⟨A, rfl, hA, hcell⟩
      · rw [h0] at hlt; simp at hlt
      have hc := hcell k _ hx
      have HX := Lib.hid hx
      clear hcell hx
      by_cases h0 : x = 0
      · have HZ2 : Hid (∀ (j : Nat) y, j < k + 1 → xs[j]? = some y → y = 0) := Lib.hid (fun j y hj hy => by
          by_cases e : j = k
          · subst e; rw [HX.out] at hy; cases hy; exact h0
          · exact HZ.out j y (by omega) hy)
        subst h0
        go_wp2_with fail
        go_roundw
        case rel => exact ⟨k + 1, by omega, by go_num, HW, HZ2⟩
        case measure => simp [intOf]; omega
      · have E := Lib.hid (HH.out k x HX.out HZ.out h0)
        go_wp2_with fail
        go_ret
        exact ⟨by rw [E.out]; rfl, HW.out⟩
    · obtain rfl : k = xs.length := by omega
      have E := Lib.hid (HNo.out HZ.out)
      go_wp2_with fail
      go_ret
      exact ⟨by rw [E.out]; rfl, HW.out⟩

theorem ints3_at (w : World) (a b c : Int) (T : TypeId) : IntsAt (w.alloc (.cells #[.int .i64 a, .int .i64 b, .int .i64 c] T)) (some ⟨w.heap.size, 0, none⟩) [a, b, c] := by
  refine .inr ⟨_, rfl, by simp, fun i p hp => ?_⟩
  have h := World.alloc_heap_new w (.cells #[.int .i64 a, .int .i64 b, .int .i64 c] T)
  have e : (⟨w.heap.size, 0, none⟩ : Addr).add i = ⟨w.heap.size, i, none⟩ := by unfold Addr.add; split <;> simp_all
  rw [e, Lib.cell_of_heap h]
  match i, hp with
  | 0, hp => simp at hp; subst hp; rfl
  | 1, hp => simp at hp; subst hp; rfl
  | 2, hp => simp at hp; subst hp; rfl
  | i + 3, hp => simp at hp

set_option maxRecDepth 100000 in
set_option maxHeartbeats 2000000 in
theorem choice_any (c d : T3) (w : World) :
    Calls Tryz.prog 126 #[.agg #[.int .i64 c.1, .int .i64 c.2.1, .int .i64 c.2.2], .agg #[.int .i64 d.1, .int .i64 d.2.1, .int .i64 d.2.2]] w fun e w' => e = .returned (.int .i64 (cmpT c d)) ∧ ∃ q os', w' = grow (w.drewN q) os' := by
  obtain ⟨c1, c2, c3⟩ := c
  obtain ⟨d1, d2, d3⟩ := d
  have C1 := Lib.hid (fun W => compare_any d3 c3 W)
  have C2 := Lib.hid (fun W => compare_any c1 d1 W)
  have C3 := Lib.hid (fun W => compare_any c2 d2 W)
  have CO : Hid (∀ W : World, Calls Tryz.prog 142 #[.slice (some ⟨W.heap.size, 0, none⟩) 3 3] (W.alloc (.cells #[.int .i64 (cmpI d3 c3), .int .i64 (cmpI c1 d1), .int .i64 (cmpI c2 d2)] 3)).drew fun e w' => e = .returned (.int .i64 (cmpT (c1, c2, c3) (d1, d2, d3))) ∧ w' = (W.alloc (.cells #[.int .i64 (cmpI d3 c3), .int .i64 (cmpI c1 d1), .int .i64 (cmpI c2 d2)] 3)).drew) := Lib.hid (fun W => by
    rw [cmpT_or]
    exact or_any _ 3 [cmpI d3 c3, cmpI c1 d1, cmpI c2 d2] _ (by simp) (ints3_at W _ _ _ _))
  generalize cmpT (c1, c2, c3) (d1, d2, d3) = F at CO ⊢
  generalize cmpI d3 c3 = r1 at C1 CO
  generalize cmpI c1 d1 = r2 at C2 CO
  generalize cmpI c2 d2 = r3 at C3 CO
  dsimp only
  obtain ⟨V, HV⟩ : ∃ V, Hid (V = (w.alloc (.cells #[.int .i64 c1, .int .i64 c2, .int .i64 c3] 152)).alloc (.cells #[.int .i64 d1, .int .i64 d2, .int .i64 d3] 152)) := ⟨_, Lib.hid rfl⟩
  have hg : V = grow w #[.cells #[.int .i64 c1, .int .i64 c2, .int .i64 c3] 152, .cells #[.int .i64 d1, .int .i64 d2, .int .i64 d3] 152] := by rw [HV.out, alloc_eq_grow, alloc_eq_grow, grow_grow]; rfl
  have HG := Lib.hid hg
  have hA : V.heap[w.heap.size]? = some (.cells #[.int .i64 c1, .int .i64 c2, .int .i64 c3] 152 (0, 0)) := by rw [hg]; simp [grow]
  have hD : V.heap[w.heap.size + 1]? = some (.cells #[.int .i64 d1, .int .i64 d2, .int .i64 d3] 152 (0, 0)) := by rw [hg]; simp [grow]
  have a0 : V.cell? ⟨w.heap.size, 0, none⟩ = some (.int .i64 c1) := (Lib.cell_of_heap hA 0).trans rfl
  have a1 : V.cell? ⟨w.heap.size, 1, none⟩ = some (.int .i64 c2) := (Lib.cell_of_heap hA 1).trans rfl
  have a2 : V.cell? ⟨w.heap.size, 2, none⟩ = some (.int .i64 c3) := (Lib.cell_of_heap hA 2).trans rfl
  have b0 : V.cell? ⟨w.heap.size + 1, 0, none⟩ = some (.int .i64 d1) := (Lib.cell_of_heap hD 0).trans rfl
  have b1 : V.cell? ⟨w.heap.size + 1, 1, none⟩ = some (.int .i64 d2) := (Lib.cell_of_heap hD 1).trans rfl
  have b2 : V.cell? ⟨w.heap.size + 1, 2, none⟩ = some (.int .i64 d3) := (Lib.cell_of_heap hD 2).trans rfl
  clear hg hA hD
  go_enter Tryz.func126, Tryz.ntmps126
  go_upto_region 1 with fail
  rw [← HV.out]
  go_region_held3 (fun W => W.cell? ⟨w.heap.size, 0, none⟩ = some (.int .i64 c1) ∧ W.cell? ⟨w.heap.size, 1, none⟩ = some (.int .i64 c2) ∧ W.cell? ⟨w.heap.size, 2, none⟩ = some (.int .i64 c3) ∧ W.cell? ⟨w.heap.size + 1, 0, none⟩ = some (.int .i64 d1) ∧ W.cell? ⟨w.heap.size + 1, 1, none⟩ = some (.int .i64 d2) ∧ W.cell? ⟨w.heap.size + 1, 2, none⟩ = some (.int .i64 d3))
    ((refine ⟨?_, ?_, ?_, ?_, ?_, ?_⟩ <;> first | assumption | go_keep))
    (first
      | (go_at_call 49; with_reducible refine (C1.out _).mono ?_; rintro e w1 ⟨rfl, rfl⟩)
      | (go_at_call 49; with_reducible refine (C2.out _).mono ?_; rintro e w1 ⟨rfl, rfl⟩)
      | (go_at_call 49; with_reducible refine (C3.out _).mono ?_; rintro e w1 ⟨rfl, rfl⟩)
      | (go_at_call 142; refine (CO.out _).mono ?_; rintro e w1 ⟨rfl, rfl⟩))
  go_wp2_with fail
  go_ret
  exact ⟨rfl, 1, _, by rw [alloc_eq_grow, HG.out, grow_grow, drew_grow]; rfl⟩
end Go.Proofs.YtigijgcldgbokaaGreat
namespace Go.Proofs.YtigijgcldgbokaaGreat
open Go.RowKit

section
variable {α : Type} {F : Fence} {n : Nat} {P : Program}

/-- what is said of a world stands where memory was only added -/
def Stays (J : List α → World → Prop) : Prop := ∀ pre A B, J pre A → Below A.heap.size A B → J pre B
/-- .. and where a block that is no cells turned, at or behind b -/
def Apart (b : Nat) (J : World → Prop) : Prop := ∀ A l o o', J A → b ≤ l → A.heap[l]? = some o → o.isCells = false → J (A.putObj l o')

def Tells (F : Fence) (n : Nat) (P : Program) (gf : Nat) (lb : Array Value) (encs : α → Array Value) (Kp : World → World → Prop) (Ok : List α → α → World → Prop) (Rm : List α → World → Prop) (S Sp : List α → Prop) (w : World) : Prop :=
  ∀ (l : Nat) (J Jx : List α → World → Prop) (W : World), Below w.heap.size w W → Stays J → Stays Jx → (∀ pre A, J pre A → Rm pre A) →
    (∀ pre x W1, J pre W1 → Ok pre x W1 → YieldAt F (n - 1) P l (encs x) W1 fun e W' => (e = .returned (.bool true) ∧ J (pre ++ [x]) W' ∧ Kp W1 W') ∨ (e = .returned (.bool false) ∧ Jx (pre ++ [x]) W')) →
    J [] W → CallsIn F n P gf (#[.func (.yield l) #[] #[]] ++ lb) W fun e W' => (∃ v, e = .returned v) ∧ ((∃ xs, S xs ∧ J xs W') ∨ (∃ pre, Sp pre ∧ Jx pre W'))

/-- how a round may end -/
def roundEnds (Kp : World → World → Prop) (I Ix : List α → World → Prop) (pre : List α) (x : α) (W : World) : Exit → Act → World → Prop
  | .normal, _, W3 => KeepsOthers W W3 ∧ Kp W W3 ∧ I (pre ++ [x]) W3
  | .ret, _, W3 => KeepsOthers W W3 ∧ Ix (pre ++ [x]) W3
  | _, _, _ => False

theorem below_kept {A B : World} (h : Below A.heap.size A B) {k : Nat} {o : Obj} (hk : A.heap[k]? = some o) : B.heap[k]? = some o :=
  (h.block k (Array.getElem?_eq_some_iff.1 hk).1).trans hk

theorem wpIn_range_tells {g : Operand} {ps : Array Tmp} {assign body : Code} {Q : Exit → Act → World → Prop} {a : Act} {w : World}
    (hro : F.round = none) (h1 : 1 ≤ n) {gf : Nat} {lb : Array Value} (hg : a.eval g = .func (.func gf) #[] lb) (hFg : F.fn gf) (eg : ∀ args w, (callFunc gf args).run P w = .ok (.enter gf args) w)
    {encs : α → Array Value} {Kp : World → World → Prop} {Ok : List α → α → World → Prop} {Rm : List α → World → Prop} {S Sp : List α → Prop} {w0 : World} (hit : Tells F (n - 1) P gf lb encs Kp Ok Rm S Sp w0)
    (hb0 : Below w0.heap.size w0 w) (hps : ∀ x, (encs x).size = ps.size)
    (hKt : ∀ {A B C : World}, Kp A B → Kp B C → Kp A C) (hKo : ∀ (W : World) (l : Nat) (o o' : Obj), w.heap.size ≤ l → W.heap[l]? = some o → o.isCells = false → Kp W (W.putObj l o'))
    (hKb : ∀ {A B : World}, w.heap.size ≤ A.heap.size → Below A.heap.size A B → Kp A B)
    (I Ix : List α → World → Prop) (hI : Stays I) (hIx : Stays Ix) (hIo : ∀ pre, Apart w.heap.size (I pre)) (hIxo : ∀ pre, Apart w.heap.size (Ix pre)) (hRm : ∀ pre A, I pre A → Rm pre A)
    (hOk : ∀ pre x A B, Ok pre x A → Below A.heap.size A B → Ok pre x B) (hOko : ∀ pre x, Apart w.heap.size (Ok pre x)) (h0 : I [] w)
    (Ax : α → Act → World → Prop) (hAxo : ∀ x a', Apart w.heap.size (Ax x a'))
    (hassign : ∀ (l : Nat) (x : α) (W : World) (K : Act → World → Prop), w.heap.size ≤ W.heap.size → (∀ a' W', Below W.heap.size W W' → Ax x a' W' → K a' W') →
      assign.wpIn (F.inRound l) (n - 1 - 1) P (Exit.then K (fun _ _ _ => False)) { tmps := (ps.zip (encs x)).foldl (fun t (p, v) => t.setIfInBounds p v) a.tmps, defers := [] } W)
    (hbody : ∀ (l : Nat) (pre : List α) (x : α) (a' : Act) (W : World), w.heap.size ≤ W.heap.size → I pre W → Ok pre x W → Ax x a' W → body.wpIn (F.inRound l) (n - 1 - 1) P (roundEnds Kp I Ix pre x W) a' W)
    (hdone : ∀ (D : Nat) (xs : List α) (W : World), w.heap.size ≤ D → S xs → I xs W → W.heap[D]? = some (.deferred (some [])) → Q .normal { a with defers := { target := .collected D, args := #[] } :: a.defers } W)
    (hstop : ∀ (D : Nat) (pre : List α) (W : World), w.heap.size ≤ D → Sp pre → Ix pre W → W.heap[D]? = some (.deferred (some [])) → Code.ret.wpIn F n P Q { a with defers := { target := .collected D, args := #[] } :: a.defers } W) :
    (Code.rangeFunc g ps assign body).wpIn F n P Q a w := by
  refine wpIn_rangeFunc fun fn hfn => ?_
  rw [hro]
  obtain ⟨R, hR⟩ : ∃ R : LoopState → Option Code → Loop, ∀ st pe, R st pe = { state := st, pending := pe, fn, tmps := a.tmps, params := ps, assign, body, defers := w.heap.size } := ⟨_, fun _ _ => rfl⟩
  obtain ⟨V, hV⟩ : ∃ V, V = (w.alloc (.deferred (some []))).alloc (.loop (R .ready none)) := ⟨_, rfl⟩
  have hb : Below w.heap.size w V := by rw [hV]; exact ((Below.refl _ w).alloc (Nat.le_refl _) _).alloc (by simp) _
  have hsz : V.heap.size = w.heap.size + 2 := by rw [hV]; simp
  have hK : V.heap[w.heap.size]? = some (.deferred (some [])) := by
    rw [hV, Below.heap_alloc _ _ _ (by simp)]; exact World.alloc_heap_new w _
  have hL : V.heap[w.heap.size + 1]? = some (.loop (R .ready none)) := by
    rw [hV]; have := World.alloc_heap_new (w.alloc (.deferred (some []))) (.loop (R .ready none)); rwa [World.size_alloc] at this
  refine ⟨w.heap.size + 1, [{ target := .collected w.heap.size, args := #[] }], V, { target := .fn (.func gf) lb, args := #[.func (.yield (w.heap.size + 1)) #[] #[]] }, V, gf,
    #[.func (.yield (w.heap.size + 1)) #[] #[]] ++ lb, V, ?_, ?_, fun f' hf' => ?_, ?_, fun _ => h1, ?_⟩
  · rw [hV, hR]; exact run_enterLoop_outer _ _ _ _ _
  · simp only [resolve, hg]; simp [go_sem]
  · simp [Target.leads] at hf'; subst hf'; exact hFg
  · simp [invoke, go_sem, eg]
  refine (hit (w.heap.size + 1)
    (fun pre W => I pre W ∧ W.heap[w.heap.size + 1]? = some (.loop (R .ready none)) ∧ W.heap[w.heap.size]? = some (.deferred (some [])))
    (fun pre W => Ix pre W ∧ W.heap[w.heap.size + 1]? = some (.loop (R .done (some .ret))) ∧ W.heap[w.heap.size]? = some (.deferred (some [])))
    V (hb0.trans (hb.mono hb0.size)) (fun pre A B h k => ⟨hI pre A B h.1 k, below_kept k h.2.1, below_kept k h.2.2⟩) (fun pre A B h k => ⟨hIx pre A B h.1 k, below_kept k h.2.1, below_kept k h.2.2⟩)
    (fun pre A h => hRm pre A h.1) ?_ ⟨hI [] w V h0 hb, hL, hK⟩).mono ?_
  · rintro pre x W ⟨hi, hl, hk⟩ hok
    have hlt := (Array.getElem?_eq_some_iff.1 hl).1
    have hy := run_yield (P := P) (args := encs x) hl (by rw [hR]; exact hps x)
    rw [hR] at hy
    refine ⟨fn, _, assign, body, hy, roundIn_of_wpIn hfn (hassign _ x W _ (by omega) fun a' W' hbel hax => ?_)⟩
    have hl' := below_kept hbel hl
    have hk' := below_kept hbel hk
    have hlt' := (Array.getElem?_eq_some_iff.1 hl').1
    refine ⟨_, run_beginRound hl' (by rw [hR]), ?_⟩
    obtain ⟨U, hU⟩ : ∃ U, U = W'.putObj (w.heap.size + 1) (.loop { R .ready none with state := .busy }) := ⟨_, rfl⟩
    rw [← hU]
    have hlU : U.heap[w.heap.size + 1]? = some (.loop { R .ready none with state := .busy }) := by rw [hU]; exact World.putObj_heap_same hlt'
    have hkU : U.heap[w.heap.size]? = some (.deferred (some [])) := by rw [hU]; exact (World.putObj_heap_other (by omega)).trans hk'
    have hKU : Kp W U := by rw [hU]; exact hKt (hKb (by omega) hbel) (hKo _ _ _ _ (by omega) hl' rfl)
    have hIU : I pre U := by rw [hU]; exact hIo pre _ _ _ _ (hI pre W W' hi hbel) (by omega) hl' rfl
    have hOU : Ok pre x U := by rw [hU]; exact hOko pre x _ _ _ _ (hOk pre x W W' hok hbel) (by omega) hl' rfl
    have hAU : Ax x a' U := by rw [hU]; exact hAxo x a' _ _ _ _ hax (by omega) hl' rfl
    refine wpIn_mono (hbody _ pre x a' U (by have := (Array.getElem?_eq_some_iff.1 hkU).1; omega) hIU hOU hAU) ?_
    have fin : ∀ (j : Option Code) (X : World), KeepsOthers U X →
        (Instr.endRound (w.heap.size + 1) j).run P X = .ok (.bool j.isNone) (X.putObj (w.heap.size + 1) (.loop (R (if j.isNone then .ready else .done) j))) ∧
        (∃ o, X.heap[w.heap.size + 1]? = some o ∧ o.isCells = false) ∧
        (X.putObj (w.heap.size + 1) (.loop (R (if j.isNone then .ready else .done) j))).heap[w.heap.size + 1]? = some (.loop (R (if j.isNone then .ready else .done) j)) ∧
        (X.putObj (w.heap.size + 1) (.loop (R (if j.isNone then .ready else .done) j))).heap[w.heap.size]? = some (.deferred (some [])) := fun j X hX => by
      have hlX := hX.same _ _ hlU rfl
      have hkX := hX.same _ _ hkU rfl
      have hr := run_endRound (P := P) j hlX
      rw [hR] at hr ⊢
      exact ⟨hr, ⟨_, hlX, rfl⟩, World.putObj_heap_same (Array.getElem?_eq_some_iff.1 hlX).1, (World.putObj_heap_other (by omega)).trans hkX⟩
    rintro e a3 X hp
    cases e with
    | normal =>
      obtain ⟨h3, h4, h5⟩ := hp
      obtain ⟨q1, ⟨o, q2, q2'⟩, q3, q4⟩ := fin none X h3
      exact ⟨_, _, q1, .inl ⟨rfl, ⟨hIo _ _ _ _ _ h5 (by omega) q2 q2', q3, q4⟩, hKt (hKt hKU h4) (hKo _ _ _ _ (by omega) q2 q2')⟩⟩
    | ret =>
      obtain ⟨h3, h5⟩ := hp
      obtain ⟨q1, ⟨o, q2, q2'⟩, q3, q4⟩ := fin (some .ret) X h3
      exact ⟨_, _, q1, .inr ⟨rfl, hIxo _ _ _ _ _ h5 (by omega) q2 q2', q3, q4⟩⟩
    | exit id => exact hp.elim
    | goto t => exact hp.elim
    | panic ch => exact hp.elim
    | outgrown => exact hp.elim
  · rintro e X ⟨⟨v, rfl⟩, (⟨xs, hS, hi, hl, hk⟩ | ⟨pre, hS, hi, hl, hk⟩)⟩
    · exact ⟨none, _, by have := run_endLoop (P := P) hl (by rw [hR]; simp); rw [hR] at this; exact this, hdone _ xs _ (Nat.le_refl _) hS (hIo xs _ _ _ _ hi (by omega) hl rfl) ((World.putObj_heap_other (by omega)).trans hk)⟩
    · exact ⟨some .ret, _, by have := run_endLoop (P := P) hl (by rw [hR]; simp); rw [hR] at this; exact this, hstop _ pre _ (Nat.le_refl _) hS (hIxo pre _ _ _ _ hi (by omega) hl rfl) ((World.putObj_heap_other (by omega)).trans hk)⟩
end
end Go.Proofs.YtigijgcldgbokaaGreat
namespace Go.Proofs.YtigijgcldgbokaaGreat
open Go.RowKit Go.Shelf

def KeepsT (n0 B : Nat) (W W' : World) : Prop := ∀ k, k < n0 ∨ k = B → W'.heap[k]? = W.heap[k]?
theorem cell_same {W W' : World} (A : Addr) (h : W'.heap[A.block]? = W.heap[A.block]?) : W'.cell? A = W.cell? A := by unfold World.cell?; rw [h]
/-- a table in the world -/
abbrev TabO (ho : Option Addr) (hn hc : Nat) (ro : Option Addr) (rn rc : Nat) : Obj := .cells #[.slice ho hn hc, .slice ro rn rc] 25
def allT (hd : List ByteArray) (rs : List (List ByteArray)) : List ByteArray := hd ++ rs.flatten
theorem pre_head (hd : List ByteArray) (rs : List (List ByteArray)) (k : Nat) (x : ByteArray) (h : hd[k]? = some x) : hd.take (k + 1) = hd.take k ++ [x] ∧ hd.take k ++ [x] <+: allT hd rs := by
  obtain ⟨hk, e⟩ := List.getElem?_eq_some_iff.1 h
  have e1 : hd.take (k + 1) = hd.take k ++ [x] := by rw [List.take_succ_eq_append_getElem hk, e]
  refine ⟨e1, ?_⟩
  rw [← e1, allT]
  exact (List.take_prefix _ _).trans (List.prefix_append _ _)
theorem pre_row (hd : List ByteArray) (rs : List (List ByteArray)) (k j : Nat) (r : List ByteArray) (x : ByteArray) (hr : rs[k]? = some r) (h : r[j]? = some x) :
    hd ++ (rs.take k).flatten ++ r.take (j + 1) = hd ++ (rs.take k).flatten ++ r.take j ++ [x] ∧ hd ++ (rs.take k).flatten ++ r.take j ++ [x] <+: allT hd rs := by
  obtain ⟨hk, e⟩ := List.getElem?_eq_some_iff.1 hr
  obtain ⟨hj, e'⟩ := List.getElem?_eq_some_iff.1 h
  have e1 : hd ++ (rs.take k).flatten ++ r.take (j + 1) = hd ++ (rs.take k).flatten ++ r.take j ++ [x] := by rw [List.take_succ_eq_append_getElem hj, e']; simp
  refine ⟨e1, ?_⟩
  rw [← e1, allT]
  have e2 : rs.flatten = (rs.take k).flatten ++ (r ++ (rs.drop (k + 1)).flatten) := by
    conv => lhs; rw [← List.take_append_drop k rs]
    rw [List.flatten_append, List.drop_eq_getElem_cons hk, e]; simp
  rw [e2, List.append_assoc]
  refine List.prefix_append_right_inj _ |>.2 (List.prefix_append_right_inj _ |>.2 ?_)
  exact (List.take_prefix _ _).trans (List.prefix_append _ _)
theorem row_end (hd : List ByteArray) (rs : List (List ByteArray)) (k : Nat) (r : List ByteArray) (hr : rs[k]? = some r) : hd ++ (rs.take k).flatten ++ r.take r.length = hd ++ (rs.take (k + 1)).flatten := by
  obtain ⟨hk, e⟩ := List.getElem?_eq_some_iff.1 hr
  rw [List.take_succ_eq_append_getElem hk, e]; simp

set_option maxRecDepth 100000 in
set_option maxHeartbeats 4000000 in
theorem texts1_tells (n : Nat) (ho : Option Addr) (hc : Nat) (hd : List ByteArray) (ro : Option Addr) (rc : Nat) (rs : List (List ByteArray)) (B : Nat) (w0 w : World) (h0w : Below w0.heap.size w0 w)
    (hn : hd.length ≤ 1099511627776) (hn2 : rs.length ≤ 1099511627776) (hn3 : ∀ r ∈ rs, r.length ≤ 1099511627776) (hH : StrRow w0 ho hd) (hR : RowsAt w0 ro rs)
    (hB : w.heap[B]? = some (TabO ho hd.length hc ro rs.length rc)) :
    Tells Fence.wide n Tryz.prog 145 #[.pointer (some ⟨B, 0, none⟩)] (fun x : ByteArray => #[Value.string x]) (KeepsT w0.heap.size B) (fun pre x _ => pre ++ [x] <+: allT hd rs) (fun _ _ => True) (fun xs => xs = allT hd rs) (fun pre => pre <+: allT hd rs) w := by
  intro l J Jx W hW hJ hJx hRm hY h0
  have HY := Lib.hid hY
  have HH := Lib.hid hH
  have HR := Lib.hid hR
  have HN3 := Lib.hid hn3
  have HS0 : Hid (∀ k, k < w0.heap.size → W.heap[k]? = w0.heap[k]?) := Lib.hid (fun k hk => (hW.block k (Nat.lt_of_lt_of_le hk h0w.size)).trans (h0w.block k hk))
  have hBW := (hW.block B (lt_of_heap hB)).trans hB
  have c0 : W.cell? ⟨B, 0, none⟩ = some (.slice ho hd.length hc) := (Lib.cell_of_heap hBW 0).trans rfl
  have HBW := Lib.hid hBW
  have H0 := Lib.hid h0
  have HPH := Lib.hid (pre_head hd rs)
  have HPR := Lib.hid (pre_row hd rs)
  have HRE := Lib.hid (row_end hd rs)
  clear hJ hRm hY hJx hW hB hH hR hn3 h0 hBW h0w
  refine callsIn_of_wp Tryz.func145 rfl trivial ?_ rfl
  simp only [Tryz.ntmps145, List.size_toArray, List.length_cons, List.length_nil, Nat.reduceAdd, Nat.reduceSub, Array.replicate_succ, Array.replicate_zero, List.push_toArray, List.append_toArray, List.nil_append, List.cons_append]
  gi_wp2_with fail
  gi_loopw [12] (fun i wr => ∃ k : Nat, k ≤ hd.length ∧ i = .int .i64 k ∧ Hid (J (hd.take k) wr) ∧ Hid (∀ k, k < w0.heap.size → wr.heap[k]? = w0.heap[k]?) ∧ Hid (wr.heap[B]? = some (TabO ho hd.length hc ro rs.length rc))) (fun i _ => hd.length - (intOf i).toNat)
  case atStart => exact ⟨0, Nat.zero_le _, rfl, H0, HS0, HBW⟩
  case round =>
    obtain ⟨k, hk, rfl, HJ, HS, HB⟩ := hrel
    clear c0
    by_cases hlt : k < hd.length
    · obtain ⟨x, hx⟩ : ∃ x, hd[k]? = some x := ⟨_, List.getElem?_eq_getElem hlt⟩
      have HP := Lib.hid (HPH.out k x hx)
      obtain ⟨fn, tmps, assign, body, hy, hR⟩ := HY.out _ x wr HJ.out HP.out.2
      have HC := Lib.hid hR
      rcases HH.out with h0 | ⟨A, rfl, hA, hcell⟩
      · rw [h0] at hlt; simp at hlt
      have hcx := (cell_same (W := w0) (W' := wr) (A.add k) (by rw [add_block]; exact HS.out _ hA)).trans (hcell k x hx)
      clear hcell hx hR
      gi_wp2_with fail
      refine ⟨(fun h => by cases h), HC.out.mono ?_⟩
      rintro e W3 (⟨rfl, hJ3, hk3⟩ | ⟨rfl, hJx3⟩)
      · have HJ3 : Hid (J (hd.take (k + 1)) W3) := Lib.hid (by rw [HP.out.1]; exact hJ3)
        have HS3 : Hid (∀ k, k < w0.heap.size → W3.heap[k]? = w0.heap[k]?) := Lib.hid (fun j hj => (hk3 j (.inl hj)).trans (HS.out j hj))
        have HB3 := Lib.hid ((hk3 B (.inr rfl)).trans HB.out)
        clear hJ3 hk3
        gi_wp2_with fail
        go_roundw
        case rel => exact ⟨k + 1, by omega, by go_num, HJ3, HS3, HB3⟩
        case measure => simp [intOf]; omega
      · have HX := Lib.hid hJx3
        clear hJx3
        gi_wp2_with fail
        refine bodyPost_ret (results_none rfl _ _ _) rfl ?_
        exact ⟨⟨_, rfl⟩, .inr ⟨_, HP.out.2, HX.out⟩⟩
    · obtain rfl : k = hd.length := by omega
      have c1 : wr.cell? ⟨B, 1, none⟩ = some (.slice ro rs.length rc) := (Lib.cell_of_heap HB.out 1).trans rfl
      gi_wp2_with fail
      clear c1
      obtain ⟨wo, rfl⟩ : ∃ wo : World, wo = wr := ⟨_, rfl⟩
      gi_loopw [24] (fun i wr => ∃ k : Nat, k ≤ rs.length ∧ i = .int .i64 k ∧ Hid (J (hd ++ (rs.take k).flatten) wr) ∧ Hid (∀ k, k < w0.heap.size → wr.heap[k]? = w0.heap[k]?) ∧ Hid (wr.heap[B]? = some (TabO ho hd.length hc ro rs.length rc))) (fun i _ => rs.length - (intOf i).toNat)
      case atStart => exact ⟨0, Nat.zero_le _, rfl, Lib.hid (by have := HJ.out; rw [List.take_length] at this; simpa using this), HS, HB⟩
      case round =>
        obtain ⟨k, hk, rfl, HJ, HS, HB⟩ := hrel
        by_cases hlt : k < rs.length
        · obtain ⟨r, hr⟩ : ∃ r, rs[k]? = some r := ⟨_, List.getElem?_eq_getElem hlt⟩
          have HRk := Lib.hid hr
          have hrl := HN3.out r (List.mem_of_getElem? hr)
          rcases HR.out with h0 | ⟨A, rfl, hA, hcell⟩
          · rw [h0] at hlt; simp at hlt
          obtain ⟨ro1, rc1, hc1, hs1⟩ := hcell k r hr
          have hcx := (cell_same (W := w0) (W' := wr) (A.add k) (by rw [add_block]; exact HS.out _ hA)).trans hc1
          have HS1 := Lib.hid hs1
          clear hcell hr hc1 hs1
          gi_wp2_with fail
          clear hcx
          obtain ⟨wo2, rfl⟩ : ∃ wo2 : World, wo2 = wr := ⟨_, rfl⟩
          gi_loopw [30] (fun i wr => ∃ j : Nat, j ≤ r.length ∧ i = .int .i64 j ∧ Hid (J (hd ++ (rs.take k).flatten ++ r.take j) wr) ∧ Hid (∀ k, k < w0.heap.size → wr.heap[k]? = w0.heap[k]?) ∧ Hid (wr.heap[B]? = some (TabO ho hd.length hc (some A) rs.length rc))) (fun i _ => r.length - (intOf i).toNat)
          case atStart => exact ⟨0, Nat.zero_le _, rfl, Lib.hid (by simpa using HJ.out), HS, HB⟩
          case round =>
            obtain ⟨j, hj, rfl, HJ, HS, HB⟩ := hrel
            by_cases hjl : j < r.length
            · obtain ⟨x, hx⟩ : ∃ x, r[j]? = some x := ⟨_, List.getElem?_eq_getElem hjl⟩
              have HP := Lib.hid (HPR.out k j r x HRk.out hx)
              obtain ⟨fn, tmps, assign, body, hy, hR⟩ := HY.out _ x wr HJ.out HP.out.2
              have HC := Lib.hid hR
              rcases HS1.out with h0 | ⟨A1, rfl, hA1, hcell⟩
              · rw [h0] at hjl; simp at hjl
              have hcx := (cell_same (W := w0) (W' := wr) (A1.add j) (by rw [add_block]; exact HS.out _ hA1)).trans (hcell j x hx)
              clear hcell hx hR
              gi_wp2_with fail
              refine ⟨(fun h => by cases h), HC.out.mono ?_⟩
              rintro e W3 (⟨rfl, hJ3, hk3⟩ | ⟨rfl, hJx3⟩)
              · have HJ3 : Hid (J (hd ++ (rs.take k).flatten ++ r.take (j + 1)) W3) := Lib.hid (by rw [HP.out.1]; exact hJ3)
                have HS3 : Hid (∀ k, k < w0.heap.size → W3.heap[k]? = w0.heap[k]?) := Lib.hid (fun j hj => (hk3 j (.inl hj)).trans (HS.out j hj))
                have HB3 := Lib.hid ((hk3 B (.inr rfl)).trans HB.out)
                clear hJ3 hk3
                gi_wp2_with fail
                go_roundw
                case rel => exact ⟨j + 1, by omega, by go_num, HJ3, HS3, HB3⟩
                case measure => simp [intOf]; omega
              · have HX := Lib.hid hJx3
                clear hJx3
                gi_wp2_with fail
                refine bodyPost_ret (results_none rfl _ _ _) rfl ?_
                exact ⟨⟨_, rfl⟩, .inr ⟨_, HP.out.2, HX.out⟩⟩
            · obtain rfl : j = r.length := by omega
              have HJ3 : Hid (J (hd ++ (rs.take (k + 1)).flatten) wr) := Lib.hid (by rw [← HRE.out k r HRk.out]; exact HJ.out)
              gi_wp2_with fail
              go_roundw
              case rel => exact ⟨k + 1, by omega, by go_num, HJ3, HS, HB⟩
              case measure => simp [intOf]; omega
        · obtain rfl : k = rs.length := by omega
          have HE : Hid (J (allT hd rs) wr) := Lib.hid (by have := HJ.out; rw [List.take_length] at this; exact this)
          gi_wp2_with fail
          go_end0
          exact ⟨⟨_, rfl⟩, .inl ⟨_, rfl, HE.out⟩⟩
end Go.Proofs.YtigijgcldgbokaaGreat
namespace Go.Proofs.YtigijgcldgbokaaGreat
open Go.RowKit Go.Shelf
attribute [local go_sem] Oper.semAt_some

theorem heap_put {A : World} {l : Nat} {o o' : Obj} (hl : A.heap[l]? = some o) (ho : o.isCells = false) {b : Nat} {cs : Array Value} {t : TypeId} {fr : Nat × Nat} (h : A.heap[b]? = some (.cells cs t fr)) : (A.putObj l o').heap[b]? = some (.cells cs t fr) := by
  have hne : b ≠ l := by
    rintro rfl
    rw [h] at hl; cases hl; cases ho
  rw [World.putObj_heap_other hne]; exact h
theorem below_put {n : Nat} {w A : World} {l : Nat} (o' : Obj) (h : Below n w A) (hl : n ≤ l) : Below n w (A.putObj l o') :=
  ⟨h.os, h.tape, h.output, by simpa using h.size, fun k hk => (World.putObj_heap_other (by omega)).trans (h.block k hk)⟩
theorem keepsT_trans {n0 B : Nat} {X Y Z : World} (h : KeepsT n0 B X Y) (k : KeepsT n0 B Y Z) : KeepsT n0 B X Z := fun i hi => (k i hi).trans (h i hi)
theorem keepsT_put {n0 B m : Nat} (h0 : n0 ≤ m) (hB : B < m) (W : World) (l : Nat) (o' : Obj) (hl : m ≤ l) : KeepsT n0 B W (W.putObj l o') := fun i hi => World.putObj_heap_other (by omega)
theorem keepsT_below {n0 B m : Nat} (h0 : n0 ≤ m) (hB : B < m) {X Y : World} (hm : m ≤ X.heap.size) (h : Below X.heap.size X Y) : KeepsT n0 B X Y := fun i hi => h.block i (by omega)
theorem keepsT_set {n0 B : Nat} {W : World} {b j : Nat} {u : Value} (h0 : n0 ≤ b) (hB : B ≠ b) : KeepsT n0 B W (W.setCell ⟨b, j, none⟩ u) := fun i hi => heap_setCell_other W ⟨b, j, none⟩ i u (fun e => by simp at e; omega)
/-- a box beside what was there -/
def Boxd (w : World) (b : Nat) (T : TypeId) (v : Value) (W : World) : Prop := W.heap[b]? = some (.cells #[v] T (0, 0)) ∧ Below w.heap.size w W
theorem boxd_stays {w A B : World} {b : Nat} {T : TypeId} {v : Value} (h : Boxd w b T v A) (k : Below A.heap.size A B) : Boxd w b T v B := ⟨(k.block b (lt_of_heap h.1)).trans h.1, below_up h.2 k⟩
theorem boxd_apart {w A : World} {b l m : Nat} {T : TypeId} {v : Value} {o : Obj} (o' : Obj) (h : Boxd w b T v A) (hl : m ≤ l) (hm : w.heap.size ≤ m) (ho : A.heap[l]? = some o) (hc : o.isCells = false) : Boxd w b T v (A.putObj l o') := ⟨heap_put ho hc h.1, below_put o' h.2 (by omega)⟩
theorem boxd_set {w A : World} {b : Nat} {T : TypeId} {v : Value} (u : Value) (h : Boxd w b T v A) (hb : w.heap.size ≤ b) : Boxd w b T u (A.setCell ⟨b, 0, none⟩ u) :=
  ⟨by simpa using heap_setCell_same A b 0 _ T u h.1, h.2.setCell (p := ⟨b, 0, none⟩) hb u⟩
def sumT (l : List ByteArray) : Nat := (l.map ByteArray.size).sum
theorem sumT_next (l : List ByteArray) (x : ByteArray) : sumT (l ++ [x]) = sumT l + x.size := by simp [sumT]
theorem sumT_pre {a b : List ByteArray} (h : a <+: b) : sumT a ≤ sumT b := by
  obtain ⟨c, rfl⟩ := h; simp [sumT]
def longT (l : List ByteArray) : Bool := l.any fun c => decide (1000 < c.size)
theorem longT_no {l : List ByteArray} (h : ∀ c ∈ l, c.size ≤ 1000) : longT l = false := by
  unfold longT; rw [List.any_eq_false]; intro c hc; have := h c hc; simp; omega
theorem longT_yes {l pre : List ByteArray} (h : pre <+: l) (hx : ∃ c ∈ pre, 1000 < c.size) : longT l = true := by
  obtain ⟨c, hc, hs⟩ := hx
  unfold longT; rw [List.any_eq_true]; exact ⟨c, h.subset hc, by simpa using hs⟩

theorem texts_in (n : Nat) (ho : Option Addr) (m hc : Nat) (ro : Option Addr) (k rc : Nat) (w : World) :
    CallsIn Fence.wide n Tryz.prog 131 #[.agg #[.slice ho m hc, .slice ro k rc]] w fun e w' => e = .returned (.func (.func 145) #[] #[.pointer (some ⟨w.heap.size, 0, none⟩)]) ∧ w' = w.alloc (TabO ho m hc ro k rc) := by
  refine callsIn_of_wp Tryz.func131 rfl trivial ?_ rfl
  simp only [Tryz.ntmps131, List.size_toArray, List.length_cons, List.length_nil, Nat.reduceAdd, Nat.reduceSub, Array.replicate_succ, Array.replicate_zero, List.push_toArray, List.append_toArray, List.nil_append, List.cons_append]
  gi_wp2
  go_ret
  exact ⟨rfl, rfl⟩

section
variable (ho : Option Addr) (hc : Nat) (hd : List ByteArray) (ro : Option Addr) (rc : Nat) (rs : List (List ByteArray)) (w : World)
  (hn : hd.length ≤ 1099511627776) (hn2 : rs.length ≤ 1099511627776) (hn3 : ∀ r ∈ rs, r.length ≤ 1099511627776) (hH : StrRow w ho hd) (hR : RowsAt w ro rs)
include hn hn2 hn3 hH hR

set_option maxRecDepth 100000 in
set_option maxHeartbeats 4000000 in
theorem total_any (hsum : sumT (allT hd rs) ≤ 1152921504606846976) :
    Calls Tryz.prog 102 #[.agg #[.slice ho hd.length hc, .slice ro rs.length rc]] w fun e w' => e = .returned (.int .i64 (sumT (allT hd rs) : Int)) ∧ Below w.heap.size w w' := by
  refine (callsIn_wide (n := 4)).1 ?_
  obtain ⟨U, HU⟩ : ∃ U, Hid (U = (((w.alloc (TabO ho hd.length hc ro rs.length rc)).alloc (.cells #[.int .i64 0] 3)).alloc (TabO ho hd.length hc ro rs.length rc))) := ⟨_, Lib.hid rfl⟩
  have b1 : Below w.heap.size w ((w.alloc (TabO ho hd.length hc ro rs.length rc)).alloc (.cells #[.int .i64 0] 3)) := two_below _ _ _
  have hbU : Below w.heap.size w U := by rw [HU.out]; exact b1.alloc b1.size _
  have hB1 : U.heap[w.heap.size + 1]? = some (.cells #[.int .i64 0] 3 (0, 0)) := by rw [HU.out, Below.heap_alloc _ _ _ (by simp)]; exact (two_new w _ _).2.2
  have hB2 : U.heap[w.heap.size + 1 + 1]? = some (TabO ho hd.length hc ro rs.length rc) := by
    rw [HU.out]
    have := World.alloc_heap_new ((w.alloc (TabO ho hd.length hc ro rs.length rc)).alloc (.cells #[.int .i64 0] 3)) (TabO ho hd.length hc ro rs.length rc)
    simpa using this
  have hsU : w.heap.size + 3 = U.heap.size := by rw [HU.out]; simp
  have TL := Lib.hid (texts1_tells 3 ho hc hd ro rc rs (w.heap.size + 1 + 1) w U hbU hn hn2 hn3 hH hR hB2)
  have H0 : Hid (Boxd w (w.heap.size + 1) 3 (.int .i64 (sumT [] : Int)) U) := Lib.hid ⟨hB1, hbU⟩
  have HSU := Lib.hid hsU
  have HSUM := Lib.hid hsum
  clear hbU hB1 hB2 hsU b1 hsum hH hR hn3
  refine callsIn_of_wp_marks Tryz.func102 rfl trivial ?_ rfl
  simp only [Tryz.ntmps102, List.size_toArray, List.length_cons, List.length_nil, Nat.reduceAdd, Nat.reduceSub, Array.replicate_succ, Array.replicate_zero, List.push_toArray, List.append_toArray, List.nil_append, List.cons_append]
  gi_wp2_with fail
  refine ⟨trivial, (texts_in _ _ _ _ _ _ _ _).mono ?_⟩; rintro e w1 ⟨rfl, rfl⟩
  gi_wp2_with fail
  rw [← HU.out]
  refine wpIn_range_tells rfl (by decide) (gf := 145) (lb := #[.pointer (some ⟨w.heap.size + 1 + 1, 0, none⟩)]) rfl trivial (enters_of Tryz.func145 (by kernel_rfl) rfl)
    TL.out (Below.refl _ _) (fun _ => rfl) keepsT_trans (fun A l o o' hl _ _ => keepsT_put (m := U.heap.size) (by rw [← HSU.out]; omega) (by rw [← HSU.out]; omega) A l o' hl)
    (fun {A B} hA hAB => keepsT_below (m := U.heap.size) (by rw [← HSU.out]; omega) (by rw [← HSU.out]; omega) hA hAB)
    (fun pre W => Boxd w (w.heap.size + 1) 3 (.int .i64 (sumT pre : Int)) W) (fun _ _ => False) (fun pre A B h k => boxd_stays h k) (fun pre A B h k => h)
    (fun pre A l o o' h hl ho hc => boxd_apart o' h hl (by rw [← HSU.out]; omega) ho hc) (fun pre A l o o' h hl ho hc => h) (fun _ _ _ => trivial)
    (fun pre x A B h k => h) (fun pre x A l o o' h hl ho hc => h) H0.out
    (fun x a' A => a' = { tmps := #[.agg #[.slice ho hd.length hc, .slice ro rs.length rc], .pointer (some ⟨w.heap.size, 0, none⟩), .int .i64 0, .pointer (some ⟨w.heap.size + 1, 0, none⟩), .string x, .agg #[.slice ho hd.length hc, .slice ro rs.length rc], .func (.func 145) #[] #[.pointer (some ⟨w.heap.size + 1 + 1, 0, none⟩)], .string x, undef, undef, undef, undef, undef], defers := [] })
    (fun x a' A l o o' h hl ho hc => h) ?assign ?body ?done ?stop
  case assign =>
    intro l x A K hA hK
    gi_wp2_with fail
    exact hK _ _ (Below.refl _ A) rfl
  case body =>
    rintro l pre x a' A hA hI hok rfl
    have hle : sumT pre + x.size ≤ 1152921504606846976 := by have := sumT_pre hok; rw [sumT_next] at this; have := HSUM.out; omega
    have c0 := (cell_of_box_l hI.1).1
    have f0 := (cell_of_box_l hI.1).2
    have HI := Lib.hid hI
    clear hI hok
    gi_wp2_with fail
    refine ⟨KeepsOthers.setCell _ _ _, keepsT_set (by omega) (by omega), ?_⟩
    have := boxd_set (.int .i64 ((sumT pre : Int) + x.size)) HI.out (by omega)
    show Boxd w (w.heap.size + 1) 3 (.int .i64 (sumT (pre ++ [x]) : Int)) _
    rw [sumT_next, Int.natCast_add]; exact this
  case done =>
    rintro D ys A hD rfl hI hK
    have c0 := (cell_of_box_l hI.1).1
    have HI := Lib.hid hI
    clear hI
    gi_wp2_with fail
    refine ⟨by simp, .inl ⟨_, _, rfl, run_takeDeferred hK, ?_⟩⟩
    exact ⟨_, results_tmp rfl _ _ _, rfl, below_put _ HI.out.2 (by rw [← HSU.out] at hD; omega)⟩
  case stop =>
    rintro D pre W _ _ h _
    exact h.elim

set_option maxRecDepth 100000 in
set_option maxHeartbeats 4000000 in
theorem largeText_any (hs : ∀ c ∈ allT hd rs, c.size ≤ 1152921504606846976) :
    Calls Tryz.prog 101 #[.agg #[.slice ho hd.length hc, .slice ro rs.length rc]] w fun e w' => e = .returned (.bool (longT (allT hd rs))) ∧ Below w.heap.size w w' := by
  refine (callsIn_wide (n := 4)).1 ?_
  obtain ⟨U, HU⟩ : ∃ U, Hid (U = (((w.alloc (TabO ho hd.length hc ro rs.length rc)).alloc (.cells #[.bool false] 4)).alloc (TabO ho hd.length hc ro rs.length rc))) := ⟨_, Lib.hid rfl⟩
  have b1 : Below w.heap.size w ((w.alloc (TabO ho hd.length hc ro rs.length rc)).alloc (.cells #[.bool false] 4)) := two_below _ _ _
  have hbU : Below w.heap.size w U := by rw [HU.out]; exact b1.alloc b1.size _
  have hB1 : U.heap[w.heap.size + 1]? = some (.cells #[.bool false] 4 (0, 0)) := by rw [HU.out, Below.heap_alloc _ _ _ (by simp)]; exact (two_new w _ _).2.2
  have hB2 : U.heap[w.heap.size + 1 + 1]? = some (TabO ho hd.length hc ro rs.length rc) := by
    rw [HU.out]
    have := World.alloc_heap_new ((w.alloc (TabO ho hd.length hc ro rs.length rc)).alloc (.cells #[.bool false] 4)) (TabO ho hd.length hc ro rs.length rc)
    simpa using this
  have hsU : w.heap.size + 3 = U.heap.size := by rw [HU.out]; simp
  have TL := Lib.hid (texts1_tells 3 ho hc hd ro rc rs (w.heap.size + 1 + 1) w U hbU hn hn2 hn3 hH hR hB2)
  have H0 : Hid ((∀ c ∈ ([] : List ByteArray), c.size ≤ 1000) ∧ Boxd w (w.heap.size + 1) 4 (.bool false) U) := Lib.hid ⟨by simp, hB1, hbU⟩
  have HSU := Lib.hid hsU
  have HSUM := Lib.hid hs
  clear hbU hB1 hB2 hsU b1 hs hH hR hn3
  refine callsIn_of_wp_marks Tryz.func101 rfl trivial ?_ rfl
  simp only [Tryz.ntmps101, List.size_toArray, List.length_cons, List.length_nil, Nat.reduceAdd, Nat.reduceSub, Array.replicate_succ, Array.replicate_zero, List.push_toArray, List.append_toArray, List.nil_append, List.cons_append]
  gi_wp2_with fail
  refine ⟨trivial, (texts_in _ _ _ _ _ _ _ _).mono ?_⟩; rintro e w1 ⟨rfl, rfl⟩
  gi_wp2_with fail
  rw [← HU.out]
  refine wpIn_range_tells rfl (by decide) (gf := 145) (lb := #[.pointer (some ⟨w.heap.size + 1 + 1, 0, none⟩)]) rfl trivial (enters_of Tryz.func145 (by kernel_rfl) rfl)
    TL.out (Below.refl _ _) (fun _ => rfl) keepsT_trans (fun A l o o' hl _ _ => keepsT_put (m := U.heap.size) (by rw [← HSU.out]; omega) (by rw [← HSU.out]; omega) A l o' hl)
    (fun {A B} hA hAB => keepsT_below (m := U.heap.size) (by rw [← HSU.out]; omega) (by rw [← HSU.out]; omega) hA hAB)
    (fun pre W => (∀ c ∈ pre, c.size ≤ 1000) ∧ Boxd w (w.heap.size + 1) 4 (.bool false) W) (fun pre W => (∃ c ∈ pre, 1000 < c.size) ∧ Boxd w (w.heap.size + 1) 4 (.bool true) W) (fun pre A B h k => ⟨h.1, boxd_stays h.2 k⟩) (fun pre A B h k => ⟨h.1, boxd_stays h.2 k⟩)
    (fun pre A l o o' h hl ho hc => ⟨h.1, boxd_apart o' h.2 hl (by rw [← HSU.out]; omega) ho hc⟩) (fun pre A l o o' h hl ho hc => ⟨h.1, boxd_apart o' h.2 hl (by rw [← HSU.out]; omega) ho hc⟩) (fun _ _ _ => trivial)
    (fun pre x A B h k => h) (fun pre x A l o o' h hl ho hc => h) H0.out
    (fun x a' A => a' = { tmps := #[.agg #[.slice ho hd.length hc, .slice ro rs.length rc], .pointer (some ⟨w.heap.size, 0, none⟩), .pointer (some ⟨w.heap.size + 1, 0, none⟩), .string x, .agg #[.slice ho hd.length hc, .slice ro rs.length rc], .func (.func 145) #[] #[.pointer (some ⟨w.heap.size + 1 + 1, 0, none⟩)], .string x, undef, undef, undef], defers := [] })
    (fun x a' A l o o' h hl ho hc => h) ?assign ?body ?done ?stop
  case assign =>
    intro l x A K hA hK
    gi_wp2_with fail
    exact hK _ _ (Below.refl _ A) rfl
  case body =>
    rintro l pre x a' A hA ⟨hp, hI⟩ hok rfl
    have hxs := HSUM.out x (hok.subset (by simp))
    have HI := Lib.hid hI
    have HP := Lib.hid hp
    have c0 := (cell_of_box_l hI.1).1
    have f0 := (cell_of_box_l hI.1).2
    clear hI hok hp
    by_cases hx : x.size ≤ 1000
    · gi_wp2_with fail
      refine ⟨KeepsOthers.refl _, fun _ _ => rfl, fun c hc => ?_, HI.out⟩
      rcases List.mem_append.1 hc with h | h
      · exact HP.out c h
      · simp at h; subst h; exact hx
    · gi_wp2_with fail
      exact ⟨KeepsOthers.setCell _ _ _, ⟨x, by simp, by omega⟩, boxd_set (.bool true) HI.out (by omega)⟩
  case done =>
    rintro D ys A hD rfl ⟨hp, hI⟩ hK
    have c0 := (cell_of_box_l hI.1).1
    have f0 := (cell_of_box_l hI.1).2
    have E := Lib.hid (longT_no hp)
    have HI := Lib.hid (boxd_set (.bool false) hI (by omega))
    have HK2 := Lib.hid (show (A.setCell ⟨w.heap.size + 1, 0, none⟩ (.bool false)).heap[D]? = some (.deferred (some [])) from by
      rw [heap_setCell_other A ⟨w.heap.size + 1, 0, none⟩ D _ (fun e => by simp at e; rw [e, hI.1] at hK; cases hK)]; exact hK)
    clear hI hp
    gi_wp2_with fail
    refine ⟨by simp, .inl ⟨_, _, rfl, run_takeDeferred HK2.out, ?_⟩⟩
    have q := boxd_apart (.deferred none) HI.out hD (by rw [← HSU.out]; omega) HK2.out rfl
    have k := (cell_of_box_l q.1).1
    exact ⟨.bool false, by simp [results, Tryz.results101, go_sem, k], by rw [E.out], q.2⟩
  case stop =>
    rintro D pre A hD hS ⟨hp, hI⟩ hK
    have E := Lib.hid (longT_yes hS hp)
    have HI := Lib.hid hI
    clear hI hp
    gi_wp2_with fail
    refine ⟨by simp, .inl ⟨_, _, rfl, run_takeDeferred hK, ?_⟩⟩
    have q := boxd_apart (.deferred none) HI.out hD (by rw [← HSU.out]; omega) hK rfl
    have k := (cell_of_box_l q.1).1
    exact ⟨.bool true, by simp [results, Tryz.results101, go_sem, k], by rw [E.out], q.2⟩
end
end Go.Proofs.YtigijgcldgbokaaGreat
namespace Go.Proofs.YtigijgcldgbokaaGreat
open Go.RowKit Go.Shelf

def sameRow (xs ys : List ByteArray) : Bool := decide (bytesOf xs = bytesOf ys)
def sameRecs (a b : List (List ByteArray)) : Bool := decide (recsOf a = recsOf b)
theorem map_all {α β : Type} (f : α → β) (xs ys : List α) (h : xs.length = ys.length) (hall : ∀ (j : Nat) x y, xs[j]? = some x → ys[j]? = some y → f x = f y) : xs.map f = ys.map f := by
  refine List.ext_getElem? fun i => ?_
  rw [List.getElem?_map, List.getElem?_map]
  by_cases hi : i < xs.length
  · rw [List.getElem?_eq_getElem hi, List.getElem?_eq_getElem (show i < ys.length by omega)]
    exact congrArg some (hall i _ _ (List.getElem?_eq_getElem hi) (List.getElem?_eq_getElem (by omega)))
  · rw [List.getElem?_eq_none (by omega), List.getElem?_eq_none (by omega)]
theorem map_no {α β : Type} (f : α → β) (xs ys : List α) (k : Nat) (x y : α) (hx : xs[k]? = some x) (hy : ys[k]? = some y) (hne : f x ≠ f y) : xs.map f ≠ ys.map f := by
  intro e
  have := congrArg (fun l => l[k]?) e
  simp only [List.getElem?_map, hx, hy, Option.map_some, Option.some.injEq] at this
  exact hne this
theorem row_len (xs ys : List ByteArray) (h : xs.length ≠ ys.length) : sameRow xs ys = false := by
  unfold sameRow bytesOf; exact decide_eq_false (fun e => h (by simpa using congrArg List.length e))
theorem row_all (xs ys : List ByteArray) (h : xs.length = ys.length) (hall : ∀ (j : Nat) x y, j < xs.length → xs[j]? = some x → ys[j]? = some y → x.data.toList = y.data.toList) : sameRow xs ys = true :=
  decide_eq_true (map_all _ xs ys h (fun j x y hx hy => hall j x y (List.getElem?_eq_some_iff.1 hx).1 hx hy))
theorem row_no (xs ys : List ByteArray) (k : Nat) (x y : ByteArray) (hx : xs[k]? = some x) (hy : ys[k]? = some y) (hne : x.data.toList ≠ y.data.toList) : sameRow xs ys = false :=
  decide_eq_false (map_no _ xs ys k x y hx hy hne)
theorem recs_len (xs ys : List (List ByteArray)) (h : xs.length ≠ ys.length) : sameRecs xs ys = false := by
  unfold sameRecs recsOf; exact decide_eq_false (fun e => h (by simpa using congrArg List.length e))
theorem recs_all (xs ys : List (List ByteArray)) (h : xs.length = ys.length) (hall : ∀ (j : Nat) x y, j < xs.length → xs[j]? = some x → ys[j]? = some y → bytesOf x = bytesOf y) : sameRecs xs ys = true :=
  decide_eq_true (map_all _ xs ys h (fun j x y hx hy => hall j x y (List.getElem?_eq_some_iff.1 hx).1 hx hy))
theorem recs_no (xs ys : List (List ByteArray)) (k : Nat) (x y : List ByteArray) (hx : xs[k]? = some x) (hy : ys[k]? = some y) (hne : bytesOf x ≠ bytesOf y) : sameRecs xs ys = false :=
  decide_eq_false (map_no _ xs ys k x y hx hy hne)
theorem int_bne (n m : Nat) : ((n : Int) != (m : Int)) = decide (n ≠ m) := by
  by_cases h : n = m
  · subst h; simp
  · rw [decide_eq_true h, bne_iff_ne]; omega
theorem str_beq (x y : ByteArray) : (x.toList == y.toList) = decide (x.data.toList = y.data.toList) := by
  rw [ba_toList, ba_toList]
  by_cases h : x.data.toList = y.data.toList
  · rw [h]; simp
  · rw [decide_eq_false h, beq_eq_false_iff_ne]; exact h

theorem sameRow_iff (x y : List ByteArray) : (sameRow x y = true ↔ bytesOf x = bytesOf y) := by unfold sameRow; simp

end Go.Proofs.YtigijgcldgbokaaGreat
namespace Go.Proofs.YtigijgcldgbokaaGreat
open Go.RowKit Go.Shelf

def lays316_ren : Go.Shelf.Ren := ⟨fun | 316 => 165 | n => n, fun | 0 => 0 | 3 => 3 | 4 => 4 | 5 => 5 | 9 => 9 | 37 => 188 | 127 => 189 | n => n, fun | n => n⟩
set_option maxRecDepth 100000 in
theorem lays316 : Go.Proofs.LaysM.n316 Tryz.prog lays316_ren := {
  mixed := by kernel_rfl
  f316 := Tryz.func165.trans (congrArg some (by kernel_rfl))
  t0 := Tryz.underlying0
  a0 := Tryz.isAgg0
  z0 := Tryz.sizeOf0
  v0 := Tryz.zeroValue0
  t3 := Tryz.underlying3
  a3 := Tryz.isAgg3
  z3 := Tryz.sizeOf3
  v3 := Tryz.zeroValue3
  t4 := Tryz.underlying4
  a4 := Tryz.isAgg4
  z4 := Tryz.sizeOf4
  v4 := Tryz.zeroValue4
  t9 := Tryz.underlying9
  a9 := Tryz.isAgg9
  z9 := Tryz.sizeOf9
  v9 := Tryz.zeroValue9
  t37 := Tryz.underlying188
  a37 := Tryz.isAgg188
  z37 := Tryz.sizeOf188
  v37 := Tryz.zeroValue188
  t127 := Tryz.underlying189
  a127 := Tryz.isAgg189
  z127 := Tryz.sizeOf189
  v127 := Tryz.zeroValue189
  t5 := Tryz.underlying5
  a5 := Tryz.isAgg5
  z5 := Tryz.sizeOf5
  v5 := Tryz.zeroValue5
  i0 := by kernel_rfl
  i3 := by kernel_rfl
  i4 := by kernel_rfl
  i5 := by kernel_rfl
  i9 := by kernel_rfl
  i37 := by kernel_rfl
  i127 := by kernel_rfl }
theorem liteClone (s : ByteArray) (w : World) (hlim : s.size ≤ 281474976710656) :
    Calls Tryz.prog 165 #[.string s] w fun e w' => e = .returned (.string s) ∧ Below w.heap.size w w' :=
  Any.stringslite_Clone lays316 s w hlim
theorem clone_any (s : ByteArray) (w : World) (hs : s.size ≤ 281474976710656) :
    Calls Tryz.prog 146 #[.string s] w fun e w' => e = .returned (.string s) ∧ Below w.heap.size w w' := by
  go_enter Tryz.func146, Tryz.ntmps146
  go_wp2_with fail
  refine (liteClone _ _ hs).mono ?_
  rintro e w' ⟨rfl, b⟩
  go_wp2_with fail
  go_ret
  exact ⟨rfl, b⟩

theorem within_any (a n : Int) (w : World) :
    Calls Tryz.prog 139 #[.int .i64 a, .int .i64 n] w fun e w' => e = .returned (.bool (decide (0 ≤ a) && decide (a < n))) ∧ w = w' := by
  by_cases h : 0 ≤ a
  · have h' : decide (0 ≤ a) = true := decide_eq_true h
    go_enter Tryz.func139, Tryz.ntmps139
    go_wp2_with fail
    go_ret
    exact ⟨by simp [h], rfl⟩
  · have h' : decide (0 ≤ a) = false := decide_eq_false h
    go_enter Tryz.func139, Tryz.ntmps139
    go_wp2_with fail
    go_ret
    exact ⟨by simp, rfl⟩

/-- the place of a text in a row of texts -/
def findL (xs : List ByteArray) (s : ByteArray) : Int := firstAt (fun c => decide (c.data.toList = s.data.toList)) xs

set_option maxRecDepth 100000 in
set_option maxHeartbeats 2000000 in
theorem index_any (ao : Option Addr) (cap : Nat) (xs : List ByteArray) (s : ByteArray) (w : World) (hn : xs.length ≤ 1099511627776) (hR : StrRow w ao xs) :
    Calls Tryz.prog 31 #[.slice ao xs.length cap, .string s] w fun e w' => e = .returned (.int .i64 (findL xs s)) ∧ w = w' := by
  have HRo := Lib.hid hR
  have HF := Lib.hid (firstAt_none (fun c => decide (c.data.toList = s.data.toList)) xs)
  have HS := Lib.hid (firstAt_some (fun c => decide (c.data.toList = s.data.toList)) xs)
  unfold findL
  clear hR
  generalize firstAt (fun c => decide (c.data.toList = s.data.toList)) xs = F at HF HS ⊢
  go_enter Tryz.func31, Tryz.ntmps31
  go_wp2_with fail
  go_loopw [8] (fun i wr => ∃ k : Nat, k ≤ xs.length ∧ i = .int .i64 k ∧ wr = w ∧ Hid (∀ j c, j < k → xs[j]? = some c → decide (c.data.toList = s.data.toList) = false)) (fun i _ => xs.length - (intOf i).toNat)
  case atStart => exact ⟨0, Nat.zero_le _, rfl, rfl, Lib.hid (fun j c h _ => by omega)⟩
  case round =>
    obtain ⟨k, hk, rfl, rfl, HN⟩ := hrel
    by_cases hlt : k < xs.length
    · obtain ⟨x, hx⟩ : ∃ x, xs[k]? = some x := ⟨_, List.getElem?_eq_getElem hlt⟩
      have HX := Lib.hid hx
      have hbe := str_beq s x
      rcases HRo.out with h0 | ⟨A, rfl, hA, hcell⟩
      · rw [h0] at hlt; simp at hlt
      have hc := hcell k x hx
      clear hcell hx
      by_cases hp : x.data.toList = s.data.toList
      · have E := Lib.hid (HS.out k x HX.out (decide_eq_true hp) HN.out)
        rw [decide_eq_true hp.symm] at hbe
        clear hp
        go_wp2_with fail
        go_ret
        exact ⟨by rw [E.out]; rfl, rfl⟩
      · have HN' : Hid (∀ j c, j < k + 1 → xs[j]? = some c → decide (c.data.toList = s.data.toList) = false) := Lib.hid (fun j c hj hc' => by
          by_cases e : j = k
          · subst e; rw [HX.out] at hc'; cases hc'; exact decide_eq_false hp
          · exact HN.out j c (by omega) hc')
        rw [decide_eq_false (fun e => hp e.symm)] at hbe
        clear hp
        go_wp2_with fail
        go_roundw
        case rel => exact ⟨k + 1, by omega, by go_num, by first | rfl | trivial, HN'⟩
        case measure => simp [intOf]; omega
    · obtain rfl : k = xs.length := by omega
      have E := Lib.hid (HF.out (fun j c hc => HN.out j c (by obtain ⟨h, _⟩ := List.getElem?_eq_some_iff.1 hc; exact h) hc))
      go_wp2_with fail
      go_ret
      exact ⟨by rw [E.out]; rfl, rfl⟩

theorem ownsRow_below {w w' : World} {base : Nat} {e : TypeId} {size : Nat} {v : Value} {n : Nat} {xs : List Value} (h : w.ownsRow base e size v n xs) (hB : Below w.heap.size w w') : w'.ownsRow base e size v n xs :=
  h.kept (row := none) ⟨hB.os, hB.tape, hB.output, hB.size, fun i hi _ => hB.block i hi⟩ (by cases h : v.ownBlock <;> simp)
/-- a row that is being filled: the first k of xs, and empty texts -/
def half (xs : List ByteArray) (k : Nat) : List Value := (xs.take k).map Value.string ++ List.replicate (xs.length - k) (.string ⟨#[]⟩)
theorem half_zero (xs : List ByteArray) : half xs 0 = List.replicate xs.length (.string ⟨#[]⟩) := by simp [half]
theorem half_all (xs : List ByteArray) : half xs xs.length = xs.map Value.string := by simp [half]
theorem half_next (xs : List ByteArray) (k : Nat) (x : ByteArray) (hx : xs[k]? = some x) : (half xs k).set k (.string x) = half xs (k + 1) := by
  obtain ⟨hk, e⟩ := List.getElem?_eq_some_iff.1 hx
  have h1 : ((xs.take k).map Value.string).length = k := by simp; omega
  unfold half
  rw [List.set_append_right _ _ (by omega), h1, Nat.sub_self, List.take_succ_eq_append_getElem hk, e, List.map_append, List.append_assoc]
  congr 1
  obtain ⟨m, hm⟩ : ∃ m, xs.length - k = m + 1 := ⟨xs.length - k - 1, by omega⟩
  rw [hm, show xs.length - (k + 1) = m from by omega, List.replicate_succ]; rfl
theorem half_len (xs : List ByteArray) (k : Nat) (hk : k ≤ xs.length) : (half xs k).length = xs.length := by simp [half]; omega

set_option maxRecDepth 100000 in
set_option maxHeartbeats 2000000 in
theorem copied_any (ao : Option Addr) (cap : Nat) (xs : List ByteArray) (w : World) (hn : xs.length ≤ 1099511627776) (hs : ∀ c ∈ xs, c.size ≤ 281474976710656) (hR : StrRow w ao xs) :
    Calls Tryz.prog 132 #[.slice ao xs.length cap] w fun e w' => e = .returned (.slice (some ⟨w.heap.size, 0, none⟩) xs.length xs.length) ∧
      w'.ownsRow w.heap.size 9 1 (.slice (some ⟨w.heap.size, 0, none⟩) xs.length xs.length) xs.length (xs.map Value.string) ∧ Below w.heap.size w w' := by
  have hinfo : (Tryz.prog.info? 9).map (fun i => (i.zero, i.size, i.bytes)) = some (some (.string ⟨#[]⟩), 1, 16) := by kernel_rfl
  obtain ⟨i0, hi, hz0, hz1, hz2⟩ := info_parts hinfo
  have HI := Lib.hid hi
  have HRo := Lib.hid hR
  have HSo := Lib.hid hs
  have hm : xs.length ≤ maxLen := by unfold maxLen; omega
  clear hi hinfo hR hs
  go_enter Tryz.func132, Tryz.ntmps132
  go_wp2_with (at_make; refine wpList_make_full _ rfl _ _ 22 rfl w.heap.size 9 i0 (.string ⟨#[]⟩) 1 Tryz.underlying22 HI.out hz0 hz1 .i64 .i64 (xs.length : Int) (xs.length : Int) xs.length rfl rfl rfl rfl (by rw [hz2]; omega) hm (Nat.le_refl _) ?_; intro w1 ho hg)
  have HB : Hid (Below w.heap.size w w1) := Lib.hid ((Below.refl _ w).grown hg (Nat.le_refl _) (fun k h => by cases h))
  have HO : Hid (w1.ownsRow w.heap.size 9 1 (.slice (some ⟨w.heap.size, 0, none⟩) xs.length xs.length) xs.length (half xs 0)) := Lib.hid (by
    rw [half_zero]; rw [Nat.mul_one] at ho; rw [← toList_madeCells_one]; exact ho)
  clear ho hg
  go_wp2_with fail
  go_loopw [11] (fun i wr => ∃ k : Nat, k ≤ xs.length ∧ i = .int .i64 k ∧ Hid (Below w.heap.size w wr) ∧ Hid (wr.ownsRow w.heap.size 9 1 (.slice (some ⟨w.heap.size, 0, none⟩) xs.length xs.length) xs.length (half xs k))) (fun i _ => xs.length - (intOf i).toNat)
  case atStart => exact ⟨0, Nat.zero_le _, rfl, HB, HO⟩
  case round =>
    obtain ⟨k, hk, rfl, HB, HO⟩ := hrel
    by_cases hlt : k < xs.length
    · obtain ⟨x, hx⟩ : ∃ x, xs[k]? = some x := ⟨_, List.getElem?_eq_getElem hlt⟩
      have HX := Lib.hid hx
      have C := Lib.hid (clone_any x wr (HSo.out x (List.mem_of_getElem? hx)))
      rcases (HRo.out.kept HB.out) with h0 | ⟨A, rfl, hA, hcell⟩
      · rw [h0] at hlt; simp at hlt
      have hc := hcell k x hx
      clear hcell hx
      go_wp2_with fail
      refine C.out.mono ?_; rintro e w2 ⟨rfl, b2⟩
      have HB2 := Lib.hid (below_up HB.out b2)
      have HO2 := Lib.hid (ownsRow_below HO.out b2)
      clear b2 hc
      have hcell : w2.cell? ⟨w.heap.size, k, none⟩ = some ((half xs k)[k]'(by rw [half_len xs k (by omega)]; exact hlt)) := by
        rw [HO2.out.cellAt k (by omega), List.getElem?_eq_getElem]
      have hfr : w2.frozen? ⟨w.heap.size, k, none⟩ = false := HO2.out.frozenAt k
      generalize (half xs k)[k]'(by rw [half_len xs k (by omega)]; exact hlt) = old at hcell
      have HO3 := Lib.hid (HO2.out.stored k (.string x)).1
      rw [half_next xs k x HX.out] at HO3
      have HB3 := Lib.hid (HB2.out.setCell (p := ⟨w.heap.size, k, none⟩) (Nat.le_refl _) (.string x))
      go_wp2_with fail
      go_roundw
      case rel => exact ⟨k + 1, by omega, by go_num, HB3, HO3⟩
      case measure => simp [intOf]; omega
    · obtain rfl : k = xs.length := by omega
      rw [half_all] at HO
      go_wp2_with fail
      go_ret
      exact ⟨rfl, HO.out, HB.out⟩
end Go.Proofs.YtigijgcldgbokaaGreat
namespace Go.Proofs.YtigijgcldgbokaaGreat
open Go.RowKit Go.Shelf Go.Maps

/-- the map of the first k texts -/
def seenK (xs : List ByteArray) : Nat → DataW Unit
  | 0 => .map []
  | k + 1 => match xs[k]? with
    | some c => (seenK xs k).put (.string c.data.toList) (.lit (.bool true))
    | none => seenK xs k
theorem seenK_map (xs : List ByteArray) (k : Nat) : IsMap (seenK xs k) := by
  induction k with
  | zero => exact isMap_empty
  | succ k ih =>
    unfold seenK
    split
    · exact ih.put _ _
    · exact ih
theorem seenK_next (xs : List ByteArray) (k : Nat) (c : ByteArray) (h : xs[k]? = some c) : seenK xs (k + 1) = (seenK xs k).put (.string c.data.toList) (.lit (.bool true)) := by
  rw [seenK, h]
theorem seenK_at (xs : List ByteArray) (k : Nat) (l : List UInt8) : (seenK xs k).atKey (.string l) (.lit (.bool false)) = .lit (.bool (decide (l ∈ bytesOf (xs.take k)))) := by
  induction k with
  | zero => simp [seenK, bytesOf]; rfl
  | succ k ih =>
    cases h : xs[k]? with
    | none =>
      have hk : xs.length ≤ k := List.getElem?_eq_none_iff.1 h
      have e1 : seenK xs (k + 1) = seenK xs k := by rw [seenK, h]
      have e2 : xs.take (k + 1) = xs.take k := by rw [List.take_of_length_le (by omega), List.take_of_length_le hk]
      rw [e1, e2]; exact ih
    | some c =>
      obtain ⟨hk, e⟩ := List.getElem?_eq_some_iff.1 h
      have e2 : bytesOf (xs.take (k + 1)) = bytesOf (xs.take k) ++ [c.data.toList] := by rw [List.take_succ_eq_append_getElem hk, e]; simp [bytesOf]
      rw [seenK_next xs k c h, e2]
      by_cases hl : l = c.data.toList
      · rw [hl, atKey_put_same (seenK_map xs k) (by first | exact trivial | constructor | simp [WideAt.IsKeyLit])]; simp
      · rw [atKey_put_other (fun e => hl (by injection e)), ih]; simp [hl]
def dupL (xs : List ByteArray) : Bool := decide (¬ (bytesOf xs).Nodup)
theorem dup_no (xs : List ByteArray) (h : (bytesOf (xs.take xs.length)).Nodup) : dupL xs = false := by
  rw [List.take_length] at h; simp [dupL, h]
theorem dup_yes (xs : List ByteArray) (k : Nat) (c : ByteArray) (hc : xs[k]? = some c) (h : c.data.toList ∈ bytesOf (xs.take k)) : dupL xs = true := by
  obtain ⟨hk, e⟩ := List.getElem?_eq_some_iff.1 hc
  refine decide_eq_true (fun hn => ?_)
  have e2 : bytesOf xs = bytesOf (xs.take k) ++ bytesOf (xs.drop k) := by rw [← List.take_append_drop k xs]; simp [bytesOf]
  rw [e2, List.nodup_append] at hn
  exact hn.2.2 _ h c.data.toList (by rw [List.drop_eq_getElem_cons hk, e]; simp [bytesOf]) rfl
theorem nodup_next (xs : List ByteArray) (k : Nat) (c : ByteArray) (hc : xs[k]? = some c) (hn : (bytesOf (xs.take k)).Nodup) (h : c.data.toList ∉ bytesOf (xs.take k)) : (bytesOf (xs.take (k + 1))).Nodup := by
  obtain ⟨hk, e⟩ := List.getElem?_eq_some_iff.1 hc
  rw [List.take_succ_eq_append_getElem hk, e]
  simp only [bytesOf, List.map_append, List.map_cons, List.map_nil]
  rw [List.nodup_append]
  exact ⟨hn, by simp, fun a ha b hb => by simp at hb; subst hb; exact fun e => h (by rw [← e]; exact ha)⟩
theorem plainElem_bool_inv {H : Type} {P : Program} {e : TypeId} (he : P.underlying e = some .bool) {v : Value} {z : DataW H × List MemPlace} (h : plainElem P e v = some z) : ∃ a, v = .bool a ∧ z = (.lit (.bool a), []) := by
  unfold plainElem at h
  rw [he] at h
  split at h
  · cases h; exact ⟨_, rfl, rfl⟩
  · rename_i h1; cases h1
  · rename_i h1; cases h1
  · cases h
theorem lookup_bool {H : Type} {P : Program} {w : World} {k t e : TypeId} {b n : Nat} {D : DataW H} (h : w.ownsMap P k (plainElem P e) b n D) (K : Keyed P k) (ht : P.underlying t = some (.map k e)) (he : P.underlying e = some .bool) (hz : (zeroValue e).run P w = .ok (.bool false) w)
    {key : Value} {kl : Lit} (hkey : keyOf P k key = some kl) : ∃ c, (Instr.lookup t (.map (some b)) key false).run P w = .ok (.bool c) w ∧ D.atKey kl (.lit (.bool false)) = .lit (.bool c) := by
  obtain ⟨v, ps, hrun, hv⟩ := h.lookup K ht hz (plainElem_bool he false) hkey
  obtain ⟨c, rfl, hc⟩ := plainElem_bool_inv he hv
  simp only [Prod.mk.injEq] at hc
  exact ⟨c, hrun, hc.1⟩

set_option maxRecDepth 100000 in
set_option maxHeartbeats 4000000 in
theorem twice_any (ao : Option Addr) (cap : Nat) (xs : List ByteArray) (w : World) (hn : xs.length ≤ 1099511627776) (hs : ∀ c ∈ xs, c.size ≤ maxLen) (hR : StrRow w ao xs) :
    Calls Tryz.prog 68 #[.slice ao xs.length cap] w fun e w' => e = .returned (.bool (dupL xs)) ∧ Below w.heap.size w w' := by
  have HRo := Lib.hid hR
  have HSo := Lib.hid hs
  have HY := Lib.hid (dup_yes xs)
  have HNn := Lib.hid (dup_no xs)
  clear hR hs
  generalize dupL xs = F at HY HNn ⊢
  have hmm := @run_makeMap Tryz.prog
  go_enter Tryz.func68, Tryz.ntmps68
  go_wp2_with fail
  have HO : Hid ((w.alloc (.map #[] 0)).ownsMap Tryz.prog 9 (plainElem Tryz.prog 4) w.heap.size 0 (seenK xs 0)) := Lib.hid (World.ownsMap_made w _ _ _)
  have HB : Hid (Below w.heap.size w (w.alloc (.map #[] 0))) := Lib.hid ((Below.refl _ w).alloc (Nat.le_refl _) _)
  go_loopw [9] (fun i wr => ∃ k : Nat, k ≤ xs.length ∧ i = .int .i64 k ∧ Hid (Below w.heap.size w wr) ∧ Hid (wr.ownsMap Tryz.prog 9 (plainElem Tryz.prog 4) w.heap.size k (seenK xs k)) ∧ Hid ((bytesOf (xs.take k)).Nodup)) (fun i _ => xs.length - (intOf i).toNat)
  case atStart => exact ⟨0, Nat.zero_le _, rfl, HB, HO, Lib.hid (by simp [bytesOf])⟩
  case round =>
    obtain ⟨k, hk, rfl, HB, HO, HD⟩ := hrel
    by_cases hlt : k < xs.length
    · obtain ⟨x, hx⟩ : ∃ x, xs[k]? = some x := ⟨_, List.getElem?_eq_getElem hlt⟩
      have HX := Lib.hid hx
      have hkey := Go.WideMaps.keyOf_string_mk (P := Tryz.prog) Tryz.underlying9 (HSo.out x (List.mem_of_getElem? hx))
      obtain ⟨c, hrun, hat⟩ := lookup_bool HO.out (string_keyed Tryz.underlying9) Tryz.underlying126 Tryz.underlying4 (Tryz.zeroValue4 _) hkey
      rw [seenK_at] at hat
      have HC : Hid (decide (x.data.toList ∈ bytesOf (xs.take k)) = c) := Lib.hid (by injection hat with h1; injection h1)
      rcases (HRo.out.kept HB.out) with h0 | ⟨A, rfl, hA, hcell⟩
      · rw [h0] at hlt; simp at hlt
      have hc := hcell k x hx
      have HK := Lib.hid hkey
      clear hcell hx hat hkey
      cases c with
      | true =>
        have E := Lib.hid (HY.out k x HX.out (of_decide_eq_true HC.out))
        go_wp2_with fail
        go_ret
        exact ⟨by rw [E.out]; rfl, HB.out⟩
      | false =>
        have HD' := Lib.hid (nodup_next xs k x HX.out HD.out (of_decide_eq_false HC.out))
        have hkm : k < maxLen := by unfold maxLen; omega
        go_wp2_with (at_mapUpdate; refine wpList_mapUpdate_own _ rfl _ _ _ 126 rfl 9 4 (string_keyed Tryz.underlying9) Tryz.underlying126 _ w.heap.size k (seenK xs k) rfl HO.out hkm _ _ (.string x.data.toList) rfl rfl HK.out (.lit (.bool true)) [] (plainElem_bool Tryz.underlying4 true) ?_; intro w1 ho hg)
        have HB' := Lib.hid (HB.out.grown hg HB.out.size (fun k h => by cases h; exact Nat.le_refl _))
        rw [← seenK_next xs k x HX.out] at ho
        have HO' := Lib.hid ho
        clear ho hg hrun
        go_wp2_with fail
        go_roundw
        case rel => exact ⟨k + 1, by omega, by go_num, HB', HO', HD'⟩
        case measure => simp [intOf]; omega
    · obtain rfl : k = xs.length := by omega
      have E := Lib.hid (HNn.out HD.out)
      go_wp2_with fail
      go_ret
      exact ⟨by rw [E.out]; rfl, HB.out⟩
end Go.Proofs.YtigijgcldgbokaaGreat
namespace Go.Proofs.YtigijgcldgbokaaGreat
open Go.RowKit Go.Shelf

set_option maxRecDepth 100000 in
set_option maxHeartbeats 2000000 in
theorem indexRow_any (G : FuncId) (v : Value) (p : List ByteArray → Bool) (ao : Option Addr) (cap : Nat) (xs : List (List ByteArray)) (w : World) (hn : xs.length ≤ 1099511627776) (hR : RowsAt w ao xs)
    (hent : ∀ args w, (callFunc G args).run Tryz.prog w = .ok (.enter G args) w) (hG : ∀ r ∈ xs, ∀ ro c W, Below w.heap.size w W → StrRow W ro r → Calls Tryz.prog G #[.slice ro r.length c, v] W fun e w' => e = .returned (.bool (p r)) ∧ Below W.heap.size W w') :
    Calls Tryz.prog 130 #[.slice ao xs.length cap, .func (.func G) #[] #[v]] w fun e w' => e = .returned (.int .i64 (firstAt p xs)) ∧ Below w.heap.size w w' := by
  have HG := Lib.hid hG
  have HRo := Lib.hid hR
  have HF := Lib.hid (firstAt_none p xs)
  have HS := Lib.hid (firstAt_some p xs)
  clear hG hR
  generalize firstAt p xs = F at HF HS ⊢
  go_enter Tryz.func130, Tryz.ntmps130
  go_wp2_with fail
  go_loopw [8] (fun i wr => ∃ k : Nat, k ≤ xs.length ∧ i = .int .i64 k ∧ Hid (Below w.heap.size w wr) ∧ Hid (∀ (j : Nat) c, j < k → xs[j]? = some c → p c = false)) (fun i _ => xs.length - (intOf i).toNat)
  case atStart => exact ⟨0, Nat.zero_le _, rfl, Lib.hid (Below.refl _ _), Lib.hid (fun j c h _ => by omega)⟩
  case round =>
    obtain ⟨k, hk, rfl, HB, HN⟩ := hrel
    by_cases hlt : k < xs.length
    · obtain ⟨x, hx⟩ : ∃ x, xs[k]? = some x := ⟨_, List.getElem?_eq_getElem hlt⟩
      have HX := Lib.hid hx
      rcases (HRo.out.kept HB.out) with h0 | ⟨A, rfl, hA, hcell⟩
      · rw [h0] at hlt; simp at hlt
      obtain ⟨ro, rc, hc, hs⟩ := hcell k x hx
      have C := Lib.hid (HG.out x (List.mem_of_getElem? hx) ro rc wr HB.out hs)
      clear hcell hx hs
      cases hp : p x with
      | true =>
        rw [hp] at C
        have E := Lib.hid (HS.out k x HX.out hp HN.out)
        go_wp2_with fail
        refine C.out.mono ?_; rintro e w' ⟨rfl, b1⟩
        have HB1 := Lib.hid (below_up HB.out b1)
        clear b1 hc
        go_wp2_with fail
        go_ret
        exact ⟨by rw [E.out]; rfl, HB1.out⟩
      | false =>
        rw [hp] at C
        have HN' : Hid (∀ (j : Nat) c, j < k + 1 → xs[j]? = some c → p c = false) := Lib.hid (fun j c hj hc' => by
          by_cases e : j = k
          · subst e; rw [HX.out] at hc'; cases hc'; exact hp
          · exact HN.out j c (by omega) hc')
        go_wp2_with fail
        refine C.out.mono ?_; rintro e w' ⟨rfl, b1⟩
        have HB1 := Lib.hid (below_up HB.out b1)
        clear b1 hc
        go_wp2_with fail
        go_roundw
        case rel => exact ⟨k + 1, by omega, by go_num, HB1, HN'⟩
        case measure => simp [intOf]; omega
    · obtain rfl : k = xs.length := by omega
      have E := Lib.hid (HF.out (fun j c hc => HN.out j c (by obtain ⟨h, _⟩ := List.getElem?_eq_some_iff.1 hc; exact h) hc))
      go_wp2_with fail
      go_ret
      exact ⟨by rw [E.out]; rfl, HB.out⟩
theorem hasRow_any (G : FuncId) (v : Value) (p : List ByteArray → Bool) (ao : Option Addr) (cap : Nat) (xs : List (List ByteArray)) (w : World) (hn : xs.length ≤ 1099511627776) (hR : RowsAt w ao xs)
    (hent : ∀ args w, (callFunc G args).run Tryz.prog w = .ok (.enter G args) w) (hG : ∀ r ∈ xs, ∀ ro c W, Below w.heap.size w W → StrRow W ro r → Calls Tryz.prog G #[.slice ro r.length c, v] W fun e w' => e = .returned (.bool (p r)) ∧ Below W.heap.size W w') :
    Calls Tryz.prog 99 #[.slice ao xs.length cap, .func (.func G) #[] #[v]] w fun e w' => e = .returned (.bool (xs.any p)) ∧ Below w.heap.size w w' := by
  have C := Lib.hid (indexRow_any G v p ao cap xs w hn hR hent hG)
  have E := Lib.hid (any_at p xs)
  clear hG hR hent
  generalize firstAt p xs = F at C E
  go_enter Tryz.func99, Tryz.ntmps99
  go_wp2_with fail
  refine C.out.mono ?_; rintro e w' ⟨rfl, b1⟩
  go_wp2_with fail
  go_ret
  exact ⟨by rw [← E.out]; simp, b1⟩

theorem tabs {W : World} {B : Nat} {ho : Option Addr} {m hc : Nat} {ro : Option Addr} {k rc : Nat} (h : W.heap[B]? = some (TabO ho m hc ro k rc)) : W.cell? ⟨B, 0, none⟩ = some (.slice ho m hc) ∧ W.cell? ⟨B, 1, none⟩ = some (.slice ro k rc) :=
  ⟨(Lib.cell_of_heap h 0).trans rfl, (Lib.cell_of_heap h 1).trans rfl⟩
def wideB (n : Nat) (r : List ByteArray) : Bool := decide (r.length ≠ n)
def raggedB (hd : List ByteArray) (rs : List (List ByteArray)) : Bool := rs.any (wideB hd.length)

set_option maxRecDepth 100000 in
theorem ragged1_any (ao : Option Addr) (n cap B : Nat) (ho : Option Addr) (m hc : Nat) (ro : Option Addr) (k rc : Nat) (w : World) (hB : w.heap[B]? = some (TabO ho m hc ro k rc)) :
    Calls Tryz.prog 100 #[.slice ao n cap, .pointer (some ⟨B, 0, none⟩)] w fun e w' => e = .returned (.bool (decide (n ≠ m))) ∧ Below w.heap.size w w' := by
  have hb := int_bne n m
  obtain ⟨c0, _⟩ := tabs hB
  clear hB
  generalize decide (n ≠ m) = b at hb ⊢
  go_enter Tryz.func100, Tryz.ntmps100
  go_wp2_with fail
  go_ret
  exact ⟨rfl, Below.refl _ _⟩

def tellI (e : Int) (b : Bool) : Int := if b then e else 0
theorem tell_any (e : Int) (b : Bool) (w : World) : Calls Tryz.prog 64 #[.int .i64 e, .bool b] w fun x w' => x = .returned (.int .i64 (tellI e b)) ∧ w = w' := by
  cases b
  all_goals
    go_enter Tryz.func64, Tryz.ntmps64
    go_wp2_with fail
    go_ret
    exact ⟨rfl, rfl⟩

set_option maxRecDepth 100000 in
theorem ragged_any (ho : Option Addr) (hc : Nat) (hd : List ByteArray) (ro : Option Addr) (rc : Nat) (rs : List (List ByteArray)) (w : World)
    (hn2 : rs.length ≤ 1099511627776) (hR : RowsAt w ro rs) : Calls Tryz.prog 66 #[.agg #[.slice ho hd.length hc, .slice ro rs.length rc]] w fun e w' => e = .returned (.bool (raggedB hd rs)) ∧ Below w.heap.size w w' := by
  have hB := World.alloc_heap_new w (TabO ho hd.length hc ro rs.length rc)
  have hb : Below w.heap.size w (w.alloc (TabO ho hd.length hc ro rs.length rc)) := (Below.refl _ w).alloc (Nat.le_refl _) _
  have C := Lib.hid (hasRow_any 100 (.pointer (some ⟨w.heap.size, 0, none⟩)) (wideB hd.length) ro rc rs _ hn2 (hR.kept hb) (enters_of Tryz.func100 (by kernel_rfl) rfl)
    (fun r _ ro1 c1 W hW _ => ragged1_any ro1 r.length c1 w.heap.size ho hd.length hc ro rs.length rc W ((hW.block _ (lt_of_heap hB)).trans hB)))
  have HB := Lib.hid hb
  clear hB hb hR
  unfold raggedB
  go_enter Tryz.func66, Tryz.ntmps66
  go_wp2_with fail
  refine C.out.mono ?_; rintro e w' ⟨rfl, b1⟩
  have B1 := Lib.hid (below_up HB.out b1)
  clear b1
  go_wp2_with fail
  go_ret
  exact ⟨rfl, B1.out⟩

def largeB (hd : List ByteArray) (rs : List (List ByteArray)) : Bool := decide (40 < hd.length) || decide (400 < rs.length) || longT (allT hd rs) || decide (40000 < sumT (allT hd rs))
def faultF : Nat → FuncId | 0 => 63 | 1 => 65 | 2 => 67 | _ => 69
def faultI (hd : List ByteArray) (rs : List (List ByteArray)) : Nat → Int | 0 => tellI 8 (decide (hd.length = 0)) | 1 => tellI 9 (raggedB hd rs) | 2 => tellI 10 (dupL hd) | _ => tellI 7 (largeB hd rs)
/-- what is wrong with a table; 0: nothing -/
def checkI (hd : List ByteArray) (rs : List (List ByteArray)) : Int := if hd.length = 0 then 8 else if raggedB hd rs then 9 else if dupL hd then 10 else if largeB hd rs then 7 else 0

theorem tell_no {e : Int} {b : Bool} (he : e ≠ 0) (h : tellI e b = 0) : b = false := by cases b <;> simp_all [tellI]
theorem tell_yes {e : Int} {b : Bool} (h : tellI e b ≠ 0) : b = true ∧ tellI e b = e := by cases b <;> simp_all [tellI]
theorem check_none (hd : List ByteArray) (rs : List (List ByteArray)) (h : ∀ j, j < 4 → faultI hd rs j = 0) : checkI hd rs = 0 := by
  have h0 := tell_no (by decide) (h 0 (by decide)); have h1 := tell_no (by decide) (h 1 (by decide)); have h2 := tell_no (by decide) (h 2 (by decide)); have h3 := tell_no (by decide) (h 3 (by decide))
  have h0' : ¬ hd.length = 0 := of_decide_eq_false h0
  unfold checkI; rw [if_neg h0', h1, h2, h3]; rfl
theorem check_one (hd : List ByteArray) (rs : List (List ByteArray)) (i : Nat) (hi : i < 4) (h : ∀ j, j < i → faultI hd rs j = 0) (hne : faultI hd rs i ≠ 0) : checkI hd rs = faultI hd rs i := by
  have k0 : 0 < i → ¬ hd.length = 0 := fun hh => of_decide_eq_false (tell_no (by decide) (h 0 hh))
  have k1 : 1 < i → raggedB hd rs = false := fun hh => tell_no (by decide) (h 1 hh)
  have k2 : 2 < i → dupL hd = false := fun hh => tell_no (by decide) (h 2 hh)
  match i, hi with
  | 0, _ => have := tell_yes hne; show _ = tellI _ _; rw [this.2]; unfold checkI; rw [if_pos (of_decide_eq_true this.1)]
  | 1, _ => have := tell_yes hne; show _ = tellI _ _; rw [this.2]; unfold checkI; rw [if_neg (k0 (by decide)), this.1]; rfl
  | 2, _ => have := tell_yes hne; show _ = tellI _ _; rw [this.2]; unfold checkI; rw [if_neg (k0 (by decide)), k1 (by decide), this.1]; rfl
  | 3, _ => have := tell_yes hne; show _ = tellI _ _; rw [this.2]; unfold checkI; rw [if_neg (k0 (by decide)), k1 (by decide), k2 (by decide), this.1]; rfl

theorem faults_any (ho : Option Addr) (m hc : Nat) (ro : Option Addr) (k rc : Nat) (w : World) :
    Calls Tryz.prog 37 #[.agg #[.slice ho m hc, .slice ro k rc]] w fun e w' => e = .returned (.slice (some ⟨w.heap.size + 1, 0, none⟩) 4 4) ∧ w' = (w.alloc (TabO ho m hc ro k rc)).alloc (.cells #[.func (.func (faultF 0)) #[] #[.pointer (some ⟨w.heap.size, 0, none⟩)], .func (.func (faultF 1)) #[] #[.pointer (some ⟨w.heap.size, 0, none⟩)], .func (.func (faultF 2)) #[] #[.pointer (some ⟨w.heap.size, 0, none⟩)], .func (.func (faultF 3)) #[] #[.pointer (some ⟨w.heap.size, 0, none⟩)]] 69) := by
  unfold faultF
  go_enter Tryz.func37, Tryz.ntmps37
  go_wp2_with fail
  go_ret
  exact ⟨rfl, rfl⟩

section
variable (ho : Option Addr) (hc : Nat) (hd : List ByteArray) (ro : Option Addr) (rc : Nat) (rs : List (List ByteArray)) (w : World)
  (hn : hd.length ≤ 1099511627776) (hn2 : rs.length ≤ 1099511627776) (hn3 : ∀ r ∈ rs, r.length ≤ 1099511627776) (hH : StrRow w ho hd) (hR : RowsAt w ro rs)
include hn hn2 hn3 hH hR

set_option maxRecDepth 100000 in
set_option maxHeartbeats 4000000 in
theorem large_any (hsum : sumT (allT hd rs) ≤ 1152921504606846976) :
    Calls Tryz.prog 70 #[.agg #[.slice ho hd.length hc, .slice ro rs.length rc]] w fun e w' => e = .returned (.bool (largeB hd rs)) ∧ Below w.heap.size w w' := by
  have hs : ∀ c ∈ allT hd rs, c.size ≤ 1152921504606846976 := fun c hc => by
    obtain ⟨a, b, e⟩ := List.append_of_mem hc
    rw [e] at hsum; simp [sumT] at hsum; omega
  have C1 := Lib.hid (fun W (h : Below w.heap.size w W) => largeText_any ho hc hd ro rc rs W hn hn2 hn3 (hH.kept h) (hR.kept h) hs)
  have C2 := Lib.hid (fun W (h : Below w.heap.size w W) => total_any ho hc hd ro rc rs W hn hn2 hn3 (hH.kept h) (hR.kept h) hsum)
  have HB : Hid (Below w.heap.size w (w.alloc (TabO ho hd.length hc ro rs.length rc))) := Lib.hid ((Below.refl _ w).alloc (Nat.le_refl _) _)
  have hB := World.alloc_heap_new w (TabO ho hd.length hc ro rs.length rc)
  have HN := Lib.hid hB
  clear hH hR hn3 hs hB
  have E : Hid (largeB hd rs = (decide (40 < hd.length) || decide (400 < rs.length) || longT (allT hd rs) || decide (40000 < sumT (allT hd rs)))) := Lib.hid rfl
  generalize largeB hd rs = F at E ⊢
  generalize longT (allT hd rs) = g at E C1
  generalize sumT (allT hd rs) = t at E C2 hsum
  by_cases h1 : 40 < hd.length
  · have E' := Lib.hid (show F = true from by rw [E.out]; simp [h1])
    go_enter Tryz.func70, Tryz.ntmps70
    go_wp2_with fail
    go_ret
    exact ⟨by rw [E'.out]; rfl, HB.out⟩
  by_cases h2 : 400 < rs.length
  · have E' := Lib.hid (show F = true from by rw [E.out]; simp [h2])
    go_enter Tryz.func70, Tryz.ntmps70
    go_wp2_with fail
    go_ret
    exact ⟨by rw [E'.out]; rfl, HB.out⟩
  cases g with
  | true =>
    have E' := Lib.hid (show F = true from by rw [E.out]; simp)
    go_enter Tryz.func70, Tryz.ntmps70
    go_wp2_with fail
    refine (C1.out _ HB.out).mono ?_; rintro e w' ⟨rfl, b1⟩
    have B1 := Lib.hid (below_up HB.out b1)
    clear b1
    go_wp2_with fail
    go_ret
    exact ⟨by rw [E'.out]; rfl, B1.out⟩
  | false =>
    by_cases h4 : 40000 < t
    · have E' := Lib.hid (show F = true from by rw [E.out]; simp [h4])
      have HZ : Hid ((decide ((40 : Int) < (hd.length : Int)) || decide ((400 : Int) < (rs.length : Int)) || decide ((40000 : Int) < (t : Int))) = true) := Lib.hid (by simp; omega)
      go_enter Tryz.func70, Tryz.ntmps70
      go_wp2_with fail
      refine (C1.out _ HB.out).mono ?_; rintro e w' ⟨rfl, b1⟩
      have hBw := (b1.block _ (lt_of_heap HN.out)).trans HN.out
      obtain ⟨k0, k1⟩ := tabs hBw
      have B1 := Lib.hid (below_up HB.out b1)
      clear b1 hBw
      go_wp2_with fail
      refine (C2.out _ B1.out).mono ?_; rintro e w2 ⟨rfl, b2⟩
      have B2 := Lib.hid (below_up B1.out b2)
      clear b2
      go_wp2_with fail
      go_ret
      exact ⟨by rw [E'.out]; exact congrArg (fun b => Ending.returned (.bool b)) HZ.out, B2.out⟩
    · have E' := Lib.hid (show F = false from by rw [E.out]; simp [h1, h2, h4])
      have HZ : Hid ((decide ((40 : Int) < (hd.length : Int)) || decide ((400 : Int) < (rs.length : Int)) || decide ((40000 : Int) < (t : Int))) = false) := Lib.hid (by simp; omega)
      go_enter Tryz.func70, Tryz.ntmps70
      go_wp2_with fail
      refine (C1.out _ HB.out).mono ?_; rintro e w' ⟨rfl, b1⟩
      have hBw := (b1.block _ (lt_of_heap HN.out)).trans HN.out
      obtain ⟨k0, k1⟩ := tabs hBw
      have B1 := Lib.hid (below_up HB.out b1)
      clear b1 hBw
      go_wp2_with fail
      refine (C2.out _ B1.out).mono ?_; rintro e w2 ⟨rfl, b2⟩
      have B2 := Lib.hid (below_up B1.out b2)
      clear b2
      go_wp2_with fail
      go_ret
      exact ⟨by rw [E'.out]; exact congrArg (fun b => Ending.returned (.bool b)) HZ.out, B2.out⟩

set_option maxRecDepth 100000 in
set_option maxHeartbeats 4000000 in
theorem fault_any (B : Nat) (hB : w.heap[B]? = some (TabO ho hd.length hc ro rs.length rc)) (hs : ∀ c ∈ hd, c.size ≤ maxLen) (hsum : sumT (allT hd rs) ≤ 1152921504606846976) (i : Nat) (hi : i < 4) :
    Calls Tryz.prog (faultF i) #[.pointer (some ⟨B, 0, none⟩)] w fun e w' => e = .returned (.int .i64 (faultI hd rs i)) ∧ Below w.heap.size w w' := by
  obtain ⟨c0, c1⟩ := tabs hB
  clear hB
  match i, hi with
  | 0, _ =>
    unfold faultF faultI
    clear hn3 hH hR hs hsum
    by_cases h0 : hd.length = 0
    · have hb : ((hd.length : Int) == 0) = true := by rw [h0]; rfl
      rw [show decide (hd.length = 0) = true from decide_eq_true h0]
      clear h0
      go_enter Tryz.func63, Tryz.ntmps63
      go_wp2_with fail
      refine (tell_any _ _ _).mono ?_; rintro e w' ⟨rfl, rfl⟩
      go_wp2_with fail
      go_ret
      exact ⟨rfl, Below.refl _ _⟩
    · have hb : ((hd.length : Int) == 0) = false := by rw [beq_eq_false_iff_ne]; omega
      rw [show decide (hd.length = 0) = false from decide_eq_false h0]
      clear h0
      go_enter Tryz.func63, Tryz.ntmps63
      go_wp2_with fail
      refine (tell_any _ _ _).mono ?_; rintro e w' ⟨rfl, rfl⟩
      go_wp2_with fail
      go_ret
      exact ⟨rfl, Below.refl _ _⟩
  | 1, _ =>
    unfold faultF faultI
    have C := Lib.hid (ragged_any ho hc hd ro rc rs w hn2 hR)
    clear hn3 hH hR hs hsum
    go_enter Tryz.func65, Tryz.ntmps65
    go_wp2_with fail
    refine C.out.mono ?_; rintro e w' ⟨rfl, b1⟩
    have B1 := Lib.hid b1
    clear b1
    go_wp2_with fail
    refine (tell_any _ _ _).mono ?_; rintro e w' ⟨rfl, rfl⟩
    go_wp2_with fail
    go_ret
    exact ⟨rfl, B1.out⟩
  | 2, _ =>
    unfold faultF faultI
    have C := Lib.hid (twice_any ho hc hd w hn hs hH)
    clear hn3 hH hR hs hsum
    go_enter Tryz.func67, Tryz.ntmps67
    go_wp2_with fail
    refine C.out.mono ?_; rintro e w' ⟨rfl, b1⟩
    have B1 := Lib.hid b1
    clear b1
    go_wp2_with fail
    refine (tell_any _ _ _).mono ?_; rintro e w' ⟨rfl, rfl⟩
    go_wp2_with fail
    go_ret
    exact ⟨rfl, B1.out⟩
  | 3, _ =>
    unfold faultF faultI
    have C := Lib.hid (large_any ho hc hd ro rc rs w hn hn2 hn3 hH hR hsum)
    clear hn3 hH hR hs hsum
    go_enter Tryz.func69, Tryz.ntmps69
    go_wp2_with fail
    refine C.out.mono ?_; rintro e w' ⟨rfl, b1⟩
    have B1 := Lib.hid b1
    clear b1
    go_wp2_with fail
    refine (tell_any _ _ _).mono ?_; rintro e w' ⟨rfl, rfl⟩
    go_wp2_with fail
    go_ret
    exact ⟨rfl, B1.out⟩

set_option maxRecDepth 100000 in
set_option maxHeartbeats 4000000 in
theorem check_any (hs : ∀ c ∈ hd, c.size ≤ maxLen) (hsum : sumT (allT hd rs) ≤ 1152921504606846976) :
    Calls Tryz.prog 17 #[.agg #[.slice ho hd.length hc, .slice ro rs.length rc]] w fun e w' => e = .returned (.int .i64 (checkI hd rs)) ∧ Below w.heap.size w w' := by
  obtain ⟨T, HT⟩ : ∃ T, Hid (T = TabO ho hd.length hc ro rs.length rc) := ⟨_, Lib.hid rfl⟩
  have HT2 : Hid (T = Obj.cells #[Value.slice ho hd.length hc, Value.slice ro rs.length rc] 25) := Lib.hid HT.out
  obtain ⟨U, HU⟩ : ∃ U, Hid (U = ((w.alloc T).alloc T).alloc (.cells #[.func (.func (faultF 0)) #[] #[.pointer (some ⟨w.heap.size + 1, 0, none⟩)], .func (.func (faultF 1)) #[] #[.pointer (some ⟨w.heap.size + 1, 0, none⟩)], .func (.func (faultF 2)) #[] #[.pointer (some ⟨w.heap.size + 1, 0, none⟩)], .func (.func (faultF 3)) #[] #[.pointer (some ⟨w.heap.size + 1, 0, none⟩)]] 69)) := ⟨_, Lib.hid rfl⟩
  have b1 : Below w.heap.size w ((w.alloc T).alloc T) := two_below _ _ _
  have hbU : Below w.heap.size w U := by rw [HU.out]; exact b1.alloc b1.size _
  have hB1 : U.heap[w.heap.size + 1]? = some (TabO ho hd.length hc ro rs.length rc) := by rw [HU.out, Below.heap_alloc _ _ _ (by simp), ← HT.out]; exact (two_new w T T).2.2
  have hrow : ∀ j, j < 4 → U.cell? ⟨w.heap.size + 1 + 1, j, none⟩ = some (.func (.func (faultF j)) #[] #[.pointer (some ⟨w.heap.size + 1, 0, none⟩)]) := fun j hj => by
    have h := World.alloc_heap_new ((w.alloc T).alloc T) (.cells #[.func (.func (faultF 0)) #[] #[.pointer (some ⟨w.heap.size + 1, 0, none⟩)], .func (.func (faultF 1)) #[] #[.pointer (some ⟨w.heap.size + 1, 0, none⟩)], .func (.func (faultF 2)) #[] #[.pointer (some ⟨w.heap.size + 1, 0, none⟩)], .func (.func (faultF 3)) #[] #[.pointer (some ⟨w.heap.size + 1, 0, none⟩)]] 69)
    rw [← HU.out, (two_new w T T).1] at h
    rw [show w.heap.size + 1 + 1 = w.heap.size + 2 from rfl, Lib.cell_of_heap h j]
    match j, hj with
    | 0, _ => rfl
    | 1, _ => rfl
    | 2, _ => rfl
    | 3, _ => rfl
  have hsU : U.heap.size = w.heap.size + 3 := by rw [HU.out]; simp
  have C := Lib.hid (fun W (h : Below U.heap.size U W) i (hi : i < 4) => fault_any ho hc hd ro rc rs W hn hn2 hn3 (hH.kept (below_up hbU h)) (hR.kept (below_up hbU h)) (w.heap.size + 1) ((h.block _ (lt_of_heap hB1)).trans hB1) hs hsum i hi)
  have hent : Hid (∀ i, i < 4 → ∀ args w, (callFunc (faultF i) args).run Tryz.prog w = .ok (.enter (faultF i) args) w) := Lib.hid (fun i hi => by
    match i, hi with
    | 0, _ => exact enters_of Tryz.func63 (by kernel_rfl) rfl
    | 1, _ => exact enters_of Tryz.func65 (by kernel_rfl) rfl
    | 2, _ => exact enters_of Tryz.func67 (by kernel_rfl) rfl
    | 3, _ => exact enters_of Tryz.func69 (by kernel_rfl) rfl)
  have HBU := Lib.hid hbU
  have HRW := Lib.hid hrow
  have HSU := Lib.hid hsU
  have E1 := Lib.hid (check_one hd rs)
  have E0 := Lib.hid (check_none hd rs)
  clear b1 hbU hB1 hrow hsU hs hsum hH hR hn3
  generalize checkI hd rs = F at E0 E1 ⊢
  generalize faultI hd rs = fi at E0 E1 C
  go_enter Tryz.func17, Tryz.ntmps17
  go_wp2_with fail
  refine (faults_any _ _ _ _ _ _ _).mono ?_; rintro e w' ⟨rfl, rfl⟩
  go_wp2_with fail
  rw [← HT.out, ← HT2.out]
  rw [← HU.out]
  go_loopw [9] (fun i wr => ∃ k : Nat, k ≤ 4 ∧ i = .int .i64 k ∧ Hid (Below U.heap.size U wr) ∧ Hid (∀ j, j < k → fi j = 0)) (fun i _ => 4 - (intOf i).toNat)
  case atStart => exact ⟨0, Nat.zero_le _, rfl, Lib.hid (Below.refl _ _), Lib.hid (fun j h => by omega)⟩
  case round =>
    obtain ⟨k, hk, rfl, HB, HN⟩ := hrel
    by_cases hlt : k < 4
    · have C1 := Lib.hid (C.out wr HB.out k hlt)
      have hc1 : wr.cell? ⟨w.heap.size + 1 + 1, k, none⟩ = some (.func (.func (faultF k)) #[] #[.pointer (some ⟨w.heap.size + 1, 0, none⟩)]) := (HB.out.cell (p := ⟨w.heap.size + 1 + 1, k, none⟩) (by rw [HSU.out]; simp)).trans (HRW.out k hlt)
      have hen := hent.out k hlt
      have E1k := Lib.hid (E1.out k hlt HN.out)
      have HN' : Hid (fi k = 0 → ∀ j, j < k + 1 → fi j = 0) := Lib.hid (fun h j hj => by
        by_cases e : j = k
        · rw [e]; exact h
        · exact HN.out j (by omega))
      generalize faultF k = G at C1 hc1 hen
      generalize fi k = v at C1 E1k HN'
      by_cases hv : v = 0
      · have hb : (v != 0) = false := by simp [hv]
        have HN2 := Lib.hid (HN'.out hv)
        clear hv
        go_wp2_with fail
        refine C1.out.mono ?_; rintro e w' ⟨rfl, b1⟩
        have HB1 := Lib.hid (below_up HB.out b1)
        clear b1 hc1
        go_wp2_with fail
        go_roundw
        case rel => exact ⟨k + 1, by omega, by go_num, HB1, HN2⟩
        case measure => simp [intOf]; omega
      · have hb : (v != 0) = true := by simp [hv]
        have EE := Lib.hid (E1k.out hv)
        clear hv
        go_wp2_with fail
        refine C1.out.mono ?_; rintro e w' ⟨rfl, b1⟩
        have HB1 := Lib.hid (below_up HB.out b1)
        clear b1 hc1
        go_wp2_with fail
        go_ret
        exact ⟨by rw [EE.out]; rfl, below_up HBU.out HB1.out⟩
    · obtain rfl : k = 4 := by omega
      have EE := Lib.hid (E0.out HN.out)
      go_wp2_with fail
      go_ret
      exact ⟨by rw [EE.out]; rfl, below_up HBU.out HB.out⟩
end
end Go.Proofs.YtigijgcldgbokaaGreat
namespace Go.Proofs.YtigijgcldgbokaaGreat
open Go.RowKit Go.Shelf

theorem own_block {w : World} {base : Nat} {e : TypeId} {size g n cap : Nat} {xs : List Value} (h : w.ownsRow base e size (.slice (some ⟨g, 0, none⟩) n cap) n xs) : ∃ cur, w.heap[g]? = some (.cells cur e (0, 0)) := by
  rcases h.2 with ⟨h', _⟩ | ⟨g', cap', cur, h', _, hg, _⟩
  · simp at h'
  · simp only [Value.slice.injEq, Option.some.injEq, Addr.mk.injEq, and_true, true_and] at h'
    obtain ⟨rfl, rfl⟩ := h'
    exact ⟨cur, hg⟩
theorem own_strs {w : World} {base : Nat} {e : TypeId} {g cap : Nat} {xs : List ByteArray} (h : w.ownsRow base e 1 (.slice (some ⟨g, 0, none⟩) xs.length cap) xs.length (xs.map Value.string)) : StrRow w (some ⟨g, 0, none⟩) xs :=
  .inr ⟨_, rfl, (h.lt g rfl).2, fun i c hc => h.cells rfl i _ (by rw [List.getElem?_map, hc]; rfl)⟩

theorem al_old {w : World} {k : Nat} {o : Obj} (p : Obj) (h : w.heap[k]? = some o) : (w.alloc p).heap[k]? = some o := (Below.heap_alloc _ _ _ (lt_of_heap h)).trans h
theorem set_old {w : World} {k b j : Nat} {o : Obj} (u : Value) (h : w.heap[k]? = some o) (hne : k ≠ b) : (w.setCell ⟨b, j, none⟩ u).heap[k]? = some o := (Below.heap_setCell _ _ _ _ hne).trans h
theorem set_two {w : World} {B : Nat} {a b : Value} {T : TypeId} (x y : Value) (h : w.heap[B]? = some (.cells #[a, b] T (0, 0))) : ((w.setCell ⟨B, 0, none⟩ x).setCell ⟨B, 1, none⟩ y).heap[B]? = some (.cells #[x, y] T (0, 0)) := by
  have h1 := heap_setCell_same w B 0 #[a, b] T x h
  have h2 := heap_setCell_same _ B 1 _ T y h1
  simpa using h2
theorem own_ne {w : World} {base : Nat} {e T : TypeId} {size g n cap b : Nat} {xs : List Value} {cur : Array Value} {fr : Nat × Nat} (h : w.ownsRow base e size (.slice (some ⟨g, 0, none⟩) n cap) n xs) (hb : w.heap[b]? = some (.cells cur T fr)) (hT : T ≠ e) : b ≠ g := by
  rintro rfl
  obtain ⟨cur', h'⟩ := own_block h
  rw [hb] at h'
  simp at h'
  exact hT h'.2.1
theorem own_set {w : World} {base : Nat} {e : TypeId} {size g n cap : Nat} {xs : List Value} (h : w.ownsRow base e size (.slice (some ⟨g, 0, none⟩) n cap) n xs) (b j : Nat) (u : Value) (hne : b ≠ g) : (w.setCell ⟨b, j, none⟩ u).ownsRow base e size (.slice (some ⟨g, 0, none⟩) n cap) n xs :=
  h.kept (row := some b) ⟨rfl, rfl, rfl, by simp, fun k _ hk => heap_setCell_other w ⟨b, j, none⟩ k u (fun e => hk (by simp [e]))⟩ (.inr (fun e => hne (by simpa [Value.ownBlock] using e.symm)))

/-- a zero table; a row of nil rows; a table -/
abbrev ZT : Obj := .cells #[.slice none 0 0, .slice none 0 0] 25
abbrev RT (n : Nat) : Obj := .cells (madeCells #[.slice none 0 0] n) 22
abbrev XT (g m h n : Nat) : Obj := .cells #[.slice (some ⟨g, 0, none⟩) m m, .slice (some ⟨h, 0, none⟩) n n] 25

/-- behind the literal of the table -/
structure Mid (w : World) (hd : List ByteArray) (n B g h : Nat) (wc : World) : Prop where
  z : wc.heap[w.heap.size]? = some ZT
  b : wc.heap[B]? = some (XT g hd.length h n)
  lt : w.heap.size < B
  hrow : wc.ownsRow w.heap.size 9 1 (.slice (some ⟨g, 0, none⟩) hd.length hd.length) hd.length (hd.map Value.string)
  below : Below w.heap.size w wc

/-- the values of rows that are there already, and nil ones -/
def Filled (wr : World) (base : Nat) (rs : List (List ByteArray)) (h k : Nat) : Prop :=
  ∃ vs : List Value, vs.length = k ∧ wr.ownsRow base 22 1 (.slice (some ⟨h, 0, none⟩) rs.length rs.length) rs.length (vs ++ List.replicate (rs.length - k) (.slice none 0 0)) ∧
    ∀ (j : Nat) r, j < k → rs[j]? = some r → ∃ go, vs[j]? = some (.slice (some ⟨go, 0, none⟩) r.length r.length) ∧ wr.ownsRow base 9 1 (.slice (some ⟨go, 0, none⟩) r.length r.length) r.length (r.map Value.string)
theorem Filled.rows {wr : World} {base : Nat} {rs : List (List ByteArray)} {h : Nat} (F : Filled wr base rs h rs.length) : RowsAt wr (some ⟨h, 0, none⟩) rs ∧ ∃ vs, wr.ownsRow base 22 1 (.slice (some ⟨h, 0, none⟩) rs.length rs.length) rs.length vs := by
  obtain ⟨vs, hl, ho, hv⟩ := F
  refine ⟨.inr ⟨_, rfl, (ho.lt h rfl).2, fun i r hr => ?_⟩, _, ho⟩
  have hi := (List.getElem?_eq_some_iff.1 hr).1
  obtain ⟨go, h1, h2⟩ := hv i r hi hr
  exact ⟨_, ⟨r.length, Nat.le_refl _, fun e => by cases e⟩, ho.cells rfl i _ (by rw [List.getElem?_append_left (by omega)]; exact h1), own_strs h2⟩
theorem Filled.other {wr : World} {base : Nat} {rs : List (List ByteArray)} {h k b : Nat} {cur : Array Value} {fr : Nat × Nat} (F : Filled wr base rs h k) (hb : wr.heap[b]? = some (.cells cur 25 fr)) (j : Nat) (u : Value) : Filled (wr.setCell ⟨b, j, none⟩ u) base rs h k := by
  obtain ⟨vs, hl, ho, hv⟩ := F
  refine ⟨vs, hl, own_set ho b j u (own_ne ho hb (by decide)), fun i r hi hr => ?_⟩
  obtain ⟨go, h1, h2⟩ := hv i r hi hr
  exact ⟨go, h1, own_set h2 b j u (own_ne h2 hb (by decide))⟩
theorem Filled.zero {W : World} {base h : Nat} {rs : List (List ByteArray)} (hb : base ≤ h) (hn : rs.length ≤ 1099511627776) (hh : W.heap[h]? = some (RT rs.length)) : Filled W base rs h 0 := by
  have hs : (madeCells #[Value.slice none 0 0] rs.length).size = rs.length * 1 := by rw [size_madeCells]; omega
  have ho : W.ownsRow base 22 1 (.slice (some ⟨h, 0, none⟩) rs.length rs.length) rs.length (madeCells #[Value.slice none 0 0] rs.length).toList :=
    ⟨by simpa using hs, .inr ⟨h, rs.length, _, rfl, hb, hh, Nat.le_refl _, (by unfold maxLen; omega), hs, List.take_of_length_le (by rw [Array.length_toList, hs]; exact Nat.le_refl _)⟩⟩
  rw [toList_madeCells_one] at ho
  exact ⟨[], rfl, (by simpa using ho), fun j r hj => absurd hj (Nat.not_lt_zero _)⟩
theorem Filled.next {wr w2 : World} {base : Nat} {rs : List (List ByteArray)} {h k : Nat} {r : List ByteArray} (F : Filled wr base rs h k) (hr : rs[k]? = some r) (hbase : base ≤ wr.heap.size) (b2 : Below wr.heap.size wr w2)
    (ho2 : w2.ownsRow wr.heap.size 9 1 (.slice (some ⟨wr.heap.size, 0, none⟩) r.length r.length) r.length (r.map Value.string)) : Filled (w2.setCell ⟨h, k, none⟩ (.slice (some ⟨wr.heap.size, 0, none⟩) r.length r.length)) base rs h (k + 1) := by
  obtain ⟨vs, hl, ho, hv⟩ := F
  have hk := (List.getElem?_eq_some_iff.1 hr).1
  have ho' := ownsRow_below ho b2
  obtain ⟨cur, hcur⟩ := own_block ho'
  have hst := (ho'.stored k (.slice (some ⟨wr.heap.size, 0, none⟩) r.length r.length)).1
  refine ⟨vs ++ [.slice (some ⟨wr.heap.size, 0, none⟩) r.length r.length], by simp [hl], ?_, fun j x hj hx => ?_⟩
  · have e : (vs ++ List.replicate (rs.length - k) (Value.slice none 0 0)).set k (.slice (some ⟨wr.heap.size, 0, none⟩) r.length r.length) = vs ++ [.slice (some ⟨wr.heap.size, 0, none⟩) r.length r.length] ++ List.replicate (rs.length - (k + 1)) (.slice none 0 0) := by
      obtain ⟨m, hm⟩ : ∃ m, rs.length - k = m + 1 := ⟨rs.length - k - 1, by omega⟩
      rw [List.set_append_right _ _ (by omega), hl, Nat.sub_self, hm, show rs.length - (k + 1) = m from by omega, List.replicate_succ]; simp
    rw [← e]; exact hst
  · by_cases ej : j = k
    · subst ej
      rw [hr] at hx; cases hx
      exact ⟨wr.heap.size, by rw [List.getElem?_append_right (by omega), hl]; simp, own_set (ho2.mono hbase) h j _ (own_ne ho2 hcur (by decide))⟩
    · obtain ⟨go, h1, h2⟩ := hv j x (by omega) hx
      have h2' := ownsRow_below h2 b2
      exact ⟨go, by rw [List.getElem?_append_left (by omega)]; exact h1, own_set h2' h k _ (own_ne h2' hcur (by decide))⟩
theorem Mid.next {w wr w2 : World} {hd : List ByteArray} {rs : List (List ByteArray)} {B g h k : Nat} {u : Value} (M : Mid w hd rs.length B g h wr) (F : Filled wr w.heap.size rs h k) (b2 : Below wr.heap.size wr w2) : Mid w hd rs.length B g h (w2.setCell ⟨h, k, none⟩ u) := by
  obtain ⟨vs, hl, ho, hv⟩ := F
  have hz := (b2.block w.heap.size (lt_of_heap M.z)).trans M.z
  have hb := (b2.block B (lt_of_heap M.b)).trans M.b
  have ho' := ownsRow_below ho b2
  have hh := ownsRow_below M.hrow b2
  obtain ⟨cur, hcur⟩ := own_block ho'
  exact ⟨set_old u hz (own_ne ho' hz (by decide)), set_old u hb (own_ne ho' hb (by decide)), M.lt, own_set hh h k u (own_ne hh hcur (by decide)), (below_up M.below b2).setCell (p := ⟨h, k, none⟩) ((ho.lt h rfl).1) u⟩
theorem mid_mk {w wc : World} {hd : List ByteArray} {rs : List (List ByteArray)} {B g h : Nat} (hn : rs.length ≤ 1099511627776) (z : wc.heap[w.heap.size]? = some ZT) (b : wc.heap[B]? = some (XT g hd.length h rs.length)) (lt : w.heap.size < B)
    (hrow : wc.ownsRow w.heap.size 9 1 (.slice (some ⟨g, 0, none⟩) hd.length hd.length) hd.length (hd.map Value.string)) (hh : wc.heap[h]? = some (RT rs.length)) (hle : w.heap.size ≤ h) (below : Below w.heap.size w wc) :
    ∃ B' g' h', Value.pointer (some ⟨B, 0, none⟩) = .pointer (some ⟨B', 0, none⟩) ∧ Mid w hd rs.length B' g' h' wc ∧ Filled wc w.heap.size rs h' 0 :=
  ⟨B, g, h, rfl, ⟨z, b, lt, hrow, below⟩, Filled.zero hle hn hh⟩

section ways
variable {w w2 : World} {hd : List ByteArray} {rs : List (List ByteArray)}
/-- what a call leaves that was made in a world with blocks behind w's -/
def Left2 (w W w2 : World) (hd : List ByteArray) (n : Nat) : Prop :=
  W.heap.size = w.heap.size + n ∧ Below w.heap.size w W ∧ Below W.heap.size W w2 ∧ w2.ownsRow W.heap.size 9 1 (.slice (some ⟨W.heap.size, 0, none⟩) hd.length hd.length) hd.length (hd.map Value.string)
theorem Left2.old {W : World} {n k : Nat} {o : Obj} (L : Left2 w W w2 hd n) (h : W.heap[k]? = some o) : w2.heap[k]? = some o := (L.2.2.1.block k (lt_of_heap h)).trans h
theorem Left2.below {W : World} {n : Nat} (L : Left2 w W w2 hd n) : Below w.heap.size w w2 := L.2.1.trans (L.2.2.1.mono L.2.1.size)
theorem Left2.row {W : World} {n : Nat} (L : Left2 w W w2 hd n) : w2.ownsRow w.heap.size 9 1 (.slice (some ⟨w.heap.size + n, 0, none⟩) hd.length hd.length) hd.length (hd.map Value.string) := by
  have := L.2.2.2.mono L.2.1.size
  rw [L.1] at this; exact this
theorem Left2.size {W : World} {n : Nat} (L : Left2 w W w2 hd n) : w.heap.size + n ≤ w2.heap.size := by rw [← L.1]; exact L.2.2.1.size
theorem w1_at : (w.alloc ZT).heap[w.heap.size]? = some ZT := World.alloc_heap_new w _
theorem w2_at (o p : Obj) : ((w.alloc o).alloc p).heap[w.heap.size + 1]? = some p := by have := World.alloc_heap_new (w.alloc o) p; simpa using this
theorem w3_at (o p q : Obj) : (((w.alloc o).alloc p).alloc q).heap[w.heap.size + 1 + 1]? = some q := by have := World.alloc_heap_new ((w.alloc o).alloc p) q; simpa using this

theorem way1 (hn : rs.length ≤ 1099511627776) (L : Left2 w (w.alloc ZT).drew w2 hd 1) :
    ∃ B g h, Value.pointer (some ⟨w2.heap.size + 1, 0, none⟩) = .pointer (some ⟨B, 0, none⟩) ∧ Mid w hd rs.length B g h ((w2.alloc (RT rs.length)).alloc (XT (w.heap.size + 1) hd.length w2.heap.size rs.length)) ∧
      Filled ((w2.alloc (RT rs.length)).alloc (XT (w.heap.size + 1) hd.length w2.heap.size rs.length)) w.heap.size rs h 0 := by
  have hs := L.size
  have hz := L.old (k := w.heap.size) (o := ZT) (w1_at (w := w))
  exact mid_mk hn (al_old _ (al_old _ hz)) (by have := World.alloc_heap_new (w2.alloc (RT rs.length)) (XT (w.heap.size + 1) hd.length w2.heap.size rs.length); simpa using this) (by omega)
    ((L.row.alloc _).alloc _) (al_old _ (World.alloc_heap_new w2 _)) (by omega) ((L.below.alloc (by omega) _).alloc (by simp; omega) _)
theorem way2 (hn : rs.length ≤ 1099511627776) (L : Left2 w (w.alloc ZT).drew w2 hd 1) :
    ∃ B g h, Value.pointer (some ⟨w2.heap.size, 0, none⟩) = .pointer (some ⟨B, 0, none⟩) ∧ Mid w hd rs.length B g h ((w2.alloc (XT (w.heap.size + 1) hd.length (w2.heap.size + 1) rs.length)).alloc (RT rs.length)) ∧
      Filled ((w2.alloc (XT (w.heap.size + 1) hd.length (w2.heap.size + 1) rs.length)).alloc (RT rs.length)) w.heap.size rs h 0 := by
  have hs := L.size
  have hz := L.old (k := w.heap.size) (o := ZT) (w1_at (w := w))
  exact mid_mk hn (al_old _ (al_old _ hz)) (al_old _ (World.alloc_heap_new w2 _)) (by omega)
    ((L.row.alloc _).alloc _) (by have := World.alloc_heap_new (w2.alloc (XT (w.heap.size + 1) hd.length (w2.heap.size + 1) rs.length)) (RT rs.length); simpa using this) (by omega) ((L.below.alloc (by omega) _).alloc (by simp; omega) _)
theorem way3 (hn : rs.length ≤ 1099511627776) (L : Left2 w ((w.alloc ZT).alloc (RT rs.length)).drew w2 hd (1 + 1)) :
    ∃ B g h, Value.pointer (some ⟨w2.heap.size, 0, none⟩) = .pointer (some ⟨B, 0, none⟩) ∧ Mid w hd rs.length B g h (w2.alloc (XT (w.heap.size + 1 + 1) hd.length (w.heap.size + 1) rs.length)) ∧
      Filled (w2.alloc (XT (w.heap.size + 1 + 1) hd.length (w.heap.size + 1) rs.length)) w.heap.size rs h 0 := by
  have hs := L.size
  have hz := L.old (k := w.heap.size) (o := ZT) (al_old (RT rs.length) (w1_at (w := w)))
  have hr := L.old (k := w.heap.size + 1) (o := RT rs.length) (w2_at (w := w) ZT _)
  exact mid_mk hn (al_old _ hz) (World.alloc_heap_new w2 _) (by omega) (L.row.alloc _) (al_old _ hr) (by omega) (L.below.alloc (by omega) _)
theorem way4 (hn : rs.length ≤ 1099511627776) (L : Left2 w (((w.alloc ZT).alloc (RT rs.length)).alloc ZT).drew w2 hd (1 + 1 + 1)) :
    ∃ B g h, Value.pointer (some ⟨w.heap.size + 1 + 1, 0, none⟩) = .pointer (some ⟨B, 0, none⟩) ∧ Mid w hd rs.length B g h ((w2.setCell ⟨w.heap.size + 1 + 1, 0, none⟩ (.slice (some ⟨w.heap.size + 1 + 1 + 1, 0, none⟩) hd.length hd.length)).setCell ⟨w.heap.size + 1 + 1, 1, none⟩ (.slice (some ⟨w.heap.size + 1, 0, none⟩) rs.length rs.length)) ∧
      Filled ((w2.setCell ⟨w.heap.size + 1 + 1, 0, none⟩ (.slice (some ⟨w.heap.size + 1 + 1 + 1, 0, none⟩) hd.length hd.length)).setCell ⟨w.heap.size + 1 + 1, 1, none⟩ (.slice (some ⟨w.heap.size + 1, 0, none⟩) rs.length rs.length)) w.heap.size rs h 0 := by
  have hs := L.size
  have hz := L.old (k := w.heap.size) (o := ZT) (al_old ZT (al_old (RT rs.length) (w1_at (w := w))))
  have hr := L.old (k := w.heap.size + 1) (o := RT rs.length) (al_old ZT (w2_at (w := w) ZT _))
  have hx := L.old (k := w.heap.size + 1 + 1) (o := ZT) (w3_at (w := w) ZT (RT rs.length) ZT)
  exact mid_mk hn (set_old _ (set_old _ hz (by omega)) (by omega)) (set_two _ _ hx) (by omega) (own_set (own_set L.row _ _ _ (by omega)) _ _ _ (by omega)) (set_old _ (set_old _ hr (by omega)) (by omega)) (by omega)
    ((L.below.setCell (p := ⟨w.heap.size + 1 + 1, 0, none⟩) (by show w.heap.size ≤ w.heap.size + 1 + 1; omega) _).setCell (p := ⟨w.heap.size + 1 + 1, 1, none⟩) (by show w.heap.size ≤ w.heap.size + 1 + 1; omega) _)
theorem way5 (hn : rs.length ≤ 1099511627776) (L : Left2 w ((w.alloc ZT).alloc ZT).drew w2 hd (1 + 1)) :
    ∃ B g h, Value.pointer (some ⟨w.heap.size + 1, 0, none⟩) = .pointer (some ⟨B, 0, none⟩) ∧ Mid w hd rs.length B g h (((w2.setCell ⟨w.heap.size + 1, 0, none⟩ (.slice (some ⟨w.heap.size + 1 + 1, 0, none⟩) hd.length hd.length)).setCell ⟨w.heap.size + 1, 1, none⟩ (.slice (some ⟨w2.heap.size, 0, none⟩) rs.length rs.length)).alloc (RT rs.length)) ∧
      Filled (((w2.setCell ⟨w.heap.size + 1, 0, none⟩ (.slice (some ⟨w.heap.size + 1 + 1, 0, none⟩) hd.length hd.length)).setCell ⟨w.heap.size + 1, 1, none⟩ (.slice (some ⟨w2.heap.size, 0, none⟩) rs.length rs.length)).alloc (RT rs.length)) w.heap.size rs h 0 := by
  have hs := L.size
  have hz := L.old (k := w.heap.size) (o := ZT) (al_old ZT (w1_at (w := w)))
  have hx := L.old (k := w.heap.size + 1) (o := ZT) (w2_at (w := w) ZT ZT)
  exact mid_mk hn (al_old _ (set_old _ (set_old _ hz (by omega)) (by omega))) (al_old _ (set_two _ _ hx)) (by omega) ((own_set (own_set L.row _ _ _ (by omega)) _ _ _ (by omega)).alloc _)
    (by have := World.alloc_heap_new ((w2.setCell ⟨w.heap.size + 1, 0, none⟩ (.slice (some ⟨w.heap.size + 1 + 1, 0, none⟩) hd.length hd.length)).setCell ⟨w.heap.size + 1, 1, none⟩ (.slice (some ⟨w2.heap.size, 0, none⟩) rs.length rs.length)) (RT rs.length); simpa using this) (by omega)
    (((L.below.setCell (p := ⟨w.heap.size + 1, 0, none⟩) (by show w.heap.size ≤ w.heap.size + 1; omega) _).setCell (p := ⟨w.heap.size + 1, 1, none⟩) (by show w.heap.size ≤ w.heap.size + 1; omega) _).alloc (by simp; omega) _)
theorem way6 (hn : rs.length ≤ 1099511627776) (L : Left2 w (((w.alloc ZT).alloc ZT).alloc (RT rs.length)).drew w2 hd (1 + 1 + 1)) :
    ∃ B g h, Value.pointer (some ⟨w.heap.size + 1, 0, none⟩) = .pointer (some ⟨B, 0, none⟩) ∧ Mid w hd rs.length B g h ((w2.setCell ⟨w.heap.size + 1, 0, none⟩ (.slice (some ⟨w.heap.size + 1 + 1 + 1, 0, none⟩) hd.length hd.length)).setCell ⟨w.heap.size + 1, 1, none⟩ (.slice (some ⟨w.heap.size + 1 + 1, 0, none⟩) rs.length rs.length)) ∧
      Filled ((w2.setCell ⟨w.heap.size + 1, 0, none⟩ (.slice (some ⟨w.heap.size + 1 + 1 + 1, 0, none⟩) hd.length hd.length)).setCell ⟨w.heap.size + 1, 1, none⟩ (.slice (some ⟨w.heap.size + 1 + 1, 0, none⟩) rs.length rs.length)) w.heap.size rs h 0 := by
  have hs := L.size
  have hz := L.old (k := w.heap.size) (o := ZT) (al_old (RT rs.length) (al_old ZT (w1_at (w := w))))
  have hx := L.old (k := w.heap.size + 1) (o := ZT) (al_old (RT rs.length) (w2_at (w := w) ZT ZT))
  have hr := L.old (k := w.heap.size + 1 + 1) (o := RT rs.length) (w3_at (w := w) ZT ZT (RT rs.length))
  exact mid_mk hn (set_old _ (set_old _ hz (by omega)) (by omega)) (set_two _ _ hx) (by omega) (own_set (own_set L.row _ _ _ (by omega)) _ _ _ (by omega)) (set_old _ (set_old _ hr (by omega)) (by omega)) (by omega)
    ((L.below.setCell (p := ⟨w.heap.size + 1, 0, none⟩) (by show w.heap.size ≤ w.heap.size + 1; omega) _).setCell (p := ⟨w.heap.size + 1, 1, none⟩) (by show w.heap.size ≤ w.heap.size + 1; omega) _)
end ways

theorem Filled.at {wr w2 : World} {base : Nat} {rs : List (List ByteArray)} {h k : Nat} (F : Filled wr base rs h k) (b2 : Below wr.heap.size wr w2) (hk : k < rs.length) : ∃ old, w2.cell? ⟨h, k, none⟩ = some old := by
  obtain ⟨vs, hl, ho, _⟩ := F
  have hlen : k < (vs ++ List.replicate (rs.length - k) (Value.slice none 0 0)).length := by simp; omega
  exact ⟨_, by rw [(ownsRow_below ho b2).cellAt k (by omega), List.getElem?_eq_getElem hlen]⟩
theorem Filled.soft {wr w2 : World} {base : Nat} {rs : List (List ByteArray)} {h k : Nat} (F : Filled wr base rs h k) (b2 : Below wr.heap.size wr w2) (j : Nat) : w2.frozen? ⟨h, j, none⟩ = false := by
  obtain ⟨vs, hl, ho, _⟩ := F
  exact (ownsRow_below ho b2).frozenAt j

set_option maxRecDepth 100000 in
theorem made_rows (W : World) (n : Nat) (hn : n ≤ 1099511627776) : (Instr.makeSlice 23 (.int .i64 (n : Int)) (.int .i64 (n : Int))).run Tryz.prog W = .ok (.slice (some ⟨W.heap.size, 0, none⟩) n n) (W.alloc (.cells (madeCells #[.slice none 0 0] n) 22)) :=
  run_make_row' 23 22 (.slice none 0 0) 24 Tryz.underlying23 (by kernel_rfl) rfl .i64 .i64 n (by omega) (by omega) W

set_option maxRecDepth 100000 in
set_option maxHeartbeats 4000000 in
theorem put_any (ho : Option Addr) (hc : Nat) (hd : List ByteArray) (ro : Option Addr) (rc : Nat) (rs : List (List ByteArray)) (w : World) (hn : hd.length ≤ 1099511627776) (hs : ∀ c ∈ hd, c.size ≤ 281474976710656) (hH : StrRow w ho hd)
    (hn2 : rs.length ≤ 1099511627776) (hs2 : ∀ r ∈ rs, r.length ≤ 1099511627776 ∧ ∀ c ∈ r, c.size ≤ 281474976710656) (hR : RowsAt w ro rs) :
    Calls Tryz.prog 103 #[.slice ho hd.length hc, .slice ro rs.length rc] w fun e w' => ∃ g h, e = .returned (.agg #[.slice (some ⟨g, 0, none⟩) hd.length hd.length, .slice (some ⟨h, 0, none⟩) rs.length rs.length]) ∧
      StrRow w' (some ⟨g, 0, none⟩) hd ∧ RowsAt w' (some ⟨h, 0, none⟩) rs ∧ (∃ vs, w'.ownsRow w.heap.size 22 1 (.slice (some ⟨h, 0, none⟩) rs.length rs.length) rs.length vs) ∧ Below w.heap.size w w' ∧ w'.ownsRow w.heap.size 9 1 (.slice (some ⟨g, 0, none⟩) hd.length hd.length) hd.length (hd.map Value.string) := by
  have C := Lib.hid (fun W (h : Below w.heap.size w W) => copied_any ho hc hd W hn hs (hH.kept h))
  have HRo := Lib.hid hR
  have HS2 := Lib.hid hs2
  have hmk := fun W => made_rows W rs.length hn2
  clear hH hR hs hs2
  go_enter Tryz.func103, Tryz.ntmps103
  go_wp2_with fail
  go_upto_region 1 with fail
  go_cut [5] from 6 (fun p wc => ∃ B g h, p = .pointer (some ⟨B, 0, none⟩) ∧ Mid w hd rs.length B g h wc ∧ Filled wc w.heap.size rs h 0)
  case first =>
    go_region_with (go_at_call 132; refine (C.out _ (by repeat (first | exact Below.refl _ _ | refine Below.drew ?_ | refine Below.alloc ?_ (by (try simp) <;> omega) _))).mono ?_; rintro e w2 ⟨rfl, ho, b2⟩; have hk : ∀ b j, b < _ → w2.cell? ⟨b, j, none⟩ = _ := (fun b j h => b2.cell (p := ⟨b, j, none⟩) h); have hf : ∀ b j, b < _ → w2.frozen? ⟨b, j, none⟩ = _ := (fun b j h => b2.frozen (p := ⟨b, j, none⟩) h); have hz := b2.size; simp at hz; simp at hk hf; have HO := Lib.hid ho; have HB2 := Lib.hid b2; clear ho b2; try (have l1 : w.heap.size + 1 < w2.heap.size := by omega); try (have l2 : w.heap.size + 1 + 1 < w2.heap.size := by omega))
    all_goals (go_wp2_with fail; go_meet)
    all_goals first
      | exact way1 hn2 ⟨by simp, (by repeat (first | exact Below.refl _ _ | refine Below.drew ?_ | refine Below.alloc ?_ (by (try simp) <;> omega) _)), HB2.out, HO.out⟩
      | exact way2 hn2 ⟨by simp, (by repeat (first | exact Below.refl _ _ | refine Below.drew ?_ | refine Below.alloc ?_ (by (try simp) <;> omega) _)), HB2.out, HO.out⟩
      | exact way3 hn2 ⟨by simp, (by repeat (first | exact Below.refl _ _ | refine Below.drew ?_ | refine Below.alloc ?_ (by (try simp) <;> omega) _)), HB2.out, HO.out⟩
      | exact way4 hn2 ⟨by simp, (by repeat (first | exact Below.refl _ _ | refine Below.drew ?_ | refine Below.alloc ?_ (by (try simp) <;> omega) _)), HB2.out, HO.out⟩
      | exact way5 hn2 ⟨by simp, (by repeat (first | exact Below.refl _ _ | refine Below.drew ?_ | refine Below.alloc ?_ (by (try simp) <;> omega) _)), HB2.out, HO.out⟩
      | exact way6 hn2 ⟨by simp, (by repeat (first | exact Below.refl _ _ | refine Below.drew ?_ | refine Below.alloc ?_ (by (try simp) <;> omega) _)), HB2.out, HO.out⟩
  case rest =>
    obtain ⟨B, g, h, rfl, M, F⟩ := hcut
    have HM := Lib.hid M
    have HF := Lib.hid F
    clear C M F hmk
    go_wp2_with fail
    go_loopw [16] (fun i wr => ∃ k : Nat, k ≤ rs.length ∧ i = .int .i64 k ∧ Hid (Mid w hd rs.length B g h wr) ∧ Hid (Filled wr w.heap.size rs h k)) (fun i _ => rs.length - (intOf i).toNat)
    case atStart => exact ⟨0, Nat.zero_le _, rfl, HM, HF⟩
    case round =>
      obtain ⟨k, hk, rfl, HM, HF⟩ := hrel
      by_cases hlt : k < rs.length
      · obtain ⟨r, hr⟩ : ∃ r, rs[k]? = some r := ⟨_, List.getElem?_eq_getElem hlt⟩
        have HX := Lib.hid hr
        rcases (HRo.out.kept HM.out.below) with h0 | ⟨A, rfl, hA, hcell⟩
        · rw [h0] at hlt; simp at hlt
        obtain ⟨ro1, rc1, hc1, hs1⟩ := hcell k r hr
        have C1 := Lib.hid (copied_any ro1 rc1 r wr.drew (HS2.out r (List.mem_of_getElem? hr)).1 (HS2.out r (List.mem_of_getElem? hr)).2 hs1)
        clear hcell hr hs1
        have q0 : wr.cell? ⟨B, 1, none⟩ = some (.slice (some ⟨h, 0, none⟩) rs.length rs.length) := (Lib.cell_of_heap HM.out.b 1).trans rfl
        have lB := lt_of_heap HM.out.b
        go_wp2_with fail
        go_region_with (go_at_call 132; refine C1.out.mono ?_; rintro e w2 ⟨rfl, ho, b2⟩; have B2 := Lib.hid ((Below.drew (Below.refl _ wr)).trans b2); have HO := Lib.hid ho; have q1 := ((B2.out.block B lB).trans HM.out.b); have q2 : w2.cell? ⟨B, 1, none⟩ = some (.slice (some ⟨h, 0, none⟩) rs.length rs.length) := (Lib.cell_of_heap q1 1).trans rfl; obtain ⟨old, q3⟩ : ∃ old, w2.cell? ⟨h, k, none⟩ = some old := (Filled.at HF.out B2.out hlt); have q4 : w2.frozen? ⟨h, k, none⟩ = false := (Filled.soft HF.out B2.out k); clear ho b2 q1)
        all_goals (go_wp2_with fail)
        all_goals go_roundw
        all_goals first
          | exact ⟨k + 1, by omega, by go_num, Lib.hid (HM.out.next HF.out B2.out), Lib.hid (HF.out.next HX.out HM.out.below.size B2.out HO.out)⟩
          | (simp [intOf]; omega)
      · obtain rfl : k = rs.length := by omega
        have c0 : wr.cell? ⟨B, 0, none⟩ = some (.slice (some ⟨g, 0, none⟩) hd.length hd.length) := (Lib.cell_of_heap HM.out.b 0).trans rfl
        have c1 : wr.cell? ⟨B, 1, none⟩ = some (.slice (some ⟨h, 0, none⟩) rs.length rs.length) := (Lib.cell_of_heap HM.out.b 1).trans rfl
        have z0 : wr.cell? ⟨w.heap.size, 0, none⟩ = some (.slice none 0 0) := (Lib.cell_of_heap HM.out.z 0).trans rfl
        have z1 : wr.cell? ⟨w.heap.size, 1, none⟩ = some (.slice none 0 0) := (Lib.cell_of_heap HM.out.z 1).trans rfl
        have f0 : wr.frozen? ⟨w.heap.size, 0, none⟩ = false := Lib.frozen_of_heap HM.out.z 0
        have f1 : wr.frozen? ⟨w.heap.size, 1, none⟩ = false := Lib.frozen_of_heap HM.out.z 1
        go_wp2_with fail
        refine bodyPost_ret (v := .agg #[.slice (some ⟨g, 0, none⟩) hd.length hd.length, .slice (some ⟨h, 0, none⟩) rs.length rs.length]) (by simp [results, Tryz.results103, go_sem, z0, z1]) rfl ?_
        have F1 := (HF.out.other HM.out.z 0 (.slice (some ⟨g, 0, none⟩) hd.length hd.length))
        have hz1 := heap_setCell_same wr w.heap.size 0 _ _ (.slice (some ⟨g, 0, none⟩) hd.length hd.length) HM.out.z
        have F2 := (F1.other hz1 1 (.slice (some ⟨h, 0, none⟩) rs.length rs.length)).rows
        have H1 := own_set HM.out.hrow w.heap.size 0 (.slice (some ⟨g, 0, none⟩) hd.length hd.length) (own_ne HM.out.hrow HM.out.z (by decide))
        have H2' := (own_set H1 w.heap.size 1 (.slice (some ⟨h, 0, none⟩) rs.length rs.length) (own_ne H1 hz1 (by decide)))
        have H2 := own_strs H2'
        exact ⟨g, h, rfl, H2, F2.1, F2.2, (HM.out.below.setCell (p := ⟨w.heap.size, 0, none⟩) (Nat.le_refl _) _).setCell (p := ⟨w.heap.size, 1, none⟩) (Nat.le_refl _) _, H2'⟩
end Go.Proofs.YtigijgcldgbokaaGreat
