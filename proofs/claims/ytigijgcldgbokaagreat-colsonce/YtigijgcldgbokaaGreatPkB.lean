/-
  Choices of an A, a B and a score: which one is better, which are taken, and what holds of those that are.
  Conditions: none.
  What lies in memory: slices of choices (structs of three numbers); a new one that the code owns.
  Conditions: none.
  Which of two choices is better: what the program answers; that nothing but boxes of its own is left behind.
  Conditions: none.
  A range over a function whose rounds read what the iterator laid, and whose iterator reads what the rounds wrote: the iterator may rely on a fact that the rounds keep (Rm), a round on a fact of what it is handed (Ok); both sides' invariants stand whatever is laid behind the memory there is (Below).
  Conditions: the loop is an outermost one; a round goes on or returns.
  All names and cells of a table are told one by one; how many bytes they have together, and whether one is too long.
  Conditions: tables of at most 2^40 names and rows of at most 2^40 cells; all texts have together at most 2^60 bytes.
  How many bytes the texts of a table have together, and whether one of them is too long: what the program answers.
  Conditions: as those of TTexts; all texts have together at most 2^60 bytes.
-/
import Derived.Test.YtigijgcldgbokaaGreatPkA
import Derived.WalkKit
import Derived.WalkMore
import Derived.OwnWalk
import Derived.Lib.Hide
import Derived.Laws.OwnMore
import Derived.Test.YtigijgcldgbokaaGreatProg
import Derived.IntWalk
import Derived.Sort.Grow
import Derived.StillTailTactics
import Derived.Deep.Cut
import Derived.Deep.RegionWith
import Derived.Deep.RegionHeld3
import Derived.RangeFuncNested
import Derived.RangeFuncBound
import Derived.RangeFuncCalls
import Derived.RangeFuncLeaves
import Derived.RangeFuncFrom
import Derived.RangeFuncBox
namespace Go.Proofs.YtigijgcldgbokaaGreat
set_option linter.unusedVariables false
set_option linter.unusedSimpArgs false

/-- a choice: an A, a B, and a score -/
abbrev T3 := Int × Int × Int
abbrev TL := List T3
/-- which of two choices stands ahead: the better one -/
def cmpT (c d : T3) : Int := if cmpI d.2.2 c.2.2 ≠ 0 then cmpI d.2.2 c.2.2 else if cmpI c.1 d.1 ≠ 0 then cmpI c.1 d.1 else cmpI c.2.1 d.2.1
/-- is one better -/
def betterT (c d : T3) : Bool := if c.2.2 ≠ d.2.2 then decide (d.2.2 < c.2.2) else if c.1 ≠ d.1 then decide (c.1 < d.1) else decide (c.2.1 < d.2.1)
theorem better_iff (c d : T3) : betterT c d = true ↔ d.2.2 < c.2.2 ∨ (c.2.2 = d.2.2 ∧ (c.1 < d.1 ∨ (c.1 = d.1 ∧ c.2.1 < d.2.1))) := by
  unfold betterT
  split
  · rename_i h; simp; omega
  · rename_i h
    split
    · rename_i h2; simp; omega
    · rename_i h2; simp; omega
theorem cmpT_neg (c d : T3) : decide (cmpT c d < 0) = betterT c d := by
  have key : cmpT c d < 0 ↔ betterT c d = true := by
    rw [better_iff]
    unfold cmpT cmpI
    obtain ⟨a, b, s⟩ := c
    obtain ⟨x, y, t⟩ := d
    dsimp
    rcases Int.lt_trichotomy t s with h | h | h
    · have h2 : ¬ s < t := by omega
      simp only [h, if_true]; simp
    · subst h
      simp only [Int.lt_irrefl, if_false, not_true, false_or, true_and]
      rcases Int.lt_trichotomy a x with g | g | g
      · simp [g]
      · subst g
        simp only [Int.lt_irrefl, if_false, not_true, false_or, true_and]
        rcases Int.lt_trichotomy b y with k | k | k
        · simp [k]
        · subst k; simp
        · have k2 : ¬ b < y := by omega
          simp [k, k2]
      · have g2 : ¬ a < x := by omega
        have g3 : ¬ a = x := by omega
        simp [g, g2, g3]
    · have h2 : ¬ t < s := by omega
      have h3 : ¬ s = t := by omega
      simp [h, h2, h3]
  cases hb : betterT c d with
  | true => exact decide_eq_true (key.2 hb)
  | false => exact decide_eq_false (fun h => by have := key.1 h; rw [hb] at this; cases this)
theorem better_irrefl (c : T3) : betterT c c = false := by
  cases h : betterT c c with
  | false => rfl
  | true => rw [better_iff] at h; omega
theorem better_trans {c d e : T3} (h : betterT c d = true) (k : betterT d e = true) : betterT c e = true := by
  rw [better_iff] at *; omega
theorem better_ntrans {c d e : T3} (h : betterT c d = false) (k : betterT d e = false) : betterT c e = false := by
  cases hc : betterT c e with
  | false => rfl
  | true =>
    have h' : ¬ betterT c d = true := by rw [h]; simp
    have k' : ¬ betterT d e = true := by rw [k]; simp
    rw [better_iff] at *; omega
theorem better_either {c d : T3} (h : betterT c d = false) (k : betterT d c = false) : c = d := by
  have h' : ¬ betterT c d = true := by rw [h]; simp
  have k' : ¬ betterT d c = true := by rw [k]; simp
  rw [better_iff] at *
  obtain ⟨a, b, s⟩ := c
  obtain ⟨x, y, t⟩ := d
  dsimp at *
  have h1 : s = t := by omega
  have h2 : a = x := by omega
  have h3 : b = y := by omega
  rw [h1, h2, h3]
theorem better_one {c d : T3} (h : betterT c d = true) : betterT d c = false := by
  cases k : betterT d c with
  | false => rfl
  | true => have := better_trans h k; rw [better_irrefl] at this; cases this

/-- may a choice be taken, beside those that are -/
def okT (tk : PL) (c : T3) : Bool := decide (0 ≤ c.1) && decide (0 ≤ c.2.1) && decide (c.1 ∉ tk.map Prod.fst) && decide (c.2.1 ∉ tk.map Prod.snd)
theorem ok_iff (tk : PL) (c : T3) : okT tk c = true ↔ 0 ≤ c.1 ∧ 0 ≤ c.2.1 ∧ c.1 ∉ tk.map Prod.fst ∧ c.2.1 ∉ tk.map Prod.snd := by
  simp only [okT, Bool.and_eq_true, decide_eq_true_eq]
  constructor
  · rintro ⟨⟨⟨a, b⟩, c⟩, d⟩; exact ⟨a, b, c, d⟩
  · rintro ⟨a, b, c, d⟩; exact ⟨⟨⟨a, b⟩, c⟩, d⟩
def stepT (tk : PL) (c : T3) : PL := if okT tk c then tk ++ [(c.1, c.2.1)] else tk
/-- those that are taken of a list that is gone through from its front -/
def scanT (l : TL) : PL := l.foldl stepT []
theorem scan_snoc (l : TL) (c : T3) : scanT (l ++ [c]) = stepT (scanT l) c := by simp [scanT, List.foldl_append]
/-- the one than which none is better -/
def bestT (x : T3) (l : TL) : T3 := l.foldl (fun b y => if betterT y b then y else b) x
theorem best_snoc (x : T3) (l : TL) (y : T3) : bestT x (l ++ [y]) = if betterT y (bestT x l) then y else bestT x l := by unfold bestT; rw [List.foldl_append]; rfl
theorem best_spec (l : TL) : ∀ x, bestT x l ∈ x :: l ∧ ∀ y ∈ x :: l, betterT y (bestT x l) = false := by
  induction l with
  | nil => intro x; simp [bestT, better_irrefl]
  | cons z l ih =>
    intro x
    have e : bestT x (z :: l) = bestT (if betterT z x then z else x) l := rfl
    rw [e]
    cases hz : betterT z x with
    | true =>
      obtain ⟨h1, h2⟩ := ih z
      simp only [if_true]
      refine ⟨List.mem_cons_of_mem _ h1, fun y hy => ?_⟩
      rcases List.mem_cons.1 hy with rfl | hy
      · exact better_ntrans (better_one hz) (h2 z (by simp))
      · exact h2 y hy
    | false =>
      obtain ⟨h1, h2⟩ := ih x
      simp only [Bool.false_eq_true, if_false]
      refine ⟨?_, fun y hy => ?_⟩
      · rcases List.mem_cons.1 h1 with h | h
        · rw [h]; simp
        · simp [h]
      · rcases List.mem_cons.1 hy with rfl | hy
        · exact h2 y (by simp)
        · rcases List.mem_cons.1 hy with rfl | hy
          · exact better_ntrans hz (h2 x (by simp))
          · exact h2 y (by simp [hy])
theorem best_is {x m : T3} {l : TL} (hm : m ∈ x :: l) (h : ∀ y ∈ x :: l, betterT y m = false) : bestT x l = m := by
  obtain ⟨h1, h2⟩ := best_spec l x
  exact better_either (h _ h1) (h2 m hm)
/-- choices that have neither the A nor the B of one -/
def withoutT (l : TL) (x : T3) : TL := l.filter (fun y => decide (y.1 ≠ x.1) && decide (y.2.1 ≠ x.2.1))
/-- choices whose A and B are both from 0 on -/
def freeT (l : TL) : TL := l.filter (fun c => decide (0 ≤ c.1) && decide (0 ≤ c.2.1))
/-- one by one: the best one is taken, what has its A or its B is left out -/
def refT : Nat → TL → PL
  | 0, _ => []
  | _ + 1, [] => []
  | n + 1, x :: l => ((bestT x l).1, (bestT x l).2.1) :: refT n (withoutT (x :: l) (bestT x l))
theorem without_less (x : T3) (l : TL) : (withoutT (x :: l) (bestT x l)).length ≤ l.length := by
  have hm := (best_spec l x).1
  unfold withoutT
  have : ∀ (m : T3) (r : TL), m ∈ r → (r.filter (fun y => decide (y.1 ≠ m.1) && decide (y.2.1 ≠ m.2.1))).length < r.length := fun m r hr => by
    refine List.length_filter_lt_length_iff_exists.2 ⟨m, hr, by simp⟩
  have := this _ _ hm
  rw [List.length_cons] at this; omega
theorem ref_none (n : Nat) : refT n [] = [] := by cases n <;> rfl
theorem ref_more : ∀ (n m : Nat) (l : TL), l.length ≤ n → n ≤ m → refT m l = refT n l
  | 0, m, l, h, _ => by
    have : l = [] := List.eq_nil_of_length_eq_zero (by omega)
    subst this; rw [ref_none, ref_none]
  | n + 1, m, [], h, _ => by rw [ref_none, ref_none]
  | n + 1, m, x :: l, h, k => by
    obtain ⟨m, rfl⟩ : ∃ q, m = q + 1 := ⟨m - 1, by omega⟩
    have := without_less x l
    rw [refT, refT, ref_more n m _ (by simp at h; omega) (by omega)]
theorem ref_perm : ∀ (n : Nat) (l l' : TL), l.Perm l' → refT n l = refT n l'
  | 0, l, l', _ => rfl
  | n + 1, [], l', h => by rw [List.nil_perm.1 h]
  | n + 1, x :: l, [], h => by have := h.length_eq; simp at this
  | n + 1, x :: l, x' :: l', h => by
    obtain ⟨h1, h2⟩ := best_spec l' x'
    have e : bestT x l = bestT x' l' := best_is (h.mem_iff.2 h1) (fun y hy => h2 y (h.mem_iff.1 hy))
    rw [refT, refT, e]
    have hp : (withoutT (x :: l) (bestT x' l')).Perm (withoutT (x' :: l') (bestT x' l')) := h.filter _
    rw [ref_perm n _ _ hp]
/-- in order: none is better than one that stands ahead -/
def SortedT (l : TL) : Prop := l.Pairwise (fun x y => betterT y x = false)
theorem scan_ref : ∀ (S : TL) (tk : PL) (n : Nat), SortedT S → S.length ≤ n → S.foldl stepT tk = tk ++ refT n (S.filter (okT tk))
  | [], tk, n, _, _ => by simp [ref_none]
  | c :: S, tk, n, hs, hn => by
    obtain ⟨h1, h2⟩ := List.pairwise_cons.1 hs
    rw [List.foldl_cons]
    cases hc : okT tk c with
    | false =>
      have e : stepT tk c = tk := by simp [stepT, hc]
      rw [e, scan_ref S tk n h2 (by simp at hn; omega), List.filter_cons]
      simp [hc]
    | true =>
      obtain ⟨n, rfl⟩ : ∃ q, n = q + 1 := ⟨n - 1, by simp at hn; omega⟩
      have e : stepT tk c = tk ++ [(c.1, c.2.1)] := by simp [stepT, hc]
      have eb : bestT c (S.filter (okT tk)) = c := best_is (by simp) (fun y hy => by
        rcases List.mem_cons.1 hy with rfl | hy
        · exact better_irrefl _
        · exact h1 y (List.mem_filter.1 hy).1)
      have ef : withoutT (c :: S.filter (okT tk)) c = S.filter (okT (tk ++ [(c.1, c.2.1)])) := by
        unfold withoutT
        rw [List.filter_cons, if_neg (by simp), List.filter_filter]
        refine List.filter_congr (fun y _ => ?_)
        rw [Bool.eq_iff_iff, Bool.and_eq_true, ok_iff, ok_iff]
        simp only [Bool.and_eq_true, decide_eq_true_eq, List.map_append, List.map_cons, List.map_nil, List.mem_append, List.mem_singleton, not_or]
        constructor
        · rintro ⟨⟨a, b⟩, c, d, e, f⟩; exact ⟨c, d, ⟨e, a⟩, f, b⟩
        · rintro ⟨c, d, ⟨e, a⟩, f, b⟩; exact ⟨⟨a, b⟩, c, d, e, f⟩
      rw [e, scan_ref S _ n h2 (by simp at hn; omega), List.filter_cons, if_pos hc, refT, eb, ef]
      simp
theorem free_ok (l : TL) : l.filter (okT []) = freeT l := by
  unfold freeT
  refine List.filter_congr (fun y _ => ?_)
  simp [okT]
/-- a list of choices, the better ones ahead -/
def sortT (l : TL) : TL := l.mergeSort (fun x y => !betterT y x)
theorem sortT_perm (l : TL) : (sortT l).Perm l := List.mergeSort_perm _ _
theorem sortT_len (l : TL) : (sortT l).length = l.length := (sortT_perm l).length_eq
theorem sortT_sorted (l : TL) : SortedT (sortT l) := by
  have := List.pairwise_mergeSort (le := fun x y => !betterT y x) (fun a b c h k => by
    simp only [Bool.not_eq_true'] at h k ⊢
    exact better_ntrans k h) (fun a b => by
    simp only [Bool.or_eq_true, Bool.not_eq_true']
    cases h : betterT b a with
    | false => exact .inl rfl
    | true => exact .inr (better_one h)) l
  exact this.imp (fun h => by simpa using h)
theorem scan_sort (l : TL) : scanT (sortT l) = refT l.length (freeT l) := by
  unfold scanT
  rw [scan_ref (sortT l) [] l.length (sortT_sorted l) (by rw [sortT_len]; exact Nat.le_refl _), free_ok, List.nil_append]
  exact ref_perm _ _ _ ((sortT_perm l).filter _)
/-- what is taken of a list -/
structure TakenT (l : TL) (tk : PL) : Prop where
  from0 : ∀ p ∈ tk, 0 ≤ p.1 ∧ 0 ≤ p.2
  choice : ∀ p ∈ tk, ∃ c ∈ l, c.1 = p.1 ∧ c.2.1 = p.2
  fst : (tk.map Prod.fst).Nodup
  snd : (tk.map Prod.snd).Nodup
  best : ∀ c ∈ l, 0 ≤ c.1 → 0 ≤ c.2.1 → (c.1, c.2.1) ∈ tk ∨ ∃ d ∈ l, (d.1, d.2.1) ∈ tk ∧ (d.1 = c.1 ∨ d.2.1 = c.2.1) ∧ betterT c d = false
theorem nodup_snoc {l : List Int} {a : Int} (h : l.Nodup) (ha : a ∉ l) : (l ++ [a]).Nodup :=
  List.nodup_append.2 ⟨h, by simp, fun x hx y hy => by simp at hy; subst hy; exact fun e => ha (e ▸ hx)⟩
theorem taken_step {l : TL} {tk : PL} (h : TakenT l tk) (c : T3) (hb : ∀ d ∈ l, betterT c d = false) : TakenT (l ++ [c]) (stepT tk c) := by
  cases hc : okT tk c with
  | true =>
    have e : stepT tk c = tk ++ [(c.1, c.2.1)] := by simp [stepT, hc]
    obtain ⟨o1, o2, o3, o4⟩ := (ok_iff tk c).1 hc
    rw [e]
    refine ⟨fun p hp => ?_, fun p hp => ?_, ?_, ?_, fun x hx x1 x2 => ?_⟩
    · rcases List.mem_append.1 hp with hp | hp
      · exact h.from0 p hp
      · simp at hp; subst hp; exact ⟨o1, o2⟩
    · rcases List.mem_append.1 hp with hp | hp
      · obtain ⟨y, hy, e⟩ := h.choice p hp; exact ⟨y, by simp [hy], e⟩
      · simp at hp; subst hp; exact ⟨c, by simp, rfl, rfl⟩
    · rw [List.map_append]; exact nodup_snoc h.fst o3
    · rw [List.map_append]; exact nodup_snoc h.snd o4
    · rcases List.mem_append.1 hx with hx | hx
      · rcases h.best x hx x1 x2 with g | ⟨d, d1, d2, d3, d4⟩
        · exact .inl (by simp [g])
        · exact .inr ⟨d, by simp [d1], by simp [d2], d3, d4⟩
      · simp at hx; subst hx; exact .inl (by simp)
  | false =>
    have e : stepT tk c = tk := by simp [stepT, hc]
    rw [e]
    refine ⟨h.from0, fun p hp => ?_, h.fst, h.snd, fun x hx x1 x2 => ?_⟩
    · obtain ⟨y, hy, e⟩ := h.choice p hp; exact ⟨y, by simp [hy], e⟩
    · rcases List.mem_append.1 hx with hx | hx
      · rcases h.best x hx x1 x2 with g | ⟨d, d1, d2, d3, d4⟩
        · exact .inl g
        · exact .inr ⟨d, by simp [d1], d2, d3, d4⟩
      · simp at hx; subst hx
        have : ∃ p ∈ tk, p.1 = x.1 ∨ p.2 = x.2.1 := by
          by_cases h3 : x.1 ∈ tk.map Prod.fst
          · obtain ⟨p, hp, e⟩ := List.mem_map.1 h3; exact ⟨p, hp, .inl e⟩
          · by_cases h4 : x.2.1 ∈ tk.map Prod.snd
            · obtain ⟨p, hp, e⟩ := List.mem_map.1 h4; exact ⟨p, hp, .inr e⟩
            · have := (ok_iff tk x).2 ⟨x1, x2, h3, h4⟩; rw [hc] at this; cases this
        obtain ⟨p, hp, hor⟩ := this
        obtain ⟨d, hd, e1, e2⟩ := h.choice p hp
        exact .inr ⟨d, by simp [hd], by rw [e1, e2]; exact hp, by rw [e1, e2]; exact hor, hb d hd⟩
theorem taken_scan : ∀ (Q P : TL) (tk : PL), SortedT (P ++ Q) → TakenT P tk → TakenT (P ++ Q) (Q.foldl stepT tk)
  | [], P, tk, _, h => by simpa using h
  | c :: Q, P, tk, hs, h => by
    have := taken_step h c (fun d hd => (List.pairwise_append.1 hs).2.2 d hd c (by simp))
    have := taken_scan Q (P ++ [c]) _ (by simpa using hs) this
    simpa using this
theorem taken_sort (l : TL) : TakenT (sortT l) (scanT (sortT l)) := by
  have := taken_scan (sortT l) [] [] (sortT_sorted l) ⟨by simp, by simp, by simp, by simp, by simp⟩
  simpa [scanT] using this
theorem taken_all (l : TL) : TakenT l (scanT (sortT l)) := by
  have h := taken_sort l
  have hm := fun c => (sortT_perm l).mem_iff (a := c)
  exact ⟨h.from0, fun p hp => by obtain ⟨c, hc, e⟩ := h.choice p hp; exact ⟨c, (hm c).1 hc, e⟩, h.fst, h.snd, fun c hc c1 c2 => by
    rcases h.best c ((hm c).2 hc) c1 c2 with g | ⟨d, d1, d2⟩
    · exact .inl g
    · exact .inr ⟨d, (hm d).1 d1, d2⟩⟩

/-- what is taken, in order of the Bs -/
def pickL (l : TL) : PL := sortB (scanT (sortT l))
theorem pick_perm {l l' : TL} (h : l.Perm l') : pickL l = pickL l' := by
  have hp : (freeT l).Perm (freeT l') := h.filter _
  unfold pickL
  rw [scan_sort, scan_sort, h.length_eq, ref_perm _ _ _ hp]
theorem pick_ref (l : TL) : pickL l = sortB (refT l.length (freeT l)) := by unfold pickL; rw [scan_sort]
theorem sortB_perm (l : PL) : (sortB l).Perm l := stab_perm (sortB_stab l).2
theorem pick_scan (l : TL) : (pickL l).Perm (scanT (sortT l)) := sortB_perm _
theorem pick_taken (l : TL) : TakenT l (pickL l) := by
  have h := taken_all l
  have hp := pick_scan l
  refine ⟨fun p hm => h.from0 p (hp.mem_iff.1 hm), fun p hm => h.choice p (hp.mem_iff.1 hm), (hp.map Prod.fst).nodup_iff.2 h.fst, (hp.map Prod.snd).nodup_iff.2 h.snd, fun c hc c1 c2 => ?_⟩
  rcases h.best c hc c1 c2 with g | ⟨d, d1, d2, d3, d4⟩
  · exact .inl (hp.mem_iff.2 g)
  · exact .inr ⟨d, d1, hp.mem_iff.2 d2, d3, d4⟩
theorem pick_sorted (l : TL) : Sorted (pickL l) := (sortB_stab _).1
theorem pick_keys (l : TL) (ss : List Int) (f : Int → Int) (hp : ss.Perm ((scanT (sortT l)).map Prod.snd)) (hf : ∀ p ∈ scanT (sortT l), f p.2 = p.1) : (ss.mergeSort (fun x y => decide (x ≤ y))).map (fun b => (f b, b)) = pickL l := by
  have h1 : ((ss.mergeSort (fun x y => decide (x ≤ y))).map (fun b => (f b, b))).Perm (scanT (sortT l)) := by
    have e : ((scanT (sortT l)).map Prod.snd).map (fun b => (f b, b)) = scanT (sortT l) := by
      rw [List.map_map]
      exact (List.map_congr_left (fun p hp => by show (f p.2, p.2) = id p; rw [hf p hp]; rfl)).trans (List.map_id _)
    have := ((List.mergeSort_perm ss (fun x y => decide (x ≤ y))).trans hp).map (fun b => (f b, b))
    rwa [e] at this
  refine sorted_perm ?_ (pick_sorted l) (h1.trans (pick_scan l).symm) (pick_taken l).snd
  refine List.pairwise_map.2 ?_
  have := List.pairwise_mergeSort (le := fun x y : Int => decide (x ≤ y)) (fun a b c h k => by simp only [decide_eq_true_eq] at *; omega) (fun a b => by simp only [Bool.or_eq_true, decide_eq_true_eq]; omega) ss
  exact this.imp (fun h => by simpa using h)
theorem taken_len (l : TL) (tk : PL) : (l.foldl stepT tk).length ≤ tk.length + l.length := by
  induction l generalizing tk with
  | nil => simp
  | cons c l ih =>
    have := ih (stepT tk c)
    have h2 : (stepT tk c).length ≤ tk.length + 1 := by unfold stepT; split <;> simp
    rw [List.foldl_cons, List.length_cons]; omega
theorem scan_len (l : TL) : (scanT l).length ≤ l.length := by have := taken_len l []; simpa [scanT] using this
theorem pick_len (l : TL) : (pickL l).length ≤ l.length := by
  rw [(pick_scan l).length_eq]
  exact Nat.le_trans (scan_len _) (by rw [sortT_len]; exact Nat.le_refl _)
theorem pick_okP (l : TL) (h : ∀ c ∈ l, (Lit.int .i64 c.1).wf = true ∧ (Lit.int .i64 c.2.1).wf = true ∧ (Lit.int .i64 c.2.2).wf = true) : okP (pickL l) := fun p hp => by
  obtain ⟨c, hc, e1, e2⟩ := (pick_taken l).choice p hp
  obtain ⟨a, b, _⟩ := h c hc
  rw [← e1, ← e2]; exact ⟨a, b⟩
end Go.Proofs.YtigijgcldgbokaaGreat
namespace Go.Proofs.YtigijgcldgbokaaGreat
open Go.RowKit Go.Shelf
set_option linter.unusedVariables false

/-- numbers that a Go integer holds -/
def okT3 (l : TL) : Prop := ∀ c ∈ l, (Lit.int .i64 c.1).wf = true ∧ (Lit.int .i64 c.2.1).wf = true ∧ (Lit.int .i64 c.2.2).wf = true
/-- the cells of a choice -/
def encT (c : T3) : List Value := [.int .i64 c.1, .int .i64 c.2.1, .int .i64 c.2.2]
/-- the cells of a slice of choices -/
def TripAt (w : World) (ao : Option Addr) (l : TL) : Prop := l = [] ∨ ∃ b o, ao = some ⟨b, o, none⟩ ∧ b < w.heap.size ∧ ∀ (i : Nat) c, l[i]? = some c → w.cell? ⟨b, o + i * 3, none⟩ = some (.int .i64 c.1) ∧ w.cell? ⟨b, o + i * 3 + 1, none⟩ = some (.int .i64 c.2.1) ∧ w.cell? ⟨b, o + i * 3 + 2, none⟩ = some (.int .i64 c.2.2)
theorem TripAt.kept {w w' : World} {ao : Option Addr} {l : TL} (h : TripAt w ao l) (hB : Below w.heap.size w w') : TripAt w' ao l := by
  rcases h with h | ⟨b, o, h1, h2, h3⟩
  · exact .inl h
  · exact .inr ⟨b, o, h1, Nat.lt_of_lt_of_le h2 hB.size, fun i p hp => ⟨(hB.cell (p := ⟨b, o + i * 3, none⟩) h2).trans (h3 i p hp).1, (hB.cell (p := ⟨b, o + i * 3 + 1, none⟩) h2).trans (h3 i p hp).2.1, (hB.cell (p := ⟨b, o + i * 3 + 2, none⟩) h2).trans (h3 i p hp).2.2⟩⟩
/-- the cells of choices -/
def cellsT (l : TL) : List Value := l.flatMap encT
theorem cellsT_cons (p : T3) (l : TL) : cellsT (p :: l) = .int .i64 p.1 :: .int .i64 p.2.1 :: .int .i64 p.2.2 :: cellsT l := rfl
theorem cellsT_length (l : TL) : (cellsT l).length = l.length * 3 := by
  induction l with
  | nil => rfl
  | cons p l ih => rw [cellsT_cons]; simp only [List.length_cons, ih]; omega
theorem cellsT_app (l m : TL) : cellsT (l ++ m) = cellsT l ++ cellsT m := by simp [cellsT]
theorem cellsT_at (l : TL) (k : Nat) (p : T3) (h : l[k]? = some p) : (cellsT l)[k * 3]? = some (.int .i64 p.1) ∧ (cellsT l)[k * 3 + 1]? = some (.int .i64 p.2.1) ∧ (cellsT l)[k * 3 + 2]? = some (.int .i64 p.2.2) := by
  induction l generalizing k with
  | nil => simp at h
  | cons q l ih =>
    cases k with
    | zero => simp at h; subst h; exact ⟨rfl, rfl, rfl⟩
    | succ k =>
      have := ih k (by simpa using h)
      rw [cellsT_cons, show (k + 1) * 3 = k * 3 + 1 + 1 + 1 from by omega]
      simpa using this
theorem cellsT_set (l : TL) (k : Nat) (a b s : Int) (h : k < l.length) : (((cellsT l).set (k * 3) (.int .i64 a)).set (k * 3 + 1) (.int .i64 b)).set (k * 3 + 2) (.int .i64 s) = cellsT (l.set k (a, b, s)) := by
  induction l generalizing k with
  | nil => simp at h
  | cons q l ih =>
    cases k with
    | zero => rfl
    | succ k =>
      have := ih k (by simpa using h)
      rw [cellsT_cons, show (k + 1) * 3 = k * 3 + 1 + 1 + 1 from by omega]
      simp only [List.set_cons_succ, this]
      rfl
theorem cellsT_inv (L : TL) (j : Nat) (u : Value) (h : (cellsT L)[j]? = some u) : ∃ i c, L[i]? = some c ∧ ((j = i * 3 ∧ u = .int .i64 c.1) ∨ (j = i * 3 + 1 ∧ u = .int .i64 c.2.1) ∨ (j = i * 3 + 2 ∧ u = .int .i64 c.2.2)) := by
  have hj := (List.getElem?_eq_some_iff.1 h).1
  rw [cellsT_length] at hj
  obtain ⟨p, hp⟩ : ∃ p, L[j / 3]? = some p := ⟨_, List.getElem?_eq_getElem (by omega)⟩
  obtain ⟨c1, c2, c3⟩ := cellsT_at L (j / 3) p hp
  have hm : j % 3 = 0 ∨ j % 3 = 1 ∨ j % 3 = 2 := by omega
  rcases hm with e | e | e
  · refine ⟨j / 3, p, hp, .inl ⟨by omega, ?_⟩⟩
    rw [show j / 3 * 3 = j from by omega, h] at c1; exact Option.some.inj c1
  · refine ⟨j / 3, p, hp, .inr (.inl ⟨by omega, ?_⟩)⟩
    rw [show j / 3 * 3 + 1 = j from by omega, h] at c2; exact Option.some.inj c2
  · refine ⟨j / 3, p, hp, .inr (.inr ⟨by omega, ?_⟩)⟩
    rw [show j / 3 * 3 + 2 = j from by omega, h] at c3; exact Option.some.inj c3
theorem cellsT_ones (L : TL) : ∀ u ∈ cellsT L, u.oneCell' = true := fun u hu => by
  obtain ⟨i, hi, rfl⟩ := List.getElem_of_mem hu
  obtain ⟨j, p, _, ⟨_, e⟩ | ⟨_, e⟩ | ⟨_, e⟩⟩ := cellsT_inv L i _ (List.getElem?_eq_getElem hi)
  · rw [e]; rfl
  · rw [e]; rfl
  · rw [e]; rfl
theorem cellsT_zero (n : Nat) : (madeCells #[.int .i64 0, .int .i64 0, .int .i64 0] (n * 3)).toList = cellsT (List.replicate n (0, 0, 0)) := by
  have h1 : (madeCells #[.int .i64 0, .int .i64 0, .int .i64 0] (n * 3)).toList = List.replicate (n * 3) (.int .i64 0) := by
    refine List.eq_replicate_iff.2 ⟨by simp [size_madeCells], fun b hb => ?_⟩
    simp only [madeCells, Array.toList_map, List.mem_map] at hb
    obtain ⟨i, _, rfl⟩ := hb
    have : i % 3 = 0 ∨ i % 3 = 1 ∨ i % 3 = 2 := by omega
    rcases this with h | h | h <;> simp [h]
  have h2 : cellsT (List.replicate n (0, 0, 0)) = List.replicate (n * 3) (.int .i64 0) := by
    refine List.eq_replicate_iff.2 ⟨by rw [cellsT_length]; simp, fun b hb => ?_⟩
    simp only [cellsT, List.mem_flatMap] at hb
    obtain ⟨p, hp, hb⟩ := hb
    rw [(List.mem_replicate.1 hp).2] at hb
    simp [encT] at hb
    exact hb
  rw [h1, h2]
/-- a slice of choices that the code owns -/
structure OwnT (w : World) (base : Nat) (T : TypeId) (g n : Nat) (l : TL) : Prop where
  len : l.length = n
  own : w.ownsRow base T 3 (.slice (some ⟨g, 0, none⟩) n n) n (cellsT l)
theorem OwnT.lt {w : World} {base : Nat} {T : TypeId} {g n : Nat} {l : TL} (h : OwnT w base T g n l) : base ≤ g ∧ g < w.heap.size := h.own.lt g rfl
theorem OwnT.kept {w w' : World} {base : Nat} {T : TypeId} {g n : Nat} {l : TL} (h : OwnT w base T g n l) (hB : Below w.heap.size w w') : OwnT w' base T g n l := ⟨h.len, ownsRowP_below h.own hB⟩
theorem OwnT.cell {w : World} {base : Nat} {T : TypeId} {g n : Nat} {l : TL} (h : OwnT w base T g n l) (k : Nat) (p : T3) (hp : l[k]? = some p) : w.cell? ⟨g, k * 3, none⟩ = some (.int .i64 p.1) ∧ w.cell? ⟨g, k * 3 + 1, none⟩ = some (.int .i64 p.2.1) ∧ w.cell? ⟨g, k * 3 + 2, none⟩ = some (.int .i64 p.2.2) := by
  obtain ⟨hk, _⟩ := List.getElem?_eq_some_iff.1 hp
  have hl := h.len
  obtain ⟨h1, h2, h3⟩ := cellsT_at l k p hp
  exact ⟨(h.own.cellAt (k * 3) (by omega)).trans h1, (h.own.cellAt (k * 3 + 1) (by omega)).trans h2, (h.own.cellAt (k * 3 + 2) (by omega)).trans h3⟩
theorem OwnT.frozen {w : World} {base : Nat} {T : TypeId} {g n : Nat} {l : TL} (h : OwnT w base T g n l) (k : Nat) : w.frozen? ⟨g, k, none⟩ = false := h.own.frozenAt k
theorem OwnT.trip {w : World} {base : Nat} {T : TypeId} {g n : Nat} {l : TL} (h : OwnT w base T g n l) : TripAt w (some ⟨g, 0, none⟩) l :=
  .inr ⟨g, 0, rfl, h.lt.2, fun i p hp => by have := h.cell i p hp; simpa using this⟩
theorem OwnT.store {w : World} {base : Nat} {T : TypeId} {g n : Nat} {l : TL} (h : OwnT w base T g n l) (k : Nat) (a b s : Int) (hk : k < n) : OwnT (((w.setCell ⟨g, k * 3, none⟩ (.int .i64 a)).setCell ⟨g, k * 3 + 1, none⟩ (.int .i64 b)).setCell ⟨g, k * 3 + 2, none⟩ (.int .i64 s)) base T g n (l.set k (a, b, s)) := by
  refine ⟨by simp [h.len], ?_⟩
  rw [← cellsT_set l k a b s (by rw [h.len]; exact hk)]
  exact (((h.own.stored (k * 3) (.int .i64 a)).1.stored (k * 3 + 1) (.int .i64 b)).1.stored (k * 3 + 2) (.int .i64 s)).1
theorem trip_cells {w : World} {b o : Nat} {L : TL} (h : TripAt w (some ⟨b, o, none⟩) L) : ∀ (j : Nat) u, (cellsT L)[j]? = some u → w.cell? ((⟨b, o, none⟩ : Addr).add j) = some u := fun j u hu => by
  have e : (⟨b, o, none⟩ : Addr).add j = ⟨b, o + j, none⟩ := by unfold Addr.add; split <;> simp_all
  rw [e]
  rcases h with rfl | ⟨b', o', h1, _, h3⟩
  · simp [cellsT] at hu
  · cases h1
    obtain ⟨i, p, hp, ⟨rfl, rfl⟩ | ⟨rfl, rfl⟩ | ⟨rfl, rfl⟩⟩ := cellsT_inv L j u hu
    · exact (h3 i p hp).1
    · exact (h3 i p hp).2.1
    · exact (h3 i p hp).2.2
theorem lit_trip (w : World) (l : TL) (T : TypeId) : TripAt (w.alloc (.cells (cellsT l).toArray T)) (some ⟨w.heap.size, 0, none⟩) l := by
  refine .inr ⟨w.heap.size, 0, rfl, by simp, fun i p hp => ?_⟩
  obtain ⟨c1, c2, c3⟩ := cellsT_at l i p hp
  have h := World.alloc_heap_new w (.cells (cellsT l).toArray T)
  refine ⟨?_, ?_, ?_⟩
  · rw [Lib.cell_of_heap h]; simpa using c1
  · rw [Lib.cell_of_heap h]; simpa using c2
  · rw [Lib.cell_of_heap h]; simpa using c3
theorem info_parts3 {P : Program} {e : TypeId} {z : Option Value} {s b : Nat} (h : (P.info? e).map (fun i => (i.zero, i.size, i.bytes)) = some (z, s, b)) : ∃ i, P.info? e = some i ∧ i.zero = z ∧ i.size = s ∧ i.bytes = b := by
  obtain ⟨i, hi, e'⟩ := Option.map_eq_some_iff.1 h
  simp only [Prod.mk.injEq] at e'
  exact ⟨i, hi, e'⟩
/-- a new slice of choices, a copy of which the first k are -/
def copyT (l : TL) (k : Nat) : TL := l.take k ++ List.replicate (l.length - k) (0, 0, 0)
theorem copyT_zero (l : TL) : copyT l 0 = List.replicate l.length (0, 0, 0) := by simp [copyT]
theorem copyT_all (l : TL) : copyT l l.length = l := by simp [copyT]
theorem copyT_next (l : TL) (k : Nat) (p : T3) (h : l[k]? = some p) : (copyT l k).set k p = copyT l (k + 1) := by
  obtain ⟨hk, e⟩ := List.getElem?_eq_some_iff.1 h
  unfold copyT
  rw [List.set_append_right _ _ (by simp; omega), List.take_succ_eq_append_getElem hk, e]
  obtain ⟨m, hm⟩ : ∃ m, l.length - k = m + 1 := ⟨l.length - k - 1, by omega⟩
  rw [hm, show l.length - (k + 1) = m from by omega, List.replicate_succ]
  simp [show min k l.length = k from by omega]
theorem copyT_len (l : TL) (k : Nat) (h : k ≤ l.length) : (copyT l k).length = l.length := by simp [copyT]; omega
end Go.Proofs.YtigijgcldgbokaaGreat
namespace Go.Proofs.YtigijgcldgbokaaGreat
open Go.RowKit Go.Shelf Go.Sort
set_option linter.unusedVariables false

/-- the first that is not 0 -/
def orL : List Int → Int
  | [] => 0
  | x :: l => if x ≠ 0 then x else orL l
theorem or_hit (l : List Int) (k : Nat) (x : Int) (hx : l[k]? = some x) (h : ∀ (j : Nat) y, j < k → l[j]? = some y → y = 0) (hne : x ≠ 0) : orL l = x := by
  induction l generalizing k with
  | nil => simp at hx
  | cons a l ih =>
    unfold orL
    cases k with
    | zero => simp at hx; subst hx; rw [if_pos hne]
    | succ k =>
      have e := h 0 a (by omega) rfl
      rw [if_neg (by simp [e])]
      exact ih k (by simpa using hx) (fun j y hj hy => h (j + 1) y (by omega) (by simpa using hy))
theorem or_none (l : List Int) (h : ∀ (j : Nat) y, j < l.length → l[j]? = some y → y = 0) : orL l = 0 := by
  induction l with
  | nil => rfl
  | cons a l ih =>
    unfold orL
    have e := h 0 a (by simp) rfl
    rw [if_neg (by simp [e])]
    exact ih (fun j y hj hy => h (j + 1) y (by simp; omega) (by simpa using hy))
theorem cmpT_or (c d : T3) : cmpT c d = orL [cmpI d.2.2 c.2.2, cmpI c.1 d.1, cmpI c.2.1 d.2.1] := by
  unfold cmpT orL orL orL orL
  split
  · rfl
  · split
    · rfl
    · rename_i h1 h2
      by_cases h : cmpI c.2.1 d.2.1 = 0
      · rw [h]; simp
      · rw [if_pos h]

set_option maxRecDepth 100000 in
set_option maxHeartbeats 1000000 in
theorem or_any (ao : Option Addr) (cap : Nat) (xs : List Int) (w : World) (hn : xs.length ≤ 274877906944) (hR : IntsAt w ao xs) :
    Calls Tryz.prog 142 #[.slice ao xs.length cap] w fun e w' => e = .returned (.int .i64 (orL xs)) ∧ w' = w := by
  have HRo := Lib.hid hR
  have HH := Lib.hid (or_hit xs)
  have HNo := Lib.hid (or_none xs)
  clear hR
  generalize orL xs = F at HH HNo ⊢
  go_enter Tryz.func142, Tryz.ntmps142
  go_wp2_with fail
  go_loopw [8] (fun i wr => ∃ (k : Nat), k ≤ xs.length ∧ i = .int .i64 k ∧ Hid (wr = w) ∧ Hid (∀ (j : Nat) y, j < k → xs[j]? = some y → y = 0)) (fun i _ => xs.length - (intOf i).toNat)
  case atStart => exact ⟨0, Nat.zero_le _, rfl, Lib.hid rfl, Lib.hid (fun j y hj _ => by omega)⟩
  case round =>
    obtain ⟨k, hk, rfl, HW, HZ⟩ := hrel
    by_cases hlt : k < xs.length
    · obtain ⟨x, hx⟩ : ∃ x, xs[k]? = some x := ⟨_, List.getElem?_eq_getElem hlt⟩
      have hR := HRo.out
      rw [← HW.out] at hR
      rcases hR with h0 | ⟨A, rfl, hA, hcell⟩
      · rw [h0] at hlt; simp at hlt
      have hc := hcell k _ hx
      have HX := Lib.hid hx
      clear hcell hx
      by_cases h0 : x = 0
      · have HZ2 : Hid (∀ (j : Nat) y, j < k + 1 → xs[j]? = some y → y = 0) := Lib.hid (fun j y hj hy => by
          by_cases e : j = k
          · subst e; rw [HX.out] at hy; cases hy; exact h0
          · exact HZ.out j y (by omega) hy)
        subst h0
        go_wp2_with fail
        go_roundw
        case rel => exact ⟨k + 1, by omega, by go_num, HW, HZ2⟩
        case measure => simp [intOf]; omega
      · have E := Lib.hid (HH.out k x HX.out HZ.out h0)
        go_wp2_with fail
        go_ret
        exact ⟨by rw [E.out]; rfl, HW.out⟩
    · obtain rfl : k = xs.length := by omega
      have E := Lib.hid (HNo.out HZ.out)
      go_wp2_with fail
      go_ret
      exact ⟨by rw [E.out]; rfl, HW.out⟩

theorem ints3_at (w : World) (a b c : Int) (T : TypeId) : IntsAt (w.alloc (.cells #[.int .i64 a, .int .i64 b, .int .i64 c] T)) (some ⟨w.heap.size, 0, none⟩) [a, b, c] := by
  refine .inr ⟨_, rfl, by simp, fun i p hp => ?_⟩
  have h := World.alloc_heap_new w (.cells #[.int .i64 a, .int .i64 b, .int .i64 c] T)
  have e : (⟨w.heap.size, 0, none⟩ : Addr).add i = ⟨w.heap.size, i, none⟩ := by unfold Addr.add; split <;> simp_all
  rw [e, Lib.cell_of_heap h]
  match i, hp with
  | 0, hp => simp at hp; subst hp; rfl
  | 1, hp => simp at hp; subst hp; rfl
  | 2, hp => simp at hp; subst hp; rfl
  | i + 3, hp => simp at hp

set_option maxRecDepth 100000 in
set_option maxHeartbeats 2000000 in
theorem choice_any (c d : T3) (w : World) :
    Calls Tryz.prog 126 #[.agg #[.int .i64 c.1, .int .i64 c.2.1, .int .i64 c.2.2], .agg #[.int .i64 d.1, .int .i64 d.2.1, .int .i64 d.2.2]] w fun e w' => e = .returned (.int .i64 (cmpT c d)) ∧ ∃ q os', w' = grow (w.drewN q) os' := by
  obtain ⟨c1, c2, c3⟩ := c
  obtain ⟨d1, d2, d3⟩ := d
  have C1 := Lib.hid (fun W => compare_any d3 c3 W)
  have C2 := Lib.hid (fun W => compare_any c1 d1 W)
  have C3 := Lib.hid (fun W => compare_any c2 d2 W)
  have CO : Hid (∀ W : World, Calls Tryz.prog 142 #[.slice (some ⟨W.heap.size, 0, none⟩) 3 3] (W.alloc (.cells #[.int .i64 (cmpI d3 c3), .int .i64 (cmpI c1 d1), .int .i64 (cmpI c2 d2)] 3)).drew fun e w' => e = .returned (.int .i64 (cmpT (c1, c2, c3) (d1, d2, d3))) ∧ w' = (W.alloc (.cells #[.int .i64 (cmpI d3 c3), .int .i64 (cmpI c1 d1), .int .i64 (cmpI c2 d2)] 3)).drew) := Lib.hid (fun W => by
    rw [cmpT_or]
    exact or_any _ 3 [cmpI d3 c3, cmpI c1 d1, cmpI c2 d2] _ (by simp) (ints3_at W _ _ _ _))
  generalize cmpT (c1, c2, c3) (d1, d2, d3) = F at CO ⊢
  generalize cmpI d3 c3 = r1 at C1 CO
  generalize cmpI c1 d1 = r2 at C2 CO
  generalize cmpI c2 d2 = r3 at C3 CO
  dsimp only
  obtain ⟨V, HV⟩ : ∃ V, Hid (V = (w.alloc (.cells #[.int .i64 c1, .int .i64 c2, .int .i64 c3] 152)).alloc (.cells #[.int .i64 d1, .int .i64 d2, .int .i64 d3] 152)) := ⟨_, Lib.hid rfl⟩
  have hg : V = grow w #[.cells #[.int .i64 c1, .int .i64 c2, .int .i64 c3] 152, .cells #[.int .i64 d1, .int .i64 d2, .int .i64 d3] 152] := by rw [HV.out, alloc_eq_grow, alloc_eq_grow, grow_grow]; rfl
  have HG := Lib.hid hg
  have hA : V.heap[w.heap.size]? = some (.cells #[.int .i64 c1, .int .i64 c2, .int .i64 c3] 152 (0, 0)) := by rw [hg]; simp [grow]
  have hD : V.heap[w.heap.size + 1]? = some (.cells #[.int .i64 d1, .int .i64 d2, .int .i64 d3] 152 (0, 0)) := by rw [hg]; simp [grow]
  have a0 : V.cell? ⟨w.heap.size, 0, none⟩ = some (.int .i64 c1) := (Lib.cell_of_heap hA 0).trans rfl
  have a1 : V.cell? ⟨w.heap.size, 1, none⟩ = some (.int .i64 c2) := (Lib.cell_of_heap hA 1).trans rfl
  have a2 : V.cell? ⟨w.heap.size, 2, none⟩ = some (.int .i64 c3) := (Lib.cell_of_heap hA 2).trans rfl
  have b0 : V.cell? ⟨w.heap.size + 1, 0, none⟩ = some (.int .i64 d1) := (Lib.cell_of_heap hD 0).trans rfl
  have b1 : V.cell? ⟨w.heap.size + 1, 1, none⟩ = some (.int .i64 d2) := (Lib.cell_of_heap hD 1).trans rfl
  have b2 : V.cell? ⟨w.heap.size + 1, 2, none⟩ = some (.int .i64 d3) := (Lib.cell_of_heap hD 2).trans rfl
  clear hg hA hD
  go_enter Tryz.func126, Tryz.ntmps126
  go_upto_region 1 with fail
  rw [← HV.out]
  go_region_held3 (fun W => W.cell? ⟨w.heap.size, 0, none⟩ = some (.int .i64 c1) ∧ W.cell? ⟨w.heap.size, 1, none⟩ = some (.int .i64 c2) ∧ W.cell? ⟨w.heap.size, 2, none⟩ = some (.int .i64 c3) ∧ W.cell? ⟨w.heap.size + 1, 0, none⟩ = some (.int .i64 d1) ∧ W.cell? ⟨w.heap.size + 1, 1, none⟩ = some (.int .i64 d2) ∧ W.cell? ⟨w.heap.size + 1, 2, none⟩ = some (.int .i64 d3))
    ((refine ⟨?_, ?_, ?_, ?_, ?_, ?_⟩ <;> first | assumption | go_keep))
    (first
      | (go_at_call 49; with_reducible refine (C1.out _).mono ?_; rintro e w1 ⟨rfl, rfl⟩)
      | (go_at_call 49; with_reducible refine (C2.out _).mono ?_; rintro e w1 ⟨rfl, rfl⟩)
      | (go_at_call 49; with_reducible refine (C3.out _).mono ?_; rintro e w1 ⟨rfl, rfl⟩)
      | (go_at_call 142; refine (CO.out _).mono ?_; rintro e w1 ⟨rfl, rfl⟩))
  go_wp2_with fail
  go_ret
  exact ⟨rfl, 1, _, by rw [alloc_eq_grow, HG.out, grow_grow, drew_grow]; rfl⟩
end Go.Proofs.YtigijgcldgbokaaGreat
namespace Go.Proofs.YtigijgcldgbokaaGreat
open Go.RowKit

section
variable {α : Type} {F : Fence} {n : Nat} {P : Program}

/-- what is said of a world stands where memory was only added -/
def Stays (J : List α → World → Prop) : Prop := ∀ pre A B, J pre A → Below A.heap.size A B → J pre B
/-- .. and where a block that is no cells turned, at or behind b -/
def Apart (b : Nat) (J : World → Prop) : Prop := ∀ A l o o', J A → b ≤ l → A.heap[l]? = some o → o.isCells = false → J (A.putObj l o')

def Tells (F : Fence) (n : Nat) (P : Program) (gf : Nat) (lb : Array Value) (encs : α → Array Value) (Kp : World → World → Prop) (Ok : List α → α → World → Prop) (Rm : List α → World → Prop) (S Sp : List α → Prop) (w : World) : Prop :=
  ∀ (l : Nat) (J Jx : List α → World → Prop) (W : World), Below w.heap.size w W → Stays J → Stays Jx → (∀ pre A, J pre A → Rm pre A) →
    (∀ pre x W1, J pre W1 → Ok pre x W1 → YieldAt F (n - 1) P l (encs x) W1 fun e W' => (e = .returned (.bool true) ∧ J (pre ++ [x]) W' ∧ Kp W1 W') ∨ (e = .returned (.bool false) ∧ Jx (pre ++ [x]) W')) →
    J [] W → CallsIn F n P gf (#[.func (.yield l) #[] #[]] ++ lb) W fun e W' => (∃ v, e = .returned v) ∧ ((∃ xs, S xs ∧ J xs W') ∨ (∃ pre, Sp pre ∧ Jx pre W'))

/-- how a round may end -/
def roundEnds (Kp : World → World → Prop) (I Ix : List α → World → Prop) (pre : List α) (x : α) (W : World) : Exit → Act → World → Prop
  | .normal, _, W3 => KeepsOthers W W3 ∧ Kp W W3 ∧ I (pre ++ [x]) W3
  | .ret, _, W3 => KeepsOthers W W3 ∧ Ix (pre ++ [x]) W3
  | _, _, _ => False

theorem below_kept {A B : World} (h : Below A.heap.size A B) {k : Nat} {o : Obj} (hk : A.heap[k]? = some o) : B.heap[k]? = some o :=
  (h.block k (Array.getElem?_eq_some_iff.1 hk).1).trans hk

theorem wpIn_range_tells {g : Operand} {ps : Array Tmp} {assign body : Code} {Q : Exit → Act → World → Prop} {a : Act} {w : World}
    (hro : F.round = none) (h1 : 1 ≤ n) {gf : Nat} {lb : Array Value} (hg : a.eval g = .func (.func gf) #[] lb) (hFg : F.fn gf) (eg : ∀ args w, (callFunc gf args).run P w = .ok (.enter gf args) w)
    {encs : α → Array Value} {Kp : World → World → Prop} {Ok : List α → α → World → Prop} {Rm : List α → World → Prop} {S Sp : List α → Prop} {w0 : World} (hit : Tells F (n - 1) P gf lb encs Kp Ok Rm S Sp w0)
    (hb0 : Below w0.heap.size w0 w) (hps : ∀ x, (encs x).size = ps.size)
    (hKt : ∀ {A B C : World}, Kp A B → Kp B C → Kp A C) (hKo : ∀ (W : World) (l : Nat) (o o' : Obj), w.heap.size ≤ l → W.heap[l]? = some o → o.isCells = false → Kp W (W.putObj l o'))
    (hKb : ∀ {A B : World}, w.heap.size ≤ A.heap.size → Below A.heap.size A B → Kp A B)
    (I Ix : List α → World → Prop) (hI : Stays I) (hIx : Stays Ix) (hIo : ∀ pre, Apart w.heap.size (I pre)) (hIxo : ∀ pre, Apart w.heap.size (Ix pre)) (hRm : ∀ pre A, I pre A → Rm pre A)
    (hOk : ∀ pre x A B, Ok pre x A → Below A.heap.size A B → Ok pre x B) (hOko : ∀ pre x, Apart w.heap.size (Ok pre x)) (h0 : I [] w)
    (Ax : α → Act → World → Prop) (hAxo : ∀ x a', Apart w.heap.size (Ax x a'))
    (hassign : ∀ (l : Nat) (x : α) (W : World) (K : Act → World → Prop), w.heap.size ≤ W.heap.size → (∀ a' W', Below W.heap.size W W' → Ax x a' W' → K a' W') →
      assign.wpIn (F.inRound l) (n - 1 - 1) P (Exit.then K (fun _ _ _ => False)) { tmps := (ps.zip (encs x)).foldl (fun t (p, v) => t.setIfInBounds p v) a.tmps, defers := [] } W)
    (hbody : ∀ (l : Nat) (pre : List α) (x : α) (a' : Act) (W : World), w.heap.size ≤ W.heap.size → I pre W → Ok pre x W → Ax x a' W → body.wpIn (F.inRound l) (n - 1 - 1) P (roundEnds Kp I Ix pre x W) a' W)
    (hdone : ∀ (D : Nat) (xs : List α) (W : World), w.heap.size ≤ D → S xs → I xs W → W.heap[D]? = some (.deferred (some [])) → Q .normal { a with defers := { target := .collected D, args := #[] } :: a.defers } W)
    (hstop : ∀ (D : Nat) (pre : List α) (W : World), w.heap.size ≤ D → Sp pre → Ix pre W → W.heap[D]? = some (.deferred (some [])) → Code.ret.wpIn F n P Q { a with defers := { target := .collected D, args := #[] } :: a.defers } W) :
    (Code.rangeFunc g ps assign body).wpIn F n P Q a w := by
  refine wpIn_rangeFunc fun fn hfn => ?_
  rw [hro]
  obtain ⟨R, hR⟩ : ∃ R : LoopState → Option Code → Loop, ∀ st pe, R st pe = { state := st, pending := pe, fn, tmps := a.tmps, params := ps, assign, body, defers := w.heap.size } := ⟨_, fun _ _ => rfl⟩
  obtain ⟨V, hV⟩ : ∃ V, V = (w.alloc (.deferred (some []))).alloc (.loop (R .ready none)) := ⟨_, rfl⟩
  have hb : Below w.heap.size w V := by rw [hV]; exact ((Below.refl _ w).alloc (Nat.le_refl _) _).alloc (by simp) _
  have hsz : V.heap.size = w.heap.size + 2 := by rw [hV]; simp
  have hK : V.heap[w.heap.size]? = some (.deferred (some [])) := by
    rw [hV, Below.heap_alloc _ _ _ (by simp)]; exact World.alloc_heap_new w _
  have hL : V.heap[w.heap.size + 1]? = some (.loop (R .ready none)) := by
    rw [hV]; have := World.alloc_heap_new (w.alloc (.deferred (some []))) (.loop (R .ready none)); rwa [World.size_alloc] at this
  refine ⟨w.heap.size + 1, [{ target := .collected w.heap.size, args := #[] }], V, { target := .fn (.func gf) lb, args := #[.func (.yield (w.heap.size + 1)) #[] #[]] }, V, gf,
    #[.func (.yield (w.heap.size + 1)) #[] #[]] ++ lb, V, ?_, ?_, fun f' hf' => ?_, ?_, fun _ => h1, ?_⟩
  · rw [hV, hR]; exact run_enterLoop_outer _ _ _ _ _
  · simp only [resolve, hg]; simp [go_sem]
  · simp [Target.leads] at hf'; subst hf'; exact hFg
  · simp [invoke, go_sem, eg]
  refine (hit (w.heap.size + 1)
    (fun pre W => I pre W ∧ W.heap[w.heap.size + 1]? = some (.loop (R .ready none)) ∧ W.heap[w.heap.size]? = some (.deferred (some [])))
    (fun pre W => Ix pre W ∧ W.heap[w.heap.size + 1]? = some (.loop (R .done (some .ret))) ∧ W.heap[w.heap.size]? = some (.deferred (some [])))
    V (hb0.trans (hb.mono hb0.size)) (fun pre A B h k => ⟨hI pre A B h.1 k, below_kept k h.2.1, below_kept k h.2.2⟩) (fun pre A B h k => ⟨hIx pre A B h.1 k, below_kept k h.2.1, below_kept k h.2.2⟩)
    (fun pre A h => hRm pre A h.1) ?_ ⟨hI [] w V h0 hb, hL, hK⟩).mono ?_
  · rintro pre x W ⟨hi, hl, hk⟩ hok
    have hlt := (Array.getElem?_eq_some_iff.1 hl).1
    have hy := run_yield (P := P) (args := encs x) hl (by rw [hR]; exact hps x)
    rw [hR] at hy
    refine ⟨fn, _, assign, body, hy, roundIn_of_wpIn hfn (hassign _ x W _ (by omega) fun a' W' hbel hax => ?_)⟩
    have hl' := below_kept hbel hl
    have hk' := below_kept hbel hk
    have hlt' := (Array.getElem?_eq_some_iff.1 hl').1
    refine ⟨_, run_beginRound hl' (by rw [hR]), ?_⟩
    obtain ⟨U, hU⟩ : ∃ U, U = W'.putObj (w.heap.size + 1) (.loop { R .ready none with state := .busy }) := ⟨_, rfl⟩
    rw [← hU]
    have hlU : U.heap[w.heap.size + 1]? = some (.loop { R .ready none with state := .busy }) := by rw [hU]; exact World.putObj_heap_same hlt'
    have hkU : U.heap[w.heap.size]? = some (.deferred (some [])) := by rw [hU]; exact (World.putObj_heap_other (by omega)).trans hk'
    have hKU : Kp W U := by rw [hU]; exact hKt (hKb (by omega) hbel) (hKo _ _ _ _ (by omega) hl' rfl)
    have hIU : I pre U := by rw [hU]; exact hIo pre _ _ _ _ (hI pre W W' hi hbel) (by omega) hl' rfl
    have hOU : Ok pre x U := by rw [hU]; exact hOko pre x _ _ _ _ (hOk pre x W W' hok hbel) (by omega) hl' rfl
    have hAU : Ax x a' U := by rw [hU]; exact hAxo x a' _ _ _ _ hax (by omega) hl' rfl
    refine wpIn_mono (hbody _ pre x a' U (by have := (Array.getElem?_eq_some_iff.1 hkU).1; omega) hIU hOU hAU) ?_
    have fin : ∀ (j : Option Code) (X : World), KeepsOthers U X →
        (Instr.endRound (w.heap.size + 1) j).run P X = .ok (.bool j.isNone) (X.putObj (w.heap.size + 1) (.loop (R (if j.isNone then .ready else .done) j))) ∧
        (∃ o, X.heap[w.heap.size + 1]? = some o ∧ o.isCells = false) ∧
        (X.putObj (w.heap.size + 1) (.loop (R (if j.isNone then .ready else .done) j))).heap[w.heap.size + 1]? = some (.loop (R (if j.isNone then .ready else .done) j)) ∧
        (X.putObj (w.heap.size + 1) (.loop (R (if j.isNone then .ready else .done) j))).heap[w.heap.size]? = some (.deferred (some [])) := fun j X hX => by
      have hlX := hX.same _ _ hlU rfl
      have hkX := hX.same _ _ hkU rfl
      have hr := run_endRound (P := P) j hlX
      rw [hR] at hr ⊢
      exact ⟨hr, ⟨_, hlX, rfl⟩, World.putObj_heap_same (Array.getElem?_eq_some_iff.1 hlX).1, (World.putObj_heap_other (by omega)).trans hkX⟩
    rintro e a3 X hp
    cases e with
    | normal =>
      obtain ⟨h3, h4, h5⟩ := hp
      obtain ⟨q1, ⟨o, q2, q2'⟩, q3, q4⟩ := fin none X h3
      exact ⟨_, _, q1, .inl ⟨rfl, ⟨hIo _ _ _ _ _ h5 (by omega) q2 q2', q3, q4⟩, hKt (hKt hKU h4) (hKo _ _ _ _ (by omega) q2 q2')⟩⟩
    | ret =>
      obtain ⟨h3, h5⟩ := hp
      obtain ⟨q1, ⟨o, q2, q2'⟩, q3, q4⟩ := fin (some .ret) X h3
      exact ⟨_, _, q1, .inr ⟨rfl, hIxo _ _ _ _ _ h5 (by omega) q2 q2', q3, q4⟩⟩
    | exit id => exact hp.elim
    | goto t => exact hp.elim
    | panic ch => exact hp.elim
    | outgrown => exact hp.elim
  · rintro e X ⟨⟨v, rfl⟩, (⟨xs, hS, hi, hl, hk⟩ | ⟨pre, hS, hi, hl, hk⟩)⟩
    · exact ⟨none, _, by have := run_endLoop (P := P) hl (by rw [hR]; simp); rw [hR] at this; exact this, hdone _ xs _ (Nat.le_refl _) hS (hIo xs _ _ _ _ hi (by omega) hl rfl) ((World.putObj_heap_other (by omega)).trans hk)⟩
    · exact ⟨some .ret, _, by have := run_endLoop (P := P) hl (by rw [hR]; simp); rw [hR] at this; exact this, hstop _ pre _ (Nat.le_refl _) hS (hIxo pre _ _ _ _ hi (by omega) hl rfl) ((World.putObj_heap_other (by omega)).trans hk)⟩
end
end Go.Proofs.YtigijgcldgbokaaGreat
namespace Go.Proofs.YtigijgcldgbokaaGreat
open Go.RowKit Go.Shelf

def KeepsT (n0 B : Nat) (W W' : World) : Prop := ∀ k, k < n0 ∨ k = B → W'.heap[k]? = W.heap[k]?
theorem cell_same {W W' : World} (A : Addr) (h : W'.heap[A.block]? = W.heap[A.block]?) : W'.cell? A = W.cell? A := by unfold World.cell?; rw [h]
/-- a table in the world -/
abbrev TabO (ho : Option Addr) (hn hc : Nat) (ro : Option Addr) (rn rc : Nat) : Obj := .cells #[.slice ho hn hc, .slice ro rn rc] 25
def allT (hd : List ByteArray) (rs : List (List ByteArray)) : List ByteArray := hd ++ rs.flatten
theorem pre_head (hd : List ByteArray) (rs : List (List ByteArray)) (k : Nat) (x : ByteArray) (h : hd[k]? = some x) : hd.take (k + 1) = hd.take k ++ [x] ∧ hd.take k ++ [x] <+: allT hd rs := by
  obtain ⟨hk, e⟩ := List.getElem?_eq_some_iff.1 h
  have e1 : hd.take (k + 1) = hd.take k ++ [x] := by rw [List.take_succ_eq_append_getElem hk, e]
  refine ⟨e1, ?_⟩
  rw [← e1, allT]
  exact (List.take_prefix _ _).trans (List.prefix_append _ _)
theorem pre_row (hd : List ByteArray) (rs : List (List ByteArray)) (k j : Nat) (r : List ByteArray) (x : ByteArray) (hr : rs[k]? = some r) (h : r[j]? = some x) :
    hd ++ (rs.take k).flatten ++ r.take (j + 1) = hd ++ (rs.take k).flatten ++ r.take j ++ [x] ∧ hd ++ (rs.take k).flatten ++ r.take j ++ [x] <+: allT hd rs := by
  obtain ⟨hk, e⟩ := List.getElem?_eq_some_iff.1 hr
  obtain ⟨hj, e'⟩ := List.getElem?_eq_some_iff.1 h
  have e1 : hd ++ (rs.take k).flatten ++ r.take (j + 1) = hd ++ (rs.take k).flatten ++ r.take j ++ [x] := by rw [List.take_succ_eq_append_getElem hj, e']; simp
  refine ⟨e1, ?_⟩
  rw [← e1, allT]
  have e2 : rs.flatten = (rs.take k).flatten ++ (r ++ (rs.drop (k + 1)).flatten) := by
    conv => lhs; rw [← List.take_append_drop k rs]
    rw [List.flatten_append, List.drop_eq_getElem_cons hk, e]; simp
  rw [e2, List.append_assoc]
  refine List.prefix_append_right_inj _ |>.2 (List.prefix_append_right_inj _ |>.2 ?_)
  exact (List.take_prefix _ _).trans (List.prefix_append _ _)
theorem row_end (hd : List ByteArray) (rs : List (List ByteArray)) (k : Nat) (r : List ByteArray) (hr : rs[k]? = some r) : hd ++ (rs.take k).flatten ++ r.take r.length = hd ++ (rs.take (k + 1)).flatten := by
  obtain ⟨hk, e⟩ := List.getElem?_eq_some_iff.1 hr
  rw [List.take_succ_eq_append_getElem hk, e]; simp

set_option maxRecDepth 100000 in
set_option maxHeartbeats 4000000 in
theorem texts1_tells (n : Nat) (ho : Option Addr) (hc : Nat) (hd : List ByteArray) (ro : Option Addr) (rc : Nat) (rs : List (List ByteArray)) (B : Nat) (w0 w : World) (h0w : Below w0.heap.size w0 w)
    (hn : hd.length ≤ 1099511627776) (hn2 : rs.length ≤ 1099511627776) (hn3 : ∀ r ∈ rs, r.length ≤ 1099511627776) (hH : StrRow w0 ho hd) (hR : RowsAt w0 ro rs)
    (hB : w.heap[B]? = some (TabO ho hd.length hc ro rs.length rc)) :
    Tells Fence.wide n Tryz.prog 145 #[.pointer (some ⟨B, 0, none⟩)] (fun x : ByteArray => #[Value.string x]) (KeepsT w0.heap.size B) (fun pre x _ => pre ++ [x] <+: allT hd rs) (fun _ _ => True) (fun xs => xs = allT hd rs) (fun pre => pre <+: allT hd rs) w := by
  intro l J Jx W hW hJ hJx hRm hY h0
  have HY := Lib.hid hY
  have HH := Lib.hid hH
  have HR := Lib.hid hR
  have HN3 := Lib.hid hn3
  have HS0 : Hid (∀ k, k < w0.heap.size → W.heap[k]? = w0.heap[k]?) := Lib.hid (fun k hk => (hW.block k (Nat.lt_of_lt_of_le hk h0w.size)).trans (h0w.block k hk))
  have hBW := (hW.block B (lt_of_heap hB)).trans hB
  have c0 : W.cell? ⟨B, 0, none⟩ = some (.slice ho hd.length hc) := (Lib.cell_of_heap hBW 0).trans rfl
  have HBW := Lib.hid hBW
  have H0 := Lib.hid h0
  have HPH := Lib.hid (pre_head hd rs)
  have HPR := Lib.hid (pre_row hd rs)
  have HRE := Lib.hid (row_end hd rs)
  clear hJ hRm hY hJx hW hB hH hR hn3 h0 hBW h0w
  refine callsIn_of_wp Tryz.func145 rfl trivial ?_ rfl
  simp only [Tryz.ntmps145, List.size_toArray, List.length_cons, List.length_nil, Nat.reduceAdd, Nat.reduceSub, Array.replicate_succ, Array.replicate_zero, List.push_toArray, List.append_toArray, List.nil_append, List.cons_append]
  gi_wp2_with fail
  gi_loopw [12] (fun i wr => ∃ k : Nat, k ≤ hd.length ∧ i = .int .i64 k ∧ Hid (J (hd.take k) wr) ∧ Hid (∀ k, k < w0.heap.size → wr.heap[k]? = w0.heap[k]?) ∧ Hid (wr.heap[B]? = some (TabO ho hd.length hc ro rs.length rc))) (fun i _ => hd.length - (intOf i).toNat)
  case atStart => exact ⟨0, Nat.zero_le _, rfl, H0, HS0, HBW⟩
  case round =>
    obtain ⟨k, hk, rfl, HJ, HS, HB⟩ := hrel
    clear c0
    by_cases hlt : k < hd.length
    · obtain ⟨x, hx⟩ : ∃ x, hd[k]? = some x := ⟨_, List.getElem?_eq_getElem hlt⟩
      have HP := Lib.hid (HPH.out k x hx)
      obtain ⟨fn, tmps, assign, body, hy, hR⟩ := HY.out _ x wr HJ.out HP.out.2
      have HC := Lib.hid hR
      rcases HH.out with h0 | ⟨A, rfl, hA, hcell⟩
      · rw [h0] at hlt; simp at hlt
      have hcx := (cell_same (W := w0) (W' := wr) (A.add k) (by rw [add_block]; exact HS.out _ hA)).trans (hcell k x hx)
      clear hcell hx hR
      gi_wp2_with fail
      refine ⟨(fun h => by cases h), HC.out.mono ?_⟩
      rintro e W3 (⟨rfl, hJ3, hk3⟩ | ⟨rfl, hJx3⟩)
      · have HJ3 : Hid (J (hd.take (k + 1)) W3) := Lib.hid (by rw [HP.out.1]; exact hJ3)
        have HS3 : Hid (∀ k, k < w0.heap.size → W3.heap[k]? = w0.heap[k]?) := Lib.hid (fun j hj => (hk3 j (.inl hj)).trans (HS.out j hj))
        have HB3 := Lib.hid ((hk3 B (.inr rfl)).trans HB.out)
        clear hJ3 hk3
        gi_wp2_with fail
        go_roundw
        case rel => exact ⟨k + 1, by omega, by go_num, HJ3, HS3, HB3⟩
        case measure => simp [intOf]; omega
      · have HX := Lib.hid hJx3
        clear hJx3
        gi_wp2_with fail
        refine bodyPost_ret (results_none rfl _ _ _) rfl ?_
        exact ⟨⟨_, rfl⟩, .inr ⟨_, HP.out.2, HX.out⟩⟩
    · obtain rfl : k = hd.length := by omega
      have c1 : wr.cell? ⟨B, 1, none⟩ = some (.slice ro rs.length rc) := (Lib.cell_of_heap HB.out 1).trans rfl
      gi_wp2_with fail
      clear c1
      obtain ⟨wo, rfl⟩ : ∃ wo : World, wo = wr := ⟨_, rfl⟩
      gi_loopw [24] (fun i wr => ∃ k : Nat, k ≤ rs.length ∧ i = .int .i64 k ∧ Hid (J (hd ++ (rs.take k).flatten) wr) ∧ Hid (∀ k, k < w0.heap.size → wr.heap[k]? = w0.heap[k]?) ∧ Hid (wr.heap[B]? = some (TabO ho hd.length hc ro rs.length rc))) (fun i _ => rs.length - (intOf i).toNat)
      case atStart => exact ⟨0, Nat.zero_le _, rfl, Lib.hid (by have := HJ.out; rw [List.take_length] at this; simpa using this), HS, HB⟩
      case round =>
        obtain ⟨k, hk, rfl, HJ, HS, HB⟩ := hrel
        by_cases hlt : k < rs.length
        · obtain ⟨r, hr⟩ : ∃ r, rs[k]? = some r := ⟨_, List.getElem?_eq_getElem hlt⟩
          have HRk := Lib.hid hr
          have hrl := HN3.out r (List.mem_of_getElem? hr)
          rcases HR.out with h0 | ⟨A, rfl, hA, hcell⟩
          · rw [h0] at hlt; simp at hlt
          obtain ⟨ro1, rc1, hc1, hs1⟩ := hcell k r hr
          have hcx := (cell_same (W := w0) (W' := wr) (A.add k) (by rw [add_block]; exact HS.out _ hA)).trans hc1
          have HS1 := Lib.hid hs1
          clear hcell hr hc1 hs1
          gi_wp2_with fail
          clear hcx
          obtain ⟨wo2, rfl⟩ : ∃ wo2 : World, wo2 = wr := ⟨_, rfl⟩
          gi_loopw [30] (fun i wr => ∃ j : Nat, j ≤ r.length ∧ i = .int .i64 j ∧ Hid (J (hd ++ (rs.take k).flatten ++ r.take j) wr) ∧ Hid (∀ k, k < w0.heap.size → wr.heap[k]? = w0.heap[k]?) ∧ Hid (wr.heap[B]? = some (TabO ho hd.length hc (some A) rs.length rc))) (fun i _ => r.length - (intOf i).toNat)
          case atStart => exact ⟨0, Nat.zero_le _, rfl, Lib.hid (by simpa using HJ.out), HS, HB⟩
          case round =>
            obtain ⟨j, hj, rfl, HJ, HS, HB⟩ := hrel
            by_cases hjl : j < r.length
            · obtain ⟨x, hx⟩ : ∃ x, r[j]? = some x := ⟨_, List.getElem?_eq_getElem hjl⟩
              have HP := Lib.hid (HPR.out k j r x HRk.out hx)
              obtain ⟨fn, tmps, assign, body, hy, hR⟩ := HY.out _ x wr HJ.out HP.out.2
              have HC := Lib.hid hR
              rcases HS1.out with h0 | ⟨A1, rfl, hA1, hcell⟩
              · rw [h0] at hjl; simp at hjl
              have hcx := (cell_same (W := w0) (W' := wr) (A1.add j) (by rw [add_block]; exact HS.out _ hA1)).trans (hcell j x hx)
              clear hcell hx hR
              gi_wp2_with fail
              refine ⟨(fun h => by cases h), HC.out.mono ?_⟩
              rintro e W3 (⟨rfl, hJ3, hk3⟩ | ⟨rfl, hJx3⟩)
              · have HJ3 : Hid (J (hd ++ (rs.take k).flatten ++ r.take (j + 1)) W3) := Lib.hid (by rw [HP.out.1]; exact hJ3)
                have HS3 : Hid (∀ k, k < w0.heap.size → W3.heap[k]? = w0.heap[k]?) := Lib.hid (fun j hj => (hk3 j (.inl hj)).trans (HS.out j hj))
                have HB3 := Lib.hid ((hk3 B (.inr rfl)).trans HB.out)
                clear hJ3 hk3
                gi_wp2_with fail
                go_roundw
                case rel => exact ⟨j + 1, by omega, by go_num, HJ3, HS3, HB3⟩
                case measure => simp [intOf]; omega
              · have HX := Lib.hid hJx3
                clear hJx3
                gi_wp2_with fail
                refine bodyPost_ret (results_none rfl _ _ _) rfl ?_
                exact ⟨⟨_, rfl⟩, .inr ⟨_, HP.out.2, HX.out⟩⟩
            · obtain rfl : j = r.length := by omega
              have HJ3 : Hid (J (hd ++ (rs.take (k + 1)).flatten) wr) := Lib.hid (by rw [← HRE.out k r HRk.out]; exact HJ.out)
              gi_wp2_with fail
              go_roundw
              case rel => exact ⟨k + 1, by omega, by go_num, HJ3, HS, HB⟩
              case measure => simp [intOf]; omega
        · obtain rfl : k = rs.length := by omega
          have HE : Hid (J (allT hd rs) wr) := Lib.hid (by have := HJ.out; rw [List.take_length] at this; exact this)
          gi_wp2_with fail
          go_end0
          exact ⟨⟨_, rfl⟩, .inl ⟨_, rfl, HE.out⟩⟩
end Go.Proofs.YtigijgcldgbokaaGreat
namespace Go.Proofs.YtigijgcldgbokaaGreat
open Go.RowKit Go.Shelf
attribute [local go_sem] Oper.semAt_some

theorem heap_put {A : World} {l : Nat} {o o' : Obj} (hl : A.heap[l]? = some o) (ho : o.isCells = false) {b : Nat} {cs : Array Value} {t : TypeId} {fr : Nat × Nat} (h : A.heap[b]? = some (.cells cs t fr)) : (A.putObj l o').heap[b]? = some (.cells cs t fr) := by
  have hne : b ≠ l := by
    rintro rfl
    rw [h] at hl; cases hl; cases ho
  rw [World.putObj_heap_other hne]; exact h
theorem below_put {n : Nat} {w A : World} {l : Nat} (o' : Obj) (h : Below n w A) (hl : n ≤ l) : Below n w (A.putObj l o') :=
  ⟨h.os, h.tape, h.output, by simpa using h.size, fun k hk => (World.putObj_heap_other (by omega)).trans (h.block k hk)⟩
theorem keepsT_trans {n0 B : Nat} {X Y Z : World} (h : KeepsT n0 B X Y) (k : KeepsT n0 B Y Z) : KeepsT n0 B X Z := fun i hi => (k i hi).trans (h i hi)
theorem keepsT_put {n0 B m : Nat} (h0 : n0 ≤ m) (hB : B < m) (W : World) (l : Nat) (o' : Obj) (hl : m ≤ l) : KeepsT n0 B W (W.putObj l o') := fun i hi => World.putObj_heap_other (by omega)
theorem keepsT_below {n0 B m : Nat} (h0 : n0 ≤ m) (hB : B < m) {X Y : World} (hm : m ≤ X.heap.size) (h : Below X.heap.size X Y) : KeepsT n0 B X Y := fun i hi => h.block i (by omega)
theorem keepsT_set {n0 B : Nat} {W : World} {b j : Nat} {u : Value} (h0 : n0 ≤ b) (hB : B ≠ b) : KeepsT n0 B W (W.setCell ⟨b, j, none⟩ u) := fun i hi => heap_setCell_other W ⟨b, j, none⟩ i u (fun e => by simp at e; omega)
/-- a box beside what was there -/
def Boxd (w : World) (b : Nat) (T : TypeId) (v : Value) (W : World) : Prop := W.heap[b]? = some (.cells #[v] T (0, 0)) ∧ Below w.heap.size w W
theorem boxd_stays {w A B : World} {b : Nat} {T : TypeId} {v : Value} (h : Boxd w b T v A) (k : Below A.heap.size A B) : Boxd w b T v B := ⟨(k.block b (lt_of_heap h.1)).trans h.1, below_up h.2 k⟩
theorem boxd_apart {w A : World} {b l m : Nat} {T : TypeId} {v : Value} {o : Obj} (o' : Obj) (h : Boxd w b T v A) (hl : m ≤ l) (hm : w.heap.size ≤ m) (ho : A.heap[l]? = some o) (hc : o.isCells = false) : Boxd w b T v (A.putObj l o') := ⟨heap_put ho hc h.1, below_put o' h.2 (by omega)⟩
theorem boxd_set {w A : World} {b : Nat} {T : TypeId} {v : Value} (u : Value) (h : Boxd w b T v A) (hb : w.heap.size ≤ b) : Boxd w b T u (A.setCell ⟨b, 0, none⟩ u) :=
  ⟨by simpa using heap_setCell_same A b 0 _ T u h.1, h.2.setCell (p := ⟨b, 0, none⟩) hb u⟩
def sumT (l : List ByteArray) : Nat := (l.map ByteArray.size).sum
theorem sumT_next (l : List ByteArray) (x : ByteArray) : sumT (l ++ [x]) = sumT l + x.size := by simp [sumT]
theorem sumT_pre {a b : List ByteArray} (h : a <+: b) : sumT a ≤ sumT b := by
  obtain ⟨c, rfl⟩ := h; simp [sumT]
def longT (l : List ByteArray) : Bool := l.any fun c => decide (1000 < c.size)
theorem longT_no {l : List ByteArray} (h : ∀ c ∈ l, c.size ≤ 1000) : longT l = false := by
  unfold longT; rw [List.any_eq_false]; intro c hc; have := h c hc; simp; omega
theorem longT_yes {l pre : List ByteArray} (h : pre <+: l) (hx : ∃ c ∈ pre, 1000 < c.size) : longT l = true := by
  obtain ⟨c, hc, hs⟩ := hx
  unfold longT; rw [List.any_eq_true]; exact ⟨c, h.subset hc, by simpa using hs⟩

theorem texts_in (n : Nat) (ho : Option Addr) (m hc : Nat) (ro : Option Addr) (k rc : Nat) (w : World) :
    CallsIn Fence.wide n Tryz.prog 131 #[.agg #[.slice ho m hc, .slice ro k rc]] w fun e w' => e = .returned (.func (.func 145) #[] #[.pointer (some ⟨w.heap.size, 0, none⟩)]) ∧ w' = w.alloc (TabO ho m hc ro k rc) := by
  refine callsIn_of_wp Tryz.func131 rfl trivial ?_ rfl
  simp only [Tryz.ntmps131, List.size_toArray, List.length_cons, List.length_nil, Nat.reduceAdd, Nat.reduceSub, Array.replicate_succ, Array.replicate_zero, List.push_toArray, List.append_toArray, List.nil_append, List.cons_append]
  gi_wp2
  go_ret
  exact ⟨rfl, rfl⟩

section
variable (ho : Option Addr) (hc : Nat) (hd : List ByteArray) (ro : Option Addr) (rc : Nat) (rs : List (List ByteArray)) (w : World)
  (hn : hd.length ≤ 1099511627776) (hn2 : rs.length ≤ 1099511627776) (hn3 : ∀ r ∈ rs, r.length ≤ 1099511627776) (hH : StrRow w ho hd) (hR : RowsAt w ro rs)
include hn hn2 hn3 hH hR

set_option maxRecDepth 100000 in
set_option maxHeartbeats 4000000 in
theorem total_any (hsum : sumT (allT hd rs) ≤ 1152921504606846976) :
    Calls Tryz.prog 102 #[.agg #[.slice ho hd.length hc, .slice ro rs.length rc]] w fun e w' => e = .returned (.int .i64 (sumT (allT hd rs) : Int)) ∧ Below w.heap.size w w' := by
  refine (callsIn_wide (n := 4)).1 ?_
  obtain ⟨U, HU⟩ : ∃ U, Hid (U = (((w.alloc (TabO ho hd.length hc ro rs.length rc)).alloc (.cells #[.int .i64 0] 3)).alloc (TabO ho hd.length hc ro rs.length rc))) := ⟨_, Lib.hid rfl⟩
  have b1 : Below w.heap.size w ((w.alloc (TabO ho hd.length hc ro rs.length rc)).alloc (.cells #[.int .i64 0] 3)) := two_below _ _ _
  have hbU : Below w.heap.size w U := by rw [HU.out]; exact b1.alloc b1.size _
  have hB1 : U.heap[w.heap.size + 1]? = some (.cells #[.int .i64 0] 3 (0, 0)) := by rw [HU.out, Below.heap_alloc _ _ _ (by simp)]; exact (two_new w _ _).2.2
  have hB2 : U.heap[w.heap.size + 1 + 1]? = some (TabO ho hd.length hc ro rs.length rc) := by
    rw [HU.out]
    have := World.alloc_heap_new ((w.alloc (TabO ho hd.length hc ro rs.length rc)).alloc (.cells #[.int .i64 0] 3)) (TabO ho hd.length hc ro rs.length rc)
    simpa using this
  have hsU : w.heap.size + 3 = U.heap.size := by rw [HU.out]; simp
  have TL := Lib.hid (texts1_tells 3 ho hc hd ro rc rs (w.heap.size + 1 + 1) w U hbU hn hn2 hn3 hH hR hB2)
  have H0 : Hid (Boxd w (w.heap.size + 1) 3 (.int .i64 (sumT [] : Int)) U) := Lib.hid ⟨hB1, hbU⟩
  have HSU := Lib.hid hsU
  have HSUM := Lib.hid hsum
  clear hbU hB1 hB2 hsU b1 hsum hH hR hn3
  refine callsIn_of_wp_marks Tryz.func102 rfl trivial ?_ rfl
  simp only [Tryz.ntmps102, List.size_toArray, List.length_cons, List.length_nil, Nat.reduceAdd, Nat.reduceSub, Array.replicate_succ, Array.replicate_zero, List.push_toArray, List.append_toArray, List.nil_append, List.cons_append]
  gi_wp2_with fail
  refine ⟨trivial, (texts_in _ _ _ _ _ _ _ _).mono ?_⟩; rintro e w1 ⟨rfl, rfl⟩
  gi_wp2_with fail
  rw [← HU.out]
  refine wpIn_range_tells rfl (by decide) (gf := 145) (lb := #[.pointer (some ⟨w.heap.size + 1 + 1, 0, none⟩)]) rfl trivial (enters_of Tryz.func145 (by kernel_rfl) rfl)
    TL.out (Below.refl _ _) (fun _ => rfl) keepsT_trans (fun A l o o' hl _ _ => keepsT_put (m := U.heap.size) (by rw [← HSU.out]; omega) (by rw [← HSU.out]; omega) A l o' hl)
    (fun {A B} hA hAB => keepsT_below (m := U.heap.size) (by rw [← HSU.out]; omega) (by rw [← HSU.out]; omega) hA hAB)
    (fun pre W => Boxd w (w.heap.size + 1) 3 (.int .i64 (sumT pre : Int)) W) (fun _ _ => False) (fun pre A B h k => boxd_stays h k) (fun pre A B h k => h)
    (fun pre A l o o' h hl ho hc => boxd_apart o' h hl (by rw [← HSU.out]; omega) ho hc) (fun pre A l o o' h hl ho hc => h) (fun _ _ _ => trivial)
    (fun pre x A B h k => h) (fun pre x A l o o' h hl ho hc => h) H0.out
    (fun x a' A => a' = { tmps := #[.agg #[.slice ho hd.length hc, .slice ro rs.length rc], .pointer (some ⟨w.heap.size, 0, none⟩), .int .i64 0, .pointer (some ⟨w.heap.size + 1, 0, none⟩), .string x, .agg #[.slice ho hd.length hc, .slice ro rs.length rc], .func (.func 145) #[] #[.pointer (some ⟨w.heap.size + 1 + 1, 0, none⟩)], .string x, undef, undef, undef, undef, undef], defers := [] })
    (fun x a' A l o o' h hl ho hc => h) ?assign ?body ?done ?stop
  case assign =>
    intro l x A K hA hK
    gi_wp2_with fail
    exact hK _ _ (Below.refl _ A) rfl
  case body =>
    rintro l pre x a' A hA hI hok rfl
    have hle : sumT pre + x.size ≤ 1152921504606846976 := by have := sumT_pre hok; rw [sumT_next] at this; have := HSUM.out; omega
    have c0 := (cell_of_box_l hI.1).1
    have f0 := (cell_of_box_l hI.1).2
    have HI := Lib.hid hI
    clear hI hok
    gi_wp2_with fail
    refine ⟨KeepsOthers.setCell _ _ _, keepsT_set (by omega) (by omega), ?_⟩
    have := boxd_set (.int .i64 ((sumT pre : Int) + x.size)) HI.out (by omega)
    show Boxd w (w.heap.size + 1) 3 (.int .i64 (sumT (pre ++ [x]) : Int)) _
    rw [sumT_next, Int.natCast_add]; exact this
  case done =>
    rintro D ys A hD rfl hI hK
    have c0 := (cell_of_box_l hI.1).1
    have HI := Lib.hid hI
    clear hI
    gi_wp2_with fail
    refine ⟨by simp, .inl ⟨_, _, rfl, run_takeDeferred hK, ?_⟩⟩
    exact ⟨_, results_tmp rfl _ _ _, rfl, below_put _ HI.out.2 (by rw [← HSU.out] at hD; omega)⟩
  case stop =>
    rintro D pre W _ _ h _
    exact h.elim

set_option maxRecDepth 100000 in
set_option maxHeartbeats 4000000 in
theorem largeText_any (hs : ∀ c ∈ allT hd rs, c.size ≤ 1152921504606846976) :
    Calls Tryz.prog 101 #[.agg #[.slice ho hd.length hc, .slice ro rs.length rc]] w fun e w' => e = .returned (.bool (longT (allT hd rs))) ∧ Below w.heap.size w w' := by
  refine (callsIn_wide (n := 4)).1 ?_
  obtain ⟨U, HU⟩ : ∃ U, Hid (U = (((w.alloc (TabO ho hd.length hc ro rs.length rc)).alloc (.cells #[.bool false] 4)).alloc (TabO ho hd.length hc ro rs.length rc))) := ⟨_, Lib.hid rfl⟩
  have b1 : Below w.heap.size w ((w.alloc (TabO ho hd.length hc ro rs.length rc)).alloc (.cells #[.bool false] 4)) := two_below _ _ _
  have hbU : Below w.heap.size w U := by rw [HU.out]; exact b1.alloc b1.size _
  have hB1 : U.heap[w.heap.size + 1]? = some (.cells #[.bool false] 4 (0, 0)) := by rw [HU.out, Below.heap_alloc _ _ _ (by simp)]; exact (two_new w _ _).2.2
  have hB2 : U.heap[w.heap.size + 1 + 1]? = some (TabO ho hd.length hc ro rs.length rc) := by
    rw [HU.out]
    have := World.alloc_heap_new ((w.alloc (TabO ho hd.length hc ro rs.length rc)).alloc (.cells #[.bool false] 4)) (TabO ho hd.length hc ro rs.length rc)
    simpa using this
  have hsU : w.heap.size + 3 = U.heap.size := by rw [HU.out]; simp
  have TL := Lib.hid (texts1_tells 3 ho hc hd ro rc rs (w.heap.size + 1 + 1) w U hbU hn hn2 hn3 hH hR hB2)
  have H0 : Hid ((∀ c ∈ ([] : List ByteArray), c.size ≤ 1000) ∧ Boxd w (w.heap.size + 1) 4 (.bool false) U) := Lib.hid ⟨by simp, hB1, hbU⟩
  have HSU := Lib.hid hsU
  have HSUM := Lib.hid hs
  clear hbU hB1 hB2 hsU b1 hs hH hR hn3
  refine callsIn_of_wp_marks Tryz.func101 rfl trivial ?_ rfl
  simp only [Tryz.ntmps101, List.size_toArray, List.length_cons, List.length_nil, Nat.reduceAdd, Nat.reduceSub, Array.replicate_succ, Array.replicate_zero, List.push_toArray, List.append_toArray, List.nil_append, List.cons_append]
  gi_wp2_with fail
  refine ⟨trivial, (texts_in _ _ _ _ _ _ _ _).mono ?_⟩; rintro e w1 ⟨rfl, rfl⟩
  gi_wp2_with fail
  rw [← HU.out]
  refine wpIn_range_tells rfl (by decide) (gf := 145) (lb := #[.pointer (some ⟨w.heap.size + 1 + 1, 0, none⟩)]) rfl trivial (enters_of Tryz.func145 (by kernel_rfl) rfl)
    TL.out (Below.refl _ _) (fun _ => rfl) keepsT_trans (fun A l o o' hl _ _ => keepsT_put (m := U.heap.size) (by rw [← HSU.out]; omega) (by rw [← HSU.out]; omega) A l o' hl)
    (fun {A B} hA hAB => keepsT_below (m := U.heap.size) (by rw [← HSU.out]; omega) (by rw [← HSU.out]; omega) hA hAB)
    (fun pre W => (∀ c ∈ pre, c.size ≤ 1000) ∧ Boxd w (w.heap.size + 1) 4 (.bool false) W) (fun pre W => (∃ c ∈ pre, 1000 < c.size) ∧ Boxd w (w.heap.size + 1) 4 (.bool true) W) (fun pre A B h k => ⟨h.1, boxd_stays h.2 k⟩) (fun pre A B h k => ⟨h.1, boxd_stays h.2 k⟩)
    (fun pre A l o o' h hl ho hc => ⟨h.1, boxd_apart o' h.2 hl (by rw [← HSU.out]; omega) ho hc⟩) (fun pre A l o o' h hl ho hc => ⟨h.1, boxd_apart o' h.2 hl (by rw [← HSU.out]; omega) ho hc⟩) (fun _ _ _ => trivial)
    (fun pre x A B h k => h) (fun pre x A l o o' h hl ho hc => h) H0.out
    (fun x a' A => a' = { tmps := #[.agg #[.slice ho hd.length hc, .slice ro rs.length rc], .pointer (some ⟨w.heap.size, 0, none⟩), .pointer (some ⟨w.heap.size + 1, 0, none⟩), .string x, .agg #[.slice ho hd.length hc, .slice ro rs.length rc], .func (.func 145) #[] #[.pointer (some ⟨w.heap.size + 1 + 1, 0, none⟩)], .string x, undef, undef, undef], defers := [] })
    (fun x a' A l o o' h hl ho hc => h) ?assign ?body ?done ?stop
  case assign =>
    intro l x A K hA hK
    gi_wp2_with fail
    exact hK _ _ (Below.refl _ A) rfl
  case body =>
    rintro l pre x a' A hA ⟨hp, hI⟩ hok rfl
    have hxs := HSUM.out x (hok.subset (by simp))
    have HI := Lib.hid hI
    have HP := Lib.hid hp
    have c0 := (cell_of_box_l hI.1).1
    have f0 := (cell_of_box_l hI.1).2
    clear hI hok hp
    by_cases hx : x.size ≤ 1000
    · gi_wp2_with fail
      refine ⟨KeepsOthers.refl _, fun _ _ => rfl, fun c hc => ?_, HI.out⟩
      rcases List.mem_append.1 hc with h | h
      · exact HP.out c h
      · simp at h; subst h; exact hx
    · gi_wp2_with fail
      exact ⟨KeepsOthers.setCell _ _ _, ⟨x, by simp, by omega⟩, boxd_set (.bool true) HI.out (by omega)⟩
  case done =>
    rintro D ys A hD rfl ⟨hp, hI⟩ hK
    have c0 := (cell_of_box_l hI.1).1
    have f0 := (cell_of_box_l hI.1).2
    have E := Lib.hid (longT_no hp)
    have HI := Lib.hid (boxd_set (.bool false) hI (by omega))
    have HK2 := Lib.hid (show (A.setCell ⟨w.heap.size + 1, 0, none⟩ (.bool false)).heap[D]? = some (.deferred (some [])) from by
      rw [heap_setCell_other A ⟨w.heap.size + 1, 0, none⟩ D _ (fun e => by simp at e; rw [e, hI.1] at hK; cases hK)]; exact hK)
    clear hI hp
    gi_wp2_with fail
    refine ⟨by simp, .inl ⟨_, _, rfl, run_takeDeferred HK2.out, ?_⟩⟩
    have q := boxd_apart (.deferred none) HI.out hD (by rw [← HSU.out]; omega) HK2.out rfl
    have k := (cell_of_box_l q.1).1
    exact ⟨.bool false, by simp [results, Tryz.results101, go_sem, k], by rw [E.out], q.2⟩
  case stop =>
    rintro D pre A hD hS ⟨hp, hI⟩ hK
    have E := Lib.hid (longT_yes hS hp)
    have HI := Lib.hid hI
    clear hI hp
    gi_wp2_with fail
    refine ⟨by simp, .inl ⟨_, _, rfl, run_takeDeferred hK, ?_⟩⟩
    have q := boxd_apart (.deferred none) HI.out hD (by rw [← HSU.out]; omega) hK rfl
    have k := (cell_of_box_l q.1).1
    exact ⟨.bool true, by simp [results, Tryz.results101, go_sem, k], by rw [E.out], q.2⟩
end
end Go.Proofs.YtigijgcldgbokaaGreat
