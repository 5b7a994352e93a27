/-
  Choices of an A, a B and a score: which one is better, which are taken, and what holds of those that are.
  Conditions: none.
-/
import Derived.Test.YtfidddnagfbnhaaPMathB
namespace Go.Proofs.Ytfidddnagfbnhaa
set_option linter.unusedVariables false
set_option linter.unusedSimpArgs false

/-- a choice: an A, a B, and a score -/
abbrev T3 := Int × Int × Int
abbrev TL := List T3
/-- which of two choices stands ahead: the better one -/
def cmpT (c d : T3) : Int := if cmpI d.2.2 c.2.2 ≠ 0 then cmpI d.2.2 c.2.2 else if cmpI c.1 d.1 ≠ 0 then cmpI c.1 d.1 else cmpI c.2.1 d.2.1
/-- is one better -/
def betterT (c d : T3) : Bool := if c.2.2 ≠ d.2.2 then decide (d.2.2 < c.2.2) else if c.1 ≠ d.1 then decide (c.1 < d.1) else decide (c.2.1 < d.2.1)
theorem better_iff (c d : T3) : betterT c d = true ↔ d.2.2 < c.2.2 ∨ (c.2.2 = d.2.2 ∧ (c.1 < d.1 ∨ (c.1 = d.1 ∧ c.2.1 < d.2.1))) := by
  unfold betterT
  split
  · rename_i h; simp; omega
  · rename_i h
    split
    · rename_i h2; simp; omega
    · rename_i h2; simp; omega
theorem cmpT_neg (c d : T3) : decide (cmpT c d < 0) = betterT c d := by
  have key : cmpT c d < 0 ↔ betterT c d = true := by
    rw [better_iff]
    unfold cmpT cmpI
    obtain ⟨a, b, s⟩ := c
    obtain ⟨x, y, t⟩ := d
    dsimp
    rcases Int.lt_trichotomy t s with h | h | h
    · have h2 : ¬ s < t := by omega
      simp only [h, if_true]; simp
    · subst h
      simp only [Int.lt_irrefl, if_false, not_true, false_or, true_and]
      rcases Int.lt_trichotomy a x with g | g | g
      · simp [g]
      · subst g
        simp only [Int.lt_irrefl, if_false, not_true, false_or, true_and]
        rcases Int.lt_trichotomy b y with k | k | k
        · simp [k]
        · subst k; simp
        · have k2 : ¬ b < y := by omega
          simp [k, k2]
      · have g2 : ¬ a < x := by omega
        have g3 : ¬ a = x := by omega
        simp [g, g2, g3]
    · have h2 : ¬ t < s := by omega
      have h3 : ¬ s = t := by omega
      simp [h, h2, h3]
  cases hb : betterT c d with
  | true => exact decide_eq_true (key.2 hb)
  | false => exact decide_eq_false (fun h => by have := key.1 h; rw [hb] at this; cases this)
theorem better_irrefl (c : T3) : betterT c c = false := by
  cases h : betterT c c with
  | false => rfl
  | true => rw [better_iff] at h; omega
theorem better_trans {c d e : T3} (h : betterT c d = true) (k : betterT d e = true) : betterT c e = true := by
  rw [better_iff] at *; omega
theorem better_ntrans {c d e : T3} (h : betterT c d = false) (k : betterT d e = false) : betterT c e = false := by
  cases hc : betterT c e with
  | false => rfl
  | true =>
    have h' : ¬ betterT c d = true := by rw [h]; simp
    have k' : ¬ betterT d e = true := by rw [k]; simp
    rw [better_iff] at *; omega
theorem better_either {c d : T3} (h : betterT c d = false) (k : betterT d c = false) : c = d := by
  have h' : ¬ betterT c d = true := by rw [h]; simp
  have k' : ¬ betterT d c = true := by rw [k]; simp
  rw [better_iff] at *
  obtain ⟨a, b, s⟩ := c
  obtain ⟨x, y, t⟩ := d
  dsimp at *
  have h1 : s = t := by omega
  have h2 : a = x := by omega
  have h3 : b = y := by omega
  rw [h1, h2, h3]
theorem better_one {c d : T3} (h : betterT c d = true) : betterT d c = false := by
  cases k : betterT d c with
  | false => rfl
  | true => have := better_trans h k; rw [better_irrefl] at this; cases this

/-- may a choice be taken, beside those that are -/
def okT (tk : PL) (c : T3) : Bool := decide (0 ≤ c.1) && decide (0 ≤ c.2.1) && decide (c.1 ∉ tk.map Prod.fst) && decide (c.2.1 ∉ tk.map Prod.snd)
theorem ok_iff (tk : PL) (c : T3) : okT tk c = true ↔ 0 ≤ c.1 ∧ 0 ≤ c.2.1 ∧ c.1 ∉ tk.map Prod.fst ∧ c.2.1 ∉ tk.map Prod.snd := by
  simp only [okT, Bool.and_eq_true, decide_eq_true_eq]
  constructor
  · rintro ⟨⟨⟨a, b⟩, c⟩, d⟩; exact ⟨a, b, c, d⟩
  · rintro ⟨a, b, c, d⟩; exact ⟨⟨⟨a, b⟩, c⟩, d⟩
def stepT (tk : PL) (c : T3) : PL := if okT tk c then tk ++ [(c.1, c.2.1)] else tk
/-- those that are taken of a list that is gone through from its front -/
def scanT (l : TL) : PL := l.foldl stepT []
theorem scan_snoc (l : TL) (c : T3) : scanT (l ++ [c]) = stepT (scanT l) c := by simp [scanT, List.foldl_append]
/-- the one than which none is better -/
def bestT (x : T3) (l : TL) : T3 := l.foldl (fun b y => if betterT y b then y else b) x
theorem best_snoc (x : T3) (l : TL) (y : T3) : bestT x (l ++ [y]) = if betterT y (bestT x l) then y else bestT x l := by unfold bestT; rw [List.foldl_append]; rfl
theorem best_spec (l : TL) : ∀ x, bestT x l ∈ x :: l ∧ ∀ y ∈ x :: l, betterT y (bestT x l) = false := by
  induction l with
  | nil => intro x; simp [bestT, better_irrefl]
  | cons z l ih =>
    intro x
    have e : bestT x (z :: l) = bestT (if betterT z x then z else x) l := rfl
    rw [e]
    cases hz : betterT z x with
    | true =>
      obtain ⟨h1, h2⟩ := ih z
      simp only [if_true]
      refine ⟨List.mem_cons_of_mem _ h1, fun y hy => ?_⟩
      rcases List.mem_cons.1 hy with rfl | hy
      · exact better_ntrans (better_one hz) (h2 z (by simp))
      · exact h2 y hy
    | false =>
      obtain ⟨h1, h2⟩ := ih x
      simp only [Bool.false_eq_true, if_false]
      refine ⟨?_, fun y hy => ?_⟩
      · rcases List.mem_cons.1 h1 with h | h
        · rw [h]; simp
        · simp [h]
      · rcases List.mem_cons.1 hy with rfl | hy
        · exact h2 y (by simp)
        · rcases List.mem_cons.1 hy with rfl | hy
          · exact better_ntrans hz (h2 x (by simp))
          · exact h2 y (by simp [hy])
theorem best_is {x m : T3} {l : TL} (hm : m ∈ x :: l) (h : ∀ y ∈ x :: l, betterT y m = false) : bestT x l = m := by
  obtain ⟨h1, h2⟩ := best_spec l x
  exact better_either (h _ h1) (h2 m hm)
/-- choices that have neither the A nor the B of one -/
def withoutT (l : TL) (x : T3) : TL := l.filter (fun y => decide (y.1 ≠ x.1) && decide (y.2.1 ≠ x.2.1))
/-- choices whose A and B are both from 0 on -/
def freeT (l : TL) : TL := l.filter (fun c => decide (0 ≤ c.1) && decide (0 ≤ c.2.1))
/-- one by one: the best one is taken, what has its A or its B is left out -/
def refT : Nat → TL → PL
  | 0, _ => []
  | _ + 1, [] => []
  | n + 1, x :: l => ((bestT x l).1, (bestT x l).2.1) :: refT n (withoutT (x :: l) (bestT x l))
theorem without_less (x : T3) (l : TL) : (withoutT (x :: l) (bestT x l)).length ≤ l.length := by
  have hm := (best_spec l x).1
  unfold withoutT
  have : ∀ (m : T3) (r : TL), m ∈ r → (r.filter (fun y => decide (y.1 ≠ m.1) && decide (y.2.1 ≠ m.2.1))).length < r.length := fun m r hr => by
    refine List.length_filter_lt_length_iff_exists.2 ⟨m, hr, by simp⟩
  have := this _ _ hm
  rw [List.length_cons] at this; omega
theorem ref_none (n : Nat) : refT n [] = [] := by cases n <;> rfl
theorem ref_more : ∀ (n m : Nat) (l : TL), l.length ≤ n → n ≤ m → refT m l = refT n l
  | 0, m, l, h, _ => by
    have : l = [] := List.eq_nil_of_length_eq_zero (by omega)
    subst this; rw [ref_none, ref_none]
  | n + 1, m, [], h, _ => by rw [ref_none, ref_none]
  | n + 1, m, x :: l, h, k => by
    obtain ⟨m, rfl⟩ : ∃ q, m = q + 1 := ⟨m - 1, by omega⟩
    have := without_less x l
    rw [refT, refT, ref_more n m _ (by simp at h; omega) (by omega)]
theorem ref_perm : ∀ (n : Nat) (l l' : TL), l.Perm l' → refT n l = refT n l'
  | 0, l, l', _ => rfl
  | n + 1, [], l', h => by rw [List.nil_perm.1 h]
  | n + 1, x :: l, [], h => by have := h.length_eq; simp at this
  | n + 1, x :: l, x' :: l', h => by
    obtain ⟨h1, h2⟩ := best_spec l' x'
    have e : bestT x l = bestT x' l' := best_is (h.mem_iff.2 h1) (fun y hy => h2 y (h.mem_iff.1 hy))
    rw [refT, refT, e]
    have hp : (withoutT (x :: l) (bestT x' l')).Perm (withoutT (x' :: l') (bestT x' l')) := h.filter _
    rw [ref_perm n _ _ hp]
/-- in order: none is better than one that stands ahead -/
def SortedT (l : TL) : Prop := l.Pairwise (fun x y => betterT y x = false)
theorem scan_ref : ∀ (S : TL) (tk : PL) (n : Nat), SortedT S → S.length ≤ n → S.foldl stepT tk = tk ++ refT n (S.filter (okT tk))
  | [], tk, n, _, _ => by simp [ref_none]
  | c :: S, tk, n, hs, hn => by
    obtain ⟨h1, h2⟩ := List.pairwise_cons.1 hs
    rw [List.foldl_cons]
    cases hc : okT tk c with
    | false =>
      have e : stepT tk c = tk := by simp [stepT, hc]
      rw [e, scan_ref S tk n h2 (by simp at hn; omega), List.filter_cons]
      simp [hc]
    | true =>
      obtain ⟨n, rfl⟩ : ∃ q, n = q + 1 := ⟨n - 1, by simp at hn; omega⟩
      have e : stepT tk c = tk ++ [(c.1, c.2.1)] := by simp [stepT, hc]
      have eb : bestT c (S.filter (okT tk)) = c := best_is (by simp) (fun y hy => by
        rcases List.mem_cons.1 hy with rfl | hy
        · exact better_irrefl _
        · exact h1 y (List.mem_filter.1 hy).1)
      have ef : withoutT (c :: S.filter (okT tk)) c = S.filter (okT (tk ++ [(c.1, c.2.1)])) := by
        unfold withoutT
        rw [List.filter_cons, if_neg (by simp), List.filter_filter]
        refine List.filter_congr (fun y _ => ?_)
        rw [Bool.eq_iff_iff, Bool.and_eq_true, ok_iff, ok_iff]
        simp only [Bool.and_eq_true, decide_eq_true_eq, List.map_append, List.map_cons, List.map_nil, List.mem_append, List.mem_singleton, not_or]
        constructor
        · rintro ⟨⟨a, b⟩, c, d, e, f⟩; exact ⟨c, d, ⟨e, a⟩, f, b⟩
        · rintro ⟨c, d, ⟨e, a⟩, f, b⟩; exact ⟨⟨a, b⟩, c, d, e, f⟩
      rw [e, scan_ref S _ n h2 (by simp at hn; omega), List.filter_cons, if_pos hc, refT, eb, ef]
      simp
theorem free_ok (l : TL) : l.filter (okT []) = freeT l := by
  unfold freeT
  refine List.filter_congr (fun y _ => ?_)
  simp [okT]
/-- a list of choices, the better ones ahead -/
def sortT (l : TL) : TL := l.mergeSort (fun x y => !betterT y x)
theorem sortT_perm (l : TL) : (sortT l).Perm l := List.mergeSort_perm _ _
theorem sortT_len (l : TL) : (sortT l).length = l.length := (sortT_perm l).length_eq
theorem sortT_sorted (l : TL) : SortedT (sortT l) := by
  have := List.pairwise_mergeSort (le := fun x y => !betterT y x) (fun a b c h k => by
    simp only [Bool.not_eq_true'] at h k ⊢
    exact better_ntrans k h) (fun a b => by
    simp only [Bool.or_eq_true, Bool.not_eq_true']
    cases h : betterT b a with
    | false => exact .inl rfl
    | true => exact .inr (better_one h)) l
  exact this.imp (fun h => by simpa using h)
theorem scan_sort (l : TL) : scanT (sortT l) = refT l.length (freeT l) := by
  unfold scanT
  rw [scan_ref (sortT l) [] l.length (sortT_sorted l) (by rw [sortT_len]; exact Nat.le_refl _), free_ok, List.nil_append]
  exact ref_perm _ _ _ ((sortT_perm l).filter _)
/-- what is taken of a list -/
structure TakenT (l : TL) (tk : PL) : Prop where
  from0 : ∀ p ∈ tk, 0 ≤ p.1 ∧ 0 ≤ p.2
  choice : ∀ p ∈ tk, ∃ c ∈ l, c.1 = p.1 ∧ c.2.1 = p.2
  fst : (tk.map Prod.fst).Nodup
  snd : (tk.map Prod.snd).Nodup
  best : ∀ c ∈ l, 0 ≤ c.1 → 0 ≤ c.2.1 → (c.1, c.2.1) ∈ tk ∨ ∃ d ∈ l, (d.1, d.2.1) ∈ tk ∧ (d.1 = c.1 ∨ d.2.1 = c.2.1) ∧ betterT c d = false
theorem nodup_snoc {l : List Int} {a : Int} (h : l.Nodup) (ha : a ∉ l) : (l ++ [a]).Nodup :=
  List.nodup_append.2 ⟨h, by simp, fun x hx y hy => by simp at hy; subst hy; exact fun e => ha (e ▸ hx)⟩
theorem taken_step {l : TL} {tk : PL} (h : TakenT l tk) (c : T3) (hb : ∀ d ∈ l, betterT c d = false) : TakenT (l ++ [c]) (stepT tk c) := by
  cases hc : okT tk c with
  | true =>
    have e : stepT tk c = tk ++ [(c.1, c.2.1)] := by simp [stepT, hc]
    obtain ⟨o1, o2, o3, o4⟩ := (ok_iff tk c).1 hc
    rw [e]
    refine ⟨fun p hp => ?_, fun p hp => ?_, ?_, ?_, fun x hx x1 x2 => ?_⟩
    · rcases List.mem_append.1 hp with hp | hp
      · exact h.from0 p hp
      · simp at hp; subst hp; exact ⟨o1, o2⟩
    · rcases List.mem_append.1 hp with hp | hp
      · obtain ⟨y, hy, e⟩ := h.choice p hp; exact ⟨y, by simp [hy], e⟩
      · simp at hp; subst hp; exact ⟨c, by simp, rfl, rfl⟩
    · rw [List.map_append]; exact nodup_snoc h.fst o3
    · rw [List.map_append]; exact nodup_snoc h.snd o4
    · rcases List.mem_append.1 hx with hx | hx
      · rcases h.best x hx x1 x2 with g | ⟨d, d1, d2, d3, d4⟩
        · exact .inl (by simp [g])
        · exact .inr ⟨d, by simp [d1], by simp [d2], d3, d4⟩
      · simp at hx; subst hx; exact .inl (by simp)
  | false =>
    have e : stepT tk c = tk := by simp [stepT, hc]
    rw [e]
    refine ⟨h.from0, fun p hp => ?_, h.fst, h.snd, fun x hx x1 x2 => ?_⟩
    · obtain ⟨y, hy, e⟩ := h.choice p hp; exact ⟨y, by simp [hy], e⟩
    · rcases List.mem_append.1 hx with hx | hx
      · rcases h.best x hx x1 x2 with g | ⟨d, d1, d2, d3, d4⟩
        · exact .inl g
        · exact .inr ⟨d, by simp [d1], d2, d3, d4⟩
      · simp at hx; subst hx
        have : ∃ p ∈ tk, p.1 = x.1 ∨ p.2 = x.2.1 := by
          by_cases h3 : x.1 ∈ tk.map Prod.fst
          · obtain ⟨p, hp, e⟩ := List.mem_map.1 h3; exact ⟨p, hp, .inl e⟩
          · by_cases h4 : x.2.1 ∈ tk.map Prod.snd
            · obtain ⟨p, hp, e⟩ := List.mem_map.1 h4; exact ⟨p, hp, .inr e⟩
            · have := (ok_iff tk x).2 ⟨x1, x2, h3, h4⟩; rw [hc] at this; cases this
        obtain ⟨p, hp, hor⟩ := this
        obtain ⟨d, hd, e1, e2⟩ := h.choice p hp
        exact .inr ⟨d, by simp [hd], by rw [e1, e2]; exact hp, by rw [e1, e2]; exact hor, hb d hd⟩
theorem taken_scan : ∀ (Q P : TL) (tk : PL), SortedT (P ++ Q) → TakenT P tk → TakenT (P ++ Q) (Q.foldl stepT tk)
  | [], P, tk, _, h => by simpa using h
  | c :: Q, P, tk, hs, h => by
    have := taken_step h c (fun d hd => (List.pairwise_append.1 hs).2.2 d hd c (by simp))
    have := taken_scan Q (P ++ [c]) _ (by simpa using hs) this
    simpa using this
theorem taken_sort (l : TL) : TakenT (sortT l) (scanT (sortT l)) := by
  have := taken_scan (sortT l) [] [] (sortT_sorted l) ⟨by simp, by simp, by simp, by simp, by simp⟩
  simpa [scanT] using this
theorem taken_all (l : TL) : TakenT l (scanT (sortT l)) := by
  have h := taken_sort l
  have hm := fun c => (sortT_perm l).mem_iff (a := c)
  exact ⟨h.from0, fun p hp => by obtain ⟨c, hc, e⟩ := h.choice p hp; exact ⟨c, (hm c).1 hc, e⟩, h.fst, h.snd, fun c hc c1 c2 => by
    rcases h.best c ((hm c).2 hc) c1 c2 with g | ⟨d, d1, d2⟩
    · exact .inl g
    · exact .inr ⟨d, (hm d).1 d1, d2⟩⟩

/-- what is taken, in order of the Bs -/
def pickL (l : TL) : PL := sortB (scanT (sortT l))
theorem pick_perm {l l' : TL} (h : l.Perm l') : pickL l = pickL l' := by
  have hp : (freeT l).Perm (freeT l') := h.filter _
  unfold pickL
  rw [scan_sort, scan_sort, h.length_eq, ref_perm _ _ _ hp]
theorem pick_ref (l : TL) : pickL l = sortB (refT l.length (freeT l)) := by unfold pickL; rw [scan_sort]
theorem sortB_perm (l : PL) : (sortB l).Perm l := stab_perm (sortB_stab l).2
theorem pick_scan (l : TL) : (pickL l).Perm (scanT (sortT l)) := sortB_perm _
theorem pick_taken (l : TL) : TakenT l (pickL l) := by
  have h := taken_all l
  have hp := pick_scan l
  refine ⟨fun p hm => h.from0 p (hp.mem_iff.1 hm), fun p hm => h.choice p (hp.mem_iff.1 hm), (hp.map Prod.fst).nodup_iff.2 h.fst, (hp.map Prod.snd).nodup_iff.2 h.snd, fun c hc c1 c2 => ?_⟩
  rcases h.best c hc c1 c2 with g | ⟨d, d1, d2, d3, d4⟩
  · exact .inl (hp.mem_iff.2 g)
  · exact .inr ⟨d, d1, hp.mem_iff.2 d2, d3, d4⟩
theorem pick_sorted (l : TL) : Sorted (pickL l) := (sortB_stab _).1
theorem pick_keys (l : TL) (ss : List Int) (f : Int → Int) (hp : ss.Perm ((scanT (sortT l)).map Prod.snd)) (hf : ∀ p ∈ scanT (sortT l), f p.2 = p.1) : (ss.mergeSort (fun x y => decide (x ≤ y))).map (fun b => (f b, b)) = pickL l := by
  have h1 : ((ss.mergeSort (fun x y => decide (x ≤ y))).map (fun b => (f b, b))).Perm (scanT (sortT l)) := by
    have e : ((scanT (sortT l)).map Prod.snd).map (fun b => (f b, b)) = scanT (sortT l) := by
      rw [List.map_map]
      exact (List.map_congr_left (fun p hp => by show (f p.2, p.2) = id p; rw [hf p hp]; rfl)).trans (List.map_id _)
    have := ((List.mergeSort_perm ss (fun x y => decide (x ≤ y))).trans hp).map (fun b => (f b, b))
    rwa [e] at this
  refine sorted_perm ?_ (pick_sorted l) (h1.trans (pick_scan l).symm) (pick_taken l).snd
  refine List.pairwise_map.2 ?_
  have := List.pairwise_mergeSort (le := fun x y : Int => decide (x ≤ y)) (fun a b c h k => by simp only [decide_eq_true_eq] at *; omega) (fun a b => by simp only [Bool.or_eq_true, decide_eq_true_eq]; omega) ss
  exact this.imp (fun h => by simpa using h)
theorem taken_len (l : TL) (tk : PL) : (l.foldl stepT tk).length ≤ tk.length + l.length := by
  induction l generalizing tk with
  | nil => simp
  | cons c l ih =>
    have := ih (stepT tk c)
    have h2 : (stepT tk c).length ≤ tk.length + 1 := by unfold stepT; split <;> simp
    rw [List.foldl_cons, List.length_cons]; omega
theorem scan_len (l : TL) : (scanT l).length ≤ l.length := by have := taken_len l []; simpa [scanT] using this
theorem pick_len (l : TL) : (pickL l).length ≤ l.length := by
  rw [(pick_scan l).length_eq]
  exact Nat.le_trans (scan_len _) (by rw [sortT_len]; exact Nat.le_refl _)
theorem pick_okP (l : TL) (h : ∀ c ∈ l, (Lit.int .i64 c.1).wf = true ∧ (Lit.int .i64 c.2.1).wf = true ∧ (Lit.int .i64 c.2.2).wf = true) : okP (pickL l) := fun p hp => by
  obtain ⟨c, hc, e1, e2⟩ := (pick_taken l).choice p hp
  obtain ⟨a, b, _⟩ := h c hc
  rw [← e1, ← e2]; exact ⟨a, b⟩
end Go.Proofs.Ytfidddnagfbnhaa
