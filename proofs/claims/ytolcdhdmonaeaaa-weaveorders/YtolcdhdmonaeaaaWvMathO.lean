/-
  The woven list, as the document's reference makes it: gone ones are put, one by one, ahead of the first still pair whose A is more.
  Conditions: none.
-/
import Derived.Test.YtolcdhdmonaeaaaWvMathR
namespace Go.Proofs.Ytolcdhdmonaeaaa
set_option linter.unusedVariables false

/-- the last pair that has a B, or a new one -/
def byAt (l : PL) (b : Int) : Int × Int := l.foldl (fun acc p => if p.2 = b then p else acc) (-1, b)
theorem by_keep (l : PL) (b : Int) (acc : Int × Int) (h : ∀ q ∈ l, q.2 ≠ b) : l.foldl (fun acc p => if p.2 = b then p else acc) acc = acc := by
  induction l with
  | nil => rfl
  | cons p l ih => rw [List.foldl_cons, if_neg (h p (by simp))]; exact ih (fun q hq => h q (by simp [hq]))
theorem by_none (l : PL) (b : Int) (h : ∀ q ∈ l, q.2 ≠ b) : byAt l b = (-1, b) := by_keep l b _ h
theorem by_hit (p : Int × Int) (l : PL) (b : Int) (hp : p.2 = b) (h : ∀ q ∈ l, q.2 ≠ b) : byAt (p :: l) b = p := by
  unfold byAt; rw [List.foldl_cons, if_pos hp]; exact by_keep l b p h
theorem by_skip (p : Int × Int) (l : PL) (b : Int) (hp : p.2 ≠ b) : byAt (p :: l) b = byAt l b := by
  unfold byAt; rw [List.foldl_cons, if_neg hp]
theorem by_next (l : PL) (k : Nat) (b : Int) (p : Int × Int) (h : l[k]? = some p) : byAt (l.take (k + 1)) b = if p.2 = b then p else byAt (l.take k) b := by
  obtain ⟨hk, e⟩ := List.getElem?_eq_some_iff.1 h
  unfold byAt
  rw [List.take_succ_eq_append_getElem hk, e, List.foldl_append]; rfl
theorem weave_by (n : Nat) (b : Int) (m : ML) (h : Row n b m) : weaveM n b m [] = (upFrom n b).map (byAt (m.map Prod.snd)) := by
  induction n generalizing b m with
  | zero => rw [h.nil]; rfl
  | succ n ih =>
    have far : ∀ (m' : ML), Row n (b + 1) m' → ∀ q ∈ m'.map Prod.snd, q.2 ≠ b := fun m' hR q hq => by
      obtain ⟨r, hr, rfl⟩ := List.mem_map.1 hq
      have := hR.within r hr; omega
    cases m with
    | nil =>
      unfold weaveM upFrom
      rw [ih _ _ (h.none (by simp))]; rfl
    | cons q m =>
      obtain ⟨s, p⟩ := q
      unfold weaveM upFrom
      split
      · rename_i hb
        have key : (upFrom n (b + 1)).map (byAt (p :: m.map Prod.snd)) = (upFrom n (b + 1)).map (byAt (m.map Prod.snd)) := List.map_congr_left (fun x hx => by_skip _ _ _ (by have := (upFrom_mem _ _ _).1 hx; omega))
        rw [List.map_cons, List.map_cons, by_hit p _ b hb (far m h.next), key, ← ih _ _ h.next]
        split
        · rfl
        · rfl
      · rename_i hne
        have hN := h.none (fun q hq => by cases hq; exact hne)
        rw [List.map_cons, by_none _ b (far _ hN), ih _ _ hN]
/-- does a gone one stand ahead of this one -/
def hitW (S : List Int) (a : Int) (p : Int × Int) : Bool := decide (p.1 ∈ S) && decide (0 ≤ p.2) && decide (a < p.1)
def insW (S : List Int) (out : PL) (a : Int) : PL := out.takeWhile (fun p => !hitW S a p) ++ (a, -1) :: out.dropWhile (fun p => !hitW S a p)
theorem ins_skip (S : List Int) (a : Int) (xs out : PL) (h : ∀ x ∈ xs, hitW S a x = false) : insW S (xs ++ out) a = xs ++ insW S out a := by
  unfold insW
  rw [List.takeWhile_append_of_pos (fun x hx => by simp [h x hx]), List.dropWhile_append_of_pos (fun x hx => by simp [h x hx]), List.append_assoc]
theorem ins_hit (S : List Int) (a : Int) (p : Int × Int) (out : PL) (h : hitW S a p = true) : insW S (p :: out) a = (a, -1) :: p :: out := by
  unfold insW
  rw [List.takeWhile_cons_of_neg (by simp [h]), List.dropWhile_cons_of_neg (by simp [h])]; rfl
theorem fold_skip (S g : List Int) (xs out : PL) (h : ∀ a ∈ g, ∀ x ∈ xs, hitW S a x = false) : g.foldl (insW S) (xs ++ out) = xs ++ g.foldl (insW S) out := by
  induction g generalizing out with
  | nil => rfl
  | cons a g ih =>
    rw [List.foldl_cons, List.foldl_cons, ins_skip S a xs out (h a (by simp))]
    exact ih _ (fun b hb => h b (by simp [hb]))
theorem hit_gone (S : List Int) (a : Int) (g : List Int) : ∀ x ∈ goneP g, hitW S a x = false := fun x hx => by
  unfold goneP at hx
  obtain ⟨y, _, rfl⟩ := List.mem_map.1 hx
  simp [hitW]
theorem fold_end (S g acc : List Int) : g.foldl (insW S) (goneP acc) = goneP (acc ++ g) := by
  induction g generalizing acc with
  | nil => simp
  | cons a g ih =>
    have : insW S (goneP acc) a = goneP (acc ++ [a]) := by
      have := ins_skip S a (goneP acc) [] (hit_gone S a acc)
      rw [List.append_nil] at this
      rw [this]; unfold goneP insW; simp
    rw [List.foldl_cons, this, ih]; simp
theorem fold_ahead (S g acc : List Int) (p : Int × Int) (out : PL) (h : ∀ a ∈ g, hitW S a p = true) : g.foldl (insW S) (goneP acc ++ p :: out) = goneP (acc ++ g) ++ p :: out := by
  induction g generalizing acc with
  | nil => simp
  | cons a g ih =>
    have : insW S (goneP acc ++ p :: out) a = goneP (acc ++ [a]) ++ p :: out := by
      rw [ins_skip S a (goneP acc) _ (hit_gone S a acc), ins_hit S a p out (h a (by simp))]
      unfold goneP; simp
    rw [List.foldl_cons, this, ih _ (fun b hb => h b (by simp [hb]))]; simp
theorem fold_weave (S : List Int) (n : Nat) (b : Int) (m : ML) (g : List Int) (h : Row n b m) (hm : ∀ q ∈ m, (q.1 = true ↔ q.2.1 ∈ S)) (h1 : (-1 : Int) ∉ S) (hg : g.Pairwise (· < ·)) (ha : ∀ q ∈ m, q.2.1 ∉ g) : g.foldl (insW S) (weaveM n b m []) = weaveM n b m g := by
  induction n generalizing b m g with
  | zero =>
    show g.foldl (insW S) (goneP []) = goneP g
    rw [fold_end]; rfl
  | succ n ih =>
    have one : ∀ (x : Int × Int) (out : PL), x.1 ∉ S → g.foldl (insW S) (x :: out) = x :: g.foldl (insW S) out := fun x out hx =>
      fold_skip S g [x] out (fun a _ y hy => by simp at hy; subst hy; simp [hitW, hx])
    cases m with
    | nil => unfold weaveM; rw [one _ _ h1, ih _ _ _ (h.none (by simp)) hm hg ha]
    | cons q m =>
      obtain ⟨s, p⟩ := q
      have hw := h.within (s, p) (by simp)
      have h0 := h.b0
      simp only at hw
      have hm' : ∀ q ∈ m, (q.1 = true ↔ q.2.1 ∈ S) := fun q hq => hm q (by simp [hq])
      have ha' : ∀ q ∈ m, q.2.1 ∉ g := fun q hq => ha q (by simp [hq])
      unfold weaveM
      split
      · split
        · rename_i hb hs
          have hpS : p.1 ∈ S := (hm (s, p) (by simp)).1 hs
          have hpg : p.1 ∉ g := ha (s, p) (by simp)
          rw [show upToA p.1 [] = [] from rfl, show behindA p.1 [] = [] from rfl]
          conv => lhs; rw [← upTo_behind p.1 g, List.foldl_append]
          rw [fold_ahead S _ [] p _ (fun a hx => by
            have h2 := upTo_le p.1 g a hx
            have h3 : a ≠ p.1 := fun e => hpg (by rw [← e]; exact mem_upToA hx)
            simp [hitW, hpS]; omega), List.nil_append]
          rw [show goneP (upToA p.1 g) ++ p :: weaveM n (b + 1) m [] = (goneP (upToA p.1 g) ++ [p]) ++ weaveM n (b + 1) m [] by simp]
          rw [fold_skip S _ _ _ (fun a hx x hxx => by
            rcases List.mem_append.1 hxx with h2 | h2
            · exact hit_gone S a _ x h2
            · simp at h2; subst h2
              have := behind_gt x.1 g hg a hx
              simp [hitW]; omega)]
          rw [ih _ _ (behindA p.1 g) h.next hm' (hg.sublist (List.dropWhile_sublist _)) (fun q hq hx => ha' q hq (mem_behindA hx))]
          simp
        · rename_i hb hs
          have hpS : p.1 ∉ S := fun hp => hs ((hm (s, p) (by simp)).2 hp)
          rw [one _ _ hpS, ih _ _ _ h.next hm' hg ha']
      · rename_i hne
        rw [one _ _ h1, ih _ _ _ (h.none (fun q hq => by cases hq; exact hne)) hm hg ha]
/-- the As of what is still -/
def stillA (l : PL) : List Int := (atP l (stillL l)).map Prod.fst
def byBL (l : PL) (n : Nat) : PL := (upTo n).map (byAt l)
theorem ref_woven {l : PL} {na nb : Int} (h : May l na nb) : (outOf (l.map Prod.fst) na.toNat).foldl (insW (stillA l)) (byBL l nb.toNat) = weaveL l na nb := by
  obtain ⟨e, hu⟩ := marks_ok l
  have hs := marks_snd l 0 (stillL l)
  have hmem : ∀ q ∈ marks 0 l (stillL l), q.2 ∈ l := fun q hq => by rw [← hs]; exact List.mem_map_of_mem (f := Prod.snd) hq
  have hR := may_row h (stillL l)
  have hfst : ((marks 0 l (stillL l)).map (fun q => q.2.1)).Nodup := by
    have : (marks 0 l (stillL l)).map (fun q => q.2.1) = l.map Prod.fst := by
      conv => rhs; rw [← hs, List.map_map]
      rfl
    rw [this]; exact h.fst
  have hb := weave_by _ _ _ hR
  rw [hs, upFrom_is] at hb
  unfold byBL
  rw [← hb]
  unfold weaveL
  refine fold_weave _ _ _ _ _ hR (fun q hq => ⟨fun hq1 => ?_, fun hq2 => ?_⟩) (fun hx => ?_) (out_rise _ _) (fun q hq hx => ?_)
  · unfold stillA; rw [e]
    exact List.mem_map.2 ⟨q.2, List.mem_map.2 ⟨q, List.mem_filter.2 ⟨hq, hq1⟩, rfl⟩, rfl⟩
  · unfold stillA at hq2; rw [e] at hq2
    obtain ⟨p, hp, ep⟩ := List.mem_map.1 hq2
    obtain ⟨r, hr, er⟩ := List.mem_map.1 hp
    obtain ⟨hr1, hr2⟩ := List.mem_filter.1 hr
    have : r = q := inj_nodup hfst hr1 hq (by simp only [er, ep])
    rw [← this]; exact hr2
  · unfold stillA at hx; rw [e] at hx
    obtain ⟨p, hp, ep⟩ := List.mem_map.1 hx
    obtain ⟨r, hr, er⟩ := List.mem_map.1 hp
    have := (h.within _ (hmem r (List.mem_filter.1 hr).1)).1
    rw [er, ep] at this; omega
  · have := (List.mem_filter.1 hx).2
    simp only [decide_eq_true_eq] at this
    exact this (List.mem_map_of_mem (f := Prod.fst) (hmem q hq))
theorem ins_len (S : List Int) (out : PL) (a : Int) : (insW S out a).length = out.length + 1 := by
  unfold insW
  have := congrArg List.length (List.takeWhile_append_dropWhile (p := fun p => !hitW S a p) (l := out))
  simp only [List.length_append, List.length_cons] at this ⊢; omega
theorem fold_len (S : List Int) (g : List Int) (out : PL) : (g.foldl (insW S) out).length = out.length + g.length := by
  induction g generalizing out with
  | nil => rfl
  | cons a g ih => rw [List.foldl_cons, ih, ins_len, List.length_cons]; omega
theorem fold_next (S : List Int) (g : List Int) (out : PL) (k : Nat) (a : Int) (h : g[k]? = some a) : (g.take (k + 1)).foldl (insW S) out = insW S ((g.take k).foldl (insW S) out) a := by
  obtain ⟨hk, e⟩ := List.getElem?_eq_some_iff.1 h
  rw [List.take_succ_eq_append_getElem hk, e, List.foldl_append]; rfl
end Go.Proofs.Ytolcdhdmonaeaaa
