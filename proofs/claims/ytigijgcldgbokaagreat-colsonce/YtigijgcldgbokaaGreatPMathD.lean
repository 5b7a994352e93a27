/-
  Pairs through pairs that may be: they may be, and turned they are the turned ones, the other way round.
  Conditions: none.
-/
import Derived.Test.YtigijgcldgbokaaGreatPkA
namespace Go.Proofs.YtigijgcldgbokaaGreat
set_option linter.unusedVariables false

theorem firstB_mem {l : PL} {z a : Int} (h : firstB l z = some a) : (a, z) ∈ l := by
  unfold firstB at h
  obtain ⟨⟨x, y⟩, hp, e⟩ := Option.map_eq_some_iff.1 h
  have h1 := List.mem_of_find?_eq_some hp
  have h2 := List.find?_some hp
  simp at h2 e
  subst h2 e
  exact h1
theorem firstB_of {l : PL} {z a : Int} (hn : (l.map Prod.snd).Nodup) (h : (a, z) ∈ l) : firstB l z = some a := by
  cases hf : firstB l z with
  | none =>
    unfold firstB at hf
    rw [Option.map_eq_none_iff, List.find?_eq_none] at hf
    have := hf _ h
    simp at this
  | some b =>
    have h2 := firstB_mem hf
    have : ∀ (m : PL), (m.map Prod.snd).Nodup → (a, z) ∈ m → (b, z) ∈ m → b = a := fun m => by
      induction m with
      | nil => intro _ h; cases h
      | cons q m ih =>
        intro hm h1 h2
        rw [List.map_cons, List.nodup_cons] at hm
        rcases List.mem_cons.1 h1 with e1 | e1 <;> rcases List.mem_cons.1 h2 with e2 | e2
        · rw [← e1] at e2; injection e2
        · exact absurd (List.mem_map.2 ⟨_, e2, by rw [← e1]⟩) hm.1
        · exact absurd (List.mem_map.2 ⟨_, e1, by rw [← e2]⟩) hm.1
        · exact ih hm.2 e1 e2
    rw [this l hn h h2]
theorem through_mem {x y : PL} (hn : (x.map Prod.snd).Nodup) (a c : Int) : (a, c) ∈ throughL x y ↔ ∃ b, (a, b) ∈ x ∧ (b, c) ∈ y := by
  unfold throughL
  rw [List.mem_filterMap]
  constructor
  · rintro ⟨⟨b, c'⟩, hy, h⟩
    obtain ⟨a', ha, e⟩ := Option.map_eq_some_iff.1 h
    injection e with e1 e2
    dsimp at e1 e2 ha
    subst e1 e2
    exact ⟨b, firstB_mem ha, hy⟩
  · rintro ⟨b, hx, hy⟩
    exact ⟨(b, c), hy, by rw [firstB_of hn hx]; rfl⟩
theorem through_sub (x y : PL) : ((throughL x y).map Prod.snd).Sublist (y.map Prod.snd) := by
  unfold throughL
  induction y with
  | nil => simp
  | cons p y ih =>
    rw [List.filterMap_cons]
    split
    · exact (ih.trans (List.sublist_cons_self _ _))
    · rename_i q hq
      obtain ⟨a, _, e⟩ := Option.map_eq_some_iff.1 hq
      subst e
      simpa using ih
theorem through_sorted (x y : PL) (h : Sorted y) : Sorted (throughL x y) := by
  have h1 : (y.map Prod.snd).Pairwise (· ≤ ·) := List.pairwise_map.2 h
  exact List.pairwise_map.1 (h1.sublist (through_sub x y))
/-- no A twice, by what is in it -/
theorem nodup_of_inj : ∀ (l : PL), (l.map Prod.snd).Nodup → (∀ a c c', (a, c) ∈ l → (a, c') ∈ l → c = c') → (l.map Prod.fst).Nodup
  | [], _, _ => by simp
  | (a, c) :: l, hn, h => by
    rw [List.map_cons, List.nodup_cons] at hn
    rw [List.map_cons, List.nodup_cons]
    refine ⟨fun hm => ?_, nodup_of_inj l hn.2 (fun a c c' h1 h2 => h a c c' (by simp [h1]) (by simp [h2]))⟩
    obtain ⟨⟨a', c'⟩, hp, e⟩ := List.mem_map.1 hm
    dsimp at e; subst e
    have := h a' c c' (by simp) (by simp [hp])
    subst this
    exact hn.1 (List.mem_map.2 ⟨_, hp, rfl⟩)
theorem fst_inj {l : PL} (hn : (l.map Prod.fst).Nodup) {a c c' : Int} (h1 : (a, c) ∈ l) (h2 : (a, c') ∈ l) : c = c' := by
  induction l with
  | nil => cases h1
  | cons q m ih =>
    rw [List.map_cons, List.nodup_cons] at hn
    rcases List.mem_cons.1 h1 with e1 | e1 <;> rcases List.mem_cons.1 h2 with e2 | e2
    · rw [← e1] at e2; injection e2 with _ e3; exact e3.symm
    · exact absurd (List.mem_map.2 ⟨_, e2, by rw [← e1]⟩) hn.1
    · exact absurd (List.mem_map.2 ⟨_, e1, by rw [← e2]⟩) hn.1
    · exact ih hn.2 e1 e2
theorem MayBe.through {x y : PL} {na nb nc : Int} (hx : MayBe x na nb) (hy : MayBe y nb nc) : MayBe (throughL x y) na nc := by
  have hs : ((throughL x y).map Prod.snd).Nodup := hy.snd.sublist (through_sub x y)
  refine ⟨hx.a0, hy.b0, fun p hp => ?_, nodup_of_inj _ hs (fun a c c' h1 h2 => ?_), hs, through_sorted x y hy.sorted⟩
  · obtain ⟨a, c⟩ := p
    obtain ⟨b, h1, h2⟩ := (through_mem hx.snd a c).1 hp
    have g1 := hx.within _ h1
    have g2 := hy.within _ h2
    dsimp at g1 g2 ⊢
    omega
  · obtain ⟨b, g1, g2⟩ := (through_mem hx.snd a c).1 h1
    obtain ⟨b', g3, g4⟩ := (through_mem hx.snd a c').1 h2
    have e := fst_inj hx.fst g1 g3
    subst e
    exact fst_inj hy.fst g2 g4
theorem turn_mem (l : PL) (a b : Int) : (a, b) ∈ turnL l ↔ (b, a) ∈ l := by
  rw [(turn_perm l).mem_iff, List.mem_map]
  constructor
  · rintro ⟨⟨x, y⟩, h, e⟩
    simp only [swapP] at e
    injection e with e1 e2
    subst e1 e2; exact h
  · intro h; exact ⟨(b, a), h, rfl⟩
theorem nodup_pairs {l : PL} (h : (l.map Prod.snd).Nodup) : l.Nodup := by
  induction l with
  | nil => simp
  | cons p l ih =>
    rw [List.map_cons, List.nodup_cons] at h
    exact List.nodup_cons.2 ⟨fun hp => h.1 (List.mem_map.2 ⟨p, hp, rfl⟩), ih h.2⟩
theorem through_turn {x y : PL} {na nb nc : Int} (hx : MayBe x na nb) (hy : MayBe y nb nc) : turnL (throughL x y) = throughL (turnL y) (turnL x) := by
  have hz := hx.through hy
  have hzt := hz.turn
  have hr := hy.turn.through hx.turn
  refine sorted_perm hzt.sorted hr.sorted ?_ hr.snd
  refine (List.perm_ext_iff_of_nodup (nodup_pairs hzt.snd) (nodup_pairs hr.snd)).2 (fun ⟨c, a⟩ => ?_)
  rw [turn_mem, through_mem hx.snd, through_mem hy.turn.snd]
  constructor
  · rintro ⟨b, h1, h2⟩; exact ⟨b, (turn_mem y c b).2 h2, (turn_mem x b a).2 h1⟩
  · rintro ⟨b, h1, h2⟩; exact ⟨b, (turn_mem x b a).1 h2, (turn_mem y c b).1 h1⟩
theorem through_few {x y : PL} {na nb nc : Int} (hx : MayBe x na nb) (hy : MayBe y nb nc) : (throughL x y).length ≤ x.length ∧ (throughL x y).length ≤ y.length := by
  refine ⟨?_, through_len x y⟩
  have h1 : ((throughL x y).map Prod.fst).length ≤ (x.map Prod.fst).length := sub_len _ _ (hx.through hy).fst (fun a ha => by
    obtain ⟨⟨a', c⟩, hp, e⟩ := List.mem_map.1 ha
    dsimp at e; subst e
    obtain ⟨b, g1, _⟩ := (through_mem hx.snd a' c).1 hp
    exact List.mem_map.2 ⟨_, g1, rfl⟩)
  simpa using h1
end Go.Proofs.YtigijgcldgbokaaGreat
