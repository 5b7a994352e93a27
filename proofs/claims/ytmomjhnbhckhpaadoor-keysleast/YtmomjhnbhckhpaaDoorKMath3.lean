/-
  A list of lists of texts as its cells, and how many choices there are.
  Conditions: none.
-/
import Derived.Deep.OwnRows
import Derived.WalkKit
import Derived.WalkMore
import Derived.OwnWalk
import Derived.Lib.Hide
import Derived.Lib.SmallJoins
import Derived.Test.YtmomjhnbhckhpaaDoorProg
import Derived.Test.YtmomjhnbhckhpaaDoorKTabs
import Derived.Test.YtmomjhnbhckhpaaDoorKChoice
namespace Go.Proofs.YtmomjhnbhckhpaaDoor
open Go.RowKit Go.Shelf Go.Deep Go.Lib
set_option linter.unusedVariables false

/-- the block behind a slice of texts is one of texts -/
def TyS (w : World) (ro : Option Addr) : Prop := ∀ A, ro = some A → ∃ cs fr, w.heap[A.block]? = some (.cells cs 9 fr)
theorem TyS.kept {w w' : World} {ro : Option Addr} (h : TyS w ro) (hB : Below w.heap.size w w') : TyS w' ro := fun A e => by
  obtain ⟨cs, fr, h1⟩ := h A e
  exact ⟨cs, fr, (hB.block _ (lt_of_heap h1)).trans h1⟩
theorem own_ty {w : World} {base : Nat} {s : Nat} {ao : Option Addr} {n cap : Nat} {xs : List Value} (h : w.ownsRow base 9 s (.slice ao n cap) n xs) : TyS w ao := fun A e => by
  rcases h.2 with ⟨hv, h0⟩ | ⟨g, c, cur, hv, hb, hg, _⟩
  · cases hv; cases e
  · cases hv; cases e; exact ⟨_, _, hg⟩
def RowV (w : World) (r : List ByteArray) (v : Value) : Prop := ∃ (ro : Option Addr) (c : Cap ro r.length), v = .slice ro r.length c.1 ∧ StrRow w ro r ∧ TyS w ro
theorem RowV.kept {w w' : World} {r : List ByteArray} {v : Value} (h : RowV w r v) (hB : Below w.heap.size w w') : RowV w' r v := by
  obtain ⟨ro, c, h1, h2, h3⟩ := h
  exact ⟨ro, c, h1, h2.kept hB, h3.kept hB⟩
theorem RowV.one {w : World} {r : List ByteArray} {v : Value} (h : RowV w r v) : v.oneCell' = true := by
  obtain ⟨ro, c, rfl, _⟩ := h; rfl
/-- a list of lists of texts whose blocks are known -/
def RowsT (w : World) (ao : Option Addr) (rs : List (List ByteArray)) : Prop :=
  rs = [] ∨ ∃ A, ao = some A ∧ A.block < w.heap.size ∧ ∀ (i : Nat) r, rs[i]? = some r → ∃ v, w.cell? (A.add i) = some v ∧ RowV w r v
theorem RowsT.rows {w : World} {ao : Option Addr} {rs : List (List ByteArray)} (h : RowsT w ao rs) : RowsAt w ao rs := by
  rcases h with h | ⟨A, h1, h2, h3⟩
  · exact .inl h
  · refine .inr ⟨A, h1, h2, fun i r hr => ?_⟩
    obtain ⟨v, q1, ro, c, rfl, q2, _⟩ := h3 i r hr
    exact ⟨ro, c, q1, q2⟩
def FitR (w : World) (rs : List (List ByteArray)) (vs : List Value) : Prop := vs.length = rs.length ∧ (∀ (i : Nat) r v, rs[i]? = some r → vs[i]? = some v → RowV w r v) ∧ ∀ u ∈ vs, u.oneCell' = true
theorem FitR.kept {w w' : World} {rs : List (List ByteArray)} {vs : List Value} (h : FitR w rs vs) (hB : Below w.heap.size w w') : FitR w' rs vs := ⟨h.1, fun i r v h1 h2 => (h.2.1 i r v h1 h2).kept hB, h.2.2⟩
theorem fitR_nil (w : World) : FitR w [] [] := ⟨rfl, (fun i r v h => by simp at h), (fun u hu => by simp at hu)⟩
theorem fitR_app {w : World} {rs ss : List (List ByteArray)} {vs us : List Value} (h : FitR w rs vs) (k : FitR w ss us) : FitR w (rs ++ ss) (vs ++ us) := by
  refine ⟨by simp [h.1, k.1], fun i r v hr hv => ?_, fun u hu => (List.mem_append.1 hu).elim (h.2.2 u) (k.2.2 u)⟩
  rw [List.getElem?_append] at hr hv
  rw [h.1] at hv
  split at hr
  · rename_i hi
    rw [if_pos hi] at hv
    exact h.2.1 i r v hr hv
  · rename_i hi
    rw [if_neg hi] at hv
    exact k.2.1 _ r v hr hv
theorem FitR.turn {w w' : World} {rs : List (List ByteArray)} {vs : List Value} {base n : Nat} {u : Value} {xs : List Value} (h : FitR w rs vs) (ho : w.ownsRow base 22 1 u n xs) (hg : w.grownBy w' u.ownBlock) : FitR w' rs vs := by
  refine ⟨h.1, fun i r v hr hv => ?_, h.2.2⟩
  obtain ⟨ro, c, rfl, h2, h3⟩ := h.2.1 i r v hr hv
  have key : ∀ A, ro = some A → w'.heap[A.block]? = w.heap[A.block]? := fun A e => by
    obtain ⟨cs, fr, h4⟩ := h3 A e
    refine hg.block A.block (lt_of_heap h4) (fun e2 => ?_)
    rcases ho.2 with ⟨rfl, _⟩ | ⟨g, cap, cur, rfl, _, hgg, _⟩
    · simp [Value.ownBlock] at e2
    · simp only [Value.ownBlock, Option.some.injEq] at e2
      subst e2
      rw [h4] at hgg
      simp at hgg
  refine ⟨ro, c, rfl, ?_, fun A e => ?_⟩
  · rcases h2 with h2 | ⟨A, h4, h5, h6⟩
    · exact .inl h2
    · refine .inr ⟨A, h4, Nat.lt_of_lt_of_le h5 hg.size, fun j x hx => ?_⟩
      exact (World.cell?_of_block (a := A.add j) (by rw [add_block]; exact key A h4)).trans (h6 j x hx)
  · obtain ⟨cs, fr, h4⟩ := h3 A e
    exact ⟨cs, fr, (key A e).trans h4⟩
theorem rows_vals {w : World} {lo : Option Addr} {lc : Nat} {rs : List (List ByteArray)} (h : RowsT w lo rs) (hn : lo = none → lc = 0) : ∃ vs, FitR w rs vs ∧ SrcT w lo lc rs.length vs := by
  rcases h with rfl | ⟨A, rfl, hb, hcell⟩
  · exact ⟨[], fitR_nil w, ⟨fun e => ⟨rfl, hn e⟩, fun ad e j u hu => by simp at hu⟩⟩
  · have each : ∀ i, i < rs.length → ∃ v : Value, w.cell? (A.add i) = some v ∧ (∀ r, rs[i]? = some r → RowV w r v) ∧ v.oneCell' = true := fun i hi => by
      obtain ⟨v, q1, q2⟩ := hcell i rs[i] (List.getElem?_eq_getElem hi)
      exact ⟨v, q1, (fun r hr => by rw [List.getElem?_eq_getElem hi] at hr; cases hr; exact q2), q2.one⟩
    obtain ⟨q, hq⟩ := choose_lt each
    have hat : ∀ (i : Nat) p, ((List.range rs.length).map q)[i]? = some p → i < rs.length ∧ p = q i := fun i p hp => by
      rw [List.getElem?_map] at hp
      obtain ⟨j, hj, rfl⟩ := Option.map_eq_some_iff.1 hp
      obtain ⟨hi, hij⟩ := List.getElem?_eq_some_iff.1 hj
      simp only [List.length_range] at hi
      rw [List.getElem_range] at hij
      subst hij
      exact ⟨hi, rfl⟩
    refine ⟨(List.range rs.length).map q, ⟨by simp, fun i t v ht hv => ?_, fun u hu => ?_⟩, ⟨(fun e => by cases e), fun ad e j u hu => ?_⟩⟩
    · obtain ⟨hi, rfl⟩ := hat i v hv
      exact (hq i hi).2.1 t ht
    · obtain ⟨i, hiu⟩ := List.mem_iff_getElem?.1 hu
      obtain ⟨hi, rfl⟩ := hat i u hiu
      exact (hq i hi).2.2
    · cases e
      obtain ⟨hi, rfl⟩ := hat j u hu
      exact (hq j hi).1
theorem rows_of_own {w : World} {base : Nat} {e : TypeId} {ao : Option Addr} {n cap : Nat} {rs : List (List ByteArray)} {vs : List Value} (h : w.ownsRow base e 1 (.slice ao n cap) n vs) (hn : rs.length = n) (hV : FitR w rs vs) : RowsT w ao rs := by
  rcases h.2 with ⟨hv, h0⟩ | ⟨g, c, cur, hv, hb, hg, _⟩
  · exact .inl (List.eq_nil_of_length_eq_zero (by omega))
  · cases hv
    refine .inr ⟨_, rfl, lt_of_heap hg, fun i r hr => ?_⟩
    have hi : i < rs.length := (List.getElem?_eq_some_iff.1 hr).1
    obtain ⟨v, hv⟩ : ∃ v, vs[i]? = some v := ⟨_, List.getElem?_eq_getElem (by rw [hV.1]; exact hi)⟩
    exact ⟨v, h.cells (g := g) rfl i _ hv, hV.2.1 i r v hr hv⟩
theorem own_cap {w : World} {base : Nat} {e : TypeId} {s : Nat} {ao : Option Addr} {n cap : Nat} {xs : List Value} (h : w.ownsRow base e s (.slice ao n cap) n xs) : n ≤ cap ∧ (ao = none → cap = 0) := by
  rcases h.2 with ⟨hv, h0⟩ | ⟨g, c, cur, hv, hb, hg, hc, _⟩
  · cases hv; exact ⟨Nat.le_refl _, fun _ => rfl⟩
  · cases hv; exact ⟨hc, fun e => by cases e⟩
theorem choices_few {α : Type} : ∀ (n : Nat) (xs : List α), (choicesL n xs).length ≤ 2 ^ xs.length
  | 0, xs => by rw [choices_zero]; simpa using Nat.one_le_two_pow
  | n + 1, [] => by simp [choicesL]
  | n + 1, y :: ys => by
    have h1 := choices_few n ys
    have h2 := choices_few (n + 1) ys
    simp only [choicesL, List.length_append, List.length_map, List.length_cons, Nat.pow_succ]
    omega
/-- the choices behind a head, of which the first is one of the first i -/
def doneL (head rest : List ByteArray) (n i : Nat) : List (List ByteArray) := (List.range i).flatMap fun j => match rest[j]? with | some x => (choicesL n (rest.drop (j + 1))).map fun c => (head ++ [x]) ++ c | none => []
theorem done_next (head rest : List ByteArray) (n i : Nat) (x : ByteArray) (hx : rest[i]? = some x) : doneL head rest n (i + 1) = doneL head rest n i ++ (choicesL n (rest.drop (i + 1))).map fun c => (head ++ [x]) ++ c := by
  unfold doneL
  rw [List.range_succ, List.flatMap_append]
  simp [hx]
theorem done_split (head rest : List ByteArray) (n : Nat) : ∀ i, i ≤ rest.length → doneL head rest n i ++ (choicesL (n + 1) (rest.drop i)).map (fun c => head ++ c) = (choicesL (n + 1) rest).map fun c => head ++ c
  | 0, _ => by simp [doneL]
  | i + 1, h => by
    have ih := done_split head rest n i (by omega)
    obtain ⟨x, hx⟩ : ∃ x, rest[i]? = some x := ⟨_, List.getElem?_eq_getElem (by omega)⟩
    rw [← ih, done_next head rest n i x hx, choices_step n rest i x hx, List.map_append, List.map_map, List.append_assoc]
    congr 2
    refine List.map_congr_left fun c _ => ?_
    simp
theorem done_all (head rest : List ByteArray) (n : Nat) : doneL head rest n rest.length = (choicesL (n + 1) rest).map fun c => head ++ c := by
  have := done_split head rest n rest.length (Nat.le_refl _)
  rw [choices_end] at this
  simpa using this
theorem done_few (head rest : List ByteArray) (n i : Nat) (h : i ≤ rest.length) : (doneL head rest n i).length ≤ 2 ^ rest.length := by
  have h1 := congrArg List.length (done_split head rest n i h)
  have h2 := choices_few (n + 1) rest
  simp only [List.length_append, List.length_map] at h1
  omega
end Go.Proofs.YtmomjhnbhckhpaaDoor
