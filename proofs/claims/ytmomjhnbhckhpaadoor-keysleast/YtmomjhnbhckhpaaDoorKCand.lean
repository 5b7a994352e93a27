/-
  Candidates as the program keeps them: where they lie, who owns them, and those of names, each once.
  Conditions: lists of at most 2^40 Go strings.
-/
import Derived.Deep.AppendLies
import Derived.Deep.OwnRows
import Derived.WalkKit
import Derived.WalkMore
import Derived.IntWalk
import Derived.WalkArith
import Derived.OwnWalk
import Derived.Lib.Hide
import Derived.Test.YtmomjhnbhckhpaaDoorProg
import Derived.Test.YtmomjhnbhckhpaaDoorKPlaces
namespace Go.Proofs.YtmomjhnbhckhpaaDoor
open Go.RowKit Go.Shelf Go.Maps
set_option linter.unusedVariables false

/-- a candidate: its name, and its column in each table -/
abbrev Cand := ByteArray × List Int
/-- as it is kept: its name, where its columns are, and which -/
abbrev CandV := ByteArray × Value × List Int
def plainC (c : CandV) : Cand := (c.1, c.2.2)
def cellsC (l : List CandV) : List Value := l.flatMap fun c => [.string c.1, c.2.1]
theorem cellsC_length (l : List CandV) : (cellsC l).length = l.length * 2 := by
  induction l with
  | nil => rfl
  | cons a l ih => show (cellsC l).length + 2 = _; rw [ih, List.length_cons]; omega
theorem cellsC_app (l m : List CandV) : cellsC (l ++ m) = cellsC l ++ cellsC m := by simp [cellsC]
theorem cellsC_at : ∀ (l : List CandV) (k : Nat) (c : CandV), l[k]? = some c → (cellsC l)[k * 2]? = some (.string c.1) ∧ (cellsC l)[k * 2 + 1]? = some c.2.1
  | a :: l, 0, c, h => by
    simp at h; subst h; exact ⟨rfl, rfl⟩
  | a :: l, k + 1, c, h => by
    have h1 := cellsC_at l k c (by simpa using h)
    have e : cellsC (a :: l) = .string a.1 :: a.2.1 :: cellsC l := rfl
    rw [e, show (k + 1) * 2 = k * 2 + 1 + 1 by omega, List.getElem?_cons_succ, List.getElem?_cons_succ]
    exact ⟨h1.1, by rw [List.getElem?_cons_succ, List.getElem?_cons_succ]; exact h1.2⟩
  | [], k, c, h => by simp at h
/-- a list of candidates somewhere -/
def CandsAt (w : World) (co : Option Addr) (cs : List Cand) : Prop :=
  cs = [] ∨ ∃ b o, co = some ⟨b, o, none⟩ ∧ b < w.heap.size ∧ ∀ (i : Nat) c, cs[i]? = some c → w.cell? ⟨b, o + i * 2, none⟩ = some (.string c.1) ∧
    ∃ (ao : Option Addr) (cap : Nat), w.cell? ⟨b, o + i * 2 + 1, none⟩ = some (.slice ao c.2.length cap) ∧ IntsAt w ao c.2
theorem CandsAt.kept {w w' : World} {co : Option Addr} {cs : List Cand} (h : CandsAt w co cs) (hB : Below w.heap.size w w') : CandsAt w' co cs := by
  rcases h with h | ⟨b, o, h1, h2, h3⟩
  · exact .inl h
  · refine .inr ⟨b, o, h1, Nat.lt_of_lt_of_le h2 hB.size, fun i c hc => ?_⟩
    obtain ⟨q1, ao, cap, q2, q3⟩ := h3 i c hc
    exact ⟨(hB.cell (p := ⟨b, _, none⟩) h2).trans q1, ao, cap, (hB.cell (p := ⟨b, _, none⟩) h2).trans q2, q3.kept hB⟩
/-- two that do not share where their columns are -/
def OwnApart (a b : CandV) : Prop := ∀ g, a.2.1.ownBlock = some g → b.2.1.ownBlock ≠ some g
theorem OwnApart.symm {a b : CandV} (h : OwnApart a b) : OwnApart b a := fun g hb ha => h g ha hb
/-- candidates of which each owns its columns -/
structure Owned (w : World) (base : Nat) (cs : List CandV) : Prop where
  each : ∀ c ∈ cs, w.ownsRow base 3 1 c.2.1 c.2.2.length (c.2.2.map (Value.int .i64))
  apart : cs.Pairwise OwnApart
theorem Owned.kept {w w' : World} {base : Nat} {cs : List CandV} (h : Owned w base cs) (hB : Below w.heap.size w w') : Owned w' base cs := ⟨fun c hc => ownsRow_below (h.each c hc) hB, h.apart⟩
theorem Owned.grown {w w' : World} {base : Nat} {cs : List CandV} {row : Option Nat} (h : Owned w base cs) (hg : w.grownBy w' row) (hne : ∀ c ∈ cs, c.2.1.ownBlock = none ∨ c.2.1.ownBlock ≠ row) : Owned w' base cs := ⟨fun c hc => (h.each c hc).kept hg (hne c hc), h.apart⟩
/-- a list of candidates that the code owns, with all that they own -/
structure OwnC (w : World) (base : Nat) (v : Value) (cs : List CandV) : Prop where
  list : w.ownsRow base 94 2 v cs.length (cellsC cs)
  owned : Owned w base cs
theorem OwnC.kept {w w' : World} {base : Nat} {v : Value} {cs : List CandV} (h : OwnC w base v cs) (hB : Below w.heap.size w w') : OwnC w' base v cs := ⟨ownsRow_below h.list hB, h.owned.kept hB⟩
/-- a list's block holds no numbers -/
theorem list_apart {w : World} {base : Nat} {v u : Value} {n m : Nat} {xs ys : List Value} (h : w.ownsRow base 94 2 v n xs) (k : w.ownsRow base 3 1 u m ys) : u.ownBlock = none ∨ u.ownBlock ≠ v.ownBlock := by
  rcases k.2 with ⟨rfl, _⟩ | ⟨g, cap, cur, rfl, _, hg, _⟩
  · exact .inl rfl
  · refine .inr fun e => ?_
    rcases h.2 with ⟨rfl, _⟩ | ⟨g', cap', cur', rfl, _, hg', _⟩
    · cases e
    · simp only [Value.ownBlock, Option.some.injEq] at e
      subst e
      rw [hg] at hg'
      injection hg' with h1
      injection h1 with _ h2
      exact absurd h2 (by decide)
theorem OwnC.cands {w : World} {base : Nat} {v : Value} {cs : List CandV} (h : OwnC w base v cs) : ∃ co cap, v = .slice co (cs.map plainC).length cap ∧ CandsAt w co (cs.map plainC) := by
  rcases h.list.2 with ⟨rfl, h0⟩ | ⟨g, cap, cur, rfl, hb, hg, _⟩
  · have hl : cs = [] := List.eq_nil_of_length_eq_zero h0
    subst hl
    exact ⟨none, 0, rfl, .inl rfl⟩
  · refine ⟨_, cap, by simp, .inr ⟨g, 0, rfl, lt_of_heap hg, fun i c hc => ?_⟩⟩
    rw [List.getElem?_map, Option.map_eq_some_iff] at hc
    obtain ⟨d, hd, rfl⟩ := hc
    obtain ⟨q1, q2⟩ := cellsC_at cs i d hd
    have hi : i < cs.length := (List.getElem?_eq_some_iff.1 hd).1
    rw [Nat.zero_add]
    have c1 := h.list.cellAt (i * 2) (by omega)
    have c2 := h.list.cellAt (i * 2 + 1) (by omega)
    rw [q1] at c1
    rw [q2] at c2
    have ho := h.owned.each d (List.mem_of_getElem? hd)
    rcases ho.2 with ⟨he, h0⟩ | ⟨g', cap', cur', he, _, hg', _⟩
    · have hl : d.2.2 = [] := List.eq_nil_of_length_eq_zero h0
      refine ⟨c1, none, 0, ?_, .inl hl⟩
      show w.cell? _ = some (.slice none d.2.2.length 0)
      rw [c2, he, hl]; rfl
    · refine ⟨c1, _, cap', ?_, .inr ⟨⟨g', 0, none⟩, rfl, lt_of_heap hg', fun j p hp => ?_⟩⟩
      · show w.cell? _ = some (.slice _ d.2.2.length cap')
        rw [c2, he]
      · have := ho.cells (g := g') (by rw [he]; rfl) j (.int .i64 p) (by rw [List.getElem?_map]; show Option.map _ (d.2.2[j]?) = _; rw [show d.2.2[j]? = some p from hp]; rfl)
        exact this

/-! each once -/
theorem List.reverseRecOn' {α : Type} {motive : List α → Prop} (l : List α) (nil : motive []) (snoc : ∀ xs y, motive xs → motive (xs ++ [y])) : motive l := by
  have h : ∀ (m : List α), motive m.reverse := fun m => by
    induction m with
    | nil => exact nil
    | cons a m ih => rw [List.reverse_cons]; exact snoc _ _ ih
  have := h l.reverse
  rwa [List.reverse_reverse] at this
theorem mem_bytes (xs : List ByteArray) (x : ByteArray) : x.data.toList ∈ bytesOf xs ↔ x ∈ xs := by
  unfold bytesOf
  rw [List.mem_map]
  exact ⟨fun ⟨y, hy, e⟩ => by rw [← ba_eq e]; exact hy, fun h => ⟨x, h, rfl⟩⟩
/-- each text of a list once, in order -/
def onceL (xs : List ByteArray) : List ByteArray := xs.foldl (fun acc x => if x.data.toList ∈ bytesOf acc then acc else acc ++ [x]) []
theorem once_snoc (xs : List ByteArray) (x : ByteArray) : onceL (xs ++ [x]) = if x.data.toList ∈ bytesOf (onceL xs) then onceL xs else onceL xs ++ [x] := by unfold onceL; rw [List.foldl_append]; rfl
theorem once_mem (xs : List ByteArray) : ∀ x, x ∈ onceL xs ↔ x ∈ xs := by
  induction xs using List.reverseRecOn' with
  | nil => intro x; simp [onceL]
  | snoc xs y ih =>
    intro x
    rw [once_snoc]
    by_cases h : y.data.toList ∈ bytesOf (onceL xs)
    · have h' := (mem_bytes _ _).1 h
      rw [if_pos h, ih, List.mem_append, List.mem_singleton]
      exact ⟨.inl, fun k => k.elim id (fun e => by subst e; exact (ih _).1 h')⟩
    · rw [if_neg h, List.mem_append, List.mem_append, ih]
theorem once_nodup (xs : List ByteArray) : (onceL xs).Nodup := by
  induction xs using List.reverseRecOn' with
  | nil => simp [onceL]
  | snoc xs y ih =>
    rw [once_snoc]
    by_cases h : y.data.toList ∈ bytesOf (onceL xs)
    · rw [if_pos h]; exact ih
    · rw [if_neg h, List.nodup_append]
      exact ⟨ih, by simp, fun a ha b hb => by simp at hb; subst hb; exact fun e => h ((mem_bytes _ _).2 (by rw [← e]; exact ha))⟩
theorem once_len (xs : List ByteArray) : (onceL xs).length ≤ xs.length := by
  induction xs using List.reverseRecOn' with
  | nil => simp [onceL]
  | snoc xs y ih =>
    rw [once_snoc]
    split
    · rw [List.length_append]; omega
    · rw [List.length_append, List.length_append]; simp; exact ih
end Go.Proofs.YtmomjhnbhckhpaaDoor
