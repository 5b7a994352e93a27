/-
  The texts of two lists as numbers that are alike just where the texts are: what the program makes of them, by a map.
  Conditions: lists of at most 4096 Go strings.
-/
import Derived.Maps.Own
import Derived.Maps.OwnOps
import Derived.Maps.OwnSet
import Derived.Maps.Views
import Derived.StringKeys
import Derived.Deep.OwnRows
import Derived.WalkKit
import Derived.WalkMore
import Derived.IntWalk
import Derived.WalkArith
import Derived.Lib.Hide
import Derived.Test.YtigijgcldgbokaaGreatProg
import Derived.Test.YtigijgcldgbokaaGreatLcBase
namespace Go.Proofs.YtigijgcldgbokaaGreat
open Go.RowKit Go.Shelf Go.Maps
set_option linter.unusedVariables false

abbrev Txt := List UInt8
theorem keyS (l : Txt) : WideAt.IsKeyLit (.string l) := by first | exact trivial | constructor | simp [WideAt.IsKeyLit]
/-- a map that numbers texts, in the order in which they came -/
structure KeyIs (D : DataW Unit) (K : List Txt) : Prop where
  tidy : Tidy D
  look : ∀ l, D.atKey (.string l) (.lit (.int .i64 0)) = .lit (.int .i64 (if l ∈ K then ((K.idxOf l : Nat) : Int) else 0))
  here : ∀ l, has D (.string l) = decide (l ∈ K)
  size : Go.Maps.size D = K.length
theorem KeyIs.empty : KeyIs (.map []) [] := ⟨tidy_empty, fun z => rfl, fun z => rfl, rfl⟩
theorem idx_snoc (K : List Txt) (x l : Txt) (h : l ∈ K) : (K ++ [x]).idxOf l = K.idxOf l := by rw [List.idxOf_append, if_pos h]
theorem idx_new (K : List Txt) (x : Txt) (h : x ∉ K) : (K ++ [x]).idxOf x = K.length := by rw [List.idxOf_append, if_neg h]; simp
theorem idx_pre (K K' : List Txt) (l : Txt) (hp : K <+: K') (h : l ∈ K) : K'.idxOf l = K.idxOf l := by
  obtain ⟨t, rfl⟩ := hp
  rw [List.idxOf_append, if_pos h]
theorem idx_inj (K : List Txt) (x y : Txt) (hx : x ∈ K) (hy : y ∈ K) (h : ((K.idxOf x : Nat) : Int) = ((K.idxOf y : Nat) : Int)) : x = y := by
  have h1 := List.getElem_idxOf (List.idxOf_lt_length_of_mem hx)
  have h2 := List.getElem_idxOf (List.idxOf_lt_length_of_mem hy)
  have e : K.idxOf x = K.idxOf y := by omega
  rw [← h1, ← h2]
  simp only [e]
theorem KeyIs.put {D : DataW Unit} {K : List Txt} (h : KeyIs D K) (x : Txt) (hx : x ∉ K) : KeyIs (D.put (.string x) (.lit (.int .i64 (K.length : Int)))) (K ++ [x]) := by
  refine ⟨h.tidy.put (keyS x) _, fun z => ?_, fun z => ?_, ?_⟩
  · by_cases e : z = x
    · subst e
      rw [atKey_put_same h.tidy.isMap (keyS z), if_pos (by simp), idx_new K z hx]
    · rw [atKey_put_other (fun e' => e (by injection e')), h.look]
      by_cases hz : z ∈ K
      · rw [if_pos hz, if_pos (by simp [hz]), idx_snoc K x z hz]
      · rw [if_neg hz, if_neg (by simp [hz, e])]
  · by_cases e : z = x
    · subst e
      rw [has_put_same h.tidy.isMap (keyS z)]; simp
    · rw [has_put_other (fun e' => e (by injection e')), h.here]; simp [e]
  · rw [size_put h.tidy, h.here]
    simp [hx, h.size]
set_option maxRecDepth 100000 in
theorem key_look {w : World} {b k : Nat} {D : DataW Unit} {K : List Txt} (h : w.ownsMap Tryz.prog 9 (plainElem Tryz.prog 3) b k D) (hS : KeyIs D K) (x : ByteArray) (hx : x.size ≤ maxLen) :
    (Instr.lookup 55 (.map (some b)) (.string x) true).run Tryz.prog w = .ok (.tuple #[.int .i64 (if x.data.toList ∈ K then ((K.idxOf x.data.toList : Nat) : Int) else 0), .bool (decide (x.data.toList ∈ K))]) w := by
  obtain ⟨v, ps, hrun, hv⟩ := h.look_ok (string_keyed Tryz.underlying9) Tryz.underlying55 (z := .int .i64 0) (Tryz.zeroValue3 _) (plainElem_int Tryz.underlying3 (by decide)) (Go.WideMaps.keyOf_string_mk Tryz.underlying9 hx)
  obtain ⟨c, rfl, hc, _⟩ := plainElem_int_inv Tryz.underlying3 hv
  simp only [Prod.mk.injEq] at hc
  rw [hS.look] at hc
  have e : (if x.data.toList ∈ K then ((K.idxOf x.data.toList : Nat) : Int) else 0) = c := by have := hc.1; injection this with h1; injection h1
  rw [hS.here] at hrun
  rw [e]; exact hrun
/-- what the closure makes: numbers, and the map grown -/
def NumOut (B : Nat) (K : List Txt) (kk : Nat) (ts : List Txt) (w : World) (e : Ending) (w' : World) : Prop :=
  ∃ (g : Nat) (K' : List Txt) (D' : DataW Unit), e = .returned (.slice (some ⟨g, 0, none⟩) ts.length ts.length) ∧ TyI w' g ∧ g ≠ B ∧ (∀ (i : Nat) x, ts[i]? = some x → x ∈ K' ∧ w'.cell? ⟨g, i, none⟩ = some (.int .i64 (K'.idxOf x : Nat))) ∧
    w'.ownsMap Tryz.prog 9 (plainElem Tryz.prog 3) B (kk + ts.length) D' ∧ KeyIs D' K' ∧ K <+: K' ∧ K'.length ≤ K.length + ts.length ∧ w.grownBy w' (some B)
theorem bytes_at (xs : List ByteArray) (k : Nat) (x : ByteArray) (h : xs[k]? = some x) : (bytesOf xs)[k]? = some x.data.toList := by unfold bytesOf; rw [List.getElem?_map, h]; rfl
theorem bytes_len (xs : List ByteArray) : (bytesOf xs).length = xs.length := by simp [bytesOf]

end Go.Proofs.YtigijgcldgbokaaGreat
