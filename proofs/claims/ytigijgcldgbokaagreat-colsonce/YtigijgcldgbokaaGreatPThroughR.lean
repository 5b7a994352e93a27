/-
  Pairs through pairs: the document's reference's answer.
  Conditions: lists of at most 2^30 pairs.
-/
import Derived.IntWalk
import Derived.WalkArith
import Derived.OwnWalk
import Derived.Deep.Cut
import Derived.Deep.Onto
import Derived.Deep.RegionHeld3
import Derived.BigQuiet
import Derived.Deep.QuietTactic
import Derived.Test.YtigijgcldgbokaaGreatProg
import Derived.Test.YtigijgcldgbokaaGreatPkA
namespace Go.Proofs.YtigijgcldgbokaaGreat
open Go.RowKit Go.Shelf Go.Maps
set_option linter.unusedVariables false

/-- an append at a step of a region that draws its order: of a slice that may be nil -/
theorem step_append_any {P : Program} {w : World} {ops : Array Oper} {o : Oper} {a : Act} {K : Act → World → Prop} {Q : Exit → Act → World → Prop} {E : Prop} (hgd : o.guard = none) (s x : Operand) (t : TypeId)
    (ho : o.op = .call { callee := .builtin .append, args := #[s, x], argTypes := #[t, t] })
    (base : Nat) (e : TypeId) (i : TypeInfo) (z : Value) (size bytes : Nat) (ht : P.underlying t = some (.slice e)) (hi : P.info? e = some i) (hz : i.zero = some z)
    (hsize : i.size = size) (hby : i.bytes = bytes) (hzs : z.cells.size = size) (hsz : 0 < size)
    (v : Value) (n : Nat) (xs : List Value) (hs : a.eval s = v) (hown : w.ownsRow base e size v n xs)
    (xo : Option Addr) (m c : Nat) (news : List Value) (hx : a.eval x = .slice xo m c) (hnone : xo = none → m = 0 ∧ c = 0) (hl : news.length = m * size) (hnews : ∀ ad, xo = some ad → ∀ (j : Nat) u, news[j]? = some u → w.cell? (ad.add j) = some u) (h1 : ∀ u ∈ news, u.oneCell' = true)
    (h63 : n + m ≤ maxLen) (hbytes : (n + m) * bytes ≤ 140737488355328) (hbase : base ≤ w.heap.size) (N : Nat) (hN : n + m = N) (L : List Value) (hL : xs ++ news = L)
    (h : ∀ ao cap w', w'.ownsRow base e size (.slice ao N cap) N L → w.grownBy w' v.ownBlock → Below base w w' → K (a.put o.dst (.slice ao N cap)) w') :
    if Region.wanted o (yielded ops a.tmps) = true then Oper.wp P o a w K Q else E := by
  subst hN hL
  have hw : Region.wanted o (yielded ops a.tmps) = true := by simp [Region.wanted, hgd]
  rw [if_pos hw]
  have fin : ∀ v' w', w'.ownsRow base e size v' (n + m) (xs ++ news) → w.grownBy w' v.ownBlock → K (a.put o.dst v') w' := fun v' w' h2 h3 => by
    obtain ⟨ao, cap, rfl⟩ := own_slice h2
    exact h ao cap w' h2 h3 ((Below.refl base w).grown h3 hbase (fun j hj => (hown.lt j hj).1))
  cases xo with
  | none =>
    obtain ⟨rfl, rfl⟩ := hnone rfl
    have hnil : news = [] := List.eq_nil_of_length_eq_zero (by rw [hl]; simp)
    subst hnil
    have hrun := run_append_owned_none (P := P) (w := w) base t o.type e i size ht hi v n xs hown
    unfold Oper.wp
    simp [execOp, ho, resolve, invoke, builtin, hs, hx, hrun, Result.andThen]
    exact fin v w (by simpa using hown) ⟨rfl, rfl, rfl, Nat.le_refl _, fun _ _ _ => rfl⟩
  | some ad => exact wp_append_own w s x t ho base e i z size bytes ht hi hz hsize hby hzs hsz v n xs hs hown ad m c news hx hl (hnews ad rfl) h1 h63 hbytes hbase (fun v' w' h2 h3 _ => fin v' w' h2 h3)

theorem firstB_next (xs : PL) (k : Nat) (p : Int × Int) (z : Int) (hp : xs[k]? = some p) (h : firstB (xs.take k) z = none) (hne : ¬ p.2 = z) : firstB (xs.take (k + 1)) z = none := by
  obtain ⟨hk, e⟩ := List.getElem?_eq_some_iff.1 hp
  rw [List.take_succ_eq_append_getElem hk, e, firstB_snoc, h]; simp [hne]
theorem firstB_hit (xs : PL) (k : Nat) (p : Int × Int) (z : Int) (hp : xs[k]? = some p) (h : firstB (xs.take k) z = none) (he : p.2 = z) : firstB xs z = some p.1 := by
  obtain ⟨hk, e⟩ := List.getElem?_eq_some_iff.1 hp
  have h1 : firstB (xs.take (k + 1)) z = some p.1 := by rw [List.take_succ_eq_append_getElem hk, e, firstB_snoc, h]; simp [he]
  rw [← List.take_append_drop (k + 1) xs]
  unfold firstB at h1 ⊢
  rw [List.find?_append]
  cases h2 : (xs.take (k + 1)).find? (fun p => p.2 == z) with
  | none => rw [h2] at h1; cases h1
  | some q => rw [h2] at h1; simpa using h1

end Go.Proofs.YtigijgcldgbokaaGreat
