/-
  Appends in regions that draw, and slices of numbers that the code owns.
  Conditions: none.
-/
import Derived.Deep.OwnRows
import Derived.WalkKit
import Derived.WalkMore
import Derived.OwnWalk
import Derived.Lib.Hide
import Derived.Test.YtmomjhnbhckhpaaDoorProg
import Derived.Test.YtmomjhnbhckhpaaDoorKOpen
namespace Go.Proofs.YtmomjhnbhckhpaaDoor
open Go.RowKit Go.Shelf Go.Deep
set_option linter.unusedVariables false

theorem own_litI (base : Nat) (V : World) (p : Int) (T : TypeId) (hb : base ≤ V.heap.size) : (V.alloc (.cells #[.int .i64 p] T)).ownsRow base T 1 (.slice (some ⟨V.heap.size, 0, none⟩) 1 1) 1 [.int .i64 p] :=
  ⟨rfl, .inr ⟨V.heap.size, 1, _, rfl, hb, World.alloc_heap_new V _, Nat.le_refl _, by unfold maxLen; omega, rfl, rfl⟩⟩
theorem own_emptyI (base : Nat) (V : World) (T : TypeId) (hb : base ≤ V.heap.size) : (V.alloc (.cells #[] T)).ownsRow base T 1 (.slice (some ⟨V.heap.size, 0, none⟩) 0 0) 0 [] :=
  ⟨rfl, .inr ⟨V.heap.size, 0, #[], rfl, hb, World.alloc_heap_new _ _, Nat.le_refl _, by unfold maxLen; omega, rfl, rfl⟩⟩
theorem own_intsI {w : World} {base : Nat} {e : TypeId} {ro : Option Addr} {n cp : Nat} {xs : List Int} {L : List Value} (h : w.ownsRow base e 1 (.slice ro n cp) n L) (hL : L = xs.map (Value.int .i64)) : IntsAt w ro xs := by
  subst hL
  rcases h.2 with ⟨hv, h0⟩ | ⟨g, cap, cur, hv, _, hg, _⟩
  · have := h.1; simp at this; exact .inl (List.eq_nil_of_length_eq_zero (by omega))
  · cases hv
    refine .inr ⟨_, rfl, (h.lt g rfl).2, fun i c hc => h.cells rfl i _ (by rw [List.getElem?_map, hc]; rfl)⟩
def SrcI (w : World) (ao : Option Addr) (cap : Nat) (xs : List Int) : Prop := (ao = none → xs.length = 0 ∧ cap = 0) ∧ ∀ ad, ao = some ad → ∀ (j : Nat) u, (xs.map (Value.int .i64))[j]? = some u → w.cell? (ad.add j) = some u
theorem srcI_of {w : World} {ao : Option Addr} {cap : Nat} {xs : List Int} (h : IntsAt w ao xs) (hn : ao = none → cap = 0) : SrcI w ao cap xs := by
  refine ⟨fun e => ⟨?_, hn e⟩, fun ad e j u hu => ?_⟩
  · rcases h with h | ⟨A, h1, _⟩
    · rw [h]; rfl
    · rw [e] at h1; cases h1
  · rw [List.getElem?_map] at hu
    obtain ⟨c, hc, rfl⟩ := Option.map_eq_some_iff.1 hu
    rcases h with h | ⟨A, h1, _, h3⟩
    · subst h; simp at hc
    · rw [e] at h1; cases h1; exact h3 j c hc
theorem onesI (xs : List Int) : ∀ u ∈ xs.map (Value.int .i64), u.oneCell' = true := fun u hu => by
  obtain ⟨c, _, rfl⟩ := List.mem_map.1 hu; rfl
theorem lit_kept {V V' : World} {g b n c : Nat} {p : Int} {T : TypeId} (hb : V.heap[b]? = some (.cells #[.int .i64 p] T (0, 0))) (hg : V.grownBy V' (Value.slice (some ⟨g, 0, none⟩) n c).ownBlock) (hne : b ≠ g) : IntsAt V' (some ⟨b, 0, none⟩) [p] := by
  have h1 := (hg.block b (lt_of_heap hb) (fun e => hne (by simpa [Value.ownBlock] using e))).trans hb
  refine .inr ⟨_, rfl, lt_of_heap h1, fun i q hq => ?_⟩
  match i, hq with
  | 0, hq => cases hq; exact (Lib.cell_of_heap h1 0).trans rfl
/-- an append in a region that draws: of a slice that the code owns -/
theorem step_append_gd {P : Program} {w : World} {ops : Array Oper} {o : Oper} {a : Act} {K : Act → World → Prop} {Q : Exit → Act → World → Prop} {E : Prop} (hw : Region.wanted o (yielded ops a.tmps) = true) (s x : Operand) (t : TypeId)
    (ho : o.op = .call { callee := .builtin .append, args := #[s, x], argTypes := #[t, t] })
    (base : Nat) (e : TypeId) (i : TypeInfo) (z : Value) (size bytes : Nat) (ht : P.underlying t = some (.slice e)) (hi : P.info? e = some i) (hz : i.zero = some z)
    (hsize : i.size = size) (hby : i.bytes = bytes) (hzs : z.cells.size = size) (hsz : 0 < size)
    (v : Value) (n : Nat) (xs : List Value) (hs : a.eval s = v) (hown : w.ownsRow base e size v n xs)
    (xo : Option Addr) (m c : Nat) (news : List Value) (hx : a.eval x = .slice xo m c) (hnone : xo = none → m = 0 ∧ c = 0) (hl : news.length = m * size) (hnews : ∀ ad, xo = some ad → ∀ (j : Nat) u, news[j]? = some u → w.cell? (ad.add j) = some u) (h1 : ∀ u ∈ news, u.oneCell' = true)
    (h63 : n + m ≤ maxLen) (hbytes : (n + m) * bytes ≤ 140737488355328) (hbase : base ≤ w.heap.size) (N : Nat) (hN : n + m = N) (L : List Value) (hL : xs ++ news = L)
    (h : ∀ ao cap w', w'.ownsRow base e size (.slice ao N cap) N L → w.grownBy w' v.ownBlock → Below base w w' → K (a.put o.dst (.slice ao N cap)) w') :
    if Region.wanted o (yielded ops a.tmps) = true then Oper.wp P o a w K Q else E := by
  subst hN hL
  rw [if_pos hw]
  have fin : ∀ v' w', w'.ownsRow base e size v' (n + m) (xs ++ news) → w.grownBy w' v.ownBlock → K (a.put o.dst v') w' := fun v' w' h2 h3 => by
    obtain ⟨ao, cap, rfl⟩ := own_slice h2
    exact h ao cap w' h2 h3 ((Below.refl base w).grown h3 hbase (fun j hj => (hown.lt j hj).1))
  cases xo with
  | none =>
    obtain ⟨rfl, rfl⟩ := hnone rfl
    have hnil : news = [] := List.eq_nil_of_length_eq_zero (by rw [hl]; simp)
    subst hnil
    have hrun := run_append_owned_none (P := P) (w := w) base t o.type e i size ht hi v n xs hown
    unfold Oper.wp
    simp [execOp, ho, resolve, invoke, builtin, hs, hx, hrun, Result.andThen]
    exact fin v w (by simpa using hown) ⟨rfl, rfl, rfl, Nat.le_refl _, fun _ _ _ => rfl⟩
  | some ad => exact wp_append_own w s x t ho base e i z size bytes ht hi hz hsize hby hzs hsz v n xs hs hown ad m c news hx hl (hnews ad rfl) h1 h63 hbytes hbase (fun v' w' h2 h3 _ => fin v' w' h2 h3)

end Go.Proofs.YtmomjhnbhckhpaaDoor
