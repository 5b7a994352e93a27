/-
  The document's reference: a reader that goes byte by byte: what it makes of the end of a field, and of a record.
  Conditions: slices of at most 2^32 elements (the statements ask about far fewer).
-/
import Derived.WalkKit
import Derived.WalkMore
import Derived.Lib.Hide
import Derived.Deep.RegionLaw
import Derived.Deep.AppendLies
import Derived.Laws.AppendOwnNone
import Derived.Test.YtacclgfpmkhodaaProg
import Derived.Test.YtacclgfpmkhodaaCsvLaw2
namespace Go.Proofs.Ytacclgfpmkhodaa
open Go.RowKit Go.Shelf

def rdA (dn rc : Value) (cell : ByteArray) (st beg err at' : Int) : Array Value := #[dn, rc, .string cell, .int .i64 st, .int .i64 beg, .int .i64 err, .int .i64 at']
def rdV (dn rc : Value) (cell : ByteArray) (st beg err at' : Int) : Value := .agg (rdA dn rc cell st beg err at')

/-- an append at a step of a region that draws its order: of a slice that may be nil -/
theorem step_append_any {P : Program} {w : World} {ops : Array Oper} {o : Oper} {a : Act} {K : Act → World → Prop} {Q : Exit → Act → World → Prop} {E : Prop} (hgd : o.guard = none) (s x : Operand) (t : TypeId)
    (ho : o.op = .call { callee := .builtin .append, args := #[s, x], argTypes := #[t, t] })
    (base : Nat) (e : TypeId) (i : TypeInfo) (z : Value) (size bytes : Nat) (ht : P.underlying t = some (.slice e)) (hi : P.info? e = some i) (hz : i.zero = some z)
    (hsize : i.size = size) (hby : i.bytes = bytes) (hzs : z.cells.size = size) (hsz : 0 < size)
    (v : Value) (n : Nat) (xs : List Value) (hs : a.eval s = v) (hown : w.ownsRow base e size v n xs)
    (xo : Option Addr) (m c : Nat) (news : List Value) (hx : a.eval x = .slice xo m c) (hnone : xo = none → m = 0 ∧ c = 0) (hl : news.length = m * size) (hnews : ∀ ad, xo = some ad → ∀ (j : Nat) u, news[j]? = some u → w.cell? (ad.add j) = some u) (h1 : ∀ u ∈ news, u.oneCell' = true)
    (h63 : n + m ≤ maxLen) (hbytes : (n + m) * bytes ≤ 140737488355328) (hbase : base ≤ w.heap.size) (N : Nat) (hN : n + m = N) (L : List Value) (hL : xs ++ news = L)
    (h : ∀ ao cap w', w'.ownsRow base e size (.slice ao N cap) N L → w.grownBy w' v.ownBlock → Below base w w' → K (a.put o.dst (.slice ao N cap)) w') :
    if Region.wanted o (yielded ops a.tmps) = true then Oper.wp P o a w K Q else E := by
  subst hN hL
  have hw : Region.wanted o (yielded ops a.tmps) = true := by simp [Region.wanted, hgd]
  rw [if_pos hw]
  have fin : ∀ v' w', w'.ownsRow base e size v' (n + m) (xs ++ news) → w.grownBy w' v.ownBlock → K (a.put o.dst v') w' := fun v' w' h2 h3 => by
    obtain ⟨ao, cap, rfl⟩ := own_slice h2
    exact h ao cap w' h2 h3 ((Below.refl base w).grown h3 hbase (fun j hj => (hown.lt j hj).1))
  cases xo with
  | none =>
    obtain ⟨rfl, rfl⟩ := hnone rfl
    have hnil : news = [] := List.eq_nil_of_length_eq_zero (by rw [hl]; simp)
    subst hnil
    have hrun := run_append_owned_none (P := P) (w := w) base t o.type e i size ht hi v n xs hown
    unfold Oper.wp
    simp [execOp, ho, resolve, invoke, builtin, hs, hx, hrun, Result.andThen]
    exact fin v w (by simpa using hown) ⟨rfl, rfl, rfl, Nat.le_refl _, fun _ _ _ => rfl⟩
  | some ad => exact wp_append_own w s x t ho base e i z size bytes ht hi hz hsize hby hzs hsz v n xs hs hown ad m c news hx hl (hnews ad rfl) h1 h63 hbytes hbase (fun v' w' h2 h3 _ => fin v' w' h2 h3)

set_option maxRecDepth 100000 in
set_option maxHeartbeats 1000000 in
theorem bad_any (r : Array Value) (hr : ∃ dn rc cell st beg err at', r = rdA dn rc cell st beg err at') (at' e' : Int) (w : World) :
    Calls Try.prog 31 #[.agg r, .int .i64 at', .int .i64 e'] w fun e w' => e = .returned (rdV (.slice none 0 0) (.slice none 0 0) ⟨#[]⟩ 0 0 e' at') ∧ Below w.heap.size w w' := by
  obtain ⟨dn, rc, cell, st, beg, err, at0, rfl⟩ := hr
  unfold rdA
  go_enter Try.func31, Try.ntmps31
  go_wp2_with fail
  refine bodyPost_ret (v := rdV (.slice none 0 0) (.slice none 0 0) ⟨#[]⟩ 0 0 e' at') (by simp [results, rdV, rdA, Try.results31, go_sem]) rfl ⟨rfl, two_below _ _ _⟩

/-- an empty slice literal owns its row -/
theorem own_new (w : World) (T : TypeId) (base : Nat) (hb : base ≤ w.heap.size) : (w.alloc (.cells #[] T)).ownsRow base T 1 (.slice (some ⟨w.heap.size, 0, none⟩) 0 0) 0 [] :=
  ⟨rfl, .inr ⟨w.heap.size, 0, #[], rfl, hb, World.alloc_heap_new w _, Nat.le_refl _, Nat.zero_le _, rfl, rfl⟩⟩
theorem own_new' (w : World) (T : TypeId) (base b : Nat) (hb : base ≤ w.heap.size) (e : b = w.heap.size) : (w.alloc (.cells #[] T)).ownsRow base T 1 (.slice (some ⟨b, 0, none⟩) 0 0) 0 [] := by
  subst e; exact own_new w T base hb
theorem rd_cells {W : World} {B : Nat} {dn rc : Value} {cell : ByteArray} {st beg err at' : Int} {T : TypeId} (h : W.heap[B]? = some (.cells (rdA dn rc cell st beg err at') T (0, 0))) :
    (W.cell? ⟨B, 0, none⟩ = some dn ∧ W.cell? ⟨B, 1, none⟩ = some rc ∧ W.cell? ⟨B, 2, none⟩ = some (.string cell) ∧ W.cell? ⟨B, 3, none⟩ = some (.int .i64 st) ∧ W.cell? ⟨B, 4, none⟩ = some (.int .i64 beg) ∧ W.cell? ⟨B, 5, none⟩ = some (.int .i64 err) ∧ W.cell? ⟨B, 6, none⟩ = some (.int .i64 at')) ∧
    (∀ i, W.frozen? ⟨B, i, none⟩ = false) ∧ B < W.heap.size :=
  ⟨⟨(Lib.cell_of_heap h 0).trans rfl, (Lib.cell_of_heap h 1).trans rfl, (Lib.cell_of_heap h 2).trans rfl, (Lib.cell_of_heap h 3).trans rfl, (Lib.cell_of_heap h 4).trans rfl, (Lib.cell_of_heap h 5).trans rfl, (Lib.cell_of_heap h 6).trans rfl⟩, fun i => Lib.frozen_of_heap h i, lt_of_heap h⟩

theorem lit_news {w : World} {b : Nat} {v : Value} {T : TypeId} (h : w.heap[b]? = some (.cells #[v] T (0, 0))) : ∀ ad, (some ⟨b, 0, none⟩ : Option Addr) = some ad → ∀ (j : Nat) u, [v][j]? = some u → w.cell? (ad.add j) = some u := fun ad had j u hu => by
  cases had
  rw [cell_row h]
  match j, hu with
  | 0, hu => simpa using hu
theorem heap_set {W : World} {B i : Nat} {cs : Array Value} {T : TypeId} (v : Value) (h : W.heap[B]? = some (.cells cs T (0, 0))) : (W.setCell ⟨B, i, none⟩ v).heap[B]? = some (.cells (cs.setIfInBounds i v) T (0, 0)) := by
  obtain ⟨hlt, hk⟩ := Array.getElem?_eq_some_iff.1 h
  show (W.heap.modify B _)[B]? = _
  rw [Array.getElem?_eq_getElem (by rw [Array.size_modify]; exact hlt), Array.getElem_modify_self, hk]
  rfl
theorem set7 {W : World} {B : Nat} {T : TypeId} {a b : Value} {c : ByteArray} {d e f g : Int} (a' b' : Value) (c' : ByteArray) (d' e' f' g' : Int) (h : W.heap[B]? = some (.cells (rdA a b c d e f g) T (0, 0))) (X : World)
    (hX : X = ((((((W.setCell ⟨B, 0, none⟩ a').setCell ⟨B, 1, none⟩ b').setCell ⟨B, 2, none⟩ (.string c')).setCell ⟨B, 3, none⟩ (.int .i64 d')).setCell ⟨B, 4, none⟩ (.int .i64 e')).setCell ⟨B, 5, none⟩ (.int .i64 f')).setCell ⟨B, 6, none⟩ (.int .i64 g')) :
    X.heap[B]? = some (.cells (rdA a' b' c' d' e' f' g') T (0, 0)) ∧ Below B W X ∧ ∀ k, k ≠ B → X.heap[k]? = W.heap[k]? := by
  subst hX
  have hh := heap_set (i := 6) (.int .i64 g') (heap_set (i := 5) (.int .i64 f') (heap_set (i := 4) (.int .i64 e') (heap_set (i := 3) (.int .i64 d') (heap_set (i := 2) (.string c') (heap_set (i := 1) b' (heap_set (i := 0) a' h))))))
  refine ⟨by rw [hh]; simp [rdA], ?_, fun k hk => ?_⟩
  · exact (((((((Below.refl B W).setCell (p := ⟨B, 0, none⟩) (Nat.le_refl _) _).setCell (p := ⟨B, 1, none⟩) (Nat.le_refl _) _).setCell (p := ⟨B, 2, none⟩) (Nat.le_refl _) _).setCell (p := ⟨B, 3, none⟩) (Nat.le_refl _) _).setCell (p := ⟨B, 4, none⟩) (Nat.le_refl _) _).setCell (p := ⟨B, 5, none⟩) (Nat.le_refl _) _).setCell (p := ⟨B, 6, none⟩) (Nat.le_refl _) _
  · rw [Below.heap_setCell _ _ _ _ hk, Below.heap_setCell _ _ _ _ hk, Below.heap_setCell _ _ _ _ hk, Below.heap_setCell _ _ _ _ hk, Below.heap_setCell _ _ _ _ hk, Below.heap_setCell _ _ _ _ hk, Below.heap_setCell _ _ _ _ hk]

theorem str_news {W w' : World} {ro : Option Addr} {xs : List ByteArray} (h : StrRow W ro xs) (hb : Below W.heap.size W w') : ∀ ad, ro = some ad → ∀ (j : Nat) u, (xs.map Value.string)[j]? = some u → w'.cell? (ad.add j) = some u := fun ad had j u hu => by
  rw [List.getElem?_map] at hu
  obtain ⟨c, hc, rfl⟩ := Option.map_eq_some_iff.1 hu
  rcases h with rfl | ⟨A, hA, hlt, hcell⟩
  · simp at hc
  · rw [had] at hA; cases hA
    exact (hb.cell (p := ad.add j) (by rw [add_block]; exact hlt)).trans (hcell j c hc)

/-- behind the appends: what is stored, and what is handed back -/
theorem closed_end {w W w2 : World} {T S : TypeId} (hsz : W.heap.size = w.heap.size + 2) (g2 : W.heap[w.heap.size + 1]? = some (.cells (rdA (.slice none 0 0) (.slice none 0 0) ⟨#[]⟩ 0 0 0 0) T (0, 0))) (hB : Below w.heap.size w W) (b2 : Below W.heap.size W w2)
    {ao : Option Addr} {cap : Nat} {xs : List ByteArray} {cell : ByteArray} (o2 : w2.ownsRow W.heap.size S 1 (.slice ao (xs.length + 1) cap) (xs.length + 1) (xs.map Value.string ++ [.string cell])) (dn : Value) (beg err at' : Int) (X : World)
    (hX : X = ((((((((((w2.setCell ⟨w.heap.size, 1, none⟩ (.slice ao (xs.length + 1) cap)).setCell ⟨w.heap.size, 2, none⟩ (.string ⟨#[]⟩)).setCell ⟨w.heap.size, 3, none⟩ (.int .i64 0)).setCell ⟨w.heap.size + 1, 0, none⟩ dn).setCell ⟨w.heap.size + 1, 1, none⟩ (.slice ao (xs.length + 1) cap)).setCell ⟨w.heap.size + 1, 2, none⟩ (.string ⟨#[]⟩)).setCell ⟨w.heap.size + 1, 3, none⟩ (.int .i64 0)).setCell ⟨w.heap.size + 1, 4, none⟩ (.int .i64 beg)).setCell ⟨w.heap.size + 1, 5, none⟩ (.int .i64 err)).setCell ⟨w.heap.size + 1, 6, none⟩ (.int .i64 at'))) :
    X.heap[w.heap.size + 1]? = some (.cells (rdA dn (.slice ao (xs.length + 1) cap) ⟨#[]⟩ 0 beg err at') T (0, 0)) ∧ StrRow X ao (xs ++ [cell]) ∧ (∃ g, ao = some ⟨g, 0, none⟩ ∧ w.heap.size ≤ g) ∧ Below w.heap.size w X := by
  obtain ⟨X3, hX3⟩ : ∃ X3, X3 = ((w2.setCell ⟨w.heap.size, 1, none⟩ (.slice ao (xs.length + 1) cap)).setCell ⟨w.heap.size, 2, none⟩ (.string ⟨#[]⟩)).setCell ⟨w.heap.size, 3, none⟩ (.int .i64 0) := ⟨_, rfl⟩
  rw [← hX3] at hX
  have hoth : ∀ k, k ≠ w.heap.size → X3.heap[k]? = w2.heap[k]? := fun k hk => by rw [hX3, Below.heap_setCell _ _ _ _ hk, Below.heap_setCell _ _ _ _ hk, Below.heap_setCell _ _ _ _ hk]
  have g3 : X3.heap[w.heap.size + 1]? = some (.cells (rdA (.slice none 0 0) (.slice none 0 0) ⟨#[]⟩ 0 0 0 0) T (0, 0)) := (hoth _ (by omega)).trans (below_kept b2 g2)
  obtain ⟨q1, q2, q3⟩ := set7 dn (.slice ao (xs.length + 1) cap) ⟨#[]⟩ 0 beg err at' g3 X hX
  have b3 : Below w.heap.size w2 X3 := by
    rw [hX3]
    exact (((Below.refl _ w2).setCell (p := ⟨w.heap.size, 1, none⟩) (Nat.le_refl _) _).setCell (p := ⟨w.heap.size, 2, none⟩) (Nat.le_refl _) _).setCell (p := ⟨w.heap.size, 3, none⟩) (Nat.le_refl _) _
  have hown : X.ownsRow W.heap.size S 1 (.slice ao (xs.length + 1) cap) (xs.length + 1) ((xs ++ [cell]).map Value.string) := by
    rw [List.map_append]
    refine ⟨o2.1, ?_⟩
    rcases o2.2 with ⟨_, h0⟩ | ⟨g, cap', cur, h1, h2, h3, h4⟩
    · omega
    · exact .inr ⟨g, cap', cur, h1, h2, by rw [q3 g (by omega), hoth g (by omega)]; exact h3, h4⟩
  refine ⟨q1, own_row hown, ?_, (((hB.trans (b2.mono (by omega))).trans b3).trans (q2.mono (by omega)))⟩
  rcases o2.2 with ⟨_, h0⟩ | ⟨g, cap', cur, h1, h2, _⟩
  · omega
  · cases h1; exact ⟨g, rfl, by omega⟩
end Go.Proofs.Ytacclgfpmkhodaa
