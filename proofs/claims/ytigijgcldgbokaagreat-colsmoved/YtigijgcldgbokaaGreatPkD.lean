/-
  Pairs through pairs: the document's reference's answer.
  Conditions: lists of at most 2^30 pairs.
  What lies in memory: slices of numbers by block and place, and lists of such slices.
  Conditions: none.
  The texts of two lists as numbers that are alike just where the texts are: what the program makes of them, by a map.
  Conditions: lists of at most 4096 Go strings.
  How often each text that is counted is in a list: the map that the program makes, by any function that tells which are counted.
  Conditions: lists of at most 2^20 Go strings.
  How often a text is in a list, and how much two lists have in common: the program's answers.
  Conditions: lists of at most 2^20 Go strings.
  How much two lists have in common: the program's answer, by a map that is gone through in whatever order.
  Conditions: lists of at most 2^20 Go strings.
  Whether two lists are alike but for their order: the program's answer.
  Conditions: lists of at most 2^20 Go strings.
-/
import Derived.IntWalk
import Derived.WalkArith
import Derived.OwnWalk
import Derived.Deep.Cut
import Derived.Deep.Onto
import Derived.Deep.RegionHeld3
import Derived.BigQuiet
import Derived.Deep.QuietTactic
import Derived.Test.YtigijgcldgbokaaGreatProg
import Derived.Test.YtigijgcldgbokaaGreatPkA
import Derived.Deep.OwnRows
import Derived.WalkKit
import Derived.WalkMore
import Derived.Lib.Hide
import Derived.Test.YtigijgcldgbokaaGreatPkC
import Derived.Maps.Own
import Derived.Maps.OwnOps
import Derived.Maps.OwnSet
import Derived.Maps.Views
import Derived.StringKeys
import Derived.Maps.RangeWalk
import Derived.Sort.KeysCollected
namespace Go.Proofs.YtigijgcldgbokaaGreat
open Go.RowKit Go.Shelf Go.Maps
set_option linter.unusedVariables false

/-- an append at a step of a region that draws its order: of a slice that may be nil -/
theorem step_append_any {P : Program} {w : World} {ops : Array Oper} {o : Oper} {a : Act} {K : Act → World → Prop} {Q : Exit → Act → World → Prop} {E : Prop} (hgd : o.guard = none) (s x : Operand) (t : TypeId)
    (ho : o.op = .call { callee := .builtin .append, args := #[s, x], argTypes := #[t, t] })
    (base : Nat) (e : TypeId) (i : TypeInfo) (z : Value) (size bytes : Nat) (ht : P.underlying t = some (.slice e)) (hi : P.info? e = some i) (hz : i.zero = some z)
    (hsize : i.size = size) (hby : i.bytes = bytes) (hzs : z.cells.size = size) (hsz : 0 < size)
    (v : Value) (n : Nat) (xs : List Value) (hs : a.eval s = v) (hown : w.ownsRow base e size v n xs)
    (xo : Option Addr) (m c : Nat) (news : List Value) (hx : a.eval x = .slice xo m c) (hnone : xo = none → m = 0 ∧ c = 0) (hl : news.length = m * size) (hnews : ∀ ad, xo = some ad → ∀ (j : Nat) u, news[j]? = some u → w.cell? (ad.add j) = some u) (h1 : ∀ u ∈ news, u.oneCell' = true)
    (h63 : n + m ≤ maxLen) (hbytes : (n + m) * bytes ≤ 140737488355328) (hbase : base ≤ w.heap.size) (N : Nat) (hN : n + m = N) (L : List Value) (hL : xs ++ news = L)
    (h : ∀ ao cap w', w'.ownsRow base e size (.slice ao N cap) N L → w.grownBy w' v.ownBlock → Below base w w' → K (a.put o.dst (.slice ao N cap)) w') :
    if Region.wanted o (yielded ops a.tmps) = true then Oper.wp P o a w K Q else E := by
  subst hN hL
  have hw : Region.wanted o (yielded ops a.tmps) = true := by simp [Region.wanted, hgd]
  rw [if_pos hw]
  have fin : ∀ v' w', w'.ownsRow base e size v' (n + m) (xs ++ news) → w.grownBy w' v.ownBlock → K (a.put o.dst v') w' := fun v' w' h2 h3 => by
    obtain ⟨ao, cap, rfl⟩ := own_slice h2
    exact h ao cap w' h2 h3 ((Below.refl base w).grown h3 hbase (fun j hj => (hown.lt j hj).1))
  cases xo with
  | none =>
    obtain ⟨rfl, rfl⟩ := hnone rfl
    have hnil : news = [] := List.eq_nil_of_length_eq_zero (by rw [hl]; simp)
    subst hnil
    have hrun := run_append_owned_none (P := P) (w := w) base t o.type e i size ht hi v n xs hown
    unfold Oper.wp
    simp [execOp, ho, resolve, invoke, builtin, hs, hx, hrun, Result.andThen]
    exact fin v w (by simpa using hown) ⟨rfl, rfl, rfl, Nat.le_refl _, fun _ _ _ => rfl⟩
  | some ad => exact wp_append_own w s x t ho base e i z size bytes ht hi hz hsize hby hzs hsz v n xs hs hown ad m c news hx hl (hnews ad rfl) h1 h63 hbytes hbase (fun v' w' h2 h3 _ => fin v' w' h2 h3)

theorem firstB_next (xs : PL) (k : Nat) (p : Int × Int) (z : Int) (hp : xs[k]? = some p) (h : firstB (xs.take k) z = none) (hne : ¬ p.2 = z) : firstB (xs.take (k + 1)) z = none := by
  obtain ⟨hk, e⟩ := List.getElem?_eq_some_iff.1 hp
  rw [List.take_succ_eq_append_getElem hk, e, firstB_snoc, h]; simp [hne]
theorem firstB_hit (xs : PL) (k : Nat) (p : Int × Int) (z : Int) (hp : xs[k]? = some p) (h : firstB (xs.take k) z = none) (he : p.2 = z) : firstB xs z = some p.1 := by
  obtain ⟨hk, e⟩ := List.getElem?_eq_some_iff.1 hp
  have h1 : firstB (xs.take (k + 1)) z = some p.1 := by rw [List.take_succ_eq_append_getElem hk, e, firstB_snoc, h]; simp [he]
  rw [← List.take_append_drop (k + 1) xs]
  unfold firstB at h1 ⊢
  rw [List.find?_append]
  cases h2 : (xs.take (k + 1)).find? (fun p => p.2 == z) with
  | none => rw [h2] at h1; cases h1
  | some q => rw [h2] at h1; simpa using h1

end Go.Proofs.YtigijgcldgbokaaGreat
namespace Go.Proofs.YtigijgcldgbokaaGreat
open Go.RowKit Go.Shelf
set_option linter.unusedVariables false

/-- a block of numbers; a block of slices of numbers -/
def TyI (w : World) (b : Nat) : Prop := ∃ cs fr, w.heap[b]? = some (.cells cs 3 fr)
def TyR (w : World) (b : Nat) : Prop := ∃ cs fr, w.heap[b]? = some (.cells cs 95 fr)
theorem TyI.lt {w : World} {b : Nat} (h : TyI w b) : b < w.heap.size := by obtain ⟨_, _, h⟩ := h; exact lt_of_heap h
theorem TyR.lt {w : World} {b : Nat} (h : TyR w b) : b < w.heap.size := by obtain ⟨_, _, h⟩ := h; exact lt_of_heap h
theorem TyI.same {w w' : World} {b : Nat} (h : TyI w b) (e : w'.heap[b]? = w.heap[b]?) : TyI w' b := by obtain ⟨c, f, h⟩ := h; exact ⟨c, f, e.trans h⟩
theorem TyR.same {w w' : World} {b : Nat} (h : TyR w b) (e : w'.heap[b]? = w.heap[b]?) : TyR w' b := by obtain ⟨c, f, h⟩ := h; exact ⟨c, f, e.trans h⟩
theorem rowIs_tyI {w : World} {b n : Nat} {f : Nat → Value} (h : w.rowIs b 3 n f) : TyI w b := by obtain ⟨c, hb, _⟩ := h; exact ⟨c, _, hb⟩
theorem rowIs_tyR {w : World} {b n : Nat} {f : Nat → Value} (h : w.rowIs b 95 n f) : TyR w b := by obtain ⟨c, hb, _⟩ := h; exact ⟨c, _, hb⟩
/-- the cells of a slice of numbers -/
def NumsAt (w : World) (ao : Option Addr) (l : List Int) : Prop := l = [] ∨ ∃ b o, ao = some ⟨b, o, none⟩ ∧ TyI w b ∧ ∀ (i : Nat) p, l[i]? = some p → w.cell? ⟨b, o + i, none⟩ = some (.int .i64 p)
theorem NumsAt.kept {w w' : World} {ao : Option Addr} {l : List Int} (h : NumsAt w ao l) (hB : Below w.heap.size w w') : NumsAt w' ao l := by
  rcases h with h | ⟨b, o, h1, h2, h3⟩
  · exact .inl h
  · exact .inr ⟨b, o, h1, h2.same (hB.block b h2.lt), fun i p hp => (hB.cell (p := ⟨b, o + i, none⟩) h2.lt).trans (h3 i p hp)⟩
/-- slices of numbers behind a slice of them -/
def GridAt (w : World) (ao : Option Addr) (rs : List (List Int)) : Prop := rs = [] ∨ ∃ g, ao = some ⟨g, 0, none⟩ ∧ TyR w g ∧ ∀ (i : Nat) r, rs[i]? = some r → ∃ ro cap, w.cell? ⟨g, i, none⟩ = some (.slice ro r.length cap) ∧ NumsAt w ro r
theorem GridAt.kept {w w' : World} {ao : Option Addr} {rs : List (List Int)} (h : GridAt w ao rs) (hB : Below w.heap.size w w') : GridAt w' ao rs := by
  rcases h with h | ⟨g, h1, h2, h3⟩
  · exact .inl h
  · refine .inr ⟨g, h1, h2.same (hB.block g h2.lt), fun i r hr => ?_⟩
    obtain ⟨ro, cap, h4, h5⟩ := h3 i r hr
    exact ⟨ro, cap, (hB.cell (p := ⟨g, i, none⟩) h2.lt).trans h4, h5.kept hB⟩
/-- a slice of numbers that lies in another block than G -/
def FarAt (w : World) (G : Nat) (v : Value) (L : List Int) : Prop := ∃ b o c, v = .slice (some ⟨b, o, none⟩) L.length c ∧ b ≠ G ∧ TyI w b ∧ ∀ (i : Nat) p, L[i]? = some p → w.cell? ⟨b, o + i, none⟩ = some (.int .i64 p)
theorem FarAt.kept {w w' : World} {G : Nat} {v : Value} {L : List Int} (h : FarAt w G v L) (hg : w.grownBy w' (some G)) : FarAt w' G v L := by
  obtain ⟨b, o, c, h1, h2, h3, h4⟩ := h
  exact ⟨b, o, c, h1, h2, h3.same (hg.block b h3.lt (by simpa using h2)), fun i p hp => cell_grown (h4 i p hp) hg (by simpa using h2)⟩
theorem FarAt.nums {w : World} {G : Nat} {v : Value} {L : List Int} (h : FarAt w G v L) : ∃ ao c, v = .slice ao L.length c ∧ NumsAt w ao L := by
  obtain ⟨b, o, c, h1, h2, h3, h4⟩ := h
  exact ⟨_, c, h1, .inr ⟨b, o, rfl, h3, h4⟩⟩
theorem far_of {w : World} {G : Nat} {ao : Option Addr} {c : Nat} {L : List Int} (h : NumsAt w ao L) (hl : 0 < L.length) (hG : w.heap.size ≤ G) : FarAt w G (.slice ao L.length c) L := by
  rcases h with h | ⟨b, o, rfl, h2, h3⟩
  · subst h; simp at hl
  · exact ⟨b, o, c, rfl, by have := h2.lt; omega, h2, h3⟩
theorem grown_up {a b c : World} {row : Option Nat} (h : a.grownBy b row) (k : b.grownBy c row) : a.grownBy c row :=
  ⟨k.os.trans h.os, k.tape.trans h.tape, k.output.trans h.output, Nat.le_trans h.size k.size, fun i hi hne => (k.block i (Nat.lt_of_lt_of_le hi h.size) hne).trans (h.block i hi hne)⟩
theorem grown_of {w w' : World} {row : Option Nat} (h : Below w.heap.size w w') : w.grownBy w' row := ⟨h.os, h.tape, h.output, h.size, fun k hk _ => h.block k hk⟩
theorem grown_put (w : World) (g i : Nat) (v : Value) : w.grownBy (w.setCell ⟨g, i, none⟩ v) (some g) :=
  ⟨rfl, rfl, rfl, by simp, fun k _ hne => heap_setCell_other w ⟨g, i, none⟩ k v (fun e => hne (by rw [e]))⟩
theorem rowIs_below {w w' : World} {b : Nat} {t : TypeId} {n : Nat} {f : Nat → Value} (h : w.rowIs b t n f) (hB : Below w.heap.size w w') : w'.rowIs b t n f := h.of_block (hB.block b h.lt)
/-- a row that is filled is a slice of numbers -/
theorem rowIs_nums {w : World} {b : Nat} {n : Nat} {f : Nat → Value} {L : List Int} (h : w.rowIs b 3 n f) (hL : L.length = n) (hf : ∀ (i : Nat) p, L[i]? = some p → f i = .int .i64 p) : NumsAt w (some ⟨b, 0, none⟩) L :=
  .inr ⟨b, 0, rfl, rowIs_tyI h, fun i p hp => by
    have hi := (List.getElem?_eq_some_iff.1 hp).1
    rw [Nat.zero_add, h.cell (by omega), hf i p hp]⟩
theorem rowIs_far {w : World} {b G : Nat} {n c : Nat} {f : Nat → Value} {L : List Int} (h : w.rowIs b 3 n f) (hL : L.length = n) (hf : ∀ (i : Nat) p, L[i]? = some p → f i = .int .i64 p) (hG : b ≠ G) : FarAt w G (.slice (some ⟨b, 0, none⟩) n c) L :=
  ⟨b, 0, c, by rw [hL], hG, rowIs_tyI h, fun i p hp => by
    have hi := (List.getElem?_eq_some_iff.1 hp).1
    rw [Nat.zero_add, h.cell (by omega), hf i p hp]⟩
/-- all blocks but those of pairs, and boxes of slices of pairs, are as they were -/
def KeepsTy (A B : World) : Prop := ∀ (k : Nat) cs T fr, A.heap[k]? = some (.cells cs T fr) → T ≠ 36 → T ≠ 28 → B.heap[k]? = some (.cells cs T fr)
theorem KeepsTy.trans {A B C : World} (h : KeepsTy A B) (k : KeepsTy B C) : KeepsTy A C := fun i cs T fr hi h1 h2 => k i cs T fr (h i cs T fr hi h1 h2) h1 h2
theorem KeepsTy.of_below {A B : World} (h : Below A.heap.size A B) : KeepsTy A B := fun i cs T fr hi _ _ => (h.block i (lt_of_heap hi)).trans hi
theorem TyI.tied {w w' : World} {b : Nat} (h : TyI w b) (k : KeepsTy w w') : w'.heap[b]? = w.heap[b]? := by obtain ⟨c, f, h⟩ := h; rw [k b c _ f h (by decide) (by decide), h]
theorem TyR.tied {w w' : World} {b : Nat} (h : TyR w b) (k : KeepsTy w w') : w'.heap[b]? = w.heap[b]? := by obtain ⟨c, f, h⟩ := h; rw [k b c _ f h (by decide) (by decide), h]
theorem NumsAt.tied {w w' : World} {ao : Option Addr} {l : List Int} (h : NumsAt w ao l) (k : KeepsTy w w') : NumsAt w' ao l := by
  rcases h with h | ⟨b, o, h1, h2, h3⟩
  · exact .inl h
  · exact .inr ⟨b, o, h1, h2.same (h2.tied k), fun i p hp => (World.cell?_of_block (w := w) (h2.tied k)).trans (h3 i p hp)⟩
theorem GridAt.tied {w w' : World} {ao : Option Addr} {rs : List (List Int)} (h : GridAt w ao rs) (k : KeepsTy w w') : GridAt w' ao rs := by
  rcases h with h | ⟨g, h1, h2, h3⟩
  · exact .inl h
  · refine .inr ⟨g, h1, h2.same (h2.tied k), fun i r hr => ?_⟩
    obtain ⟨ro, cap, h4, h5⟩ := h3 i r hr
    exact ⟨ro, cap, (World.cell?_of_block (w := w) (h2.tied k)).trans h4, h5.tied k⟩
/-- the rows of a part: the lengths from each of its places on -/
def gridOf (xs rest bs : List Int) : List (List Int) := (List.range (xs.length + 1)).map fun i => rowOf (xs.drop i ++ rest) bs
theorem gridOf_len (xs rest bs : List Int) : (gridOf xs rest bs).length = xs.length + 1 := by simp [gridOf]
theorem gridOf_at (xs rest bs : List Int) (i : Nat) (h : i ≤ xs.length) : (gridOf xs rest bs)[i]? = some (rowOf (xs.drop i ++ rest) bs) := by
  unfold gridOf
  rw [List.getElem?_map, List.getElem?_range (by omega)]; rfl
/-- a grid that comes back -/
def GridOut (rs : List (List Int)) (w : World) (e : Ending) (w' : World) : Prop := ∃ ao cap, e = .returned (.slice ao rs.length cap) ∧ GridAt w' ao rs ∧ Below w.heap.size w w'
theorem grid_of {w : World} {G n : Nat} {f : Nat → Value} {rs : List (List Int)} (h : w.rowIs G 95 n f) (hl : rs.length = n) (hf : ∀ (i : Nat) r, rs[i]? = some r → FarAt w G (f i) r) : GridAt w (some ⟨G, 0, none⟩) rs :=
  .inr ⟨G, rfl, rowIs_tyR h, fun i r hr => by
    have hi := (List.getElem?_eq_some_iff.1 hr).1
    obtain ⟨ao, c, h1, h2⟩ := (hf i r hr).nums
    exact ⟨ao, c, by rw [h.cell (by omega), h1], h2⟩⟩
end Go.Proofs.YtigijgcldgbokaaGreat
namespace Go.Proofs.YtigijgcldgbokaaGreat
open Go.RowKit Go.Shelf Go.Maps
set_option linter.unusedVariables false

abbrev Txt := List UInt8
theorem keyS (l : Txt) : WideAt.IsKeyLit (.string l) := by first | exact trivial | constructor | simp [WideAt.IsKeyLit]
/-- a map that numbers texts, in the order in which they came -/
structure KeyIs (D : DataW Unit) (K : List Txt) : Prop where
  tidy : Tidy D
  look : ∀ l, D.atKey (.string l) (.lit (.int .i64 0)) = .lit (.int .i64 (if l ∈ K then ((K.idxOf l : Nat) : Int) else 0))
  here : ∀ l, has D (.string l) = decide (l ∈ K)
  size : Go.Maps.size D = K.length
theorem KeyIs.empty : KeyIs (.map []) [] := ⟨tidy_empty, fun z => rfl, fun z => rfl, rfl⟩
theorem idx_snoc (K : List Txt) (x l : Txt) (h : l ∈ K) : (K ++ [x]).idxOf l = K.idxOf l := by rw [List.idxOf_append, if_pos h]
theorem idx_new (K : List Txt) (x : Txt) (h : x ∉ K) : (K ++ [x]).idxOf x = K.length := by rw [List.idxOf_append, if_neg h]; simp
theorem idx_pre (K K' : List Txt) (l : Txt) (hp : K <+: K') (h : l ∈ K) : K'.idxOf l = K.idxOf l := by
  obtain ⟨t, rfl⟩ := hp
  rw [List.idxOf_append, if_pos h]
theorem idx_inj (K : List Txt) (x y : Txt) (hx : x ∈ K) (hy : y ∈ K) (h : ((K.idxOf x : Nat) : Int) = ((K.idxOf y : Nat) : Int)) : x = y := by
  have h1 := List.getElem_idxOf (List.idxOf_lt_length_of_mem hx)
  have h2 := List.getElem_idxOf (List.idxOf_lt_length_of_mem hy)
  have e : K.idxOf x = K.idxOf y := by omega
  rw [← h1, ← h2]
  simp only [e]
theorem KeyIs.put {D : DataW Unit} {K : List Txt} (h : KeyIs D K) (x : Txt) (hx : x ∉ K) : KeyIs (D.put (.string x) (.lit (.int .i64 (K.length : Int)))) (K ++ [x]) := by
  refine ⟨h.tidy.put (keyS x) _, fun z => ?_, fun z => ?_, ?_⟩
  · by_cases e : z = x
    · subst e
      rw [atKey_put_same h.tidy.isMap (keyS z), if_pos (by simp), idx_new K z hx]
    · rw [atKey_put_other (fun e' => e (by injection e')), h.look]
      by_cases hz : z ∈ K
      · rw [if_pos hz, if_pos (by simp [hz]), idx_snoc K x z hz]
      · rw [if_neg hz, if_neg (by simp [hz, e])]
  · by_cases e : z = x
    · subst e
      rw [has_put_same h.tidy.isMap (keyS z)]; simp
    · rw [has_put_other (fun e' => e (by injection e')), h.here]; simp [e]
  · rw [size_put h.tidy, h.here]
    simp [hx, h.size]
set_option maxRecDepth 100000 in
theorem key_look {w : World} {b k : Nat} {D : DataW Unit} {K : List Txt} (h : w.ownsMap Tryz.prog 9 (plainElem Tryz.prog 3) b k D) (hS : KeyIs D K) (x : ByteArray) (hx : x.size ≤ maxLen) :
    (Instr.lookup 55 (.map (some b)) (.string x) true).run Tryz.prog w = .ok (.tuple #[.int .i64 (if x.data.toList ∈ K then ((K.idxOf x.data.toList : Nat) : Int) else 0), .bool (decide (x.data.toList ∈ K))]) w := by
  obtain ⟨v, ps, hrun, hv⟩ := h.look_ok (string_keyed Tryz.underlying9) Tryz.underlying55 (z := .int .i64 0) (Tryz.zeroValue3 _) (plainElem_int Tryz.underlying3 (by decide)) (Go.WideMaps.keyOf_string_mk Tryz.underlying9 hx)
  obtain ⟨c, rfl, hc, _⟩ := plainElem_int_inv Tryz.underlying3 hv
  simp only [Prod.mk.injEq] at hc
  rw [hS.look] at hc
  have e : (if x.data.toList ∈ K then ((K.idxOf x.data.toList : Nat) : Int) else 0) = c := by have := hc.1; injection this with h1; injection h1
  rw [hS.here] at hrun
  rw [e]; exact hrun
/-- what the closure makes: numbers, and the map grown -/
def NumOut (B : Nat) (K : List Txt) (kk : Nat) (ts : List Txt) (w : World) (e : Ending) (w' : World) : Prop :=
  ∃ (g : Nat) (K' : List Txt) (D' : DataW Unit), e = .returned (.slice (some ⟨g, 0, none⟩) ts.length ts.length) ∧ TyI w' g ∧ g ≠ B ∧ (∀ (i : Nat) x, ts[i]? = some x → x ∈ K' ∧ w'.cell? ⟨g, i, none⟩ = some (.int .i64 (K'.idxOf x : Nat))) ∧
    w'.ownsMap Tryz.prog 9 (plainElem Tryz.prog 3) B (kk + ts.length) D' ∧ KeyIs D' K' ∧ K <+: K' ∧ K'.length ≤ K.length + ts.length ∧ w.grownBy w' (some B)
theorem bytes_at (xs : List ByteArray) (k : Nat) (x : ByteArray) (h : xs[k]? = some x) : (bytesOf xs)[k]? = some x.data.toList := by unfold bytesOf; rw [List.getElem?_map, h]; rfl
theorem bytes_len (xs : List ByteArray) : (bytesOf xs).length = xs.length := by simp [bytesOf]

end Go.Proofs.YtigijgcldgbokaaGreat
namespace Go.Proofs.YtigijgcldgbokaaGreat
open Go.RowKit Go.Shelf Go.Maps
set_option linter.unusedVariables false

/-- a map of counts: of those alone that are there at least once -/
structure CntIs (D : DataW Unit) (f : Txt → Nat) : Prop where
  tidy : Tidy D
  look : ∀ l, D.atKey (.string l) (.lit (.int .i64 0)) = .lit (.int .i64 ((f l : Nat) : Int))
  here : ∀ l, has D (.string l) = decide (0 < f l)
theorem CntIs.empty : CntIs (.map []) (fun _ => 0) := ⟨tidy_empty, fun z => rfl, fun z => rfl⟩
theorem CntIs.put {D : DataW Unit} {f g : Txt → Nat} (h : CntIs D f) (x : Txt) (hg : ∀ l, g l = if l = x then f x + 1 else f l) : CntIs (D.put (.string x) (.lit (.int .i64 ((f x : Nat) + 1 : Int)))) g := by
  refine ⟨h.tidy.put (keyS x) _, fun z => ?_, fun z => ?_⟩
  · by_cases e : z = x
    · subst e
      rw [atKey_put_same h.tidy.isMap (keyS z), hg, if_pos rfl]; simp
    · rw [atKey_put_other (fun e' => e (by injection e')), h.look, hg, if_neg e]
  · by_cases e : z = x
    · subst e
      rw [has_put_same h.tidy.isMap (keyS z), hg, if_pos rfl]; simp
    · rw [has_put_other (fun e' => e (by injection e')), h.here, hg, if_neg e]
theorem CntIs.same {D : DataW Unit} {f g : Txt → Nat} (h : CntIs D f) (e : ∀ l, g l = f l) : CntIs D g := by
  have : g = f := funext e
  rw [this]; exact h
set_option maxRecDepth 100000 in
theorem cnt_look {w : World} {b k : Nat} {D : DataW Unit} {f : Txt → Nat} (h : w.ownsMap Tryz.prog 9 (plainElem Tryz.prog 3) b k D) (hS : CntIs D f) (x : ByteArray) (hx : x.size ≤ maxLen) :
    (Instr.lookup 55 (.map (some b)) (.string x) false).run Tryz.prog w = .ok (.int .i64 ((f x.data.toList : Nat) : Int)) w := by
  obtain ⟨c, hrun, hat, _⟩ := h.lookup_int (string_keyed Tryz.underlying9) Tryz.underlying55 Tryz.underlying3 (Tryz.zeroValue3 _) (Go.WideMaps.keyOf_string_mk Tryz.underlying9 hx)
  rw [hS.look] at hat
  have e : ((f x.data.toList : Nat) : Int) = c := by injection hat with h1; injection h1
  rw [e]; exact hrun
/-- those that are counted, of the first k -/
def talK (xs : List ByteArray) (p : Txt → Bool) (k : Nat) (l : Txt) : Nat := cntN l ((bytesOf (xs.take k)).filter p)
theorem tal_no (xs : List ByteArray) (p : Txt → Bool) (k : Nat) (x : ByteArray) (hx : xs[k]? = some x) (hp : p x.data.toList = false) (l : Txt) : talK xs p (k + 1) l = talK xs p k l := by
  obtain ⟨hk, e⟩ := List.getElem?_eq_some_iff.1 hx
  unfold talK
  rw [List.take_succ_eq_append_getElem hk, e]
  simp [bytesOf, List.filter_append, hp]
theorem tal_yes (xs : List ByteArray) (p : Txt → Bool) (k : Nat) (x : ByteArray) (hx : xs[k]? = some x) (hp : p x.data.toList = true) (l : Txt) : talK xs p (k + 1) l = if l = x.data.toList then talK xs p k x.data.toList + 1 else talK xs p k l := by
  obtain ⟨hk, e⟩ := List.getElem?_eq_some_iff.1 hx
  unfold talK
  rw [List.take_succ_eq_append_getElem hk, e]
  simp only [bytesOf, List.map_append, List.map_cons, List.map_nil, List.filter_append, cnt_append]
  rw [List.filter_cons, if_pos hp, List.filter_nil]
  simp only [cntN]
  by_cases h : l = x.data.toList
  · subst h; simp
  · rw [if_neg h, if_neg (fun e => h e.symm)]; omega
theorem tal_le (xs : List ByteArray) (p : Txt → Bool) (k : Nat) (l : Txt) : talK xs p k l ≤ k := by
  unfold talK
  refine Nat.le_trans (cnt_le _ _) (Nat.le_trans (List.length_filter_le _ _) ?_)
  simp [bytesOf]; omega
/-- what the counting leaves -/
def TalOut (xs : List ByteArray) (p : Txt → Bool) (w : World) (e : Ending) (w' : World) : Prop :=
  ∃ (B : Nat) (D : DataW Unit), e = .returned (.map (some B)) ∧ w.heap.size ≤ B ∧ w'.ownsMap Tryz.prog 9 (plainElem Tryz.prog 3) B xs.length D ∧ CntIs D (fun l => if p l = true then cntN l (bytesOf xs) else 0) ∧ Below w.heap.size w w'

set_option maxRecDepth 100000 in
set_option maxHeartbeats 2000000 in
theorem tally_any (G : FuncId) (caps : Array Value) (p : Txt → Bool) (hent : ∀ args w, (callFunc G args).run Tryz.prog w = .ok (.enter G args) w) (ao : Option Addr) (cap : Nat) (xs : List ByteArray) (w : World) (hn : xs.length ≤ 1048576) (hs : ∀ c ∈ xs, c.size ≤ maxLen) (hR : StrRow w ao xs)
    (hG : ∀ x ∈ xs, ∀ V, Below w.heap.size w V → Calls Tryz.prog G (#[.string x] ++ caps) V fun e w' => e = .returned (.bool (p x.data.toList)) ∧ Below V.heap.size V w') :
    Calls Tryz.prog 121 #[.slice ao xs.length cap, .agg #[.func (.func G) #[] caps]] w (TalOut xs p w) := by
  have hmm := @run_makeMap Tryz.prog
  have HR := Lib.hid hR
  have HS := Lib.hid hs
  have HG := Lib.hid hG
  obtain ⟨V, HV⟩ : ∃ V, Hid (V = (w.alloc (.cells #[.func (.func G) #[] caps] 148)).alloc (.map #[] 0)) := ⟨_, Lib.hid rfl⟩
  obtain ⟨X, hX⟩ : ∃ X, X = w.heap.size := ⟨_, rfl⟩
  have HM : Hid (V.ownsMap Tryz.prog 9 (plainElem Tryz.prog 3) (X + 1) 0 (.map [] : DataW Unit)) := Lib.hid (by
    rw [HV.out, hX]
    have := World.ownsMap_made (H := Unit) (w.alloc (.cells #[.func (.func G) #[] caps] 148)) Tryz.prog 9 (plainElem Tryz.prog 3)
    rwa [World.size_alloc] at this)
  have HX : Hid (V.heap[X]? = some (.cells #[.func (.func G) #[] caps] 148 (0, 0))) := Lib.hid (by
    rw [HV.out, hX]
    exact ((MapKept.heap_alloc _ _).2 _ (by simp)).trans (World.alloc_heap_new w _))
  have HB : Hid (Below w.heap.size w V) := Lib.hid (by rw [HV.out]; exact two_below _ _ _)
  have HXs := Lib.hid hX
  clear hR hs hG
  go_enter Tryz.func121, Tryz.ntmps121
  go_upto_region 2 with fail
  rw [← HV.out, ← hX]
  clear HV hmm hX
  go_wp2_with fail
  go_loopw [11] (fun i wr => ∃ (k : Nat) (D : DataW Unit), k ≤ xs.length ∧ i = .int .i64 k ∧ Hid (Below w.heap.size w wr) ∧ Hid (wr.ownsMap Tryz.prog 9 (plainElem Tryz.prog 3) (X + 1) k D) ∧ Hid (CntIs D (talK xs p k)) ∧ Hid (wr.heap[X]? = some (.cells #[.func (.func G) #[] caps] 148 (0, 0)))) (fun i _ => xs.length - (intOf i).toNat)
  case atStart => exact ⟨0, _, Nat.zero_le _, rfl, HB, HM, Lib.hid (CntIs.empty.same (fun l => by simp [talK, bytesOf, cntN])), HX⟩
  case round =>
    obtain ⟨k, D, hk, rfl, HBw, HMw, HD, HXw⟩ := hrel
    clear HB HM HX
    by_cases hlt : k < xs.length
    · obtain ⟨x, hx⟩ : ∃ x, xs[k]? = some x := ⟨_, List.getElem?_eq_getElem hlt⟩
      have hxm := List.mem_of_getElem? hx
      have C := Lib.hid (HG.out x hxm wr HBw.out)
      have hsz := HS.out x hxm
      have HNo := Lib.hid (fun (h : p x.data.toList = false) l => tal_no xs p k x hx h l)
      have HYe := Lib.hid (fun (h : p x.data.toList = true) l => tal_yes xs p k x hx h l)
      obtain ⟨pb, hpb⟩ : ∃ pb, p x.data.toList = pb := ⟨_, rfl⟩
      rw [hpb] at C HNo HYe
      rcases (HR.out.kept HBw.out) with h0 | ⟨A, rfl, hA, hcell⟩
      · rw [h0] at hlt; simp at hlt
      have hc := hcell k x hx
      obtain ⟨cX, _⟩ := cell_of_box_l HXw.out
      have HSz := Lib.hid hsz
      clear hcell hx hxm hpb hsz
      go_wp2_with fail
      refine C.out.mono ?_; rintro e w2 ⟨rfl, b1⟩
      have HB2 := Lib.hid (below_up HBw.out b1)
      have HX2 := Lib.hid ((b1.block X (lt_of_heap HXw.out)).trans HXw.out)
      have HM2 := Lib.hid (ownsMap_below HMw.out b1)
      clear b1 cX hc C
      cases pb with
      | false =>
        have HD2 := Lib.hid (HD.out.same (HNo.out rfl))
        have HM3 := Lib.hid (HM2.out.mono (Nat.le_succ k))
        go_wp2_with fail
        go_roundw
        case rel => exact ⟨k + 1, D, by omega, by go_num, HB2, HM3, HD2, HX2⟩
        case measure => simp [intOf]; omega
      | true =>
        have HD2 := Lib.hid (HD.out.put x.data.toList (HYe.out rfl))
        have hrun := cnt_look HM2.out HD.out x HSz.out
        have hle := tal_le xs p k x.data.toList
        generalize talK xs p k x.data.toList = c at HD2 hrun hle
        have HKey := Lib.hid (Go.WideMaps.keyOf_string_mk (P := Tryz.prog) Tryz.underlying9 HSz.out)
        have HPe := Lib.hid (plainElem_int (H := Unit) (P := Tryz.prog) (e := 3) (a := (c : Int) + 1) Tryz.underlying3 (WalkArith.wf_i64 (by omega)))
        have hkm : k < maxLen := by unfold maxLen; omega
        have hwr : IntKind.i64.wrap ((c : Int) + 1) = (c : Int) + 1 := IntWalk.i64_in _ (by omega)
        go_wp2_with (at_mapUpdate; refine wpList_mapUpdate_own _ rfl _ _ _ 55 rfl 9 3 (string_keyed Tryz.underlying9) Tryz.underlying55 _ (X + 1) k D rfl HM2.out hkm _ _ (.string x.data.toList) rfl rfl HKey.out (.lit (.int .i64 ((c : Int) + 1))) [] HPe.out ?_; intro w1 ho hg)
        have HB3 := Lib.hid (HB2.out.grown hg HB2.out.size (fun k h => by cases h; have := HXs.out; omega))
        have HX3 := Lib.hid ((hg.block X (lt_of_heap HX2.out) (by simp)).trans HX2.out)
        have HM3 := Lib.hid ho
        clear ho hg hrun hwr
        go_wp2_with fail
        go_roundw
        case rel => exact ⟨k + 1, _, by omega, by go_num, HB3, HM3, HD2, HX3⟩
        case measure => simp [intOf]; omega
    · obtain rfl : k = xs.length := by omega
      have HE : Hid (TalOut xs p w (.returned (.map (some (X + 1)))) wr) := Lib.hid ⟨X + 1, D, rfl, by have := HXs.out; omega, HMw.out, HD.out.same (fun l => by unfold talK; rw [List.take_length, cnt_filter]), HBw.out⟩
      go_wp2_with fail
      go_ret
      exact HE.out
end Go.Proofs.YtigijgcldgbokaaGreat
namespace Go.Proofs.YtigijgcldgbokaaGreat
open Go.RowKit Go.Shelf Go.Maps
set_option linter.unusedVariables false

theorem strb_eq (x y : ByteArray) : (x.toList == y.toList) = decide (x.data.toList = y.data.toList) := by
  rw [ba_toList, ba_toList]
  by_cases h : x.data.toList = y.data.toList
  · rw [h]; simp
  · rw [decide_eq_false h, beq_eq_false_iff_ne]; exact h

set_option maxRecDepth 100000 in
set_option maxHeartbeats 1000000 in
theorem over1_any (x : ByteArray) (w : World) :
    Calls Tryz.prog 122 #[.string x] w fun e w' => e = .returned (.bool true) ∧ Below w.heap.size w w' := by
  go_enter Tryz.func122, Tryz.ntmps122
  go_wp2_with fail
  go_ret
  exact ⟨rfl, Below.refl _ _⟩

set_option maxRecDepth 100000 in
set_option maxHeartbeats 1000000 in
theorem over2_any (x : ByteArray) (b B k : Nat) (D : DataW Unit) (f : Txt → Nat) (w : World) (hx : x.size ≤ maxLen) (hb : w.heap[b]? = some (.cells #[.map (some B)] 55 (0, 0))) (hM : w.ownsMap Tryz.prog 9 (plainElem Tryz.prog 3) B k D) (hD : CntIs D f) :
    Calls Tryz.prog 123 #[.string x, .pointer (some ⟨b, 0, none⟩)] w fun e w' => e = .returned (.bool (decide (0 < f x.data.toList))) ∧ Below w.heap.size w w' := by
  obtain ⟨cX, _⟩ := cell_of_box_l hb
  have hrun := cnt_look hM hD x hx
  generalize f x.data.toList = c at hrun ⊢
  obtain ⟨z, hz⟩ : ∃ z : Int, z = (c : Int) := ⟨_, rfl⟩
  have e : decide (0 < c) = decide (0 < z) := by rw [hz]; simp
  rw [e]
  rw [← hz] at hrun
  clear hz hb hM hD e
  go_enter Tryz.func123, Tryz.ntmps123
  go_wp2_with fail
  go_ret
  exact ⟨rfl, Below.refl _ _⟩

end Go.Proofs.YtigijgcldgbokaaGreat
namespace Go.Proofs.YtigijgcldgbokaaGreat
open Go.RowKit Go.Shelf Go.Maps
open Go.Proofs (encStr)
set_option linter.unusedVariables false

set_option maxRecDepth 100000 in
/-- a round over the map of the second list: what comes, and that it fits -/
theorem over_come {D : DataW Unit} {ts us : List Txt} {left : Lit → Bool} {ss : List Txt} {x : Txt} {c : Int} {yd : DataW Unit} {yp : List MemPlace} (hD : CntIs D (fun l => if decide (0 < cntN l ts) = true then cntN l us else 0)) (hC : Collected D left ss) (hl : left (.string x) = true)
    (hv : plainElem Tryz.prog 3 (.int .i64 c) = some (yd, yp)) (hat : ∀ zd, D.atKey (.string x) zd = yd) :
    c = ((cntN x us : Nat) : Int) ∧ Collected D (fun z => left z && !z.sameKey (.string x)) (ss ++ [x]) ∧ sumN (fun s => min (cntN s us) (cntN s ts)) (ss ++ [x]) = sumN (fun s => min (cntN s us) (cntN s ts)) ss + min (cntN x us) (cntN x ts) ∧ sumN (fun s => min (cntN s us) (cntN s ts)) (ss ++ [x]) ≤ us.length := by
  have hs := hC.step hl hat
  have hh : has D (.string x) = true := has_true_of_atKey hat
  rw [hD.here] at hh
  have hp := of_decide_eq_true hh
  have h0 := hat (.lit (.int .i64 0))
  rw [hD.look] at h0
  obtain ⟨c', e1, e2, _⟩ := plainElem_int_inv Tryz.underlying3 hv
  cases e1
  simp only [Prod.mk.injEq] at e2
  rw [e2.1] at h0
  have e3 : (((if decide (0 < cntN x ts) = true then cntN x us else 0 : Nat)) : Int) = c := by injection h0 with h1; injection h1
  have hq : decide (0 < cntN x ts) = true := by
    by_cases h : decide (0 < cntN x ts) = true
    · exact h
    · simp only [h] at hp; simp at hp
  rw [if_pos hq] at e3
  refine ⟨e3.symm, hs, ?_, ?_⟩
  · rw [sum_append]; simp [sumN]
  · exact Nat.le_trans (sum_le_over ts us _ hs.1) (over_le2 ts us)
theorem over_done {D : DataW Unit} {ts us : List Txt} {left : Lit → Bool} {ss : List Txt} (hD : CntIs D (fun l => if decide (0 < cntN l ts) = true then cntN l us else 0)) (hC : Collected D left ss) (hl : ∀ kl, left kl = false) :
    sumN (fun s => min (cntN s us) (cntN s ts)) ss = overL ts us := by
  rw [over_sum ts us ss hC.1 (fun s h1 h2 => (hC.2 s).2 ⟨?_, hl _⟩)]
  rw [hD.here]
  have a := (cnt_pos s ts).2 h1
  have b := (cnt_pos s us).2 h2
  rw [if_pos (decide_eq_true a)]; exact decide_eq_true b

set_option maxRecDepth 100000 in
set_option maxHeartbeats 4000000 in
theorem over_any (ao bo : Option Addr) (ca cb : Nat) (xs ys : List ByteArray) (w : World) (hn : xs.length ≤ 1048576) (hm : ys.length ≤ 1048576) (hs : ∀ c ∈ xs, c.size ≤ maxLen) (ht : ∀ c ∈ ys, c.size ≤ maxLen) (hR : StrRow w ao xs) (hS : StrRow w bo ys) :
    Calls Tryz.prog 92 #[.slice ao xs.length ca, .slice bo ys.length cb] w fun e w' => e = .returned (.int .i64 ((overL (bytesOf xs) (bytesOf ys) : Nat) : Int)) ∧ Below w.heap.size w w' := by
  have C1 := Lib.hid (tally_any 122 #[] (fun _ => true) (enters_of Tryz.func122 (by kernel_rfl) rfl) ao ca xs w hn hs hR (fun x hx W hW => over1_any x W))
  have C2 := Lib.hid (fun (b B k : Nat) (D : DataW Unit) (f : Txt → Nat) (V : World) (hb : V.heap[b]? = some (.cells #[.map (some B)] 55 (0, 0))) (hM : V.ownsMap Tryz.prog 9 (plainElem Tryz.prog 3) B k D) (hD : CntIs D f) (hV : Below w.heap.size w V) =>
    tally_any 123 #[.pointer (some ⟨b, 0, none⟩)] (fun l => decide (0 < f l)) (enters_of Tryz.func123 (by kernel_rfl) rfl) bo cb ys V hm ht (hS.kept hV)
      (fun x hx W hW => over2_any x b B k D f W (ht x hx) ((hW.block _ (lt_of_heap hb)).trans hb) (ownsMap_below hM hW) hD))
  have HL : Hid (∀ x ∈ ys, x.size ≤ maxLen) := Lib.hid ht
  have hlen := bytes_len ys
  obtain ⟨N, hN⟩ : ∃ N, N = overL (bytesOf xs) (bytesOf ys) := ⟨_, rfl⟩
  rw [← hN]
  have HN := Lib.hid hN
  clear hR hS hs ht hN
  go_enter Tryz.func92, Tryz.ntmps92
  go_wp2_with fail
  refine C1.out.mono ?_
  rintro e w1 ⟨B1, D1, rfl, hB1, hM1, hD1, b1⟩
  obtain ⟨V, HV⟩ : ∃ V, Hid (V = w1.alloc (.cells #[.map (some B1)] 55)) := ⟨_, Lib.hid rfl⟩
  obtain ⟨X, hX⟩ : ∃ X, X = w1.heap.size := ⟨_, rfl⟩
  have hVB : Below w1.heap.size w1 V := by rw [HV.out]; exact (Below.refl _ _).alloc (Nat.le_refl _) _
  have hVX : V.heap[X]? = some (.cells #[.map (some B1)] 55 (0, 0)) := by rw [HV.out, hX]; exact World.alloc_heap_new _ _
  have hD1' : CntIs D1 (fun l => cntN l (bytesOf xs)) := hD1.same (fun l => by simp)
  have HB := Lib.hid (below_up b1 hVB)
  have HVX := Lib.hid hVX
  have HM1 := Lib.hid (ownsMap_below hM1 hVB)
  have HD1 := Lib.hid hD1'
  have C3 := Lib.hid (C2.out X B1 xs.length D1 _ V hVX HM1.out hD1' HB.out)
  have HX1 := Lib.hid (show w.heap.size ≤ X by rw [hX]; exact b1.size)
  have hXB : B1 < X := by rw [hX]; exact hM1.lt
  have HXB := Lib.hid hXB
  have HBB := Lib.hid hB1
  clear C2 C1 hD1 hD1' hVX hM1 b1 hVB hXB hB1
  go_upto_region 2 with fail
  rw [← HV.out, ← hX]
  clear HV hX
  go_wp2_with fail
  refine C3.out.mono ?_
  rintro e w2 ⟨B2, D2, rfl, hB2, hM2, hD2, b2⟩
  have HB2 := Lib.hid (below_up HB.out b2)
  have HX2 := Lib.hid ((b2.block X (lt_of_heap HVX.out)).trans HVX.out)
  have HMa := Lib.hid (ownsMap_below HM1.out b2)
  have hVs := lt_of_heap HVX.out
  have HNe := Lib.hid (show B2 ≠ X ∧ B2 ≠ B1 from ⟨by omega, by have := HXB.out; omega⟩)
  have HD2 := Lib.hid hD2
  have hszw := Lib.hid (Nat.le_trans HB.out.size b2.size)
  clear HB HVX HM1 C3 b2 hD2 hB2 hVs
  go_upto_region 4 with fail
  go_wp2_with (first
    | (at_range; refine wpList_range_own _ rfl _ 55 rfl 9 3 (string_keyed Tryz.underlying9) Tryz.underlying55 _ B2 ys.length _ rfl hM2 ?_; intro w0 hrg0 hg0 hs0)
    | go_in)
  go_frame
  obtain ⟨r, hr⟩ : ∃ r, r = w2.heap.size := ⟨_, rfl⟩
  rw [← hr] at hrg0 ⊢
  have h20 : Below w2.heap.size w2 w0 := ⟨hg0.os, hg0.tape, hg0.output, hg0.size, fun k hk => hg0.block k hk (by simp)⟩
  have HB0 := Lib.hid (HB2.out.trans (h20.mono hszw.out))
  have HX0 := Lib.hid ((h20.block X (lt_of_heap HX2.out)).trans HX2.out)
  have HM0 := Lib.hid (ownsMap_below HMa.out h20)
  have HRg := Lib.hid hrg0
  have HNr := Lib.hid (show X ≠ r ∧ B1 ≠ r ∧ w.heap.size ≤ r from ⟨by have := lt_of_heap HX2.out; omega, by have := HMa.out.lt; omega, by rw [hr]; exact hszw.out⟩)
  clear hs0 hg0 hrg0 hM2 hr h20 HB2 HX2 HMa hszw
  obtain ⟨g, hg⟩ : ∃ g : Txt → Nat, g = fun s => min (cntN s (bytesOf ys)) (cntN s (bytesOf xs)) := ⟨_, rfl⟩
  have HCo := Lib.hid (fun left ss x c yd yp hC hl hv hat => over_come (left := left) (ss := ss) (x := x) (c := c) (yd := yd) (yp := yp) HD2.out hC hl hv hat)
  have HDo := Lib.hid (fun left ss hC hl => over_done (left := left) (ss := ss) HD2.out hC hl)
  rw [← hg, hlen] at HCo
  rw [← hg, ← HN.out] at HDo
  clear hg hlen HN
  go_loopw [7] (fun n wr => ∃ (left : Lit → Bool) (cnt : Nat) (ss : List Txt), n = .int .i64 ((sumN g ss : Nat) : Int) ∧ Hid (wr.ranges Tryz.prog 9 (plainElem Tryz.prog 3) B2 r ys.length D2 left cnt) ∧ Hid (Collected D2 left ss) ∧ Hid (sumN g ss ≤ ys.length) ∧ Hid (Below w.heap.size w wr) ∧ Hid (wr.heap[X]? = some (.cells #[.map (some B1)] 55 (0, 0))) ∧ Hid (wr.ownsMap Tryz.prog 9 (plainElem Tryz.prog 3) B1 xs.length D1)) (fun _ wr => wr.rangeLeft B2 r)
  case atStart => exact ⟨_, _, [], by simp [sumN], HRg, Lib.hid (Collected.start D2), Lib.hid (by simp [sumN]), HB0, HX0, HM0⟩
  case round =>
    obtain ⟨left, cnt, ss, rfl, HRr, HC, HSm, HBr, HXr, HMr⟩ := hrel
    clear HRg HB0 HX0 HM0
    obtain ⟨z, hz⟩ : ∃ z : Int, z = ((sumN g ss : Nat) : Int) := ⟨_, rfl⟩
    rw [← hz]
    have HZ := Lib.hid hz
    clear hz
    go_wp2_with (first
      | (at_next; refine wpList_next_ranges _ rfl _ rfl 9 (string_keyed Tryz.underlying9) (plainElem Tryz.prog 3) encStr (Value.int .i64) (fun key kl hk => by obtain ⟨x, hx, _⟩ := Maps.keyOf_str Tryz.underlying9 hk; exact ⟨x, hx⟩) (fun v y hv => by obtain ⟨c, rfl, _⟩ := plainElem_int_inv Tryz.underlying3 hv; exact ⟨c, rfl⟩) B2 r ys.length _ _ _ rfl HRr.out ?_ ?_)
      | go_in)
    · intro hc0 hl0
      have HE := Lib.hid (HZ.out.trans (congrArg _ (HDo.out left ss HC.out hl0)))
      clear hl0 hc0
      go_wp2_with fail
      go_ret
      exact ⟨by rw [HE.out]; rfl, HBr.out⟩
    · intro x c kl yd yp w3 cnt3 hkey hlk hv hat hrg3 hlt3 hg3 hs3 hen
      obtain ⟨x', ex, rfl, hxl⟩ := Maps.keyOf_str Tryz.underlying9 hkey
      obtain rfl : x = x' := encStr_inj ex
      obtain ⟨hc, hC3, hsum, hle⟩ := HCo.out left ss x c yd yp HC.out hlk hv hat
      have HB3 := Lib.hid (HBr.out.grown hg3 HBr.out.size (fun j hj => by cases hj; exact HNr.out.2.2))
      have HX3 := Lib.hid ((hg3.block X (lt_of_heap HXr.out) (by simpa using HNr.out.1)).trans HXr.out)
      have HM3 := Lib.hid (HMr.out.kept hg3 (by simpa using HNr.out.2.1))
      have hlook := cnt_look HM3.out HD1.out ⟨x.toArray⟩ (by simpa [ByteArray.size] using hxl)
      have ex2 : (⟨x.toArray⟩ : ByteArray).data.toList = x := by simp
      rw [ex2] at hlook
      have hu := cnt_le x (bytesOf ys)
      have hv2 := cnt_le x (bytesOf xs)
      rw [bytes_len] at hu hv2
      obtain ⟨cX, _⟩ := cell_of_box_l HX3.out
      generalize cntN x (bytesOf ys) = u at hc hsum hu
      generalize cntN x (bytesOf xs) = v at hlook hsum hv2
      subst hc
      obtain ⟨m, hm⟩ : ∃ m, m = min u v := ⟨_, rfl⟩
      have hmin : (if (v : Int) < (u : Int) then (v : Int) else (u : Int)) = (m : Int) := by
        rw [hm]; split <;> omega
      rw [← hm] at hsum
      have hz := HZ.out
      have hwr : IntKind.i64.wrap (z + (m : Int)) = z + (m : Int) := IntWalk.i64_in _ (by omega)
      have HZ2 : Hid (z + (m : Int) = ((sumN g (ss ++ [x]) : Nat) : Int)) := Lib.hid (by omega)
      have HS2 := Lib.hid hle
      have HC4 := Lib.hid hC3
      have HR3 := Lib.hid hrg3
      have HL3 := Lib.hid hlt3
      clear hlk hv hat hkey hg3 hs3 hC3 hsum hle hm hz hrg3 hlt3 ex2 hu hv2 hxl
      have hmn : ∀ (ts : Array TypeId) (t : TypeId) (W : World), (Builtin.min_ ts t #[.int .i64 (u : Int), .int .i64 (v : Int)]).run Tryz.prog W = .ok (.int .i64 (m : Int)) W := fun ts t W => by
        rw [run_min_int2, hmin]
      clear hmin
      go_wp2_with fail
      go_roundw
      case rel => exact ⟨_, cnt3, ss ++ [x], by rw [HZ2.out], HR3, HC4, HS2, HB3, HX3, HM3⟩
      case measure => rw [HR3.out.left_eq, HRr.out.left_eq]; exact HL3.out
end Go.Proofs.YtigijgcldgbokaaGreat
namespace Go.Proofs.YtigijgcldgbokaaGreat
open Go.RowKit Go.Shelf Go.Maps
set_option linter.unusedVariables false

/-- alike but for their order -/
def sameB (ts us : List Txt) : Bool := decide (ts.length = us.length) && decide (overL ts us = ts.length)

end Go.Proofs.YtigijgcldgbokaaGreat
