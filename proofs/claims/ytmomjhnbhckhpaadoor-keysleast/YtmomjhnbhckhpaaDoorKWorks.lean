/-
  The examples of the document that the statements ask for first are so.
  Conditions: the library's table of powers of ten reads as its text lays it.
-/
import Derived.WalkKit
import Derived.WalkMore
import Derived.Lib.Hide
import Derived.Test.YtmomjhnbhckhpaaDoorProg
import Derived.Test.YtmomjhnbhckhpaaDoorKOf
import Derived.Test.YtmomjhnbhckhpaaDoorTSame
namespace Go.Proofs.YtmomjhnbhckhpaaDoor
open Go.RowKit Go.Shelf
set_option linter.unusedVariables false

abbrev bA : ByteArray := ⟨#[97]⟩
abbrev bB : ByteArray := ⟨#[98]⟩
abbrev bC : ByteArray := ⟨#[99]⟩
abbrev b1 : ByteArray := ⟨#[49]⟩
abbrev b2 : ByteArray := ⟨#[50]⟩
abbrev bX : ByteArray := ⟨#[120]⟩
abbrev bY : ByteArray := ⟨#[121]⟩
abbrev T1 : Tab := ([bA, bB], [[b1, bX], [b1, bY]])
abbrev T2 : Tab := ([bA, bB], [[b1, bX], [b1, bY], [b2, bX]])
abbrev T3 : Tab := ([bA, bB], [[b1, bX], [b1, bX]])
theorem ex_infer1 : inferC [T1] T1.1 = [bB] := by kernel_rfl
theorem ex_infer2 : inferC [T2] T2.1 = [bA, bB] := by kernel_rfl
theorem ex_infer3 : inferC [T3] T3.1 = [] := by kernel_rfl
theorem ex_of : ofC [T1] [bA] = [bB] := by kernel_rfl
theorem ex_places : inAll T1.1 [bB] = true ∧ [bB].map (findL T1.1) = [1] := ⟨by kernel_rfl, by kernel_rfl⟩
theorem ex_unique1 : uniqL 2 T1.2 [1] = true := by kernel_rfl
theorem ex_unique2 : uniqL 2 T1.2 [] = false := rfl
theorem ex_usable1 : usableC [T1] [bB] = true := by kernel_rfl
theorem ex_usable2 : usableC [T1] [bC] = false := by kernel_rfl

/-- a table that the examples lay -/
structure Ex (B : Nat) (t : Tab) (W : World) : Prop where
  lies : ∃ (ho : Option Addr) (hc : Nat) (ro : Option Addr) (rc : Nat), W.heap[B]? = some (.cells #[.slice ho t.1.length hc, .slice ro t.2.length rc] 25 (0, 0)) ∧ StrRow W ho t.1 ∧ RowsAt W ro t.2
theorem Ex.kept {B : Nat} {t : Tab} {W V : World} (h : Ex B t W) (k : Below W.heap.size W V) : Ex B t V := by
  obtain ⟨ho, hc, ro, rc, h1, h2, h3⟩ := h.lies
  exact ⟨ho, hc, ro, rc, (k.block _ (lt_of_heap h1)).trans h1, h2.kept k, h3.kept k⟩
theorem tabs_lit {W : World} {ho ro : Option Addr} {hc rc : Nat} {t : Tab} (h1 : StrRow W ho t.1) (h2 : RowsAt W ro t.2) :
    TabsAt (W.alloc (.cells #[.slice ho t.1.length hc, .slice ro t.2.length rc] 25)) (some ⟨W.heap.size, 0, none⟩) [t] := by
  refine .inr ⟨_, _, rfl, by simp, fun i t' ht => ?_⟩
  match i, ht with
  | 0, ht =>
    cases ht
    have hb := World.alloc_heap_new W (.cells #[.slice ho t.1.length hc, .slice ro t.2.length rc] 25)
    exact ⟨ho, hc, ro, rc, (Lib.cell_of_heap hb 0).trans rfl, (Lib.cell_of_heap hb 1).trans rfl, h1.kept (one_below _ _), h2.kept (one_below _ _)⟩

abbrev litRow (a b : ByteArray) : Obj := .cells #[.string a, .string b] 9
theorem row_lit (W : World) (a b : ByteArray) : StrRow (W.alloc (litRow a b)) (some ⟨W.heap.size, 0, none⟩) [a, b] := new_row W [a, b] 9
theorem rows_three (w : World) (ro so to' : Option Addr) (r s t : List ByteArray) (c1 : Cap ro r.length) (c2 : Cap so s.length) (c3 : Cap to' t.length) (T : TypeId) (h : StrRow w ro r) (k : StrRow w so s) (l : StrRow w to' t) : RowsAt (w.alloc (.cells #[.slice ro r.length c1.1, .slice so s.length c2.1, .slice to' t.length c3.1] T)) (some ⟨w.heap.size, 0, none⟩) [r, s, t] := by
  refine .inr ⟨_, rfl, by simp, fun i x hx => ?_⟩
  match i, hx with
  | 0, hx => cases hx; exact ⟨ro, c1, (cell_row (World.alloc_heap_new w _) 0).trans rfl, h.kept (one_below _ _)⟩
  | 1, hx => cases hx; exact ⟨so, c2, (cell_row (World.alloc_heap_new w _) 1).trans rfl, k.kept (one_below _ _)⟩
  | 2, hx => cases hx; exact ⟨to', c3, (cell_row (World.alloc_heap_new w _) 2).trans rfl, l.kept (one_below _ _)⟩
/-- two rows under a head, laid out -/
theorem lit_t2 (w V : World) (a b c d e f : ByteArray) (hV : V = (((((w.alloc (litRow a b)).alloc (litRow c d)).alloc (litRow e f)).alloc (.cells #[.slice (some ⟨w.heap.size + 1, 0, none⟩) 2 2, .slice (some ⟨w.heap.size + 1 + 1, 0, none⟩) 2 2] 22)).alloc (.cells #[.slice (some ⟨w.heap.size, 0, none⟩) 2 2, .slice (some ⟨w.heap.size + 1 + 1 + 1, 0, none⟩) 2 2] 25))) :
    Ex (w.heap.size + 1 + 1 + 1 + 1) ([a, b], [[c, d], [e, f]]) V ∧ Below w.heap.size w V := by
  obtain ⟨W1, h1⟩ : ∃ W1, W1 = w.alloc (litRow a b) := ⟨_, rfl⟩
  obtain ⟨W2, h2⟩ : ∃ W2, W2 = W1.alloc (litRow c d) := ⟨_, rfl⟩
  obtain ⟨W3, h3⟩ : ∃ W3, W3 = W2.alloc (litRow e f) := ⟨_, rfl⟩
  obtain ⟨W4, h4⟩ : ∃ W4, W4 = W3.alloc (.cells #[.slice (some ⟨w.heap.size + 1, 0, none⟩) 2 2, .slice (some ⟨w.heap.size + 1 + 1, 0, none⟩) 2 2] 22) := ⟨_, rfl⟩
  rw [← h1, ← h2, ← h3, ← h4] at hV
  have s1 : W1.heap.size = w.heap.size + 1 := by rw [h1]; simp
  have s2 : W2.heap.size = w.heap.size + 1 + 1 := by rw [h2, World.size_alloc, s1]
  have s3 : W3.heap.size = w.heap.size + 1 + 1 + 1 := by rw [h3, World.size_alloc, s2]
  have s4 : W4.heap.size = w.heap.size + 1 + 1 + 1 + 1 := by rw [h4, World.size_alloc, s3]
  have b1 : Below w.heap.size w W1 := by rw [h1]; exact one_below _ _
  have b2 : Below W1.heap.size W1 W2 := by rw [h2]; exact one_below _ _
  have b3 : Below W2.heap.size W2 W3 := by rw [h3]; exact one_below _ _
  have b4 : Below W3.heap.size W3 W4 := by rw [h4]; exact one_below _ _
  have b5 : Below W4.heap.size W4 V := by rw [hV]; exact one_below _ _
  have r1 : StrRow W1 (some ⟨w.heap.size, 0, none⟩) [a, b] := by rw [h1]; exact row_lit w a b
  have r2 : StrRow W2 (some ⟨w.heap.size + 1, 0, none⟩) [c, d] := by rw [h2, ← s1]; exact row_lit W1 c d
  have r3 : StrRow W3 (some ⟨w.heap.size + 1 + 1, 0, none⟩) [e, f] := by rw [h3, ← s2]; exact row_lit W2 e f
  have rr : RowsAt W4 (some ⟨w.heap.size + 1 + 1 + 1, 0, none⟩) [[c, d], [e, f]] := by
    rw [h4, ← s3]; exact rows_two W3 _ _ [c, d] [e, f] ⟨2, Nat.le_refl _, fun e => by cases e⟩ ⟨2, Nat.le_refl _, fun e => by cases e⟩ _ (r2.kept b3) r3
  refine ⟨⟨_, 2, _, 2, by rw [hV, ← s4]; exact World.alloc_heap_new _ _, (((r1.kept b2).kept b3).kept b4).kept b5, rr.kept b5⟩, below_up (below_up (below_up (below_up b1 b2) b3) b4) b5⟩
theorem lit_t3 (w V : World) (a b c d e f g h : ByteArray) (hV : V = ((((((w.alloc (litRow a b)).alloc (litRow c d)).alloc (litRow e f)).alloc (litRow g h)).alloc (.cells #[.slice (some ⟨w.heap.size + 1, 0, none⟩) 2 2, .slice (some ⟨w.heap.size + 1 + 1, 0, none⟩) 2 2, .slice (some ⟨w.heap.size + 1 + 1 + 1, 0, none⟩) 2 2] 22)).alloc (.cells #[.slice (some ⟨w.heap.size, 0, none⟩) 2 2, .slice (some ⟨w.heap.size + 1 + 1 + 1 + 1, 0, none⟩) 3 3] 25))) :
    Ex (w.heap.size + 1 + 1 + 1 + 1 + 1) ([a, b], [[c, d], [e, f], [g, h]]) V ∧ Below w.heap.size w V := by
  obtain ⟨W1, h1⟩ : ∃ W1, W1 = w.alloc (litRow a b) := ⟨_, rfl⟩
  obtain ⟨W2, h2⟩ : ∃ W2, W2 = W1.alloc (litRow c d) := ⟨_, rfl⟩
  obtain ⟨W3, h3⟩ : ∃ W3, W3 = W2.alloc (litRow e f) := ⟨_, rfl⟩
  obtain ⟨W0, h0⟩ : ∃ W0, W0 = W3.alloc (litRow g h) := ⟨_, rfl⟩
  obtain ⟨W4, h4⟩ : ∃ W4, W4 = W0.alloc (.cells #[.slice (some ⟨w.heap.size + 1, 0, none⟩) 2 2, .slice (some ⟨w.heap.size + 1 + 1, 0, none⟩) 2 2, .slice (some ⟨w.heap.size + 1 + 1 + 1, 0, none⟩) 2 2] 22) := ⟨_, rfl⟩
  rw [← h1, ← h2, ← h3, ← h0, ← h4] at hV
  have s1 : W1.heap.size = w.heap.size + 1 := by rw [h1]; simp
  have s2 : W2.heap.size = w.heap.size + 1 + 1 := by rw [h2, World.size_alloc, s1]
  have s3 : W3.heap.size = w.heap.size + 1 + 1 + 1 := by rw [h3, World.size_alloc, s2]
  have s0 : W0.heap.size = w.heap.size + 1 + 1 + 1 + 1 := by rw [h0, World.size_alloc, s3]
  have s4 : W4.heap.size = w.heap.size + 1 + 1 + 1 + 1 + 1 := by rw [h4, World.size_alloc, s0]
  have b1 : Below w.heap.size w W1 := by rw [h1]; exact one_below _ _
  have b2 : Below W1.heap.size W1 W2 := by rw [h2]; exact one_below _ _
  have b3 : Below W2.heap.size W2 W3 := by rw [h3]; exact one_below _ _
  have b0 : Below W3.heap.size W3 W0 := by rw [h0]; exact one_below _ _
  have b4 : Below W0.heap.size W0 W4 := by rw [h4]; exact one_below _ _
  have b5 : Below W4.heap.size W4 V := by rw [hV]; exact one_below _ _
  have r1 : StrRow W1 (some ⟨w.heap.size, 0, none⟩) [a, b] := by rw [h1]; exact row_lit w a b
  have r2 : StrRow W2 (some ⟨w.heap.size + 1, 0, none⟩) [c, d] := by rw [h2, ← s1]; exact row_lit W1 c d
  have r3 : StrRow W3 (some ⟨w.heap.size + 1 + 1, 0, none⟩) [e, f] := by rw [h3, ← s2]; exact row_lit W2 e f
  have r4 : StrRow W0 (some ⟨w.heap.size + 1 + 1 + 1, 0, none⟩) [g, h] := by rw [h0, ← s3]; exact row_lit W3 g h
  have rr : RowsAt W4 (some ⟨w.heap.size + 1 + 1 + 1 + 1, 0, none⟩) [[c, d], [e, f], [g, h]] := by
    rw [h4, ← s0]; exact rows_three W0 _ _ _ [c, d] [e, f] [g, h] ⟨2, Nat.le_refl _, fun e => by cases e⟩ ⟨2, Nat.le_refl _, fun e => by cases e⟩ ⟨2, Nat.le_refl _, fun e => by cases e⟩ _ ((r2.kept b3).kept b0) (r3.kept b0) r4
  refine ⟨⟨_, 2, _, 3, by rw [hV, ← s4]; exact World.alloc_heap_new _ _, ((((r1.kept b2).kept b3).kept b0).kept b4).kept b5, rr.kept b5⟩, below_up (below_up (below_up (below_up (below_up b1 b2) b3) b0) b4) b5⟩

/-! the calls of the examples -/
def TabFit (t : Tab) : Prop := (t.1.length ≤ 1048576 ∧ ∀ c ∈ t.1, c.size ≤ 1048576) ∧ t.2.length ≤ 1048576 ∧ ∀ r ∈ t.2, r.length ≤ 1048576 ∧ ∀ c ∈ r, c.size ≤ 1048576
theorem fit_tabs {ts : List Tab} (h : ∀ t ∈ ts, TabFit t) : TabsOk ts ∧ HeadsOk ts ∧ (∀ t ∈ ts, t.1.length ≤ 1048576 ∧ ∀ c ∈ t.1, c.size ≤ 140737488355328) :=
  ⟨fun t ht => ⟨by have := (h t ht).1.1; omega, by have := (h t ht).2.1; omega, fun r hr => ⟨by have := ((h t ht).2.2 r hr).1; omega, ((h t ht).2.2 r hr).2⟩⟩,
   fun t ht => ⟨by have := (h t ht).1.1; omega, fun c hc => by have := (h t ht).1.2 c hc; unfold maxLen; omega⟩,
   fun t ht => ⟨(h t ht).1.1, fun c hc => by have := (h t ht).1.2 c hc; omega⟩⟩
theorem fit1 : TabFit T1 := by unfold TabFit; decide
theorem fit2 : TabFit T2 := by unfold TabFit; decide
theorem fit3 : TabFit T3 := by unfold TabFit; decide
theorem fit_one {t : Tab} (h : TabFit t) : ∀ x ∈ [t], TabFit x := fun x hx => by simp at hx; subst hx; exact h
theorem exc_infer {t : Tab} (hf : TabFit t) (W : World) (ho ro : Option Addr) (hc rc : Nat) (h1 : StrRow W ho t.1) (h2 : RowsAt W ro t.2) (hp : Pow W) (RES : List ByteArray) (hr : inferC [t] t.1 = RES) :
    Calls Tryd.prog 16 #[.slice (some ⟨W.heap.size, 0, none⟩) 1 1, .slice ho t.1.length hc] (W.alloc (.cells #[.slice ho t.1.length hc, .slice ro t.2.length rc] 25)) (NamesOut RES (W.alloc (.cells #[.slice ho t.1.length hc, .slice ro t.2.length rc] 25))) := by
  obtain ⟨f1, f2, f3⟩ := fit_tabs (fit_one hf)
  have := infer_any (some ⟨W.heap.size, 0, none⟩) 1 [t] ho hc t.1 (W.alloc (.cells #[.slice ho t.1.length hc, .slice ro t.2.length rc] 25)) (by simp) hf.1.1 (fun c hc => by have := hf.1.2 c hc; omega) f1 f2 (tabs_lit h1 h2) (h1.kept (one_below _ _)) (hp.kept (one_below _ _))
  rw [hr] at this
  exact this
theorem exc_usable {t : Tab} (hf : TabFit t) (W : World) (lo no : Option Addr) (lc nc : Nat) (names : List ByteArray) (hn : names.length ≤ 1048576 ∧ ∀ c ∈ names, c.size ≤ 1048576) (hT : TabsAt W lo [t]) (hN : StrRow W no names) (hp : Pow W) (b : Bool) (hr : usableC [t] names = b) :
    Calls Tryd.prog 20 #[.slice lo 1 lc, .slice no names.length nc] W fun e w' => e = .returned (.bool b) ∧ Below W.heap.size W w' := by
  obtain ⟨f1, f2, f3⟩ := fit_tabs (fit_one hf)
  have := usable_any lo lc [t] no nc names W (by simp) hn.1 (fun c hc => by have := hn.2 c hc; unfold maxLen; omega) f1 f2 hT hN hp
  rw [hr] at this
  exact this
theorem exc_of {t : Tab} (hf : TabFit t) (W : World) (lo no : Option Addr) (lc nc : Nat) (names : List ByteArray) (hn : names.length ≤ 1048576 ∧ ∀ c ∈ names, c.size ≤ 1048576) (hT : TabsAt W lo [t]) (hN : StrRow W no names) (hp : Pow W) (RES : List ByteArray) (hr : ofC [t] names = RES) :
    Calls Tryd.prog 18 #[.slice lo 1 lc, .slice no names.length nc] W (NamesOut RES W) := by
  obtain ⟨f1, f2, f3⟩ := fit_tabs (fit_one hf)
  have := of_any lo lc [t] no nc names W (by simp) hn.1 (fun c hc => by have := hn.2 c hc; omega) f1 f2 f3 hT hN hp
  rw [hr] at this
  exact this

theorem new_int1 (W : World) (p : Int) (T : TypeId) : IntsAt (W.alloc (.cells #[.int .i64 p] T)) (some ⟨W.heap.size, 0, none⟩) [p] := by
  refine .inr ⟨_, rfl, by simp, fun i q hq => ?_⟩
  match i, hq with
  | 0, hq => cases hq; exact (Lib.cell_of_heap (World.alloc_heap_new W _) 0).trans rfl
theorem ints_one (W : World) {po : Option Addr} (h : IntsAt W po [1]) : ∃ A, po = some A ∧ W.cell? A = some (.int .i64 1) ∧ A.block < W.heap.size := by
  rcases h with h | ⟨A, h1, h2, h3⟩
  · simp at h
  · refine ⟨A, h1, ?_, h2⟩
    have := h3 0 1 rfl
    rwa [show A.add 0 = A by cases A; simp [Addr.add]] at this
theorem exc_uni1 {t : Tab} (hf : TabFit t) (W : World) (ho ro : Option Addr) (hc rc : Nat) (h2 : RowsAt W ro t.2) (hp : Pow W) (hr : uniqL t.1.length t.2 [1] = true) :
    Calls Tryd.prog 12 #[.agg #[.slice ho t.1.length hc, .slice ro t.2.length rc], .slice (some ⟨W.heap.size, 0, none⟩) 1 1] (W.alloc (.cells #[.int .i64 1] 3)) fun e w' => e = .returned (.bool true) ∧ Below (W.alloc (.cells #[.int .i64 1] 3)).heap.size (W.alloc (.cells #[.int .i64 1] 3)) w' := by
  have b1 := one_below W (.cells #[.int .i64 1] 3)
  obtain ⟨f1, f2, f3⟩ := fit_tabs (fit_one hf)
  obtain ⟨g1, g2, g3⟩ := f1 t (by simp)
  have := unique_any ho t.1.length hc ro rc t.2 (some ⟨W.heap.size, 0, none⟩) 1 [1] (W.alloc (.cells #[.int .i64 1] 3)) (by have := hf.1.1; omega) (by have := hf.2.1; omega) g3 (by simp) (by decide) (h2.kept b1) (new_int1 W 1 3) (hp.kept b1)
  rw [hr] at this
  exact this
theorem exc_uni2 {t : Tab} (hf : TabFit t) (W : World) (ho ro : Option Addr) (hc rc : Nat) (h2 : RowsAt W ro t.2) (hp : Pow W) :
    Calls Tryd.prog 12 #[.agg #[.slice ho t.1.length hc, .slice ro t.2.length rc], .slice none 0 0] W fun e w' => e = .returned (.bool false) ∧ Below W.heap.size W w' := by
  obtain ⟨f1, f2, f3⟩ := fit_tabs (fit_one hf)
  obtain ⟨g1, g2, g3⟩ := f1 t (by simp)
  have := unique_any ho t.1.length hc ro rc t.2 none 0 [] W (by have := hf.1.1; omega) (by have := hf.2.1; omega) g3 (by simp) (by simp) h2 (.inl rfl) hp
  rw [uniq_none] at this
  exact this
theorem exc_use1 {t : Tab} (hf : TabFit t) (W : World) (ho ro : Option Addr) (hc rc : Nat) (x : ByteArray) (hx : x.size ≤ 1048576) (h1 : StrRow W ho t.1) (h2 : RowsAt W ro t.2) (hp : Pow W) (b : Bool) (hr : usableC [t] [x] = b) :
    Calls Tryd.prog 20 #[.slice (some ⟨W.heap.size, 0, none⟩) 1 1, .slice (some ⟨W.heap.size + 1, 0, none⟩) 1 1] ((W.alloc (.cells #[.slice ho t.1.length hc, .slice ro t.2.length rc] 25)).alloc (.cells #[.string x] 9)) fun e w' => e = .returned (.bool b) ∧ Below ((W.alloc (.cells #[.slice ho t.1.length hc, .slice ro t.2.length rc] 25)).alloc (.cells #[.string x] 9)).heap.size ((W.alloc (.cells #[.slice ho t.1.length hc, .slice ro t.2.length rc] 25)).alloc (.cells #[.string x] 9)) w' := by
  have b1 := one_below W (.cells #[.slice ho t.1.length hc, .slice ro t.2.length rc] 25)
  have hT := tabs_lit (hc := hc) (rc := rc) h1 h2
  have hp := hp.kept b1
  obtain ⟨V, hV⟩ : ∃ V, V = W.alloc (.cells #[.slice ho t.1.length hc, .slice ro t.2.length rc] 25) := ⟨_, rfl⟩
  have s1 : V.heap.size = W.heap.size + 1 := by rw [hV]; simp
  rw [← hV] at hT hp ⊢
  rw [← s1]
  have b2 := one_below V (.cells #[.string x] 9)
  exact exc_usable hf _ _ _ 1 1 [x] ⟨by simp, fun c hc => by simp at hc; subst hc; exact hx⟩ (hT.kept b2) (new_row V [x] 9) (hp.kept b2) b hr
theorem exc_of1 {t : Tab} (hf : TabFit t) (W : World) (ho ro : Option Addr) (hc rc : Nat) (h1 : StrRow W ho t.1) (h2 : RowsAt W ro t.2) (hp : Pow W) (hr : ofC [t] [bA] = [bB]) :
    Calls Tryd.prog 18 #[.slice (some ⟨W.heap.size, 0, none⟩) 1 1, .slice (some ⟨W.heap.size + 1, 0, none⟩) 1 1] ((W.alloc (.cells #[.slice ho t.1.length hc, .slice ro t.2.length rc] 25)).alloc (.cells #[.string bA] 9)) (NamesOut [bB] ((W.alloc (.cells #[.slice ho t.1.length hc, .slice ro t.2.length rc] 25)).alloc (.cells #[.string bA] 9))) := by
  have b1 := one_below W (.cells #[.slice ho t.1.length hc, .slice ro t.2.length rc] 25)
  have hT := tabs_lit (hc := hc) (rc := rc) h1 h2
  have hp := hp.kept b1
  obtain ⟨V, hV⟩ : ∃ V, V = W.alloc (.cells #[.slice ho t.1.length hc, .slice ro t.2.length rc] 25) := ⟨_, rfl⟩
  have s1 : V.heap.size = W.heap.size + 1 := by rw [hV]; simp
  rw [← hV] at hT hp ⊢
  rw [← s1]
  have b2 := one_below V (.cells #[.string bA] 9)
  exact exc_of hf _ _ _ 1 1 [bA] ⟨by decide, by decide⟩ (hT.kept b2) (new_row V [bA] 9) (hp.kept b2) [bB] hr

theorem exc_places {t : Tab} (hf : TabFit t) (W : World) (ho ro : Option Addr) (hc rc : Nat) (h1 : StrRow W ho t.1) (hi : inAll t.1 [bB] = true) (hq : [bB].map (findL t.1) = [1]) :
    Calls Tryd.prog 37 #[.agg #[.slice ho t.1.length hc, .slice ro t.2.length rc], .slice (some ⟨W.heap.size, 0, none⟩) 1 1] (W.alloc (.cells #[.string bB] 9)) fun e w' => ∃ (po : Option Addr) (pc : Nat), e = .returned (.tuple #[.slice po 1 pc, .bool true]) ∧ IntsAt w' po [1] ∧ Below (W.alloc (.cells #[.string bB] 9)).heap.size (W.alloc (.cells #[.string bB] 9)) w' := by
  have f : ∀ c ∈ [bB], c.size ≤ maxLen := by intro c hc; simp at hc; subst hc; unfold maxLen; decide
  refine (places_any ho hc t.1 ro t.2.length rc (some ⟨W.heap.size, 0, none⟩) 1 [bB] (W.alloc (.cells #[.string bB] 9)) (by have := hf.1.1; omega) (fun c hc => by have := hf.1.2 c hc; unfold maxLen; omega) (by simp) f (h1.kept (one_below _ _)) (new_row W [bB] 9)).mono ?_
  rintro e w' (⟨-, po, pc, rfl, hI, -, bel⟩ | ⟨hn, -⟩)
  · rw [hq] at hI; exact ⟨po, pc, rfl, hI, bel⟩
  · rw [hi] at hn; cases hn

theorem exc_row1 (ao : Option Addr) (cap : Nat) (W' : World) (y : ByteArray) (h : StrRow W' ao [y]) :
    Calls Tryd.prog 15 #[.slice ao 1 cap, .slice (some ⟨W'.heap.size, 0, none⟩) 1 1] (W'.alloc (.cells #[.string y] 9)) fun e w' => e = .returned (.bool true) ∧ Below (W'.alloc (.cells #[.string y] 9)).heap.size (W'.alloc (.cells #[.string y] 9)) w' := by
  have := rrow_any ao (some ⟨W'.heap.size, 0, none⟩) cap 1 [y] [y] (W'.alloc (.cells #[.string y] 9)) (by simp) (h.kept (one_below _ _)) (new_row W' [y] 9)
  have e : sameRow [y] [y] = true := by simp [sameRow]
  rw [e] at this; exact this
theorem exc_row2 (ao : Option Addr) (cap : Nat) (W' : World) (y z : ByteArray) (h : StrRow W' ao [y, z]) :
    Calls Tryd.prog 15 #[.slice ao 2 cap, .slice (some ⟨W'.heap.size, 0, none⟩) 2 2] (W'.alloc (.cells #[.string y, .string z] 9)) fun e w' => e = .returned (.bool true) ∧ Below (W'.alloc (.cells #[.string y, .string z] 9)).heap.size (W'.alloc (.cells #[.string y, .string z] 9)) w' := by
  have := rrow_any ao (some ⟨W'.heap.size, 0, none⟩) cap 2 [y, z] [y, z] (W'.alloc (.cells #[.string y, .string z] 9)) (by simp) (h.kept (one_below _ _)) (new_row W' [y, z] 9)
  have e : sameRow [y, z] [y, z] = true := by simp [sameRow]
  rw [e] at this; exact this

set_option maxRecDepth 100000 in
set_option maxHeartbeats 8000000 in
theorem works_any (w : World) (hpow : Pow w) : Calls Tryd.prog 13 #[] w fun e w' => e = .returned (.bool true) ∧ Below w.heap.size w w' := by
  go_enter Tryd.func13, Tryd.ntmps13
  go_upto_region 2 with fail
  obtain ⟨V1, hV⟩ : ∃ V1, V1 = (((((w.alloc (.cells #[.string ⟨#[97]⟩, .string ⟨#[98]⟩] 9)).alloc (.cells #[.string ⟨#[49]⟩, .string ⟨#[120]⟩] 9)).alloc (.cells #[.string ⟨#[49]⟩, .string ⟨#[121]⟩] 9)).alloc (.cells #[.slice (some ⟨w.heap.size + 1, 0, none⟩) 2 2, .slice (some ⟨w.heap.size + 1 + 1, 0, none⟩) 2 2] 22)).alloc (.cells #[.slice (some ⟨w.heap.size, 0, none⟩) 2 2, .slice (some ⟨w.heap.size + 1 + 1 + 1, 0, none⟩) 2 2] 25)) := ⟨_, rfl⟩
  rw [← hV]
  obtain ⟨hE, hB⟩ := lit_t2 w V1 bA bB b1 bX b1 bY hV
  obtain ⟨B1, hBk⟩ : ∃ B, B = w.heap.size + 1 + 1 + 1 + 1 := ⟨_, rfl⟩
  rw [← hBk] at hE ⊢
  have HE1 := Lib.hid hE
  have HB := Lib.hid hB
  clear hV hE hB hBk
  go_upto_region 3 with fail
  obtain ⟨V2, hV⟩ : ∃ V2, V2 = ((((((V1.alloc (.cells #[.string ⟨#[97]⟩, .string ⟨#[98]⟩] 9)).alloc (.cells #[.string ⟨#[49]⟩, .string ⟨#[120]⟩] 9)).alloc (.cells #[.string ⟨#[49]⟩, .string ⟨#[121]⟩] 9)).alloc (.cells #[.string ⟨#[50]⟩, .string ⟨#[120]⟩] 9)).alloc (.cells #[.slice (some ⟨V1.heap.size + 1, 0, none⟩) 2 2, .slice (some ⟨V1.heap.size + 1 + 1, 0, none⟩) 2 2, .slice (some ⟨V1.heap.size + 1 + 1 + 1, 0, none⟩) 2 2] 22)).alloc (.cells #[.slice (some ⟨V1.heap.size, 0, none⟩) 2 2, .slice (some ⟨V1.heap.size + 1 + 1 + 1 + 1, 0, none⟩) 3 3] 25)) := ⟨_, rfl⟩
  rw [← hV]
  obtain ⟨hE, hB⟩ := lit_t3 V1 V2 bA bB b1 bX b1 bY b2 bX hV
  obtain ⟨B2, hBk⟩ : ∃ B, B = V1.heap.size + 1 + 1 + 1 + 1 + 1 := ⟨_, rfl⟩
  rw [← hBk] at hE ⊢
  have HE2 := Lib.hid hE
  have HE1 := Lib.hid (HE1.out.kept hB)
  have HB := Lib.hid (below_up HB.out hB)
  clear hV hE hB hBk
  go_upto_region 4 with fail
  obtain ⟨V3, hV⟩ : ∃ V3, V3 = (((((V2.alloc (.cells #[.string ⟨#[97]⟩, .string ⟨#[98]⟩] 9)).alloc (.cells #[.string ⟨#[49]⟩, .string ⟨#[120]⟩] 9)).alloc (.cells #[.string ⟨#[49]⟩, .string ⟨#[120]⟩] 9)).alloc (.cells #[.slice (some ⟨V2.heap.size + 1, 0, none⟩) 2 2, .slice (some ⟨V2.heap.size + 1 + 1, 0, none⟩) 2 2] 22)).alloc (.cells #[.slice (some ⟨V2.heap.size, 0, none⟩) 2 2, .slice (some ⟨V2.heap.size + 1 + 1 + 1, 0, none⟩) 2 2] 25)) := ⟨_, rfl⟩
  rw [← hV]
  obtain ⟨hE, hB⟩ := lit_t2 V2 V3 bA bB b1 bX b1 bX hV
  obtain ⟨B3, hBk⟩ : ∃ B, B = V2.heap.size + 1 + 1 + 1 + 1 := ⟨_, rfl⟩
  rw [← hBk] at hE ⊢
  have HE3 := Lib.hid hE
  have HE1 := Lib.hid (HE1.out.kept hB)
  have HE2 := Lib.hid (HE2.out.kept hB)
  have HB := Lib.hid (below_up HB.out hB)
  clear hV hE hB hBk
  have HP := Lib.hid (hpow.kept HB.out)
  clear hpow
  obtain ⟨ho, hc, ro, rc, hb, hs, hr⟩ := HE1.out.lies
  have k0 : V3.cell? ⟨B1, 0, none⟩ = some (.slice ho 2 hc) := (Lib.cell_of_heap hb 0).trans rfl
  have k1 : V3.cell? ⟨B1, 1, none⟩ = some (.slice ro 2 rc) := (Lib.cell_of_heap hb 1).trans rfl
  have lB := lt_of_heap hb
  have C := Lib.hid (exc_infer fit1 V3 ho ro hc rc hs hr HP.out [bB] ex_infer1)
  have hal := one_below V3 (.cells #[.slice ho 2 hc, .slice ro 2 rc] 25)
  have HB := Lib.hid (below_up HB.out hal)
  have HE1 := Lib.hid (HE1.out.kept hal)
  have HE2 := Lib.hid (HE2.out.kept hal)
  have HE3 := Lib.hid (HE3.out.kept hal)
  have HP := Lib.hid (HP.out.kept hal)
  clear hs hr hb hal
  go_wp2_with fail
  refine C.out.mono ?_; rintro e W1 ⟨ao, cap, rfl, hst, -, bel⟩
  dsimp only [List.length_cons, List.length_nil] at *
  have R := Lib.hid (exc_row1 ao cap W1 bB hst)
  have HB := Lib.hid (below_up HB.out bel)
  have HE1 := Lib.hid (HE1.out.kept bel)
  have HE2 := Lib.hid (HE2.out.kept bel)
  have HE3 := Lib.hid (HE3.out.kept bel)
  have HP := Lib.hid (HP.out.kept bel)
  have hal := one_below W1 (.cells #[.string bB] 9)
  have HB := Lib.hid (below_up HB.out hal)
  have HE1 := Lib.hid (HE1.out.kept hal)
  have HE2 := Lib.hid (HE2.out.kept hal)
  have HE3 := Lib.hid (HE3.out.kept hal)
  have HP := Lib.hid (HP.out.kept hal)
  clear hst bel hal k0 k1 lB C
  go_wp2_with fail
  refine R.out.mono ?_; rintro e W2 ⟨rfl, bel⟩
  have HB := Lib.hid (below_up HB.out bel)
  have HE1 := Lib.hid (HE1.out.kept bel)
  have HE2 := Lib.hid (HE2.out.kept bel)
  have HE3 := Lib.hid (HE3.out.kept bel)
  have HP := Lib.hid (HP.out.kept bel)
  clear bel R
  obtain ⟨ho, hc, ro, rc, hb, hs, hr⟩ := HE2.out.lies
  have k0 : W2.cell? ⟨B2, 0, none⟩ = some (.slice ho 2 hc) := (Lib.cell_of_heap hb 0).trans rfl
  have k1 : W2.cell? ⟨B2, 1, none⟩ = some (.slice ro 3 rc) := (Lib.cell_of_heap hb 1).trans rfl
  have lB := lt_of_heap hb
  have C := Lib.hid (exc_infer fit2 W2 ho ro hc rc hs hr HP.out [bA, bB] ex_infer2)
  have hal := one_below W2 (.cells #[.slice ho 2 hc, .slice ro 3 rc] 25)
  have HB := Lib.hid (below_up HB.out hal)
  have HE1 := Lib.hid (HE1.out.kept hal)
  have HE2 := Lib.hid (HE2.out.kept hal)
  have HE3 := Lib.hid (HE3.out.kept hal)
  have HP := Lib.hid (HP.out.kept hal)
  clear hs hr hb hal
  go_wp2_with fail
  refine C.out.mono ?_; rintro e W3 ⟨ao, cap, rfl, hst, -, bel⟩
  dsimp only [List.length_cons, List.length_nil] at *
  have R := Lib.hid (exc_row2 ao cap W3 bA bB hst)
  have HB := Lib.hid (below_up HB.out bel)
  have HE1 := Lib.hid (HE1.out.kept bel)
  have HE2 := Lib.hid (HE2.out.kept bel)
  have HE3 := Lib.hid (HE3.out.kept bel)
  have HP := Lib.hid (HP.out.kept bel)
  have hal := one_below W3 (.cells #[.string bA, .string bB] 9)
  have HB := Lib.hid (below_up HB.out hal)
  have HE1 := Lib.hid (HE1.out.kept hal)
  have HE2 := Lib.hid (HE2.out.kept hal)
  have HE3 := Lib.hid (HE3.out.kept hal)
  have HP := Lib.hid (HP.out.kept hal)
  clear hst bel hal k0 k1 lB C
  go_wp2_with fail
  refine R.out.mono ?_; rintro e W4 ⟨rfl, bel⟩
  have HB := Lib.hid (below_up HB.out bel)
  have HE1 := Lib.hid (HE1.out.kept bel)
  have HE2 := Lib.hid (HE2.out.kept bel)
  have HE3 := Lib.hid (HE3.out.kept bel)
  have HP := Lib.hid (HP.out.kept bel)
  clear bel R
  obtain ⟨ho, hc, ro, rc, hb, hs, hr⟩ := HE1.out.lies
  have k0 : W4.cell? ⟨B1, 0, none⟩ = some (.slice ho 2 hc) := (Lib.cell_of_heap hb 0).trans rfl
  have k1 : W4.cell? ⟨B1, 1, none⟩ = some (.slice ro 2 rc) := (Lib.cell_of_heap hb 1).trans rfl
  have lB := lt_of_heap hb
  have C := Lib.hid (exc_places fit1 W4 ho ro hc rc hs ex_places.1 ex_places.2)
  have hal := one_below W4 (.cells #[.string bB] 9)
  have HB := Lib.hid (below_up HB.out hal)
  have HE1 := Lib.hid (HE1.out.kept hal)
  have HE2 := Lib.hid (HE2.out.kept hal)
  have HE3 := Lib.hid (HE3.out.kept hal)
  have HP := Lib.hid (HP.out.kept hal)
  clear hs hr hb hal
  go_wp2_with fail
  refine C.out.mono ?_; rintro e W5 ⟨po, pc, rfl, hI, bel⟩
  dsimp only [List.length_cons, List.length_nil] at *
  have HI := Lib.hid hI
  have HB := Lib.hid (below_up HB.out bel)
  have HE1 := Lib.hid (HE1.out.kept bel)
  have HE2 := Lib.hid (HE2.out.kept bel)
  have HE3 := Lib.hid (HE3.out.kept bel)
  have HP := Lib.hid (HP.out.kept bel)
  clear hI bel k0 k1 lB C
  obtain ⟨ho, hc, ro, rc, hb, hs, hr⟩ := HE1.out.lies
  have k0 : W5.cell? ⟨B1, 0, none⟩ = some (.slice ho 2 hc) := (Lib.cell_of_heap hb 0).trans rfl
  have k1 : W5.cell? ⟨B1, 1, none⟩ = some (.slice ro 2 rc) := (Lib.cell_of_heap hb 1).trans rfl
  have lB := lt_of_heap hb
  have C := Lib.hid (exc_of1 fit1 W5 ho ro hc rc hs hr HP.out ex_of)
  have hal := below_up (one_below W5 (.cells #[.slice ho 2 hc, .slice ro 2 rc] 25)) (one_below _ (.cells #[.string bA] 9))
  have HB := Lib.hid (below_up HB.out hal)
  have HE1 := Lib.hid (HE1.out.kept hal)
  have HE2 := Lib.hid (HE2.out.kept hal)
  have HE3 := Lib.hid (HE3.out.kept hal)
  have HP := Lib.hid (HP.out.kept hal)
  have HI := Lib.hid (HI.out.kept hal)
  clear hs hr hb hal
  go_wp2_with fail
  refine C.out.mono ?_; rintro e W6 ⟨ao, cap, rfl, hst, -, bel⟩
  dsimp only [List.length_cons, List.length_nil] at *
  have R := Lib.hid (exc_row1 ao cap W6 bB hst)
  have HB := Lib.hid (below_up HB.out bel)
  have HE1 := Lib.hid (HE1.out.kept bel)
  have HE2 := Lib.hid (HE2.out.kept bel)
  have HE3 := Lib.hid (HE3.out.kept bel)
  have HP := Lib.hid (HP.out.kept bel)
  have HI := Lib.hid (HI.out.kept bel)
  have hal := one_below W6 (.cells #[.string bB] 9)
  have HB := Lib.hid (below_up HB.out hal)
  have HE1 := Lib.hid (HE1.out.kept hal)
  have HE2 := Lib.hid (HE2.out.kept hal)
  have HE3 := Lib.hid (HE3.out.kept hal)
  have HP := Lib.hid (HP.out.kept hal)
  have HI := Lib.hid (HI.out.kept hal)
  clear hst bel hal k0 k1 lB C
  go_wp2_with fail
  refine R.out.mono ?_; rintro e W7 ⟨rfl, bel⟩
  have HB := Lib.hid (below_up HB.out bel)
  have HE1 := Lib.hid (HE1.out.kept bel)
  have HE2 := Lib.hid (HE2.out.kept bel)
  have HE3 := Lib.hid (HE3.out.kept bel)
  have HP := Lib.hid (HP.out.kept bel)
  have HI := Lib.hid (HI.out.kept bel)
  clear bel R
  obtain ⟨ho, hc, ro, rc, hb, hs, hr⟩ := HE3.out.lies
  have k0 : W7.cell? ⟨B3, 0, none⟩ = some (.slice ho 2 hc) := (Lib.cell_of_heap hb 0).trans rfl
  have k1 : W7.cell? ⟨B3, 1, none⟩ = some (.slice ro 2 rc) := (Lib.cell_of_heap hb 1).trans rfl
  have lB := lt_of_heap hb
  have C := Lib.hid (exc_infer fit3 W7 ho ro hc rc hs hr HP.out [] ex_infer3)
  have hal := one_below W7 (.cells #[.slice ho 2 hc, .slice ro 2 rc] 25)
  have HB := Lib.hid (below_up HB.out hal)
  have HE1 := Lib.hid (HE1.out.kept hal)
  have HE2 := Lib.hid (HE2.out.kept hal)
  have HE3 := Lib.hid (HE3.out.kept hal)
  have HP := Lib.hid (HP.out.kept hal)
  have HI := Lib.hid (HI.out.kept hal)
  clear hs hr hb hal
  go_wp2_with fail
  refine C.out.mono ?_; rintro e W8 ⟨ao, cap, rfl, -, -, bel⟩
  dsimp only [List.length_cons, List.length_nil] at *
  have HB := Lib.hid (below_up HB.out bel)
  have HE1 := Lib.hid (HE1.out.kept bel)
  have HE2 := Lib.hid (HE2.out.kept bel)
  have HE3 := Lib.hid (HE3.out.kept bel)
  have HP := Lib.hid (HP.out.kept bel)
  have HI := Lib.hid (HI.out.kept bel)
  clear bel k0 k1 lB C
  obtain ⟨pA, rfl, pcell⟩ := ints_one _ HI.out
  have pl := pcell.2; have pc0 := pcell.1; clear pcell HI
  clear HE2 HE3
  obtain ⟨ho, hc, ro, rc, hb, hs, hr⟩ := HE1.out.lies
  have k0 : W8.cell? ⟨B1, 0, none⟩ = some (.slice ho 2 hc) := (Lib.cell_of_heap hb 0).trans rfl
  have k1 : W8.cell? ⟨B1, 1, none⟩ = some (.slice ro 2 rc) := (Lib.cell_of_heap hb 1).trans rfl
  have lB := lt_of_heap hb
  have C := Lib.hid (exc_uni1 fit1 W8 ho ro hc rc hr HP.out ex_unique1)
  have hal := one_below W8 (.cells #[.int .i64 1] 3)
  have HB := Lib.hid (below_up HB.out hal)
  have HE1 := Lib.hid (HE1.out.kept hal)
  have HP := Lib.hid (HP.out.kept hal)
  clear hs hr hb hal
  go_wp2_with fail
  refine C.out.mono ?_; rintro e W9 ⟨rfl, bel⟩
  clear pc0 pl
  have HB := Lib.hid (below_up HB.out bel)
  have HE1 := Lib.hid (HE1.out.kept bel)
  have HP := Lib.hid (HP.out.kept bel)
  clear bel k0 k1 lB C
  obtain ⟨ho, hc, ro, rc, hb, hs, hr⟩ := HE1.out.lies
  have k0 : W9.cell? ⟨B1, 0, none⟩ = some (.slice ho 2 hc) := (Lib.cell_of_heap hb 0).trans rfl
  have k1 : W9.cell? ⟨B1, 1, none⟩ = some (.slice ro 2 rc) := (Lib.cell_of_heap hb 1).trans rfl
  have lB := lt_of_heap hb
  have C := Lib.hid (exc_uni2 fit1 W9 ho ro hc rc hr HP.out)
  clear hs hr hb
  go_wp2_with fail
  refine C.out.mono ?_; rintro e W10 ⟨rfl, bel⟩
  have HB := Lib.hid (below_up HB.out bel)
  have HE1 := Lib.hid (HE1.out.kept bel)
  have HP := Lib.hid (HP.out.kept bel)
  clear bel k0 k1 lB C
  obtain ⟨ho, hc, ro, rc, hb, hs, hr⟩ := HE1.out.lies
  have k0 : W10.cell? ⟨B1, 0, none⟩ = some (.slice ho 2 hc) := (Lib.cell_of_heap hb 0).trans rfl
  have k1 : W10.cell? ⟨B1, 1, none⟩ = some (.slice ro 2 rc) := (Lib.cell_of_heap hb 1).trans rfl
  have lB := lt_of_heap hb
  have C := Lib.hid (exc_use1 fit1 W10 ho ro hc rc bB (by decide) hs hr HP.out true ex_usable1)
  have hal := below_up (one_below W10 (.cells #[.slice ho 2 hc, .slice ro 2 rc] 25)) (one_below _ (.cells #[.string bB] 9))
  have HB := Lib.hid (below_up HB.out hal)
  have HE1 := Lib.hid (HE1.out.kept hal)
  have HP := Lib.hid (HP.out.kept hal)
  clear hs hr hb hal
  go_wp2_with fail
  refine C.out.mono ?_; rintro e W11 ⟨rfl, bel⟩
  have HB := Lib.hid (below_up HB.out bel)
  have HE1 := Lib.hid (HE1.out.kept bel)
  have HP := Lib.hid (HP.out.kept bel)
  clear bel k0 k1 lB C
  obtain ⟨ho, hc, ro, rc, hb, hs, hr⟩ := HE1.out.lies
  have k0 : W11.cell? ⟨B1, 0, none⟩ = some (.slice ho 2 hc) := (Lib.cell_of_heap hb 0).trans rfl
  have k1 : W11.cell? ⟨B1, 1, none⟩ = some (.slice ro 2 rc) := (Lib.cell_of_heap hb 1).trans rfl
  have lB := lt_of_heap hb
  have C := Lib.hid (exc_use1 fit1 W11 ho ro hc rc bC (by decide) hs hr HP.out false ex_usable2)
  have hal := below_up (one_below W11 (.cells #[.slice ho 2 hc, .slice ro 2 rc] 25)) (one_below _ (.cells #[.string bC] 9))
  have HB := Lib.hid (below_up HB.out hal)
  have HE1 := Lib.hid (HE1.out.kept hal)
  have HP := Lib.hid (HP.out.kept hal)
  clear hs hr hb hal
  go_wp2_with fail
  refine C.out.mono ?_; rintro e W12 ⟨rfl, bel⟩
  have HB := Lib.hid (below_up HB.out bel)
  have HE1 := Lib.hid (HE1.out.kept bel)
  have HP := Lib.hid (HP.out.kept bel)
  clear bel k0 k1 lB C
  go_wp2_with fail
  go_ret
  exact ⟨rfl, HB.out⟩
end Go.Proofs.YtmomjhnbhckhpaaDoor
