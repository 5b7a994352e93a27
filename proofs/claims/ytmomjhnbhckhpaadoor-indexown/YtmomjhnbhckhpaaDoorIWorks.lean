/-
  The examples of the document that the statements of layer 12 ask for first are so; whether a table and columns are few.
  Conditions: none.
-/
import Derived.WalkKit
import Derived.WalkMore
import Derived.IntWalk
import Derived.Lib.Hide
import Derived.Test.YtmomjhnbhckhpaaDoorProg
import Derived.Test.YtmomjhnbhckhpaaDoorIBuild
import Derived.Test.YtmomjhnbhckhpaaDoorIFind2
import Derived.Test.YtmomjhnbhckhpaaDoorTRefA
namespace Go.Proofs.YtmomjhnbhckhpaaDoor
open Go.RowKit Go.Shelf
set_option linter.unusedVariables false

abbrev iK : ByteArray := ⟨#[107]⟩
abbrev iA : ByteArray := ⟨#[97]⟩
abbrev iB : ByteArray := ⟨#[98]⟩
abbrev iC : ByteArray := ⟨#[99]⟩
abbrev iR : List (List ByteArray) := [[iB], [iA], [iB]]
theorem iex_build : buildL iR [0] = [1, 0, 2] := by kernel_rfl
theorem iex_cmp : keyC [iA] [iA, ⟨#[]⟩] = -1 := by kernel_rfl
theorem iex_b : keyC (rowKey iR [0] 1) [iB] = -1 ∧ keyC (rowKey iR [0] 0) [iB] = 0 ∧ keyC (rowKey iR [0] 2) [iB] = 0 := ⟨by kernel_rfl, by kernel_rfl, by kernel_rfl⟩
theorem iex_c : keyC (rowKey iR [0] 1) [iC] = -1 ∧ keyC (rowKey iR [0] 0) [iC] = -1 ∧ keyC (rowKey iR [0] 2) [iC] = -1 := ⟨by kernel_rfl, by kernel_rfl, by kernel_rfl⟩
theorem iex_find {a : Int} {ok : Bool} (h : FoundAt (fun x => keyC (rowKey iR [0] x) [iB]) [1, 0, 2] a ok) : a = 0 ∧ ok = true := by
  obtain ⟨e1, e2, e3⟩ := iex_b
  obtain ⟨p, hp, h1, h2, h3⟩ := h
  dsimp only at h1 h2 h3
  simp only [List.length_cons, List.length_nil] at hp h2 h3
  match p, hp with
  | 0, _ =>
    rcases h2 with h2 | ⟨x, hx, h2⟩
    · omega
    · simp at hx; subst hx; rw [e1] at h2; omega
  | 1, _ =>
    rcases h3 with ⟨x, hx, -, rfl, rfl⟩ | ⟨h3, -, -⟩
    · simp at hx; exact ⟨hx.symm, rfl⟩
    · rcases h3 with h3 | ⟨x, hx, h3⟩
      · omega
      · simp at hx; subst hx; exact absurd e2 h3
  | 2, _ =>
    rcases h1 with h1 | ⟨x, hx, h1⟩
    · omega
    · simp at hx; subst hx; rw [e2] at h1; omega
  | 3, _ =>
    rcases h1 with h1 | ⟨x, hx, h1⟩
    · omega
    · simp at hx; subst hx; rw [e3] at h1; omega
  | n + 4, hn => omega
theorem iex_none {a : Int} {ok : Bool} (h : FoundAt (fun x => keyC (rowKey iR [0] x) [iC]) [1, 0, 2] a ok) : a = 0 ∧ ok = false := by
  obtain ⟨e1, e2, e3⟩ := iex_c
  obtain ⟨p, hp, h1, h2, h3⟩ := h
  dsimp only at h1 h2 h3
  rcases h3 with ⟨x, hx, h3, -, -⟩ | ⟨-, h3, h4⟩
  · exfalso
    match p, hx with
    | 0, hx => simp at hx; subst hx; rw [e1] at h3; omega
    | 1, hx => simp at hx; subst hx; rw [e2] at h3; omega
    | 2, hx => simp at hx; subst hx; rw [e3] at h3; omega
    | n + 3, hx => simp at hx
  · exact ⟨h3, h4⟩
/-- the example's table -/
structure ExI (B : Nat) (W : World) : Prop where
  lies : ∃ (ho ro : Option Addr), W.heap[B]? = some (.cells #[.slice ho 1 1, .slice ro 3 3] 25 (0, 0)) ∧ RowsAt W ro iR
theorem ExI.kept {B : Nat} {W V : World} (h : ExI B W) (k : Below W.heap.size W V) : ExI B V := by
  obtain ⟨ho, ro, h1, h2⟩ := h.lies
  exact ⟨ho, ro, (k.block _ (lt_of_heap h1)).trans h1, h2.kept k⟩
abbrev litI (a : ByteArray) : Obj := .cells #[.string a] 9
theorem rows_threeI (w : World) (ro so to' : Option Addr) (r s t : List ByteArray) (c1 : Cap ro r.length) (c2 : Cap so s.length) (c3 : Cap to' t.length) (T : TypeId) (h : StrRow w ro r) (k : StrRow w so s) (l : StrRow w to' t) : RowsAt (w.alloc (.cells #[.slice ro r.length c1.1, .slice so s.length c2.1, .slice to' t.length c3.1] T)) (some ⟨w.heap.size, 0, none⟩) [r, s, t] := by
  refine .inr ⟨_, rfl, by simp, fun i x hx => ?_⟩
  match i, hx with
  | 0, hx => cases hx; exact ⟨ro, c1, (cell_row (World.alloc_heap_new w _) 0).trans rfl, h.kept (one_below _ _)⟩
  | 1, hx => cases hx; exact ⟨so, c2, (cell_row (World.alloc_heap_new w _) 1).trans rfl, k.kept (one_below _ _)⟩
  | 2, hx => cases hx; exact ⟨to', c3, (cell_row (World.alloc_heap_new w _) 2).trans rfl, l.kept (one_below _ _)⟩
theorem lit_tI (w V : World) (hV : V = ((((((w.alloc (litI iK)).alloc (litI iB)).alloc (litI iA)).alloc (litI iB)).alloc (.cells #[.slice (some ⟨w.heap.size + 1, 0, none⟩) 1 1, .slice (some ⟨w.heap.size + 1 + 1, 0, none⟩) 1 1, .slice (some ⟨w.heap.size + 1 + 1 + 1, 0, none⟩) 1 1] 22)).alloc (.cells #[.slice (some ⟨w.heap.size, 0, none⟩) 1 1, .slice (some ⟨w.heap.size + 1 + 1 + 1 + 1, 0, none⟩) 3 3] 25))) :
    ExI (w.heap.size + 1 + 1 + 1 + 1 + 1) V ∧ Below w.heap.size w V := by
  obtain ⟨W1, h1⟩ : ∃ W1, W1 = w.alloc (litI iK) := ⟨_, rfl⟩
  obtain ⟨W2, h2⟩ : ∃ W2, W2 = W1.alloc (litI iB) := ⟨_, rfl⟩
  obtain ⟨W3, h3⟩ : ∃ W3, W3 = W2.alloc (litI iA) := ⟨_, rfl⟩
  obtain ⟨W0, h0⟩ : ∃ W0, W0 = W3.alloc (litI iB) := ⟨_, rfl⟩
  obtain ⟨W4, h4⟩ : ∃ W4, W4 = W0.alloc (.cells #[.slice (some ⟨w.heap.size + 1, 0, none⟩) 1 1, .slice (some ⟨w.heap.size + 1 + 1, 0, none⟩) 1 1, .slice (some ⟨w.heap.size + 1 + 1 + 1, 0, none⟩) 1 1] 22) := ⟨_, rfl⟩
  rw [← h1, ← h2, ← h3, ← h0, ← h4] at hV
  have s1 : W1.heap.size = w.heap.size + 1 := by rw [h1]; simp
  have s2 : W2.heap.size = w.heap.size + 1 + 1 := by rw [h2, World.size_alloc, s1]
  have s3 : W3.heap.size = w.heap.size + 1 + 1 + 1 := by rw [h3, World.size_alloc, s2]
  have s0 : W0.heap.size = w.heap.size + 1 + 1 + 1 + 1 := by rw [h0, World.size_alloc, s3]
  have s4 : W4.heap.size = w.heap.size + 1 + 1 + 1 + 1 + 1 := by rw [h4, World.size_alloc, s0]
  have b1 : Below w.heap.size w W1 := by rw [h1]; exact one_below _ _
  have b2 : Below W1.heap.size W1 W2 := by rw [h2]; exact one_below _ _
  have b3 : Below W2.heap.size W2 W3 := by rw [h3]; exact one_below _ _
  have b0 : Below W3.heap.size W3 W0 := by rw [h0]; exact one_below _ _
  have b4 : Below W0.heap.size W0 W4 := by rw [h4]; exact one_below _ _
  have b5 : Below W4.heap.size W4 V := by rw [hV]; exact one_below _ _
  have r2 : StrRow W2 (some ⟨w.heap.size + 1, 0, none⟩) [iB] := by rw [h2, ← s1]; exact new_row W1 [iB] 9
  have r3 : StrRow W3 (some ⟨w.heap.size + 1 + 1, 0, none⟩) [iA] := by rw [h3, ← s2]; exact new_row W2 [iA] 9
  have r4 : StrRow W0 (some ⟨w.heap.size + 1 + 1 + 1, 0, none⟩) [iB] := by rw [h0, ← s3]; exact new_row W3 [iB] 9
  have rr : RowsAt W4 (some ⟨w.heap.size + 1 + 1 + 1 + 1, 0, none⟩) iR := by
    rw [h4, ← s0]; exact rows_threeI W0 _ _ _ [iB] [iA] [iB] ⟨1, Nat.le_refl _, fun e => by cases e⟩ ⟨1, Nat.le_refl _, fun e => by cases e⟩ ⟨1, Nat.le_refl _, fun e => by cases e⟩ _ ((r2.kept b3).kept b0) (r3.kept b0) r4
  refine ⟨⟨_, _, by rw [hV, ← s4]; exact World.alloc_heap_new _ _, rr.kept b5⟩, below_up (below_up (below_up (below_up (below_up b1 b2) b3) b0) b4) b5⟩
theorem ints_new (w : World) (l : List Int) (T : TypeId) : IntsAt (w.alloc (.cells (l.map (Value.int .i64)).toArray T)) (some ⟨w.heap.size, 0, none⟩) l :=
  .inr ⟨_, rfl, by simp, fun i c hc => by rw [cell_row (World.alloc_heap_new w _)]; simp [hc]⟩
theorem iR_fit : ∀ r ∈ iR, r.length ≤ 1099511627776 ∧ ∀ c ∈ r, c.size ≤ 281474976710656 := by decide
theorem iexc_build (W : World) (ho ro : Option Addr) (h : RowsAt W ro iR) :
    Calls Tryd.prog 9 #[.agg #[.slice ho 1 1, .slice ro 3 3], .slice (some ⟨W.heap.size, 0, none⟩) 1 1] (W.alloc (.cells #[.int .i64 0] 3)) fun e w' => ∃ oo, e = .returned (.slice oo 3 3) ∧ IntsAt w' oo [1, 0, 2] ∧ Below W.heap.size W w' := by
  have hb := one_below W (.cells #[.int .i64 0] 3)
  have := build_any ho 1 1 ro 3 iR (some ⟨W.heap.size, 0, none⟩) 1 [0] (W.alloc (.cells #[.int .i64 0] 3)) (by decide) (by decide) iR_fit (by decide) (h.kept hb) (ints_new W [0] 3)
  rw [iex_build] at this
  refine this.mono ?_
  rintro e w' ⟨oo, rfl, h1, h2⟩
  exact ⟨oo, rfl, h1, below_up hb h2⟩
theorem iexc_ints (W : World) (oo : Option Addr) (h : IntsAt W oo [1, 0, 2]) :
    Calls Tryd.prog 22 #[.slice oo 3 3, .slice (some ⟨W.heap.size, 0, none⟩) 3 3] (W.alloc (.cells #[.int .i64 1, .int .i64 0, .int .i64 2] 3)) fun e w' => e = .returned (.bool true) ∧ Below W.heap.size W w' := by
  have hb := one_below W (.cells #[.int .i64 1, .int .i64 0, .int .i64 2] 3)
  have := ints_any oo (some ⟨W.heap.size, 0, none⟩) 3 3 [1, 0, 2] [1, 0, 2] (W.alloc (.cells #[.int .i64 1, .int .i64 0, .int .i64 2] 3)) (by decide) (h.kept hb) (ints_new W [1, 0, 2] 3)
  refine this.mono ?_
  rintro e w' ⟨rfl, h1⟩
  exact ⟨rfl, below_up hb h1⟩
theorem iexc_find (W : World) (ho ro oo : Option Addr) (c : ByteArray) (b : Bool) (hc : ∀ a ok, FoundAt (fun x => keyC (rowKey iR [0] x) [c]) [1, 0, 2] a ok → a = 0 ∧ ok = b) (h : RowsAt W ro iR) (hI : IntsAt W oo [1, 0, 2]) :
    Calls Tryd.prog 8 #[.agg #[.slice ho 1 1, .slice ro 3 3], .slice (some ⟨W.heap.size, 0, none⟩) 1 1, .slice oo 3 3, .slice (some ⟨W.heap.size + 1, 0, none⟩) 1 1] ((W.alloc (.cells #[.int .i64 0] 3)).alloc (litI c)) fun e w' => e = .returned (.tuple #[.int .i64 0, .bool b]) ∧ Below W.heap.size W w' := by
  have hb := one_below W (.cells #[.int .i64 0] 3)
  have hb2 := two_below W (.cells #[.int .i64 0] 3) (litI c)
  have hs : (W.alloc (.cells #[.int .i64 0] 3)).heap.size = W.heap.size + 1 := by simp
  have hr : StrRow ((W.alloc (.cells #[.int .i64 0] 3)).alloc (litI c)) (some ⟨W.heap.size + 1, 0, none⟩) [c] := by rw [← hs]; exact new_row _ [c] 9
  have := find_any ho 1 1 ro 3 iR (some ⟨W.heap.size, 0, none⟩) 1 [0] oo 3 [1, 0, 2] (some ⟨W.heap.size + 1, 0, none⟩) 1 [c] ((W.alloc (.cells #[.int .i64 0] 3)).alloc (litI c)) (by decide) (by simp) (by decide) (by decide) iR_fit (h.kept hb2) ((ints_new W [0] 3).kept (one_below _ _)) (hI.kept hb2) hr
  refine this.mono ?_
  rintro e w' ⟨a, ok, rfl, h1, h2⟩
  obtain ⟨rfl, rfl⟩ := hc a ok h1
  exact ⟨rfl, below_up hb2 h2⟩
theorem iexc_cmp (W : World) :
    Calls Tryd.prog 11 #[.slice (some ⟨W.heap.size, 0, none⟩) 1 1, .slice (some ⟨W.heap.size + 1, 0, none⟩) 2 2] ((W.alloc (litI iA)).alloc (.cells #[.string iA, .string ⟨#[]⟩] 9)) fun e w' => e = .returned (.int .i64 (-1)) ∧ Below W.heap.size W w' := by
  have hb2 := two_below W (litI iA) (.cells #[.string iA, .string ⟨#[]⟩] 9)
  have hs : (W.alloc (litI iA)).heap.size = W.heap.size + 1 := by simp
  have hr : StrRow ((W.alloc (litI iA)).alloc (.cells #[.string iA, .string ⟨#[]⟩] 9)) (some ⟨W.heap.size + 1, 0, none⟩) [iA, ⟨#[]⟩] := by rw [← hs]; exact new_row _ [iA, ⟨#[]⟩] 9
  have := compareK_any (some ⟨W.heap.size, 0, none⟩) (some ⟨W.heap.size + 1, 0, none⟩) 1 2 [iA] [iA, ⟨#[]⟩] ((W.alloc (litI iA)).alloc (.cells #[.string iA, .string ⟨#[]⟩] 9)) (by simp) (by simp) ((new_row W [iA] 9).kept (one_below _ _)) hr
  rw [iex_cmp] at this
  refine this.mono ?_
  rintro e w' ⟨rfl, h1⟩
  exact ⟨rfl, below_up hb2 h1⟩
theorem iexc_key (W : World) (ho ro : Option Addr) (h : RowsAt W ro iR) :
    Calls Tryd.prog 10 #[.agg #[.slice ho 1 1, .slice ro 3 3], .int .i64 1, .slice (some ⟨W.heap.size, 0, none⟩) 2 2] (W.alloc (.cells #[.int .i64 0, .int .i64 5] 3)) fun e w' => ∃ ao, e = .returned (.slice ao 2 2) ∧ Below W.heap.size W w' := by
  have hb := one_below W (.cells #[.int .i64 0, .int .i64 5] 3)
  have := key_any ho 1 1 ro 3 iR 1 (some ⟨W.heap.size, 0, none⟩) 2 [0, 5] (W.alloc (.cells #[.int .i64 0, .int .i64 5] 3)) (by decide) (by decide) iR_fit (h.kept hb) (ints_new W [0, 5] 3)
  refine this.mono ?_
  rintro e w' ⟨ao, rfl, _, h2⟩
  exact ⟨ao, rfl, below_up hb h2⟩

set_option maxRecDepth 100000 in
set_option maxHeartbeats 2000000 in
theorem iworks_any (w : World) : Calls Tryd.prog 6 #[] w fun e w' => e = .returned (.bool true) ∧ Below w.heap.size w w' := by
  go_enter Tryd.func6, Tryd.ntmps6
  go_upto_region 2 with fail
  obtain ⟨V, hV⟩ : ∃ V, V = ((((((w.alloc (litI iK)).alloc (litI iB)).alloc (litI iA)).alloc (litI iB)).alloc (.cells #[.slice (some ⟨w.heap.size + 1, 0, none⟩) 1 1, .slice (some ⟨w.heap.size + 1 + 1, 0, none⟩) 1 1, .slice (some ⟨w.heap.size + 1 + 1 + 1, 0, none⟩) 1 1] 22)).alloc (.cells #[.slice (some ⟨w.heap.size, 0, none⟩) 1 1, .slice (some ⟨w.heap.size + 1 + 1 + 1 + 1, 0, none⟩) 3 3] 25)) := ⟨_, rfl⟩
  rw [← hV]
  obtain ⟨hE, hB⟩ := lit_tI w V hV
  obtain ⟨B, hBk⟩ : ∃ B, B = w.heap.size + 1 + 1 + 1 + 1 + 1 := ⟨_, rfl⟩
  rw [← hBk] at hE ⊢
  have HE := Lib.hid hE
  have HB := Lib.hid hB
  clear hV hE hB hBk
  obtain ⟨ho, ro, hb, hr⟩ := HE.out.lies
  have k0 : V.cell? ⟨B, 0, none⟩ = some (.slice ho 1 1) := (Lib.cell_of_heap hb 0).trans rfl
  have k1 : V.cell? ⟨B, 1, none⟩ = some (.slice ro 3 3) := (Lib.cell_of_heap hb 1).trans rfl
  have C := Lib.hid (iexc_build V ho ro hr)
  clear hb hr
  go_wp2_with fail
  refine C.out.mono ?_; rintro e W1 ⟨oo, rfl, hI, b1⟩
  have HI := Lib.hid hI
  have HE := Lib.hid (HE.out.kept b1)
  have HB := Lib.hid (below_up HB.out b1)
  have C := Lib.hid (iexc_ints W1 oo hI)
  clear hI b1 k0 k1
  go_wp2_with fail
  refine C.out.mono ?_; rintro e W2 ⟨rfl, b1⟩
  have HI := Lib.hid (HI.out.kept b1)
  have HE := Lib.hid (HE.out.kept b1)
  have HB := Lib.hid (below_up HB.out b1)
  clear b1
  obtain ⟨ho, ro, hb, hr⟩ := HE.out.lies
  have k0 : W2.cell? ⟨B, 0, none⟩ = some (.slice ho 1 1) := (Lib.cell_of_heap hb 0).trans rfl
  have k1 : W2.cell? ⟨B, 1, none⟩ = some (.slice ro 3 3) := (Lib.cell_of_heap hb 1).trans rfl
  have C := Lib.hid (iexc_find W2 ho ro oo iB true (fun a ok h => iex_find h) hr HI.out)
  clear hb hr
  go_wp2_with fail
  refine C.out.mono ?_; rintro e W3 ⟨rfl, b1⟩
  have HI := Lib.hid (HI.out.kept b1)
  have HE := Lib.hid (HE.out.kept b1)
  have HB := Lib.hid (below_up HB.out b1)
  clear b1 k0 k1
  obtain ⟨ho, ro, hb, hr⟩ := HE.out.lies
  have k0 : W3.cell? ⟨B, 0, none⟩ = some (.slice ho 1 1) := (Lib.cell_of_heap hb 0).trans rfl
  have k1 : W3.cell? ⟨B, 1, none⟩ = some (.slice ro 3 3) := (Lib.cell_of_heap hb 1).trans rfl
  have C := Lib.hid (iexc_find W3 ho ro oo iC false (fun a ok h => iex_none h) hr HI.out)
  clear hb hr
  go_wp2_with fail
  refine C.out.mono ?_; rintro e W4 ⟨rfl, b1⟩
  have HE := Lib.hid (HE.out.kept b1)
  have HB := Lib.hid (below_up HB.out b1)
  have C := Lib.hid (iexc_cmp W4)
  clear b1 k0 k1 HI
  go_wp2_with fail
  refine C.out.mono ?_; rintro e W5 ⟨rfl, b1⟩
  have HE := Lib.hid (HE.out.kept b1)
  have HB := Lib.hid (below_up HB.out b1)
  clear b1
  obtain ⟨ho, ro, hb, hr⟩ := HE.out.lies
  have k0 : W5.cell? ⟨B, 0, none⟩ = some (.slice ho 1 1) := (Lib.cell_of_heap hb 0).trans rfl
  have k1 : W5.cell? ⟨B, 1, none⟩ = some (.slice ro 3 3) := (Lib.cell_of_heap hb 1).trans rfl
  have C := Lib.hid (iexc_key W5 ho ro hr)
  clear hb hr
  go_wp2_with fail
  refine C.out.mono ?_; rintro e W6 ⟨ao, rfl, b1⟩
  have HB := Lib.hid (below_up HB.out b1)
  clear b1 k0 k1
  go_wp2_with fail
  go_ret
  exact ⟨rfl, HB.out⟩

set_option maxRecDepth 100000 in
set_option maxHeartbeats 1000000 in
theorem few12_any (ho : Option Addr) (hc : Nat) (hd : List ByteArray) (ro : Option Addr) (rc : Nat) (rs : List (List ByteArray)) (co : Option Addr) (cc nn : Nat) (w : World)
    (hn : hd.length ≤ maxLen) (hn2 : rs.length ≤ maxLen) (hnn : nn ≤ maxLen) (hx : ∀ r ∈ rs, r.length ≤ maxLen ∧ ∀ c ∈ r, c.size ≤ 140737488351232) (hs : ∀ c ∈ hd, c.size ≤ 140737488351232) (hH : StrRow w ho hd) (hR : RowsAt w ro rs) :
    Calls Tryd.prog 7 #[.agg #[.slice ho hd.length hc, .slice ro rs.length rc], .slice co nn cc] w fun e w' => ∃ b, e = .returned (.bool b) ∧ (b = true → fewT hd rs ∧ rs.length ≤ 40 ∧ nn ≤ 12) ∧ Below w.heap.size w w' := by
  have HB0 := Lib.hid (one_below w (TabO ho hd.length hc ro rs.length rc))
  have HNew := Lib.hid (World.alloc_heap_new w (TabO ho hd.length hc ro rs.length rc))
  have C := Lib.hid (rfew_any ho hc hd ro rc rs (w.alloc (TabO ho hd.length hc ro rs.length rc)) hn hn2 hx hs (hH.kept HB0.out) (hR.kept HB0.out))
  obtain ⟨W, HW⟩ : ∃ W, Hid (W = w.alloc (TabO ho hd.length hc ro rs.length rc)) := ⟨_, Lib.hid rfl⟩
  rw [← HW.out] at HB0 HNew C
  clear hx hs hH hR
  go_enter Tryd.func7, Tryd.ntmps7
  go_upto_region 1 with fail
  rw [show w.alloc (TabO ho hd.length hc ro rs.length rc) = W from HW.out.symm]
  obtain ⟨c0, c1⟩ := tabs HNew.out
  go_wp2_with fail
  refine C.out.mono ?_; rintro e w1 ⟨b, rfl, hb, b1⟩
  obtain ⟨c0, c1⟩ := tabs ((b1.block _ (lt_of_heap HNew.out)).trans HNew.out)
  have HB := Lib.hid (below_up HB0.out b1)
  have HF := Lib.hid hb
  unfold maxLen at hn2 hnn
  clear b1 hb
  cases b with
  | false =>
    go_wp2_with fail
    go_ret
    exact ⟨false, rfl, (fun h => by cases h), HB.out⟩
  | true =>
    by_cases h40 : rs.length ≤ 40
    · have e40 : decide ((rs.length : Int) ≤ 40) = true := decide_eq_true (by omega)
      by_cases h12 : nn ≤ 12
      · have e12 : decide ((nn : Int) ≤ 12) = true := decide_eq_true (by omega)
        go_wp2_with fail
        go_ret
        exact ⟨true, rfl, (fun _ => ⟨HF.out (by first | trivial | rfl), h40, h12⟩), HB.out⟩
      · have e12 : decide ((nn : Int) ≤ 12) = false := decide_eq_false (by omega)
        go_wp2_with fail
        go_ret
        exact ⟨false, rfl, (fun h => by cases h), HB.out⟩
    · have e40 : decide ((rs.length : Int) ≤ 40) = false := decide_eq_false (by omega)
      go_wp2_with fail
      go_ret
      exact ⟨false, rfl, (fun h => by cases h), HB.out⟩
end Go.Proofs.YtmomjhnbhckhpaaDoor
