/-
  The example of the document that the statements of layer 13 ask for first is so.
  Conditions: what the code answers.
-/
import Derived.WalkKit
import Derived.WalkMore
import Derived.IntWalk
import Derived.Lib.Hide
import Derived.Test.YtigijgcldgbokaaGreatProg
import Derived.Test.YtigijgcldgbokaaGreatPkA
import Derived.Test.YtigijgcldgbokaaGreatCSpec
import Derived.Test.YtigijgcldgbokaaGreatCMath2
namespace Go.Proofs.YtigijgcldgbokaaGreat
open Go.RowKit Go.Shelf
set_option linter.unusedVariables false

abbrev cId : ByteArray := ⟨#[105, 100]⟩
abbrev cName : ByteArray := ⟨#[110, 97, 109, 101]⟩
abbrev cTitle : ByteArray := ⟨#[116, 105, 116, 108, 101]⟩
abbrev cHa : List ByteArray := [cId, cName]
abbrev cHb : List ByteArray := [cId, cTitle]
abbrev cRs : List (List ByteArray) := [[⟨#[49]⟩, ⟨#[120]⟩], [⟨#[50]⟩, ⟨#[121]⟩]]
theorem cex_a : checkI cHa cRs = 0 := by kernel_rfl
theorem cex_b : checkI cHb cRs = 0 := by kernel_rfl
theorem cex_c : checkI [] [] = 8 := by kernel_rfl
theorem cex_na : cHa.Nodup := nodup_of_dup _ (by kernel_rfl)
theorem cex_nb : (cHa.set 1 cTitle).Nodup := nodup_of_dup _ (by kernel_rfl)
theorem cex_ne : cName ≠ cTitle := fun h => by have := congrArg ByteArray.size h; revert this; decide
theorem cex_align : ∀ b, alignL cRs cRs cHa cHb b = alignL cRs cRs cHa (cHa.set 1 cTitle) b := fun b => rfl
theorem cex_yes : alignE cHa cRs cHb cRs = 0 ∧ alignR cHa cRs cHb cRs true = [(0, 0), (1, 1)] := by
  obtain ⟨h1, h2⟩ := align_good cHa cRs cHb cRs true cex_a cex_b
  refine ⟨h1, h2.trans ((cex_align true).trans ?_)⟩
  rw [(renamed_align cRs cHa 1 cName cTitle rfl cex_na cex_nb cex_ne true).1 rfl (by decide)]
  rfl
theorem cex_no : alignE cHa cRs cHb cRs = 0 ∧ (alignR cHa cRs cHb cRs false).length = 1 := by
  obtain ⟨h1, h2⟩ := align_good cHa cRs cHb cRs false cex_a cex_b
  refine ⟨h1, ?_⟩
  rw [h2, cex_align false, (renamed_align cRs cHa 1 cName cTitle rfl cex_na cex_nb cex_ne false).2 (.inl rfl)]
  rfl
theorem cex_named : (namedL cHa cHb).length = 1 := by
  have h := cex_no.2
  rw [(align_good cHa cRs cHb cRs false cex_a cex_b).2] at h
  exact h
theorem cex_empty : alignE cHa cRs [] [] = 8 := by
  rw [(align_bad2 cHa cRs [] [] true cex_a (by rw [cex_c]; decide)).1, cex_c]

/-- a table of two columns and two rows, laid out -/
structure ExC (B : Nat) (h : List ByteArray) (rs : List (List ByteArray)) (W : World) : Prop where
  lies : ∃ (ho : Option Addr) (ro : Option Addr), W.heap[B]? = some (.cells #[.slice ho 2 2, .slice ro 2 2] 25 (0, 0)) ∧ StrRow W ho h ∧ RowsAt W ro rs ∧ ho ≠ none ∧ ro ≠ none
theorem ExC.kept {B : Nat} {h : List ByteArray} {rs : List (List ByteArray)} {W V : World} (x : ExC B h rs W) (k : Below W.heap.size W V) : ExC B h rs V := by
  obtain ⟨ho, ro, h1, h2, h3, h4⟩ := x.lies
  exact ⟨ho, ro, (k.block _ (lt_of_heap h1)).trans h1, h2.kept k, h3.kept k, h4⟩
abbrev litRowC (a b : ByteArray) : Obj := .cells #[.string a, .string b] 9
theorem row_litC (W : World) (a b : ByteArray) : StrRow (W.alloc (litRowC a b)) (some ⟨W.heap.size, 0, none⟩) [a, b] := new_row W [a, b] 9
theorem lit_tC (w V : World) (a b c d e f : ByteArray) (hV : V = (((((w.alloc (litRowC a b)).alloc (litRowC c d)).alloc (litRowC e f)).alloc (.cells #[.slice (some ⟨w.heap.size + 1, 0, none⟩) 2 2, .slice (some ⟨w.heap.size + 1 + 1, 0, none⟩) 2 2] 22)).alloc (.cells #[.slice (some ⟨w.heap.size, 0, none⟩) 2 2, .slice (some ⟨w.heap.size + 1 + 1 + 1, 0, none⟩) 2 2] 25))) :
    ExC (w.heap.size + 1 + 1 + 1 + 1) [a, b] [[c, d], [e, f]] V ∧ Below w.heap.size w V := by
  obtain ⟨W1, h1⟩ : ∃ W1, W1 = w.alloc (litRowC a b) := ⟨_, rfl⟩
  obtain ⟨W2, h2⟩ : ∃ W2, W2 = W1.alloc (litRowC c d) := ⟨_, rfl⟩
  obtain ⟨W3, h3⟩ : ∃ W3, W3 = W2.alloc (litRowC e f) := ⟨_, rfl⟩
  obtain ⟨W4, h4⟩ : ∃ W4, W4 = W3.alloc (.cells #[.slice (some ⟨w.heap.size + 1, 0, none⟩) 2 2, .slice (some ⟨w.heap.size + 1 + 1, 0, none⟩) 2 2] 22) := ⟨_, rfl⟩
  rw [← h1, ← h2, ← h3, ← h4] at hV
  have s1 : W1.heap.size = w.heap.size + 1 := by rw [h1]; simp
  have s2 : W2.heap.size = w.heap.size + 1 + 1 := by rw [h2, World.size_alloc, s1]
  have s3 : W3.heap.size = w.heap.size + 1 + 1 + 1 := by rw [h3, World.size_alloc, s2]
  have s4 : W4.heap.size = w.heap.size + 1 + 1 + 1 + 1 := by rw [h4, World.size_alloc, s3]
  have b1 : Below w.heap.size w W1 := by rw [h1]; exact one_below _ _
  have b2 : Below W1.heap.size W1 W2 := by rw [h2]; exact one_below _ _
  have b3 : Below W2.heap.size W2 W3 := by rw [h3]; exact one_below _ _
  have b4 : Below W3.heap.size W3 W4 := by rw [h4]; exact one_below _ _
  have b5 : Below W4.heap.size W4 V := by rw [hV]; exact one_below _ _
  have r1 : StrRow W1 (some ⟨w.heap.size, 0, none⟩) [a, b] := by rw [h1]; exact row_litC w a b
  have r2 : StrRow W2 (some ⟨w.heap.size + 1, 0, none⟩) [c, d] := by rw [h2, ← s1]; exact row_litC W1 c d
  have r3 : StrRow W3 (some ⟨w.heap.size + 1 + 1, 0, none⟩) [e, f] := by rw [h3, ← s2]; exact row_litC W2 e f
  have rr : RowsAt W4 (some ⟨w.heap.size + 1 + 1 + 1, 0, none⟩) [[c, d], [e, f]] := by
    rw [h4, ← s3]; exact rows_two W3 _ _ [c, d] [e, f] ⟨2, Nat.le_refl _, fun e => by cases e⟩ ⟨2, Nat.le_refl _, fun e => by cases e⟩ _ (r2.kept b3) r3
  refine ⟨⟨_, _, by rw [hV, ← s4]; exact World.alloc_heap_new _ _, (((r1.kept b2).kept b3).kept b4).kept b5, rr.kept b5, by simp, by simp⟩, below_up (below_up (below_up (below_up b1 b2) b3) b4) b5⟩
theorem exA_in {W : World} {ho ro : Option Addr} (h1 : StrRow W ho cHa) (h2 : RowsAt W ro cRs) (h3 : ho ≠ none) (h4 : ro ≠ none) : TabIn W ho 2 cHa ro 2 cRs := ⟨by decide, by decide, by decide, by decide, h1, h2, by decide, by decide, fun e => absurd e h3, fun e => absurd e h4⟩
theorem exB_in {W : World} {ho ro : Option Addr} (h1 : StrRow W ho cHb) (h2 : RowsAt W ro cRs) (h3 : ho ≠ none) (h4 : ro ≠ none) : TabIn W ho 2 cHb ro 2 cRs := ⟨by decide, by decide, by decide, by decide, h1, h2, by decide, by decide, fun e => absurd e h3, fun e => absurd e h4⟩
theorem exE_in (W : World) : TabIn W none 0 [] none 0 [] := ⟨by decide, by decide, by decide, by decide, .inl rfl, .inl rfl, by decide, by decide, fun e => rfl, fun e => rfl⟩
theorem lit_pairsC (w : World) (l : PL) (T : TypeId) : PairsAt (w.alloc (.cells (cellsP l).toArray T)) (some ⟨w.heap.size, 0, none⟩) l := by
  refine .inr ⟨w.heap.size, 0, rfl, by simp, fun i p hp => ?_⟩
  obtain ⟨c1, c2⟩ := cellsP_at l i p hp
  have h := World.alloc_heap_new w (.cells (cellsP l).toArray T)
  constructor
  · rw [Lib.cell_of_heap h]; simpa using c1
  · rw [Lib.cell_of_heap h]; simpa using c2

set_option maxRecDepth 100000 in
set_option maxHeartbeats 4000000 in
theorem cworks_any (HNa : NamedOK) (HAl : AlignOK) (w : World) : Calls Tryz.prog 8 #[] w fun e w' => e = .returned (.bool true) ∧ Below w.heap.size w w' := by
  have HN := Lib.hid HNa
  have HA := Lib.hid HAl
  clear HNa HAl
  go_enter Tryz.func8, Tryz.ntmps8
  go_upto_region 2 with fail
  obtain ⟨V, hV⟩ : ∃ V, V = (((((w.alloc (litRowC cId cName)).alloc (litRowC ⟨#[49]⟩ ⟨#[120]⟩)).alloc (litRowC ⟨#[50]⟩ ⟨#[121]⟩)).alloc (.cells #[.slice (some ⟨w.heap.size + 1, 0, none⟩) 2 2, .slice (some ⟨w.heap.size + 1 + 1, 0, none⟩) 2 2] 22)).alloc (.cells #[.slice (some ⟨w.heap.size, 0, none⟩) 2 2, .slice (some ⟨w.heap.size + 1 + 1 + 1, 0, none⟩) 2 2] 25)) := ⟨_, rfl⟩
  rw [← hV]
  obtain ⟨hE, hB⟩ := lit_tC w V _ _ _ _ _ _ hV
  obtain ⟨A, hAk⟩ : ∃ A, A = w.heap.size + 1 + 1 + 1 + 1 := ⟨_, rfl⟩
  rw [← hAk] at hE ⊢
  have HEa := Lib.hid hE
  have HB := Lib.hid hB
  clear hV hE hB hAk
  go_upto_region 3 with fail
  obtain ⟨U, hU⟩ : ∃ U, U = (((((V.alloc (litRowC cId cTitle)).alloc (litRowC ⟨#[49]⟩ ⟨#[120]⟩)).alloc (litRowC ⟨#[50]⟩ ⟨#[121]⟩)).alloc (.cells #[.slice (some ⟨V.heap.size + 1, 0, none⟩) 2 2, .slice (some ⟨V.heap.size + 1 + 1, 0, none⟩) 2 2] 22)).alloc (.cells #[.slice (some ⟨V.heap.size, 0, none⟩) 2 2, .slice (some ⟨V.heap.size + 1 + 1 + 1, 0, none⟩) 2 2] 25)) := ⟨_, rfl⟩
  rw [← hU]
  obtain ⟨hE, hB⟩ := lit_tC V U _ _ _ _ _ _ hU
  obtain ⟨B, hBk⟩ : ∃ B, B = V.heap.size + 1 + 1 + 1 + 1 := ⟨_, rfl⟩
  rw [← hBk] at hE ⊢
  have HEb := Lib.hid hE
  have HEa := Lib.hid (HEa.out.kept hB)
  have HB := Lib.hid (below_up HB.out hB)
  clear hU hE hB hBk
  obtain ⟨ho, ro, ha0, hr1, hr2, hr3, hr4⟩ := HEa.out.lies
  obtain ⟨bo, so, hb0, hs1, hs2, hs3, hs4⟩ := HEb.out.lies
  have k0 : U.cell? ⟨A, 0, none⟩ = some (.slice ho 2 2) := (Lib.cell_of_heap ha0 0).trans rfl
  have k1 : U.cell? ⟨A, 1, none⟩ = some (.slice ro 2 2) := (Lib.cell_of_heap ha0 1).trans rfl
  have k2 : U.cell? ⟨B, 0, none⟩ = some (.slice bo 2 2) := (Lib.cell_of_heap hb0 0).trans rfl
  have k3 : U.cell? ⟨B, 1, none⟩ = some (.slice so 2 2) := (Lib.cell_of_heap hb0 1).trans rfl
  have HIa := Lib.hid (exA_in hr1 hr2 hr3 hr4)
  have HIb := Lib.hid (exB_in hs1 hs2 hs3 hs4)
  have HCell : Hid (∀ X, Below U.heap.size U X → (X.cell? ⟨A, 0, none⟩ = some (.slice ho 2 2) ∧ X.cell? ⟨A, 1, none⟩ = some (.slice ro 2 2)) ∧ X.cell? ⟨B, 0, none⟩ = some (.slice bo 2 2) ∧ X.cell? ⟨B, 1, none⟩ = some (.slice so 2 2)) := Lib.hid (fun X h => ⟨tabs ((h.block _ (lt_of_heap ha0)).trans ha0), tabs ((h.block _ (lt_of_heap hb0)).trans hb0)⟩)
  have C1 : Hid (Calls Tryz.prog 10 #[.agg #[.slice ho 2 2, .slice ro 2 2], .agg #[.slice bo 2 2, .slice so 2 2], .bool true] U (AlignOut 0 [(0, 0), (1, 1)] U)) := Lib.hid (by have := HA.out ho 2 cHa ro 2 cRs bo 2 cHb so 2 cRs true U HIa.out HIb.out; rw [cex_yes.1, cex_yes.2] at this; exact this)
  clear ha0 hr1 hr2 hr3 hr4 hb0 hs1 hs2 hs3 hs4 HEa HEb
  go_wp2_with fail
  refine C1.out.mono ?_; rintro e W1 ⟨lo, lc, rfl, p1, -, -, b1⟩
  have B1 := Lib.hid b1
  have HP1 := Lib.hid p1
  have C2 : Hid (Calls Tryz.prog 10 #[.agg #[.slice ho 2 2, .slice ro 2 2], .agg #[.slice bo 2 2, .slice so 2 2], .bool false] W1 (AlignOut 0 (alignR cHa cRs cHb cRs false) W1)) := Lib.hid (by have := HA.out ho 2 cHa ro 2 cRs bo 2 cHb so 2 cRs false W1 (HIa.out.kept b1) (HIb.out.kept b1); rw [cex_no.1] at this; exact this)
  clear k0 k1 k2 k3 C1 b1 p1
  obtain ⟨⟨k0, k1⟩, k2, k3⟩ := HCell.out W1 B1.out
  go_wp2_with fail
  refine C2.out.mono ?_; rintro e W2 ⟨mo, mc, rfl, -, -, -, b2⟩
  have B2 := Lib.hid (below_up B1.out b2)
  have HP2 := Lib.hid (HP1.out.kept b2)
  have hl1 := cex_no.2
  rw [hl1]
  have C3 : Hid (Calls Tryz.prog 10 #[.agg #[.slice ho 2 2, .slice ro 2 2], .agg #[.slice none 0 0, .slice none 0 0], .bool true] W2 (AlignOut 8 (alignR cHa cRs [] [] true) W2)) := Lib.hid (by have := HA.out ho 2 cHa ro 2 cRs none 0 [] none 0 [] true W2 (HIa.out.kept B2.out) (exE_in W2); rw [cex_empty] at this; exact this)
  clear k0 k1 k2 k3 C2 b2 hl1 HP1 B1
  obtain ⟨⟨k0, k1⟩, k2, k3⟩ := HCell.out W2 B2.out
  go_wp2_with fail
  refine C3.out.mono ?_; rintro e W3 ⟨mo, mc, rfl, -, -, -, b3⟩
  have B3 := Lib.hid (below_up B2.out b3)
  have HP3 := Lib.hid (HP2.out.kept b3)
  have hb := one_below W3 (.cells #[.int .i64 0, .int .i64 0, .int .i64 1, .int .i64 1] 36)
  have B4 := Lib.hid (below_up B3.out hb)
  have C4 : Hid (Calls Tryz.prog 12 #[.slice lo 2 lc, .slice (some ⟨W3.heap.size, 0, none⟩) 2 2] (W3.alloc (.cells #[.int .i64 0, .int .i64 0, .int .i64 1, .int .i64 1] 36)) fun e w' => e = .returned (.bool true) ∧ Below (W3.alloc (.cells #[.int .i64 0, .int .i64 0, .int .i64 1, .int .i64 1] 36)).heap.size (W3.alloc (.cells #[.int .i64 0, .int .i64 0, .int .i64 1, .int .i64 1] 36)) w') := Lib.hid (psameR_any lo (some ⟨W3.heap.size, 0, none⟩) lc 2 [(0, 0), (1, 1)] [(0, 0), (1, 1)] _ (by decide) (HP3.out.kept hb) (lit_pairsC W3 [(0, 0), (1, 1)] 36))
  clear k0 k1 k2 k3 C3 b3 HP2 B2 hb
  obtain ⟨⟨k0, k1⟩, k2, k3⟩ := HCell.out _ B4.out
  go_wp2_with fail
  refine C4.out.mono ?_; rintro e W5 ⟨rfl, b5⟩
  have B5 := Lib.hid (below_up B4.out b5)
  have C5 : Hid (Calls Tryz.prog 13 #[.agg #[.slice ho 2 2, .slice ro 2 2], .agg #[.slice bo 2 2, .slice so 2 2]] W5 (PairsOut (namedL cHa cHb) W5)) := Lib.hid (HN.out ho 2 cHa ro 2 cRs bo 2 cHb so 2 cRs W5 (HIa.out.kept B5.out) (HIb.out.kept B5.out))
  clear k0 k1 k2 k3 C4 b5
  obtain ⟨⟨k0, k1⟩, k2, k3⟩ := HCell.out _ B5.out
  go_wp2_with fail
  refine C5.out.mono ?_; rintro e W6 ⟨no, nc, rfl, -, -, -, b6⟩
  have B6 := Lib.hid (below_up B5.out b6)
  have hl1 := cex_named
  rw [hl1]
  clear hl1 b6 C5 k0 k1 k2 k3
  go_wp2_with fail
  go_ret
  exact ⟨rfl, below_up HB.out B6.out⟩
end Go.Proofs.YtigijgcldgbokaaGreat
