/-
  Texts of these rows' proofs, laid one behind the other: RwEx, RwWorks, RwLen.
  Conditions: those of each theorem.
-/
import Derived.WalkKit
import Derived.WalkMore
import Derived.Lib.Hide
import Derived.Test.YtdenehnneloegaaGreatDoorProg
import Derived.Test.YtdenehnneloegaaGreatDoorPb38
import Derived.IntWalk
import Derived.Test.YtdenehnneloegaaGreatDoorPb4
import Derived.Test.YtdenehnneloegaaGreatDoorPb6
namespace Go.Proofs.YtdenehnneloegaaGreatDoor
open Go.RowKit Go.Shelf
set_option linter.unusedVariables false
abbrev xK : ByteArray := ⟨#[107]⟩
abbrev xV : ByteArray := ⟨#[118]⟩
abbrev xH : List ByteArray := [xK, xV]
abbrev xA : List (List ByteArray) := [[⟨#[49]⟩, ⟨#[120]⟩], [⟨#[50]⟩, ⟨#[121]⟩]]
abbrev xB : List (List ByteArray) := [[⟨#[50]⟩, ⟨#[122]⟩], [⟨#[49]⟩, ⟨#[120]⟩]]
abbrev xBoth : PL := [(0, 0), (1, 1)]
theorem rex_useK : useAB xH xA xH xB [xK] = true := by kernel_rfl
theorem rex_useN : useAB xH xA xH xB [] = false := by kernel_rfl
theorem rex_e1 : rowsE xH xA xH xB xBoth = 0 := by kernel_rfl
theorem rex_e2 : rowsE xH xA xH xB [(2, 0)] = 11 := by kernel_rfl
theorem rex_key : byKeyU true xH xA xH xB [xK] = [(1, 0), (0, 1)] := by kernel_rfl
theorem rex_look : byLookU xH xA xH xB xBoth = [(0, 1)] := by kernel_rfl
theorem rex_none : byLookU xH xA xH xB [] = [] := by kernel_rfl
theorem rex_l1 : rowsL (useAB xH xA xH xB [xK]) xH xA xH xB xBoth [xK] = [(1, 0), (0, 1)] := by rw [rex_useK]; kernel_rfl
theorem rex_l2 : rowsL (useAB xH xA xH xB []) xH xA xH xB xBoth [] = [(0, 1)] := by rw [rex_useN]; kernel_rfl
theorem rex_l3 : rowsL (useAB xH xA xH xB []) xH xA xH xB [(2, 0)] [] = [] := rows_bad (by rw [rex_e2]; decide)
end Go.Proofs.YtdenehnneloegaaGreatDoor
namespace Go.Proofs.YtdenehnneloegaaGreatDoor
open Go.RowKit Go.Shelf
set_option linter.unusedVariables false
theorem xA_in {W : World} {ho ro : Option Addr} (h1 : StrRow W ho xH) (h2 : RowsAt W ro xA) (h3 : ho ≠ none) (h4 : ro ≠ none) : TabR W ho 2 xH ro 2 xA := ⟨⟨by decide, by decide, by decide, by decide, h1, h2, by decide, by decide, fun e => absurd e h3, fun e => absurd e h4⟩, by decide, by decide⟩
theorem xB_in {W : World} {ho ro : Option Addr} (h1 : StrRow W ho xH) (h2 : RowsAt W ro xB) (h3 : ho ≠ none) (h4 : ro ≠ none) : TabR W ho 2 xH ro 2 xB := ⟨⟨by decide, by decide, by decide, by decide, h1, h2, by decide, by decide, fun e => absurd e h3, fun e => absurd e h4⟩, by decide, by decide⟩
theorem names_none (W : World) : NamesIn W none 0 [] := ⟨by decide, by simp, .inl rfl, Nat.le_refl _, fun _ => rfl⟩
theorem pairs_none (W : World) : PairsIn W none 0 [] := ⟨by decide, fun p h => by simp at h, .inl rfl, Nat.le_refl _, fun _ => rfl⟩
theorem names_one (W : World) : NamesIn (W.alloc (.cells #[.string xK] 9)) (some ⟨W.heap.size, 0, none⟩) 1 [xK] := ⟨by decide, by simp; decide, new_row W [xK] 9, Nat.le_refl _, fun e => by cases e⟩
theorem pairs_lit (W : World) (l : PL) (h : l.length ≤ 20) (ho : okP l) : PairsIn (W.alloc (.cells (cellsP l).toArray 45)) (some ⟨W.heap.size, 0, none⟩) l.length l := ⟨h, ho, lit_pairsC W l 45, Nat.le_refl _, fun e => by cases e⟩
theorem okP_both : okP xBoth := fun p h => by simp at h; rcases h with rfl | rfl <;> decide
theorem okP_two : okP [(2, 0)] := fun p h => by simp at h; subst h; decide
set_option maxRecDepth 100000 in
set_option maxHeartbeats 4000000 in
theorem rwworks_any (HKe : ByKeyOK) (HLo : ByLookOK) (HRo : RowsOK) (w : World) (hpow : Pow w) : Calls Tryz.prog 9 #[] w fun e w' => e = .returned (.bool true) ∧ Below w.heap.size w w' := by
  have HK := Lib.hid HKe
  have HL := Lib.hid HLo
  have HR := Lib.hid HRo
  have HPw := Lib.hid hpow
  clear HKe HLo HRo hpow
  go_enter Tryz.func9, Tryz.ntmps9
  go_upto_region 2 with fail
  obtain ⟨V, hV⟩ : ∃ V, V = (((((w.alloc (litRowC xK xV)).alloc (litRowC ⟨#[49]⟩ ⟨#[120]⟩)).alloc (litRowC ⟨#[50]⟩ ⟨#[121]⟩)).alloc (.cells #[.slice (some ⟨w.heap.size + 1, 0, none⟩) 2 2, .slice (some ⟨w.heap.size + 1 + 1, 0, none⟩) 2 2] 22)).alloc (.cells #[.slice (some ⟨w.heap.size, 0, none⟩) 2 2, .slice (some ⟨w.heap.size + 1 + 1 + 1, 0, none⟩) 2 2] 25)) := ⟨_, rfl⟩
  rw [← hV]
  obtain ⟨hE, hB⟩ := lit_tC w V _ _ _ _ _ _ hV
  obtain ⟨A, hAk⟩ : ∃ A, A = w.heap.size + 1 + 1 + 1 + 1 := ⟨_, rfl⟩
  rw [← hAk] at hE ⊢
  have HEa := Lib.hid hE
  have HB := Lib.hid hB
  clear hV hE hB hAk
  go_upto_region 3 with fail
  obtain ⟨U, hU⟩ : ∃ U, U = (((((V.alloc (litRowC xK xV)).alloc (litRowC ⟨#[50]⟩ ⟨#[122]⟩)).alloc (litRowC ⟨#[49]⟩ ⟨#[120]⟩)).alloc (.cells #[.slice (some ⟨V.heap.size + 1, 0, none⟩) 2 2, .slice (some ⟨V.heap.size + 1 + 1, 0, none⟩) 2 2] 22)).alloc (.cells #[.slice (some ⟨V.heap.size, 0, none⟩) 2 2, .slice (some ⟨V.heap.size + 1 + 1 + 1, 0, none⟩) 2 2] 25)) := ⟨_, rfl⟩
  rw [← hU]
  obtain ⟨hE, hB⟩ := lit_tC V U _ _ _ _ _ _ hU
  obtain ⟨B, hBk⟩ : ∃ B, B = V.heap.size + 1 + 1 + 1 + 1 := ⟨_, rfl⟩
  rw [← hBk] at hE ⊢
  have HEb := Lib.hid hE
  have HEa := Lib.hid (HEa.out.kept hB)
  have HB := Lib.hid (below_up HB.out hB)
  clear hU hE hB hBk
  go_upto_region 4 with fail
  obtain ⟨Y, HY⟩ : ∃ Y, Hid (Y = U.alloc (.cells #[.int .i64 0, .int .i64 0, .int .i64 1, .int .i64 1] 45)) := ⟨_, Lib.hid rfl⟩
  rw [show U.alloc (.cells #[.int .i64 0, .int .i64 0, .int .i64 1, .int .i64 1] 45) = Y from HY.out.symm]
  have hbY : Below U.heap.size U Y := by rw [HY.out]; exact one_below _ _
  have hP0 : PairsIn Y (some ⟨U.heap.size, 0, none⟩) 2 xBoth := by rw [HY.out]; exact pairs_lit U xBoth (by decide) okP_both
  obtain ⟨P, HP⟩ : ∃ P, Hid (P = (some ⟨U.heap.size, 0, none⟩ : Option Addr)) := ⟨_, Lib.hid rfl⟩
  rw [← HP.out] at hP0 ⊢
  obtain ⟨ho, ro, ha0, hr1, hr2, hr3, hr4⟩ := (HEa.out.kept hbY).lies
  obtain ⟨bo, so, hb0, hs1, hs2, hs3, hs4⟩ := (HEb.out.kept hbY).lies
  have HIa := Lib.hid (fun X (h : Below Y.heap.size Y X) => (xA_in hr1 hr2 hr3 hr4).kept h)
  have HIb := Lib.hid (fun X (h : Below Y.heap.size Y X) => (xB_in hs1 hs2 hs3 hs4).kept h)
  have HIp := Lib.hid (fun X (h : Below Y.heap.size Y X) => hP0.kept h)
  have hpY := (HPw.out.kept HB.out).kept hbY
  have HPo := Lib.hid (fun X (h : Below Y.heap.size Y X) => hpY.kept h)
  have HCell : Hid (∀ X, Below Y.heap.size Y X → (X.cell? ⟨A, 0, none⟩ = some (.slice ho 2 2) ∧ X.cell? ⟨A, 1, none⟩ = some (.slice ro 2 2)) ∧ X.cell? ⟨B, 0, none⟩ = some (.slice bo 2 2) ∧ X.cell? ⟨B, 1, none⟩ = some (.slice so 2 2)) := Lib.hid (fun X h => ⟨tabs ((h.block _ (lt_of_heap ha0)).trans ha0), tabs ((h.block _ (lt_of_heap hb0)).trans hb0)⟩)
  have HB := Lib.hid (below_up HB.out hbY)
  obtain ⟨⟨k0, k1⟩, k2, k3⟩ := HCell.out Y (Below.refl _ _)
  have g1 := one_below Y (.cells #[.string xK] 9)
  have G1 := Lib.hid g1
  have C1 : Hid (Calls Tryz.prog 11 #[.agg #[.slice ho 2 2, .slice ro 2 2], .agg #[.slice bo 2 2, .slice so 2 2], .slice P 2 2, .slice (some ⟨Y.heap.size, 0, none⟩) 1 1] (Y.alloc (.cells #[.string xK] 9)) (AlignOut 0 [(1, 0), (0, 1)] (Y.alloc (.cells #[.string xK] 9)))) := Lib.hid (by
    have := HR.out ho 2 xH ro 2 xA bo 2 xH so 2 xB P 2 xBoth (some ⟨Y.heap.size, 0, none⟩) 1 [xK] _ (HIa.out _ g1) (HIb.out _ g1) (HIp.out _ g1) (names_one Y) (HPo.out _ g1)
    rw [rex_e1, rex_l1] at this; exact this)
  clear ha0 hr1 hr2 hr3 hr4 hb0 hs1 hs2 hs3 hs4 HEa HEb hP0 hpY hbY g1 HPw
  go_wp2_with fail
  refine C1.out.mono ?_; rintro e W1 ⟨lo, lc, rfl, p1, -, -, b1⟩
  have B1 := Lib.hid (below_up G1.out b1)
  have P1 := Lib.hid p1
  have C2 : Hid (Calls Tryz.prog 11 #[.agg #[.slice ho 2 2, .slice ro 2 2], .agg #[.slice bo 2 2, .slice so 2 2], .slice P 2 2, .slice none 0 0] W1 (AlignOut 0 [(0, 1)] W1)) := Lib.hid (by
    have := HR.out ho 2 xH ro 2 xA bo 2 xH so 2 xB P 2 xBoth none 0 [] _ (HIa.out _ B1.out) (HIb.out _ B1.out) (HIp.out _ B1.out) (names_none W1) (HPo.out _ B1.out)
    rw [rex_e1, rex_l2] at this; exact this)
  clear k0 k1 k2 k3 C1 b1 p1 G1
  obtain ⟨⟨k0, k1⟩, k2, k3⟩ := HCell.out W1 B1.out
  go_wp2_with fail
  refine C2.out.mono ?_; rintro e W2 ⟨mo, mc, rfl, p2, -, -, b2⟩
  have P1 := Lib.hid (P1.out.kept b2)
  have P2 := Lib.hid p2
  have B2 := Lib.hid (below_up B1.out b2)
  have g1 := one_below W2 (.cells #[.int .i64 2, .int .i64 0] 45)
  have g2 := below_up B2.out g1
  have G2 := Lib.hid g1
  have G3 := Lib.hid g2
  have C3 : Hid (Calls Tryz.prog 11 #[.agg #[.slice ho 2 2, .slice ro 2 2], .agg #[.slice bo 2 2, .slice so 2 2], .slice (some ⟨W2.heap.size, 0, none⟩) 1 1, .slice none 0 0] (W2.alloc (.cells #[.int .i64 2, .int .i64 0] 45)) (AlignOut 11 [] (W2.alloc (.cells #[.int .i64 2, .int .i64 0] 45)))) := Lib.hid (by
    have := HR.out ho 2 xH ro 2 xA bo 2 xH so 2 xB (some ⟨W2.heap.size, 0, none⟩) 1 [(2, 0)] none 0 [] _ (HIa.out _ g2) (HIb.out _ g2) (pairs_lit W2 [(2, 0)] (by decide) okP_two) (names_none _) (HPo.out _ g2)
    rw [rex_e2, rex_l3] at this; exact this)
  clear k0 k1 k2 k3 C2 b2 p2 B1 g1 g2
  obtain ⟨⟨k0, k1⟩, k2, k3⟩ := HCell.out W2 B2.out
  go_wp2_with fail
  refine C3.out.mono ?_; rintro e W3 ⟨xo, xc, rfl, -, -, -, b3⟩
  have B3 := Lib.hid (below_up G3.out b3)
  have h3 := below_up G2.out b3
  have P1 := Lib.hid (P1.out.kept h3)
  have P2 := Lib.hid (P2.out.kept h3)
  have g1 := one_below W3 (.cells #[.int .i64 1, .int .i64 0, .int .i64 0, .int .i64 1] 45)
  have G4 := Lib.hid g1
  have C4 : Hid (Calls Tryz.prog 13 #[.slice lo 2 lc, .slice (some ⟨W3.heap.size, 0, none⟩) 2 2] (W3.alloc (.cells #[.int .i64 1, .int .i64 0, .int .i64 0, .int .i64 1] 45)) fun e w' => e = .returned (.bool true) ∧ Below (W3.alloc (.cells #[.int .i64 1, .int .i64 0, .int .i64 0, .int .i64 1] 45)).heap.size (W3.alloc (.cells #[.int .i64 1, .int .i64 0, .int .i64 0, .int .i64 1] 45)) w') := Lib.hid (psameR_any lo (some ⟨W3.heap.size, 0, none⟩) lc 2 [(1, 0), (0, 1)] [(1, 0), (0, 1)] _ (by decide) (P1.out.kept g1) (lit_pairsC W3 [(1, 0), (0, 1)] 45))
  clear k0 k1 k2 k3 C3 b3 G2 G3 h3 g1 B2 P1
  obtain ⟨⟨k0, k1⟩, k2, k3⟩ := HCell.out W3 B3.out
  go_wp2_with fail
  refine C4.out.mono ?_; rintro e W4 ⟨rfl, b4⟩
  have h4 := below_up G4.out b4
  have B4 := Lib.hid (below_up B3.out h4)
  have P2 := Lib.hid (P2.out.kept h4)
  have g1 := one_below W4 (.cells #[.int .i64 0, .int .i64 1] 45)
  have G5 := Lib.hid g1
  have C5 : Hid (Calls Tryz.prog 13 #[.slice mo 1 mc, .slice (some ⟨W4.heap.size, 0, none⟩) 1 1] (W4.alloc (.cells #[.int .i64 0, .int .i64 1] 45)) fun e w' => e = .returned (.bool true) ∧ Below (W4.alloc (.cells #[.int .i64 0, .int .i64 1] 45)).heap.size (W4.alloc (.cells #[.int .i64 0, .int .i64 1] 45)) w') := Lib.hid (psameR_any mo (some ⟨W4.heap.size, 0, none⟩) mc 1 [(0, 1)] [(0, 1)] _ (by decide) (P2.out.kept g1) (lit_pairsC W4 [(0, 1)] 45))
  clear k0 k1 k2 k3 C4 b4 G4 h4 g1 B3 P2
  obtain ⟨⟨k0, k1⟩, k2, k3⟩ := HCell.out W4 B4.out
  go_wp2_with fail
  refine C5.out.mono ?_; rintro e W5 ⟨rfl, b5⟩
  have B5 := Lib.hid (below_up B4.out (below_up G5.out b5))
  have g1 := one_below W5 (.cells #[.string xK] 9)
  have g2 := below_up B5.out g1
  have G6 := Lib.hid g2
  have C6 : Hid (Calls Tryz.prog 14 #[.agg #[.slice ho 2 2, .slice ro 2 2], .agg #[.slice bo 2 2, .slice so 2 2], .slice (some ⟨W5.heap.size, 0, none⟩) 1 1] (W5.alloc (.cells #[.string xK] 9)) (PairsOut [(1, 0), (0, 1)] (W5.alloc (.cells #[.string xK] 9)))) := Lib.hid (by
    have := HK.out ho 2 xH ro 2 xA bo 2 xH so 2 xB (some ⟨W5.heap.size, 0, none⟩) 1 [xK] _ (HIa.out _ g2) (HIb.out _ g2) (names_one W5) (HPo.out _ g2)
    rw [rex_useK, rex_key] at this; exact this)
  have C7 : Hid (∀ X, Below Y.heap.size Y X → Calls Tryz.prog 16 #[.agg #[.slice ho 2 2, .slice ro 2 2], .agg #[.slice bo 2 2, .slice so 2 2], .slice P 2 2] X (PairsOut [(0, 1)] X)) := Lib.hid (fun X h => by
    have := HL.out ho 2 xH ro 2 xA bo 2 xH so 2 xB P 2 xBoth X (HIa.out _ h) (HIb.out _ h) (HIp.out _ h) (HPo.out _ h)
    rw [rex_look] at this; exact this)
  have C8 : Hid (∀ X, Below Y.heap.size Y X → Calls Tryz.prog 16 #[.agg #[.slice ho 2 2, .slice ro 2 2], .agg #[.slice bo 2 2, .slice so 2 2], .slice none 0 0] X (PairsOut [] X)) := Lib.hid (fun X h => by
    have := HL.out ho 2 xH ro 2 xA bo 2 xH so 2 xB none 0 [] X (HIa.out _ h) (HIb.out _ h) (pairs_none X) (HPo.out _ h)
    rw [rex_none] at this; exact this)
  clear k0 k1 k2 k3 C5 b5 G5 g1 g2 B4 HIa HIb HIp HPo HK HL HR
  obtain ⟨⟨k0, k1⟩, k2, k3⟩ := HCell.out W5 B5.out
  go_wp2_with fail
  refine C6.out.mono ?_; rintro e W6 ⟨o6, c6, rfl, -, -, -, b6⟩
  have B6 := Lib.hid (below_up G6.out b6)
  have D7 := Lib.hid (C7.out W6 B6.out)
  clear k0 k1 k2 k3 C6 C7 b6 G6
  obtain ⟨⟨k0, k1⟩, k2, k3⟩ := HCell.out W6 B6.out
  go_wp2_with fail
  refine D7.out.mono ?_; rintro e W7 ⟨o7, c7, rfl, -, -, -, b7⟩
  have B7 := Lib.hid (below_up B6.out b7)
  have D8 := Lib.hid (C8.out W7 B7.out)
  clear k0 k1 k2 k3 D7 C8 b7
  obtain ⟨⟨k0, k1⟩, k2, k3⟩ := HCell.out W7 B7.out
  go_wp2_with fail
  refine D8.out.mono ?_; rintro e W8 ⟨o8, c8, rfl, -, -, -, b8⟩
  have B8 := Lib.hid (below_up B7.out b8)
  clear k0 k1 k2 k3 D8 b8
  go_wp2_with fail
  go_ret
  exact ⟨rfl, below_up HB.out B8.out⟩
end Go.Proofs.YtdenehnneloegaaGreatDoor
namespace Go.Proofs.YtdenehnneloegaaGreatDoor
open Go.RowKit Go.Shelf
set_option linter.unusedVariables false
theorem pairs_len {l : PL} {na nb : Nat} (hi : ∀ p ∈ l, ∃ i k : Nat, p = ((i : Int), (k : Int)) ∧ i < na ∧ k < nb) (hf : (l.map Prod.fst).Nodup) : l.length ≤ na := by
  have h := sub_len (l.map Prod.fst) ((List.range na).map fun n : Nat => (n : Int)) hf (fun x hx => by
    obtain ⟨p, hp, rfl⟩ := List.mem_map.1 hx
    obtain ⟨i, k, rfl, h1, h2⟩ := hi p hp
    exact List.mem_map.2 ⟨i, List.mem_range.2 h1, rfl⟩)
  simpa using h
theorem byKeyU_len {u : Bool} {ha : List ByteArray} {ra : List (List ByteArray)} {hb : List ByteArray} {rb : List (List ByteArray)} {names : List ByteArray} (hu : u = true → UseOf ha ra hb rb names) : (byKeyU u ha ra hb rb names).length ≤ ra.length := by
  unfold byKeyU
  split
  · rename_i e
    refine pairs_len (nb := rb.length) (fun p hp => ?_) (byKey_fst (hu e).ub)
    obtain ⟨i, k, e2, h3, h4, -⟩ := byKey_in hp
    exact ⟨i, k, e2, h3, h4⟩
  · simp
theorem byLookU_len (ha : List ByteArray) (ra : List (List ByteArray)) (hb : List ByteArray) (rb : List (List ByteArray)) (cols : PL) : (byLookU ha ra hb rb cols).length ≤ ra.length := by
  unfold byLookU
  split
  · simp
  · exact pairs_len (nb := rb.length) (fun p hp => byLook_in hp) (byLook_fst _ _ _)
theorem rowsL_len {u : Bool} {ha : List ByteArray} {ra : List (List ByteArray)} {hb : List ByteArray} {rb : List (List ByteArray)} {cols : PL} {names : List ByteArray} (hu : u = true → UseOf ha ra hb rb names) : (rowsL u ha ra hb rb cols names).length ≤ ra.length := by
  unfold rowsL
  split
  · simp
  · split
    · exact byKeyU_len hu
    · exact byLookU_len ha ra hb rb cols
theorem pairsIn_of {w V : World} {lo : Option Addr} {lc : Nat} {l : PL} (h : PairsArg w lo lc l) (hl : l.length ≤ 20) (hk : Below w.heap.size w V) : PairsIn V lo lc l := ⟨hl, h.ok, h.pairs.kept hk, h.cap, h.nil⟩
theorem namesIn_of {w V : World} {no : Option Addr} {nc : Nat} {names : List ByteArray} (h : StrArg w no nc names) (hl : names.length ≤ 8) (hk : Below w.heap.size w V) : NamesIn V no nc names := ⟨hl, h.size, h.row.kept hk, h.cap, h.nil⟩
end Go.Proofs.YtdenehnneloegaaGreatDoor
