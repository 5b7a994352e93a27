/-
  The walk of the statement KeysUnique.
  Conditions: the library's table of powers of ten reads as its text lays it.
-/
import Derived.WalkKit
import Derived.WalkMore
import Derived.IntWalk
import Derived.Lib.Hide
import Derived.Test.YtnioignblbmflaaDoorProg
import Derived.Test.YtnioignblbmflaaDoorKOpen
import Derived.Test.YtnioignblbmflaaDoorKWorks
import Derived.Test.YtnioignblbmflaaDoorKRef2
import Derived.Test.YtnioignblbmflaaDoorPSame
namespace Go.Proofs.YtnioignblbmflaaDoor
open Go.RowKit Go.Shelf
set_option linter.unusedVariables false

theorem ints_self (ao bo : Option Addr) (ca cb n : Nat) (xs : List Int) (w : World) (hl : xs.length = n) (hn : n ≤ 1099511627776) (hR : IntsAt w ao xs) (hS : IntsAt w bo xs) :
    Calls Tryd.prog 13 #[.slice ao n ca, .slice bo n cb] w fun e w' => e = .returned (.bool true) ∧ Below w.heap.size w w' := by
  subst hl
  have := ints_any ao bo ca cb xs xs w hn hR hS
  rwa [show sameL xs xs = true by simp [sameL]] at this

set_option maxRecDepth 100000 in
set_option maxHeartbeats 8000000 in
theorem walkKeysUnique (ho : Option Addr) (hc : Nat) (hd : List ByteArray) (ro : Option Addr) (rc : Nat) (rs : List (List ByteArray)) (co : Option Addr) (cc : Nat) (cols : List Int) (no : Option Addr) (nc : Nat) (names : List ByteArray) (w : World)
    (hA : StrArg w ho hc hd) (hB : RowsArg w ro rc rs) (hI : IntsArg w co cc cols) (hS : StrArg w no nc names) (hpow : Pow w) :
    Calls Tryd.prog 3 #[.agg #[.slice ho hd.length hc, .slice ro rs.length rc], .slice co cols.length cc, .slice no names.length nc] w fun e w' => e = .returned (.bool true) ∧ Below w.heap.size w w' := by
  obtain ⟨W, HW⟩ : ∃ W, Hid (W = w.alloc (TabO ho hd.length hc ro rs.length rc)) := ⟨_, Lib.hid rfl⟩
  have hb0 : Below w.heap.size w W := by rw [HW.out]; exact one_below _ _
  have hN : W.heap[w.heap.size]? = some (TabO ho hd.length hc ro rs.length rc) := by rw [HW.out]; exact World.alloc_heap_new w _
  have HA := Lib.hid hA
  have HB := Lib.hid hB
  have HI := Lib.hid hI
  have HS := Lib.hid hS
  have B0 := Lib.hid hb0
  have HP := Lib.hid hpow
  have box : Hid (∀ V, Below W.heap.size W V → V.cell? ⟨w.heap.size, 0, none⟩ = some (.slice ho hd.length hc) ∧ V.cell? ⟨w.heap.size, 1, none⟩ = some (.slice ro rs.length rc)) := Lib.hid (fun V hV => tabs ((hV.block _ (lt_of_heap hN)).trans hN))
  have HW2 : Hid (W = w.alloc (Obj.cells #[Value.slice ho hd.length hc, Value.slice ro rs.length rc] 25)) := Lib.hid HW.out
  clear hA hB hI hS hb0 hN hpow
  go_enter Tryd.func3, Tryd.ntmps3
  go_wp2_with fail
  rw [← HW2.out]
  refine (works_any _ (HP.out.kept B0.out)).mono ?_; rintro e w1 ⟨rfl, b1⟩
  obtain ⟨p0, p1⟩ := box.out w1 b1
  have X1 := below_up B0.out b1
  have B1 := Lib.hid b1
  have hT := tabs_lit (W := w1) (ho := ho) (ro := ro) (hc := hc) (rc := rc) (t := (hd, rs)) (HA.out.row.kept X1) (HB.out.rows.kept X1)
  have C1 := Lib.hid (few11_any (some ⟨w1.heap.size, 0, none⟩) 1 [(hd, rs)] no nc names.length _ (by unfold maxLen; simp) HS.out.len (fun t ht => by simp at ht; subst ht; exact ⟨⟨HA.out.len, HA.out.size⟩, HB.out.len, HB.out.each⟩) hT)
  have BA := Lib.hid (below_up B1.out (one_below w1 (.cells #[.slice ho hd.length hc, .slice ro rs.length rc] 25)))
  clear b1 X1 hT B1
  go_wp2_with fail
  refine C1.out.mono ?_; rintro e w2 ⟨b, rfl, hb, b2⟩
  have B2 := Lib.hid (below_up BA.out b2)
  clear b2 C1 BA p0 p1
  obtain ⟨p0, p1⟩ := box.out w2 B2.out
  cases b with
  | false =>
    clear hb
    go_wp2_with fail
    go_ret
    exact ⟨rfl, below_up B0.out B2.out⟩
  | true =>
    obtain ⟨-, h12, hf⟩ := hb rfl
    obtain ⟨f1, f2, f3, f4⟩ := few_bounds hf
    obtain ⟨g1, g2, g3, g4⟩ := f4 _ List.mem_cons_self
    dsimp only at g1 g2 g3 g4
    have hSm : SmallK rs := (f1 _ List.mem_cons_self).2.2
    by_cases h20 : cols.length ≤ 20
    · have hz : ∀ c ∈ hd, c.size ≤ maxLen := fun c hc => by have := g3 c hc; unfold maxLen; omega
      have hz2 : ∀ c ∈ names, c.size ≤ maxLen := fun c hc => by have := HS.out.size c hc; unfold maxLen; omega
      have CU := Lib.hid (fun V (h : Below W.heap.size W V) => unique_any ho hd.length hc ro rc rs co cc cols V (by omega) (by omega) hSm (by omega) HI.out.wf (HB.out.rows.kept (below_up B0.out h)) (HI.out.ints.kept (below_up B0.out h)) (HP.out.kept (below_up B0.out h)))
      have CV := Lib.hid (fun V (h : Below W.heap.size W V) => runique_any ho hd.length hc ro rc rs co cc cols V (by omega) (by omega) (by omega) (HB.out.rows.kept (below_up B0.out h)) (HI.out.ints.kept (below_up B0.out h)))
      have CP := Lib.hid (fun V (h : Below W.heap.size W V) => places_any ho hc hd ro rs.length rc no nc names V (by omega) hz (by omega) hz2 (HA.out.row.kept (below_up B0.out h)) (HS.out.row.kept (below_up B0.out h)))
      have CQ := Lib.hid (fun V (h : Below W.heap.size W V) => rplaces_any ho hc hd ro rs.length rc no nc names V (by omega) (by omega) (HA.out.row.kept (below_up B0.out h)) (HS.out.row.kept (below_up B0.out h)))
      have CI := Lib.hid (fun (ao bo : Option Addr) (ca cb : Nat) V (h1 : IntsAt V ao (names.map (findL hd))) (h2 : IntsAt V bo (names.map (findL hd))) => ints_self ao bo ca cb names.length _ V (by simp) (by omega) h1 h2)
      have CJ := Lib.hid (fun V => ints_self none none 0 0 0 [] V rfl (by omega) (.inl rfl) (.inl rfl))
      generalize uniqL hd.length rs cols = F at CU CV
      have eF : (F == F) = true := by simp
      unfold PlacesOut at CP
      unfold PlacesR at CQ
      generalize names.map (findL hd) = L at CP CQ CI
      generalize inAll hd names = O at CP CQ
      clear hf f1 f2 f3 f4 g3 g4 hSm hb hz hz2
      have D1 := Lib.hid (CV.out w2 B2.out)
      go_wp2_with fail
      refine D1.out.mono ?_; rintro e w3 ⟨rfl, b3⟩
      have B3 := Lib.hid (below_up B2.out b3)
      clear b3 D1 p0 p1
      obtain ⟨p0, p1⟩ := box.out w3 B3.out
      have D2 := Lib.hid (CP.out w3 B3.out)
      go_wp2_with fail
      refine D2.out.mono ?_; clear D2 CP
      rintro e w4 (⟨hO, ao, ca, rfl, hi4, -, b4⟩ | ⟨hO, rfl, b4⟩)
      · have B4 := Lib.hid (below_up B3.out b4)
        have HI4 := Lib.hid hi4
        clear b4 p0 p1 hi4
        obtain ⟨p0, p1⟩ := box.out w4 B4.out
        have D3 := Lib.hid (CQ.out w4 B4.out)
        go_wp2_with fail
        refine D3.out.mono ?_; clear D3 CQ
        rintro e w5 (⟨-, bo, cb, rfl, hi5, b5⟩ | ⟨hO2, -⟩)
        · have B5 := Lib.hid (below_up B4.out b5)
          have D4 := Lib.hid (CI.out ao bo ca cb w5 (HI4.out.kept b5) hi5)
          clear b5 p0 p1 hi5 CI
          obtain ⟨p0, p1⟩ := box.out w5 B5.out
          go_wp2_with fail
          refine D4.out.mono ?_; rintro e w6 ⟨rfl, b6⟩
          have B6 := Lib.hid (below_up B5.out b6)
          clear b6 p0 p1 D4
          obtain ⟨p0, p1⟩ := box.out w6 B6.out
          have D5 := Lib.hid (CU.out w6 B6.out)
          go_wp2_with fail
          refine D5.out.mono ?_; rintro e w7 ⟨rfl, b7⟩
          have B7 := Lib.hid (below_up B6.out b7)
          clear b7
          go_wp2_with fail
          go_ret
          exact ⟨rfl, below_up B0.out B7.out⟩
        · rw [hO] at hO2; cases hO2
      · have B4 := Lib.hid (below_up B3.out b4)
        clear b4 p0 p1
        obtain ⟨p0, p1⟩ := box.out w4 B4.out
        have D3 := Lib.hid (CQ.out w4 B4.out)
        go_wp2_with fail
        refine D3.out.mono ?_; clear D3 CQ
        rintro e w5 (⟨hO2, -⟩ | ⟨-, rfl, b5⟩)
        · rw [hO] at hO2; cases hO2
        · have B5 := Lib.hid (below_up B4.out b5)
          have D4 := Lib.hid (CJ.out w5)
          clear b5 p0 p1 CI CJ
          obtain ⟨p0, p1⟩ := box.out w5 B5.out
          go_wp2_with fail
          refine D4.out.mono ?_; rintro e w6 ⟨rfl, b6⟩
          have B6 := Lib.hid (below_up B5.out b6)
          clear b6 p0 p1 D4
          obtain ⟨p0, p1⟩ := box.out w6 B6.out
          have D5 := Lib.hid (CU.out w6 B6.out)
          go_wp2_with fail
          refine D5.out.mono ?_; rintro e w7 ⟨rfl, b7⟩
          have B7 := Lib.hid (below_up B6.out b7)
          clear b7
          go_wp2_with fail
          go_ret
          exact ⟨rfl, below_up B0.out B7.out⟩
    · go_wp2_with fail
      go_ret
      exact ⟨rfl, below_up B0.out B2.out⟩
end Go.Proofs.YtnioignblbmflaaDoor
