/-
  The walk of the statement GreedyTurns.
  Conditions: none beyond the form of claims.
-/
import Derived.WalkKit
import Derived.WalkMore
import Derived.IntWalk
import Derived.WalkArith
import Derived.BigQuiet
import Derived.Deep.QuietTactic
import Derived.Lib.Hide
import Derived.Test.YtfidddnagfbnhaaProg
import Derived.Test.YtfidddnagfbnhaaGOpen
import Derived.Test.YtfidddnagfbnhaaGBytes
import Derived.Test.YtfidddnagfbnhaaGWorks
namespace Go.Proofs.Ytfidddnagfbnhaa
open Go.RowKit Go.Shelf
set_option linter.unusedVariables false

theorem below_one {W V V' : World} {base : Nat} {g : Nat} (hB : Below base W V) (hg : base ≤ g) (a b c : Value) (k : Nat) : Below base W (((V.setCell ⟨g, k, none⟩ a).setCell ⟨g, k + 1, none⟩ b).setCell ⟨g, k + 2, none⟩ c) :=
  ((hB.setCell (p := ⟨g, k, none⟩) hg a).setCell (p := ⟨g, k + 1, none⟩) hg b).setCell (p := ⟨g, k + 2, none⟩) hg c

set_option maxRecDepth 100000 in
set_option maxHeartbeats 8000000 in
theorem walkGreedyTurns (ao : Option Addr) (ca : Nat) (xs : TL) (to : Option Addr) (tc : Nat) (ts : List Int) (w : World) (hA : TripsArg w ao ca xs) (hT : U8Arg w to tc ts) :
    Calls Try.prog 6 #[.slice ao xs.length ca, .slice to ts.length tc] w fun e w' => e = .returned (.bool true) ∧ Below w.heap.size w w' := by
  have hinfo : (Try.prog.info? 24).map (fun i => (i.zero, i.size, i.bytes)) = some (some (.agg #[.int .i64 0, .int .i64 0, .int .i64 0]), 3, 24) := by kernel_rfl
  obtain ⟨i0, hi, hz0, hz1, hz2⟩ := info_parts3 hinfo
  have HIn := Lib.hid hi
  have HA := Lib.hid hA
  have HT := Lib.hid hT
  have C0 := Lib.hid (fun W => gworks_any W)
  clear hA hT hi hinfo
  by_cases h1 : xs.length ≤ 60
  · by_cases h3 : xs.length = 0
    · go_enter Try.func6, Try.ntmps6
      go_wp2_with fail
      refine (C0.out _).mono ?_; rintro e W ⟨rfl, b0⟩
      have B := Lib.hid b0
      clear b0 C0
      go_wp2_with fail
      go_ret
      exact ⟨rfl, B.out⟩
    by_cases h4 : ts.length ≤ 60
    · have S1 := Lib.hid (fun V (h : Below w.heap.size w V) => src_trips (HA.out.trips.kept h) HA.out.nil)
      have hq0 : ((xs.length : Int) == 0) = false := by rw [beq_eq_false_iff_ne]; omega
      have hne : (xs.length : Int) ≠ 0 := by omega
      go_enter Try.func6, Try.ntmps6
      go_wp2_with fail
      refine (C0.out _).mono ?_; rintro e W ⟨rfl, b0⟩
      have B := Lib.hid b0
      clear b0 C0
      have HO0 : Hid ((W.alloc (.cells #[] 24)).ownsRow W.heap.size 24 3 (.slice (some ⟨W.heap.size, 0, none⟩) 0 0) 0 []) := Lib.hid ⟨rfl, .inr ⟨W.heap.size, 0, #[], rfl, Nat.le_refl _, World.alloc_heap_new _ _, Nat.le_refl _, by unfold maxLen; omega, rfl, rfl⟩⟩
      have HU0 : Hid (Below W.heap.size W (W.alloc (.cells #[] 24))) := Lib.hid ((Below.refl _ W).alloc (Nat.le_refl _) _)
      have BE := Lib.hid (below_up B.out HU0.out)
      have HB0 := Lib.hid HU0.out.size
      go_wp2_with (at_builtin; refine wpList_append_any rfl _ _ 22 rfl W.heap.size 24 i0 (.agg #[.int .i64 0, .int .i64 0, .int .i64 0]) 3 24 Try.underlying22 HIn.out hz0 hz1 hz2 rfl (by decide) _ _ _ rfl HO0.out ao xs.length ca (cellsT xs) rfl ?c0 (cellsT_length xs) ?c1 (cellsT_ones _) ?c3 ?c4 ?c5 ?_)
      case c0 => exact (S1.out _ BE.out).1
      case c1 => exact (S1.out _ BE.out).2
      case c3 => unfold maxLen; omega
      case c4 => omega
      case c5 => exact HB0.out
      intro v1 W1 ho hg
      (try rw [Nat.zero_add, List.nil_append] at ho)
      have HU1 := Lib.hid (HU0.out.grown hg HB0.out (fun j hj => (HO0.out.lt j hj).1))
      obtain ⟨g, cap, rfl⟩ : ∃ g cap, v1 = .slice (some ⟨g, 0, none⟩) xs.length cap := by
        rcases ho.2 with ⟨hv, h0⟩ | ⟨g, cap, cur, hv, _⟩
        · omega
        · exact ⟨g, cap, hv⟩
      have HO1 : Hid (OwnX W1 W.heap.size g xs.length cap xs) := Lib.hid ⟨rfl, ho⟩
      have HB1 := Lib.hid (below_up B.out HU1.out)
      have HWs := Lib.hid B.out.size
      clear ho hg HO0 HU0 BE HB0 HU1 B S1
      (try rw [Nat.zero_add])
      go_wp2_with fail
      go_loopw [7] (fun i wr => ∃ (k : Nat) (zs : TL), k ≤ ts.length ∧ i = .int .i64 k ∧ Hid (zs.Perm xs) ∧ Hid (OwnX wr W.heap.size g xs.length cap zs) ∧ Hid (Below w.heap.size w wr)) (fun i _ => ts.length - (intOf i).toNat)
      case atStart => exact ⟨0, xs, Nat.zero_le _, rfl, Lib.hid (List.Perm.refl _), HO1, HB1⟩
      case round =>
        obtain ⟨k, zs, hk, rfl, HP, HO, HBw⟩ := hrel
        clear HO1 HB1
        by_cases hlt : k < ts.length
        · obtain ⟨z, hz⟩ : ∃ z, ts[k]? = some z := ⟨_, List.getElem?_eq_getElem hlt⟩
          obtain ⟨hz1', hz2'⟩ := HT.out.wf z (List.mem_of_getElem? hz)
          rcases (HT.out.at_.kept HBw.out) with h0 | ⟨A, rfl, hA, hcell⟩
          · rw [h0] at hlt; simp at hlt
          have hc := hcell k z hz
          have hwz : IntKind.i64.wrap z = z := IntWalk.i64_in _ (by omega)
          obtain ⟨j, hj⟩ : ∃ j : Nat, z.tmod (xs.length : Int) = (j : Int) := ⟨(z.tmod xs.length).toNat, by have := Int.tmod_nonneg (xs.length : Int) hz1'; omega⟩
          obtain ⟨l, hl⟩ : ∃ l : Nat, (k : Int).tmod (xs.length : Int) = (l : Int) := ⟨((k : Int).tmod xs.length).toNat, by have := Int.tmod_nonneg (xs.length : Int) (Int.natCast_nonneg k); omega⟩
          have hjl : j < xs.length := by have := Int.tmod_lt_of_pos z (show (0 : Int) < xs.length by omega); omega
          have hll : l < xs.length := by have := Int.tmod_lt_of_pos (k : Int) (show (0 : Int) < xs.length by omega); omega
          have n1 : decide ((k : Int) < 0) = false := decide_eq_false (by omega)
          have n2 : decide (ts.length ≤ k) = false := decide_eq_false (by omega)
          have hwj : IntKind.i64.wrap (j : Int) = (j : Int) := IntWalk.i64_in _ (by omega)
          have hwl : IntKind.i64.wrap (l : Int) = (l : Int) := IntWalk.i64_in _ (by omega)
          clear hcell hz hA
          go_upto_region 10 with fail
          go_quiet (fail)
          obtain ⟨U, HU⟩ : ∃ U, Hid (U = wr.drewN nq) := ⟨_, Lib.hid rfl⟩
          have HBU : Hid (Below w.heap.size w U) := Lib.hid (by rw [HU.out]; exact bdn HBw.out)
          have HOU : Hid (OwnX U W.heap.size g xs.length cap zs) := Lib.hid (by rw [HU.out]; exact HO.out.kept (bdn (Below.refl _ _)))
          rw [← HU.out]
          have hzl := HO.out.len
          obtain ⟨⟨x1, x2, x3⟩, hx⟩ : ∃ x, zs[j]? = some x := ⟨_, List.getElem?_eq_getElem (by omega)⟩
          obtain ⟨⟨y1, y2, y3⟩, hy⟩ : ∃ y, zs[l]? = some y := ⟨_, List.getElem?_eq_getElem (by omega)⟩
          obtain ⟨⟨a1, a2, a3⟩, -, -, -⟩ := HOU.out.cell j _ hx
          dsimp only at a1 a2 a3
          obtain ⟨V, HV⟩ : ∃ V, Hid (V = U.alloc (.cells #[.int .i64 x1, .int .i64 x2, .int .i64 x3] 24)) := ⟨_, Lib.hid rfl⟩
          have hVh : V.heap[U.heap.size]? = some (.cells #[.int .i64 x1, .int .i64 x2, .int .i64 x3] 24 (0, 0)) := by rw [HV.out]; exact World.alloc_heap_new _ _
          have hBV : Below U.heap.size U V := by rw [HV.out]; exact (Below.refl _ U).alloc (Nat.le_refl _) _
          have HOV := Lib.hid (HOU.out.kept hBV)
          have HBV := Lib.hid (below_up HBU.out hBV)
          have hgU := HOU.out.lt.2
          have hwg : w.heap.size ≤ g := Nat.le_trans HWs.out HOU.out.lt.1
          have HVh := Lib.hid hVh
          clear hc hwz hj hl n1 n2 HU hBV hVh
          have n3 : decide ((j : Int) < 0) = false := decide_eq_false (by omega)
          have n4 : decide (xs.length ≤ j) = false := decide_eq_false (by omega)
          have n5 : decide ((l : Int) < 0) = false := decide_eq_false (by omega)
          have n6 : decide (xs.length ≤ l) = false := decide_eq_false (by omega)
          go_upto_region 12 with fail
          rw [← HV.out]
          clear a1 a2 a3 HV
          obtain ⟨⟨b1, b2, b3⟩, -, -, -⟩ := HOV.out.cell l _ hy
          obtain ⟨⟨a1, a2, a3⟩, f1, f2, f3⟩ := HOV.out.cell j _ hx
          dsimp only at a1 a2 a3 b1 b2 b3
          obtain ⟨V2, HV2⟩ : ∃ V2, Hid (V2 = ((V.setCell ⟨g, j * 3, none⟩ (.int .i64 y1)).setCell ⟨g, j * 3 + 1, none⟩ (.int .i64 y2)).setCell ⟨g, j * 3 + 2, none⟩ (.int .i64 y3)) := ⟨_, Lib.hid rfl⟩
          have HO2 : Hid (OwnX V2 W.heap.size g xs.length cap (zs.set j (y1, y2, y3))) := Lib.hid (by rw [HV2.out]; exact HOV.out.store j y1 y2 y3 hjl)
          have HB2 : Hid (Below w.heap.size w V2) := Lib.hid (by rw [HV2.out]; exact below_one (V' := V) HBV.out hwg _ _ _ _)
          have hV2h : V2.heap[U.heap.size]? = some (.cells #[.int .i64 x1, .int .i64 x2, .int .i64 x3] 24 (0, 0)) := by
            rw [HV2.out, Below.heap_setCell _ _ _ _ (by dsimp only; omega), Below.heap_setCell _ _ _ _ (by dsimp only; omega), Below.heap_setCell _ _ _ _ (by dsimp only; omega)]; exact HVh.out
          have hyl : ∃ u : T3, (zs.set j (y1, y2, y3))[l]? = some u := ⟨_, List.getElem?_eq_getElem (by rw [List.length_set]; omega)⟩
          have HV2h := Lib.hid hV2h
          have HP3 := Lib.hid ((swap_perm3 zs j l (x1, x2, x3) (y1, y2, y3) hx hy).trans HP.out)
          clear hx hy hzl hV2h
          go_upto_region 13 with fail
          rw [← HV2.out]
          clear a1 a2 a3 b1 b2 b3 f1 f2 f3
          have s0 : V2.cell? ⟨U.heap.size, 0, none⟩ = some (.int .i64 x1) := (Lib.cell_of_heap HV2h.out 0).trans rfl
          have s1 : V2.cell? ⟨U.heap.size, 1, none⟩ = some (.int .i64 x2) := (Lib.cell_of_heap HV2h.out 1).trans rfl
          have s2 : V2.cell? ⟨U.heap.size, 2, none⟩ = some (.int .i64 x3) := (Lib.cell_of_heap HV2h.out 2).trans rfl
          obtain ⟨⟨u1, u2, u3⟩, hu⟩ := hyl
          obtain ⟨⟨b1, b2, b3⟩, f1, f2, f3⟩ := HO2.out.cell l _ hu
          dsimp only at b1 b2 b3
          obtain ⟨V3, HV3⟩ : ∃ V3, Hid (V3 = ((V2.setCell ⟨g, l * 3, none⟩ (.int .i64 x1)).setCell ⟨g, l * 3 + 1, none⟩ (.int .i64 x2)).setCell ⟨g, l * 3 + 2, none⟩ (.int .i64 x3)) := ⟨_, Lib.hid rfl⟩
          have HO3 : Hid (OwnX V3 W.heap.size g xs.length cap ((zs.set j (y1, y2, y3)).set l (x1, x2, x3))) := Lib.hid (by rw [HV3.out]; exact HO2.out.store l x1 x2 x3 hll)
          have HB3 : Hid (Below w.heap.size w V3) := Lib.hid (by rw [HV3.out]; exact below_one (V' := V) HB2.out hwg _ _ _ _)
          clear hu HV2
          go_upto_region 9 with fail
          rw [← HV3.out]
          clear b1 b2 b3 f1 f2 f3 s0 s1 s2 HV3
          go_wp2_with fail
          go_roundw
          case rel => exact ⟨k + 1, _, by omega, by go_num, HP3, HO3, HB3⟩
          case measure => simp [intOf]; omega
        · obtain rfl : k = ts.length := by omega
          have hzl := HO.out.len
          have hokz : okT3 zs := fun c hc => HA.out.ok c (HP.out.mem_iff.1 hc)
          have C1 := Lib.hid (pick_any (some ⟨g, 0, none⟩) cap zs wr (by omega) hokz HO.out.trip)
          have C2 := Lib.hid (fun V (h : Below wr.heap.size wr V) => pick_any ao ca xs V (by omega) HA.out.ok (HA.out.trips.kept (below_up HBw.out h)))
          rw [pick_perm HP.out, hzl] at C1
          have hRl := pick_len xs
          generalize pickL xs = R at C1 C2 hRl
          have C3 : Hid (∀ ao bo ca cb U, PairsAt U ao R → PairsAt U bo R → Calls Try.prog 9 #[.slice ao R.length ca, .slice bo R.length cb] U fun e w' => e = .returned (.bool true) ∧ Below U.heap.size U w') := Lib.hid (fun ao bo ca cb U h1 h2 => by have := psameR_any ao bo ca cb R R U (by omega) h1 h2; rwa [show sameL R R = true from by simp [sameL]] at this)
          clear hzl hokz
          go_wp2_with fail
          refine C1.out.mono ?_; rintro e X1 ⟨o1, q1, rfl, p1, -, -, b⟩
          have B := Lib.hid b
          have P1 := Lib.hid p1
          clear b p1 C1
          go_wp2_with fail
          refine (C2.out _ B.out).mono ?_; rintro e X2 ⟨o2, q2, rfl, p2, -, -, b⟩
          have S := Lib.hid (C3.out o1 o2 q1 q2 X2 (P1.out.kept b) p2)
          have B := Lib.hid (below_up B.out b)
          clear b p2 C2 P1 C3
          go_wp2_with fail
          refine S.out.mono ?_; rintro e X3 ⟨rfl, b⟩
          have BF := Lib.hid (below_up HBw.out (below_up B.out b))
          clear b S
          go_wp2_with fail
          go_ret
          exact ⟨rfl, BF.out⟩
    · go_enter Try.func6, Try.ntmps6
      go_wp2_with fail
      refine (C0.out _).mono ?_; rintro e W ⟨rfl, b0⟩
      have B := Lib.hid b0
      clear b0 C0
      go_wp2_with fail
      go_ret
      exact ⟨rfl, B.out⟩
  · go_enter Try.func6, Try.ntmps6
    go_wp2_with fail
    refine (C0.out _).mono ?_; rintro e W ⟨rfl, b0⟩
    have B := Lib.hid b0
    clear b0 C0
    go_wp2_with fail
    go_ret
    exact ⟨rfl, B.out⟩
end Go.Proofs.Ytfidddnagfbnhaa
