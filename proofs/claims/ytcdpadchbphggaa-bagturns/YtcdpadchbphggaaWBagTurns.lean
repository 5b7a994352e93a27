/-
  The walk of the statement BagTurns.
  Conditions: none beyond the form of claims.
-/
import Derived.WalkKit
import Derived.WalkMore
import Derived.IntWalk
import Derived.WalkArith
import Derived.BigQuiet
import Derived.Deep.QuietTactic
import Derived.Lib.Hide
import Derived.Test.YtcdpadchbphggaaProg
import Derived.Test.YtcdpadchbphggaaPOpen
import Derived.Test.YtcdpadchbphggaaTOpen
import Derived.Test.YtcdpadchbphggaaBOpen
namespace Go.Proofs.Ytcdpadchbphggaa
open Go.RowKit Go.Shelf
set_option linter.unusedVariables false

theorem same_perm {a b : List Txt} (h : a.Perm b) : sameB a b = true := by
  unfold sameB
  rw [over_perm (List.Perm.refl a) h.symm, over_self, decide_eq_true h.length_eq]; simp

set_option maxRecDepth 100000 in
set_option maxHeartbeats 8000000 in
theorem walkBagTurns (ao : Option Addr) (ca : Nat) (xs : List ByteArray) (bo : Option Addr) (cb : Nat) (ys : List ByteArray) (to : Option Addr) (tc : Nat) (ts : List Int) (w : World) (hA : StrArg w ao ca xs) (hB : StrArg w bo cb ys) (hT : U8Arg w to tc ts) :
    Calls Try.prog 4 #[.slice ao xs.length ca, .slice bo ys.length cb, .slice to ts.length tc] w fun e w' => e = .returned (.bool true) ∧ Below w.heap.size w w' := by
  have hinfo : (Try.prog.info? 9).map (fun i => (i.zero, i.size, i.bytes)) = some (some (.string ⟨#[]⟩), 1, 16) := by kernel_rfl
  obtain ⟨i0, hi, hz0, hz1, hz2⟩ := info_parts2 hinfo
  have HIn := Lib.hid hi
  have HA := Lib.hid hA
  have HB := Lib.hid hB
  have HT := Lib.hid hT
  have C0 := Lib.hid (bworks_any w)
  clear hA hB hT hi hinfo
  by_cases h1 : xs.length ≤ 60
  · by_cases h2 : ys.length ≤ 60
    · by_cases h3 : xs.length = 0
      · go_enter Try.func4, Try.ntmps4
        go_wp2_with fail
        refine C0.out.mono ?_; rintro e W ⟨rfl, b0⟩
        have B := Lib.hid b0
        clear b0 C0
        go_wp2_with fail
        go_ret
        exact ⟨rfl, B.out⟩
      by_cases h4 : ts.length ≤ 60
      · have S1 := Lib.hid (fun V (h : Below w.heap.size w V) => srcB_of (HA.out.row.kept h) HA.out.nil)
        have hq0 : ((xs.length : Int) == 0) = false := by rw [beq_eq_false_iff_ne]; omega
        have hne : (xs.length : Int) ≠ 0 := by omega
        go_enter Try.func4, Try.ntmps4
        go_wp2_with fail
        refine C0.out.mono ?_; rintro e W ⟨rfl, b0⟩
        have B := Lib.hid b0
        clear b0 C0
        have HO0 : Hid ((W.alloc (.cells #[] 9)).ownsRow W.heap.size 9 1 (.slice (some ⟨W.heap.size, 0, none⟩) 0 0) 0 []) := Lib.hid (World.ownsRow_made W #[] 0 (Nat.le_refl _) (Nat.zero_le _) rfl)
        have HU0 : Hid (Below W.heap.size W (W.alloc (.cells #[] 9))) := Lib.hid (alloc_belowB W _)
        have BE := Lib.hid (below_up B.out HU0.out)
        have HB0 := Lib.hid HU0.out.size
        go_wp2_with (at_builtin; refine wpList_append_B rfl _ _ 22 rfl W.heap.size 9 i0 (.string ⟨#[]⟩) 1 16 Try.underlying22 HIn.out hz0 hz1 hz2 rfl (by decide) _ _ _ rfl HO0.out ao xs.length ca (xs.map Value.string) rfl ?c0 (by simp) ?c1 (onesB _) ?c3 ?c4 ?c5 ?_)
        case c0 => exact (S1.out _ BE.out).1
        case c1 => exact (S1.out _ BE.out).2
        case c3 => unfold maxLen; omega
        case c4 => omega
        case c5 => exact HB0.out
        intro v1 W1 ho hg
        (try rw [Nat.zero_add, List.nil_append] at ho)
        have HU1 := Lib.hid (appB_below HU0.out HO0.out hg HB0.out)
        obtain ⟨g, cap, rfl⟩ : ∃ g cap, v1 = .slice (some ⟨g, 0, none⟩) xs.length cap := by
          rcases ho.2 with ⟨hv, h0⟩ | ⟨g, cap, cur, hv, _⟩
          · omega
          · exact ⟨g, cap, hv⟩
        have HO1 : Hid (OwnS W1 W.heap.size g xs.length cap xs) := Lib.hid ⟨rfl, ho⟩
        have HB1 := Lib.hid (below_up B.out HU1.out)
        have HWs := Lib.hid B.out.size
        clear ho hg HO0 HU0 BE HB0 HU1 B S1
        (try rw [Nat.zero_add])
        go_wp2_with fail
        go_loopw [9] (fun i wr => ∃ (k : Nat) (zs : List ByteArray), k ≤ ts.length ∧ i = .int .i64 k ∧ Hid (zs.Perm xs) ∧ Hid (OwnS wr W.heap.size g xs.length cap zs) ∧ Hid (Below w.heap.size w wr)) (fun i _ => ts.length - (intOf i).toNat)
        case atStart => exact ⟨0, xs, Nat.zero_le _, rfl, Lib.hid (List.Perm.refl _), HO1, HB1⟩
        case round =>
          obtain ⟨k, zs, hk, rfl, HP, HO, HBw⟩ := hrel
          clear HO1 HB1
          by_cases hlt : k < ts.length
          · obtain ⟨z, hz⟩ : ∃ z, ts[k]? = some z := ⟨_, List.getElem?_eq_getElem hlt⟩
            obtain ⟨hz1, hz2⟩ := HT.out.wf z (List.mem_of_getElem? hz)
            rcases (HT.out.at_.kept HBw.out) with h0 | ⟨A, rfl, hA, hcell⟩
            · rw [h0] at hlt; simp at hlt
            have hc := hcell k z hz
            have hwz : IntKind.i64.wrap z = z := IntWalk.i64_in _ (by omega)
            obtain ⟨j, hj⟩ : ∃ j : Nat, z.tmod (xs.length : Int) = (j : Int) := ⟨(z.tmod xs.length).toNat, by have := Int.tmod_nonneg (xs.length : Int) hz1; omega⟩
            obtain ⟨l, hl⟩ : ∃ l : Nat, (k : Int).tmod (xs.length : Int) = (l : Int) := ⟨((k : Int).tmod xs.length).toNat, by have := Int.tmod_nonneg (xs.length : Int) (Int.natCast_nonneg k); omega⟩
            have hjl : j < xs.length := by have := Int.tmod_lt_of_pos z (show (0 : Int) < xs.length by omega); omega
            have hll : l < xs.length := by have := Int.tmod_lt_of_pos (k : Int) (show (0 : Int) < xs.length by omega); omega
            have n1 : decide ((k : Int) < 0) = false := decide_eq_false (by omega)
            have n2 : decide (ts.length ≤ k) = false := decide_eq_false (by omega)
            have hwj : IntKind.i64.wrap (j : Int) = (j : Int) := IntWalk.i64_in _ (by omega)
            have hwl : IntKind.i64.wrap (l : Int) = (l : Int) := IntWalk.i64_in _ (by omega)
            clear hcell hz hA
            go_upto_region 10 with fail
            go_quiet (fail)
            obtain ⟨V, HV⟩ : ∃ V, Hid (V = wr.drewN nq) := ⟨_, Lib.hid rfl⟩
            have HBV : Hid (Below w.heap.size w V) := Lib.hid (by rw [HV.out]; exact bdn HBw.out)
            have HOV : Hid (OwnS V W.heap.size g xs.length cap zs) := Lib.hid (by rw [HV.out]; exact HO.out.kept (bdn (Below.refl _ _)))
            rw [← HV.out]
            have hzl := HO.out.len
            obtain ⟨x, hx⟩ : ∃ x, zs[j]? = some x := ⟨_, List.getElem?_eq_getElem (by omega)⟩
            obtain ⟨y, hy⟩ : ∃ y, zs[l]? = some y := ⟨_, List.getElem?_eq_getElem (by omega)⟩
            obtain ⟨cx, fx⟩ := HOV.out.cell j x hx
            obtain ⟨cy, fy⟩ := HOV.out.cell l y hy
            obtain ⟨V2, HV2⟩ : ∃ V2, Hid (V2 = V.setCell ⟨g, j, none⟩ (.string y)) := ⟨_, Lib.hid rfl⟩
            have hst := HOV.out.store j y
            rw [← HV2.out] at hst
            have HO2 := Lib.hid hst.1
            have HB2 := Lib.hid (HBV.out.grown hst.2 HBV.out.size (fun q hq => by cases hq; exact Nat.le_trans HWs.out HOV.out.lt.1))
            have hst3 := HO2.out.store l x
            obtain ⟨V3, HV3⟩ : ∃ V3, Hid (V3 = V2.setCell ⟨g, l, none⟩ (.string x)) := ⟨_, Lib.hid rfl⟩
            rw [← HV3.out] at hst3
            have HO3 := Lib.hid hst3.1
            have HB3 := Lib.hid (HB2.out.grown hst3.2 HB2.out.size (fun q hq => by cases hq; exact Nat.le_trans HWs.out HO2.out.lt.1))
            have HP3 := Lib.hid ((swap_set zs j l x y hx hy).trans HP.out)
            have hyl : (zs.set j y)[l]? = some y := by
              rw [List.getElem?_set]
              split
              · rw [if_pos (by omega)]
              · exact hy
            obtain ⟨hc2, hf2⟩ := HO2.out.cell l y hyl
            clear hst hst3 hc hwz hj hl n1 n2 hx hy hyl HV hzl
            have n3 : decide ((j : Int) < 0) = false := decide_eq_false (by omega)
            have n4 : decide (xs.length ≤ j) = false := decide_eq_false (by omega)
            have n5 : decide ((l : Int) < 0) = false := decide_eq_false (by omega)
            have n6 : decide (xs.length ≤ l) = false := decide_eq_false (by omega)
            go_upto_region 13 with fail
            rw [← HV2.out]
            clear cx cy fx fy HV2
            go_upto_region 9 with fail
            rw [← HV3.out]
            clear hc2 hf2 HV3
            go_wp2_with fail
            go_roundw
            case rel => exact ⟨k + 1, _, by omega, by go_num, HP3, HO3, HB3⟩
            case measure => simp [intOf]; omega
          · obtain rfl : k = ts.length := by omega
            have hzl := HO.out.len
            have hbp : (bytesOf zs).Perm (bytesOf xs) := HP.out.map _
            have hmz : ∀ c ∈ zs, c.size ≤ maxLen := fun c hc => HA.out.mx c (HP.out.mem_iff.1 hc)
            have C1 := Lib.hid (fun V (h : Below wr.heap.size wr V) => bsame_any ao (some ⟨g, 0, none⟩) ca cap xs zs V (by omega) (by omega) HA.out.mx hmz (HA.out.row.kept (below_up HBw.out h)) (HO.out.row.kept h))
            have C2 := Lib.hid (fun V (h : Below wr.heap.size wr V) => bsame_any (some ⟨g, 0, none⟩) ao cap ca zs xs V (by omega) (by omega) hmz HA.out.mx (HO.out.row.kept h) (HA.out.row.kept (below_up HBw.out h)))
            have C3 := Lib.hid (fun V (h : Below wr.heap.size wr V) => over_any (some ⟨g, 0, none⟩) bo cap cb zs ys V (by omega) (by omega) hmz HB.out.mx (HO.out.row.kept h) (HB.out.row.kept (below_up HBw.out h)))
            have C4 := Lib.hid (fun V (h : Below wr.heap.size wr V) => over_any ao bo ca cb xs ys V (by omega) (by omega) HA.out.mx HB.out.mx (HA.out.row.kept (below_up HBw.out h)) (HB.out.row.kept (below_up HBw.out h)))
            have C5 := Lib.hid (fun V (h : Below wr.heap.size wr V) => over_any bo (some ⟨g, 0, none⟩) cb cap ys zs V (by omega) (by omega) HB.out.mx hmz (HB.out.row.kept (below_up HBw.out h)) (HO.out.row.kept h))
            rw [same_perm hbp.symm, hzl] at C1
            rw [same_perm hbp, hzl] at C2
            rw [over_perm hbp (List.Perm.refl _), hzl] at C3
            rw [over_symm, over_perm hbp (List.Perm.refl _), hzl] at C5
            generalize overL (bytesOf xs) (bytesOf ys) = N at C3 C4 C5
            have B := Lib.hid (Below.refl wr.heap.size wr)
            clear hzl hbp hmz
            go_wp2_with fail
            refine (C1.out _ B.out).mono ?_; rintro e X1 ⟨rfl, b⟩
            have B := Lib.hid (below_up B.out b)
            clear b C1
            go_wp2_with fail
            refine (C2.out _ B.out).mono ?_; rintro e X2 ⟨rfl, b⟩
            have B := Lib.hid (below_up B.out b)
            clear b C2
            go_wp2_with fail
            refine (C3.out _ B.out).mono ?_; rintro e X3 ⟨rfl, b⟩
            have B := Lib.hid (below_up B.out b)
            clear b C3
            go_wp2_with fail
            refine (C4.out _ B.out).mono ?_; rintro e X4 ⟨rfl, b⟩
            have B := Lib.hid (below_up B.out b)
            clear b
            go_wp2_with fail
            refine (C5.out _ B.out).mono ?_; rintro e X5 ⟨rfl, b⟩
            have B := Lib.hid (below_up B.out b)
            clear b C5
            go_wp2_with fail
            refine (C4.out _ B.out).mono ?_; rintro e X6 ⟨rfl, b⟩
            have B := Lib.hid (below_up B.out b)
            have BF := Lib.hid (below_up HBw.out B.out)
            clear b C4
            go_wp2_with fail
            go_ret
            exact ⟨rfl, BF.out⟩
      · go_enter Try.func4, Try.ntmps4
        go_wp2_with fail
        refine C0.out.mono ?_; rintro e W ⟨rfl, b0⟩
        have B := Lib.hid b0
        clear b0 C0
        go_wp2_with fail
        go_ret
        exact ⟨rfl, B.out⟩
    · go_enter Try.func4, Try.ntmps4
      go_wp2_with fail
      refine C0.out.mono ?_; rintro e W ⟨rfl, b0⟩
      have B := Lib.hid b0
      clear b0 C0
      go_wp2_with fail
      go_ret
      exact ⟨rfl, B.out⟩
  · go_enter Try.func4, Try.ntmps4
    go_wp2_with fail
    refine C0.out.mono ?_; rintro e W ⟨rfl, b0⟩
    have B := Lib.hid b0
    clear b0 C0
    go_wp2_with fail
    go_ret
    exact ⟨rfl, B.out⟩
end Go.Proofs.Ytcdpadchbphggaa
