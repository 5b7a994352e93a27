/-
  The reference: which columns have the same name.
  Conditions: heads of at most 2^30 names.
-/
import Derived.Deep.OwnRows
import Derived.Deep.RegionHeld3
import Derived.WalkKit
import Derived.WalkMore
import Derived.IntWalk
import Derived.WalkArith
import Derived.OwnWalk
import Derived.Lib.Hide
import Derived.Test.YtigijgcldgbokaaGreatProg
import Derived.Test.YtigijgcldgbokaaGreatTRefB
import Derived.Test.YtigijgcldgbokaaGreatPPutR
import Derived.Test.YtigijgcldgbokaaGreatCMath
namespace Go.Proofs.YtigijgcldgbokaaGreat
open Go.RowKit Go.Shelf Go.Deep
set_option linter.unusedVariables false

/-- pairs that come back: nil, if there are none -/
def PairsOutN (l : PL) (w : World) (e : Ending) (w' : World) : Prop := ∃ ao cap, e = .returned (.slice ao l.length cap) ∧ PairsAt w' ao l ∧ (ao = none → cap = 0) ∧ l.length ≤ cap ∧ (l = [] → ao = none) ∧ Below w.heap.size w w'

set_option maxRecDepth 100000 in
set_option maxHeartbeats 4000000 in
theorem rnamed_any (ho : Option Addr) (hc : Nat) (ha : List ByteArray) (ro : Option Addr) (m rc : Nat) (bo : Option Addr) (bc : Nat) (hb : List ByteArray) (so : Option Addr) (sn sc : Nat) (w : World) (hn : ha.length ≤ 1099511627776) (hn2 : hb.length ≤ 1073741823) (hH : StrRow w ho ha) (hR : StrRow w bo hb) :
    Calls Tryz.prog 14 #[.agg #[.slice ho ha.length hc, .slice ro m rc], .agg #[.slice bo hb.length bc, .slice so sn sc]] w (PairsOutN (namedL ha hb) w) := by
  obtain ⟨W, HW⟩ : ∃ W, Hid (W = (w.alloc (TabO ho ha.length hc ro m rc)).alloc (TabO bo hb.length bc so sn sc)) := ⟨_, Lib.hid rfl⟩
  have hB : Below w.heap.size w W := by rw [HW.out]; exact two_below _ _ _
  have HB0 := Lib.hid hB
  have hN := two_new w (TabO ho ha.length hc ro m rc) (TabO bo hb.length bc so sn sc)
  rw [← HW.out] at hN
  have box : Hid (∀ V, Below W.heap.size W V → (V.cell? ⟨w.heap.size, 0, none⟩ = some (.slice ho ha.length hc) ∧ V.cell? ⟨w.heap.size, 1, none⟩ = some (.slice ro m rc)) ∧ V.cell? ⟨w.heap.size + 1, 0, none⟩ = some (.slice bo hb.length bc) ∧ V.cell? ⟨w.heap.size + 1, 1, none⟩ = some (.slice so sn sc)) := Lib.hid (fun V hV => ⟨tabs ((hV.block _ (lt_of_heap hN.2.1)).trans hN.2.1), tabs ((hV.block _ (lt_of_heap hN.2.2)).trans hN.2.2)⟩)
  have HRo := Lib.hid (hR.kept hB)
  have CF := Lib.hid (fun V (x : ByteArray) (h : Below W.heap.size W V) => rfind_any ho hc ha ro m rc x V hn (hH.kept (below_up hB h)))
  obtain ⟨O, HQ⟩ : ∃ O : Nat → PL, Hid (O = namedK ha hb) := ⟨_, Lib.hid rfl⟩
  have HNx : Hid (∀ (k : Nat) x, hb[k]? = some x → O (k + 1) = if 0 ≤ findL ha x then O k ++ [(findL ha x, (k : Int))] else O k) := Lib.hid (fun k x h => by rw [HQ.out]; exact named_next ha hb k x h)
  have HLe : Hid (∀ k, (O k).length ≤ k) := Lib.hid (fun k => by rw [HQ.out]; exact named_le _ _ _)
  have HZ : Hid (O 0 = []) := Lib.hid (by rw [HQ.out]; rfl)
  rw [show namedL ha hb = O hb.length from by rw [HQ.out]; rfl]
  have hL0 : (O 0).length = 0 := by rw [HZ.out]; rfl
  have HT : Hid (OwnL W W.heap.size (.slice none 0 0) (O 0)) := Lib.hid (by rw [HZ.out]; exact World.ownsRow_nil _ _ _ _)
  have hinfo : (Tryz.prog.info? 36).map (fun i => (i.zero, i.size, i.bytes)) = some (some (.agg #[.int .i64 0, .int .i64 0]), 2, 16) := by kernel_rfl
  obtain ⟨i0, hi, hz0, hz1, hz2⟩ := info_parts2 hinfo
  have HI := Lib.hid hi
  clear hi hinfo hR hB hN hH
  go_enter Tryz.func14, Tryz.ntmps14
  go_wp2_with fail
  rw [show (w.alloc (Obj.cells #[Value.slice ho ha.length hc, Value.slice ro m rc] 25)).alloc (Obj.cells #[Value.slice bo hb.length bc, Value.slice so sn sc] 25) = W from HW.out.symm]
  go_loopw [5, 6] (fun v i wr => ∃ (k q cp : Nat) (go : Option Addr), k ≤ hb.length ∧ i = .int .i64 k ∧ v = .slice go q cp ∧ Hid (q = (O k).length) ∧ Hid (Below W.heap.size W wr) ∧ Hid (OwnL wr W.heap.size (.slice go q cp) (O k)) ∧ Hid (O k = [] → go = none)) (fun _ i _ => hb.length - (intOf i).toNat)
  case atStart => exact ⟨0, 0, 0, none, Nat.zero_le _, rfl, rfl, Lib.hid hL0.symm, Lib.hid (Below.refl _ _), HT, Lib.hid (fun _ => rfl)⟩
  case round =>
    obtain ⟨k, q, cp, go, hk, rfl, rfl, HQ2, HB, HT, HG⟩ := hrel
    obtain ⟨⟨a0, a1⟩, b0, b1⟩ := box.out wr HB.out
    by_cases hlt : k < hb.length
    · obtain ⟨x, hx⟩ : ∃ x, hb[k]? = some x := ⟨_, List.getElem?_eq_getElem hlt⟩
      rcases HRo.out with h0 | ⟨A, rfl, hA, hcell⟩
      · rw [h0] at hlt; simp at hlt
      have HX := Lib.hid hx
      have ca := (HB.out.cell (p := A.add k) (by rw [add_block]; exact hA)).trans (hcell k x hx)
      have C2 := Lib.hid (CF.out wr.drew x HB.out.drew)
      have HST := Lib.hid (HNx.out k x hx)
      have hq : q ≤ k := by rw [HQ2.out]; exact HLe.out k
      have HRc := Lib.hid hcell
      have HTO : Hid (wr.ownsRow W.heap.size 36 2 (.slice go q cp) q (cellsP (O k))) := Lib.hid (by have := HT.out; unfold OwnL at this; rw [← HQ2.out] at this; exact this)
      clear hcell hx HT
      generalize findL ha x = y at C2 HST
      go_upto_region 5 with fail
      go_region_held3 (fun V => V.cell? ⟨w.heap.size, 0, none⟩ = some (.slice ho ha.length hc) ∧ V.cell? ⟨w.heap.size, 1, none⟩ = some (.slice ro m rc) ∧ V.cell? ⟨w.heap.size + 1, 0, none⟩ = some (.slice (some A) hb.length bc) ∧ V.cell? (A.add k) = some (.string x)) ((refine ⟨?_, ?_, ?_, ?_⟩ <;> first | assumption | go_keep))
        (first | (go_at_call 30; refine C2.out.mono ?_; rintro e w2 ⟨rfl, b2⟩; have B2 := Lib.hid (below_up HB.out.drew b2); obtain ⟨⟨a0, a1⟩, b0, b1⟩ := box.out w2 B2.out; have ca := (B2.out.cell (p := A.add k) (by rw [add_block]; exact hA)).trans ((HRc.out) k x HX.out); have HO2 := Lib.hid (ownsRow_below HTO.out.drew b2); clear b2))
      by_cases hy : 0 ≤ y
      · have dy : decide (0 ≤ y) = true := decide_eq_true hy
        have HS2 : Hid (O (k + 1) = O k ++ [(y, (k : Int))]) := Lib.hid (by rw [HST.out, if_pos hy])
        have HT1 := Lib.hid (HO2.out.alloc (.cells #[Value.int .i64 y, Value.int .i64 k] 36))
        have hws := B2.out.size
        have hbs : W.heap.size ≤ (w2.alloc (.cells #[Value.int .i64 y, Value.int .i64 k] 36)).heap.size := by simp; omega
        clear HST
        go_wp2_with (at_builtin; refine wpList_append_own _ rfl _ _ 28 rfl W.heap.size 36 i0 (.agg #[.int .i64 0, .int .i64 0]) 2 16 Tryz.underlying28 HI.out hz0 hz1 hz2 rfl (by decide) _ _ _ rfl HT1.out ⟨w2.heap.size, 0, none⟩ 1 1 [Value.int .i64 y, Value.int .i64 k] rfl rfl (lit_cellP w2 _ _ _) (fun u hu => by simp at hu; rcases hu with rfl | rfl <;> rfl) (by unfold maxLen; omega) (by omega) hbs ?_)
        intro v' w3 hown' hgrow _
        obtain ⟨g, gc, rfl⟩ := ownsRow_succ hown'
        have HB3 := Lib.hid ((B2.out.alloc B2.out.size (.cells #[Value.int .i64 y, Value.int .i64 k] 36)).grown hgrow hbs (fun j h => (HO2.out.lt j h).1))
        have HQ3 : Hid (q + 1 = (O (k + 1)).length) := Lib.hid (by rw [HS2.out, List.length_append, ← HQ2.out]; rfl)
        have HT3 : Hid (OwnL w3 W.heap.size (.slice (some ⟨g, 0, none⟩) (q + 1) gc) (O (k + 1))) := Lib.hid (by unfold OwnL; rw [← HQ3.out, HS2.out, cellsP_app]; exact hown')
        have HG3 : Hid (O (k + 1) = [] → (some (⟨g, 0, none⟩ : Addr)) = none) := Lib.hid (fun h => by rw [HS2.out] at h; simp at h)
        clear hown' hgrow hbs
        go_wp2_with fail
        go_roundw
        case rel => exact ⟨k + 1, q + 1, gc, _, by omega, by go_num, rfl, HQ3, HB3, HT3, HG3⟩
        case measure => simp [intOf]; omega
      · have dy : decide (0 ≤ y) = false := decide_eq_false hy
        have HS2 : Hid (O (k + 1) = O k) := Lib.hid (by rw [HST.out, if_neg hy])
        have HT2 : Hid (OwnL w2 W.heap.size (.slice go q cp) (O (k + 1))) := Lib.hid (by unfold OwnL; rw [HS2.out, ← HQ2.out]; exact HO2.out)
        have HQ3 : Hid (q = (O (k + 1)).length) := Lib.hid (by rw [HS2.out]; exact HQ2.out)
        have HG3 : Hid (O (k + 1) = [] → go = none) := Lib.hid (fun h => HG.out (by rw [← HS2.out]; exact h))
        clear HST
        go_wp2_with fail
        go_roundw
        case rel => exact ⟨k + 1, q, cp, go, by omega, by go_num, rfl, HQ3, B2, HT2, HG3⟩
        case measure => simp [intOf]; omega
    · obtain rfl : k = hb.length := by omega
      have HE : Hid (PairsOutN (O hb.length) w (.returned (.slice go q cp)) wr) := Lib.hid (by
        obtain ⟨ao, cap, h1, h2, h3, h4, h5⟩ := OwnL.end_ HT.out HB.out
        refine ⟨ao, cap, h1, h2, h3, h4, fun h => ?_, below_up HB0.out h5⟩
        have hg := HG.out h
        injection h1 with h1; injection h1 with h1; rw [← h1]; exact hg)
      clear HT HG
      go_wp2_with fail
      go_ret
      exact HE.out
end Go.Proofs.YtigijgcldgbokaaGreat
