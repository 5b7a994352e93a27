/-
  The columns of the same name, as the program tells them.
  Conditions: small tables.
-/
import Derived.Deep.OwnRows
import Derived.WalkKit
import Derived.WalkMore
import Derived.IntWalk
import Derived.WalkArith
import Derived.OwnWalk
import Derived.Lib.Hide
import Derived.Test.YtigijgcldgbokaaGreatProg
import Derived.Test.YtigijgcldgbokaaGreatCFirst
namespace Go.Proofs.YtigijgcldgbokaaGreat
open Go.RowKit Go.Shelf Go.Maps
set_option linter.unusedVariables false

theorem ownsMapC_below {H : Type} {P : Program} {k : TypeId} {R : Value → Option (DataW H × List MemPlace)} {b n : Nat} {D : DataW H} {w w' : World} (h : w.ownsMap P k R b n D) (hB : Below w.heap.size w w') : w'.ownsMap P k R b n D :=
  h.kept (row := none) ⟨hB.os, hB.tape, hB.output, hB.size, fun k hk _ => hB.block k hk⟩ (by simp)

set_option maxRecDepth 100000 in
set_option maxHeartbeats 4000000 in
theorem named_any (ho : Option Addr) (hc : Nat) (ha : List ByteArray) (ro : Option Addr) (m rc : Nat) (bo : Option Addr) (bc : Nat) (hb : List ByteArray) (so : Option Addr) (sn sc : Nat) (w : World) (hn : ha.length ≤ 1099511627776) (hn2 : hb.length ≤ 1073741823)
    (hs : ∀ c ∈ ha, c.size ≤ maxLen) (hs2 : ∀ c ∈ hb, c.size ≤ maxLen) (hH : StrRow w ho ha) (hR : StrRow w bo hb) :
    Calls Tryz.prog 13 #[.agg #[.slice ho ha.length hc, .slice ro m rc], .agg #[.slice bo hb.length bc, .slice so sn sc]] w (PairsOut (namedL ha hb) w) := by
  obtain ⟨W, HW⟩ : ∃ W, Hid (W = (w.alloc (TabO ho ha.length hc ro m rc)).alloc (TabO bo hb.length bc so sn sc)) := ⟨_, Lib.hid rfl⟩
  have hB : Below w.heap.size w W := by rw [HW.out]; exact two_below _ _ _
  have HB0 := Lib.hid hB
  have hN := two_new w (TabO ho ha.length hc ro m rc) (TabO bo hb.length bc so sn sc)
  rw [← HW.out] at hN
  have box : Hid (∀ V, Below W.heap.size W V → (V.cell? ⟨w.heap.size, 0, none⟩ = some (.slice ho ha.length hc) ∧ V.cell? ⟨w.heap.size, 1, none⟩ = some (.slice ro m rc)) ∧ V.cell? ⟨w.heap.size + 1, 0, none⟩ = some (.slice bo hb.length bc) ∧ V.cell? ⟨w.heap.size + 1, 1, none⟩ = some (.slice so sn sc)) := Lib.hid (fun V hV => ⟨tabs ((hV.block _ (lt_of_heap hN.2.1)).trans hN.2.1), tabs ((hV.block _ (lt_of_heap hN.2.2)).trans hN.2.2)⟩)
  have HRo := Lib.hid (hR.kept hB)
  have HSo := Lib.hid hs2
  have CF := Lib.hid (firsts_anyC ho hc ha W hn hs (hH.kept hB))
  obtain ⟨O, HQ⟩ : ∃ O : Nat → PL, Hid (O = namedK ha hb) := ⟨_, Lib.hid rfl⟩
  have HNx : Hid (∀ (k : Nat) x, hb[k]? = some x → O (k + 1) = if 0 ≤ findL ha x then O k ++ [(findL ha x, (k : Int))] else O k) := Lib.hid (fun k x h => by rw [HQ.out]; exact named_next ha hb k x h)
  have HLe : Hid (∀ k, (O k).length ≤ k) := Lib.hid (fun k => by rw [HQ.out]; exact named_le _ _ _)
  have HZ : Hid (O 0 = []) := Lib.hid (by rw [HQ.out]; rfl)
  rw [show namedL ha hb = O hb.length from by rw [HQ.out]; rfl]
  have hL0 : (O 0).length = 0 := by rw [HZ.out]; rfl
  have hinfo : (Tryz.prog.info? 36).map (fun i => (i.zero, i.size, i.bytes)) = some (some (.agg #[.int .i64 0, .int .i64 0]), 2, 16) := by kernel_rfl
  obtain ⟨i0, hi, hz0, hz1, hz2⟩ := info_parts2 hinfo
  have HI := Lib.hid hi
  obtain ⟨⟨a0, a1⟩, b0, b1⟩ := box.out W (Below.refl _ _)
  clear hi hinfo hR hB hN hH hs hs2
  go_enter Tryz.func13, Tryz.ntmps13
  go_upto_region 1 with fail
  rw [show (w.alloc (Obj.cells #[Value.slice ho ha.length hc, Value.slice ro m rc] 25)).alloc (Obj.cells #[Value.slice bo hb.length bc, Value.slice so sn sc] 25) = W from HW.out.symm]
  go_wp2_with fail
  refine CF.out.mono ?_
  rintro e w1 ⟨B, kk, D, rfl, hB0, hM, hD, b1⟩
  have B1 := Lib.hid b1
  have HM := Lib.hid hM
  have HD := Lib.hid hD
  have HT : Hid (OwnL w1 w1.heap.size (.slice none 0 0) (O 0)) := Lib.hid (by rw [HZ.out]; exact World.ownsRow_nil _ _ _ _)
  clear a0 a1 b0 b1 hM hD hB0 CF
  obtain ⟨⟨a0, a1⟩, b0, b1⟩ := box.out w1 B1.out
  go_wp2_with fail
  go_loopw [6, 17] (fun v i wr => ∃ (k q cp : Nat) (go : Option Addr), k ≤ hb.length ∧ i = .int .i64 k ∧ v = .slice go q cp ∧ Hid (q = (O k).length) ∧ Hid (Below w1.heap.size w1 wr) ∧ Hid (OwnL wr w1.heap.size (.slice go q cp) (O k))) (fun _ i _ => hb.length - (intOf i).toNat)
  case atStart => exact ⟨0, 0, 0, none, Nat.zero_le _, rfl, rfl, Lib.hid hL0.symm, Lib.hid (Below.refl _ _), HT⟩
  case round =>
    obtain ⟨k, q, cp, go, hk, rfl, rfl, HQ2, HB, HT⟩ := hrel
    by_cases hlt : k < hb.length
    · obtain ⟨x, hx⟩ : ∃ x, hb[k]? = some x := ⟨_, List.getElem?_eq_getElem hlt⟩
      have HM2 := Lib.hid (ownsMapC_below HM.out HB.out)
      have hlook := firsts_lookC HM2.out HD.out x (HSo.out x (List.mem_of_getElem? hx))
      rcases (HRo.out.kept (below_up B1.out HB.out)) with h0 | ⟨A, rfl, hA, hcell⟩
      · rw [h0] at hlt; simp at hlt
      have ca := hcell k x hx
      have HST := Lib.hid (HNx.out k x hx)
      have hq : q ≤ k := by rw [HQ2.out]; exact HLe.out k
      have HTO : Hid (wr.ownsRow w1.heap.size 36 2 (.slice go q cp) q (cellsP (O k))) := Lib.hid (by have := HT.out; unfold OwnL at this; rw [← HQ2.out] at this; exact this)
      clear hcell hx HT
      generalize findL ha x = y at hlook HST
      by_cases hy : 0 ≤ y
      · have HS2 : Hid (O (k + 1) = O k ++ [(y, (k : Int))]) := Lib.hid (by rw [HST.out, if_pos hy])
        rw [if_pos hy, decide_eq_true hy] at hlook
        have HT1 := Lib.hid (HTO.out.alloc (.cells #[Value.int .i64 y, Value.int .i64 k] 36))
        have hws := HB.out.size
        have hbs : w1.heap.size ≤ (wr.alloc (.cells #[Value.int .i64 y, Value.int .i64 k] 36)).heap.size := by simp; omega
        clear HST hy
        go_wp2_with (at_builtin; refine wpList_append_own _ rfl _ _ 28 rfl w1.heap.size 36 i0 (.agg #[.int .i64 0, .int .i64 0]) 2 16 Tryz.underlying28 HI.out hz0 hz1 hz2 rfl (by decide) _ _ _ rfl HT1.out ⟨wr.heap.size, 0, none⟩ 1 1 [Value.int .i64 y, Value.int .i64 k] rfl rfl (lit_cellP wr _ _ _) (fun u hu => by simp at hu; rcases hu with rfl | rfl <;> rfl) (by unfold maxLen; omega) (by omega) hbs ?_)
        intro v' w3 hown' hgrow _
        obtain ⟨g, gc, rfl⟩ := ownsRow_succ hown'
        have HB3 := Lib.hid ((HB.out.alloc HB.out.size (.cells #[Value.int .i64 y, Value.int .i64 k] 36)).grown hgrow hbs (fun j h => (HTO.out.lt j h).1))
        have HQ3 : Hid (q + 1 = (O (k + 1)).length) := Lib.hid (by rw [HS2.out, List.length_append, ← HQ2.out]; rfl)
        have HT3 : Hid (OwnL w3 w1.heap.size (.slice (some ⟨g, 0, none⟩) (q + 1) gc) (O (k + 1))) := Lib.hid (by unfold OwnL; rw [← HQ3.out, HS2.out, cellsP_app]; exact hown')
        clear hown' hgrow hbs hlook
        go_wp2_with fail
        go_roundw
        case rel => exact ⟨k + 1, q + 1, gc, _, by omega, by go_num, rfl, HQ3, HB3, HT3⟩
        case measure => simp [intOf]; omega
      · have HS2 : Hid (O (k + 1) = O k) := Lib.hid (by rw [HST.out, if_neg hy])
        rw [if_neg hy, decide_eq_false hy] at hlook
        have HT2 : Hid (OwnL wr w1.heap.size (.slice go q cp) (O (k + 1))) := Lib.hid (by unfold OwnL; rw [HS2.out, ← HQ2.out]; exact HTO.out)
        have HQ3 : Hid (q = (O (k + 1)).length) := Lib.hid (by rw [HS2.out]; exact HQ2.out)
        clear HST hy
        go_wp2_with fail
        go_roundw
        case rel => exact ⟨k + 1, q, cp, go, by omega, by go_num, rfl, HQ3, HB, HT2⟩
        case measure => simp [intOf]; omega
    · obtain rfl : k = hb.length := by omega
      have HE : Hid (PairsOut (O hb.length) w (.returned (.slice go q cp)) wr) := Lib.hid (by
        obtain ⟨ao, cap, h1, h2, h3, h4, h5⟩ := OwnL.end_ HT.out HB.out
        exact ⟨ao, cap, h1, h2, h3, h4, below_up HB0.out (below_up B1.out h5)⟩)
      clear HT
      go_wp2_with fail
      go_ret
      exact HE.out
theorem named_ok : NamedOK := fun ho hc ha ro rc ra bo bc hb so sc rb w hA hB => named_any ho hc ha ro ra.length rc bo bc hb so rb.length sc w (by have := hA.hl; omega) (by have := hB.hl; omega)
  (fun c h => by have := hA.size c (by simp [allT, h]); unfold maxLen; omega) (fun c h => by have := hB.size c (by simp [allT, h]); unfold maxLen; omega) hA.row hB.row
end Go.Proofs.YtigijgcldgbokaaGreat
