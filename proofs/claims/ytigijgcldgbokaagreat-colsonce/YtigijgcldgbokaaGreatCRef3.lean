/-
  The reference: which columns are the same.
  Conditions: heads of at most 1024 names, at most 2^20 rows, texts of some size.
-/
import Derived.Deep.OwnRows
import Derived.Deep.RegionHeld3
import Derived.WalkKit
import Derived.WalkMore
import Derived.IntWalk
import Derived.WalkArith
import Derived.OwnWalk
import Derived.Lib.Hide
import Derived.Test.YtigijgcldgbokaaGreatProg
import Derived.Test.YtigijgcldgbokaaGreatCRef2
import Derived.Test.YtigijgcldgbokaaGreatGRef2
namespace Go.Proofs.YtigijgcldgbokaaGreat
open Go.RowKit Go.Shelf Go.Deep
set_option linter.unusedVariables false

/-- what is wrong with two tables -/
def alignE (ha : List ByteArray) (ra : List (List ByteArray)) (hb : List ByteArray) (rb : List (List ByteArray)) : Int := if checkI ha ra ≠ 0 then checkI ha ra else checkI hb rb
/-- the pairs that come back -/
def alignR (ha : List ByteArray) (ra : List (List ByteArray)) (hb : List ByteArray) (rb : List (List ByteArray)) (rename : Bool) : PL := if alignE ha ra hb rb = 0 then alignL ra rb ha hb rename else []
def AlignOut (E : Int) (L : PL) (w : World) (e : Ending) (w' : World) : Prop := ∃ ao cap, e = .returned (.tuple #[.slice ao L.length cap, .int .i64 E]) ∧ PairsAt w' ao L ∧ (ao = none → cap = 0) ∧ L.length ≤ cap ∧ Below w.heap.size w w'
theorem align_bad1 (ha : List ByteArray) (ra : List (List ByteArray)) (hb : List ByteArray) (rb : List (List ByteArray)) (rename : Bool) (h : checkI ha ra ≠ 0) : alignE ha ra hb rb = checkI ha ra ∧ alignR ha ra hb rb rename = [] := by
  have e : alignE ha ra hb rb = checkI ha ra := if_pos h
  exact ⟨e, by unfold alignR; rw [e, if_neg h]⟩
theorem align_bad2 (ha : List ByteArray) (ra : List (List ByteArray)) (hb : List ByteArray) (rb : List (List ByteArray)) (rename : Bool) (h0 : checkI ha ra = 0) (h : checkI hb rb ≠ 0) : alignE ha ra hb rb = checkI hb rb ∧ alignR ha ra hb rb rename = [] := by
  have e : alignE ha ra hb rb = checkI hb rb := if_neg (by simp [h0])
  exact ⟨e, by unfold alignR; rw [e, if_neg h]⟩
theorem align_good (ha : List ByteArray) (ra : List (List ByteArray)) (hb : List ByteArray) (rb : List (List ByteArray)) (rename : Bool) (h0 : checkI ha ra = 0) (h : checkI hb rb = 0) : alignE ha ra hb rb = 0 ∧ alignR ha ra hb rb rename = alignL ra rb ha hb rename := by
  have e : alignE ha ra hb rb = 0 := by unfold alignE; rw [if_neg (by simp [h0])]; exact h
  exact ⟨e, by unfold alignR; rw [e, if_pos rfl]⟩
theorem puts_next (M l : PL) (k : Nat) (x : Int × Int) (h : M[k]? = some x) : (M.take (k + 1)).foldl putB l = putB ((M.take k).foldl putB l) x := by
  obtain ⟨hk, e⟩ := List.getElem?_eq_some_iff.1 h
  rw [List.take_succ_eq_append_getElem hk, e, List.foldl_append]; rfl
theorem puts_len (M l : PL) : (M.foldl putB l).length = l.length + M.length := by rw [(puts_perm M l).length_eq, List.length_append]
theorem choicesA_le (ra rb : List (List ByteArray)) (ha hb : List ByteArray) (hn : ha.length ≤ 1024) (hn2 : hb.length ≤ 1024) : (choicesA ra rb ha hb).length ≤ 1048576 := by
  have h1 := choices_le ra rb ha hb (freeB hb (namedL ha hb)) (freeA ha (namedL ha hb))
  have h2 : (freeA ha (namedL ha hb)).length * (freeB hb (namedL ha hb)).length ≤ 1024 * 1024 := Nat.mul_le_mul (Nat.le_trans (outOf_le _ _) hn) (Nat.le_trans (outOf_le _ _) hn2)
  unfold choicesA; omega

set_option maxRecDepth 100000 in
set_option maxHeartbeats 8000000 in
theorem ralign_any (ho : Option Addr) (hc : Nat) (ha : List ByteArray) (ro : Option Addr) (rc : Nat) (ra : List (List ByteArray)) (bo : Option Addr) (bc : Nat) (hb : List ByteArray) (so : Option Addr) (sc : Nat) (rb : List (List ByteArray)) (rename : Bool) (w : World)
    (hn : ha.length ≤ 1024) (hn2 : hb.length ≤ 1024) (hra : ra.length ≤ 1048576) (hrb : rb.length ≤ 1048576) (hxa : ∀ r ∈ ra, r.length ≤ 1099511627776) (hxb : ∀ r ∈ rb, r.length ≤ 1099511627776)
    (hsa : sumT (allT ha ra) ≤ 1152921504606846976) (hsb : sumT (allT hb rb) ≤ 1152921504606846976) (hH : StrRow w ho ha) (hK : StrRow w bo hb) (hR : RowsAt w ro ra) (hS : RowsAt w so rb) :
    Calls Tryz.prog 11 #[.agg #[.slice ho ha.length hc, .slice ro ra.length rc], .agg #[.slice bo hb.length bc, .slice so rb.length sc], .bool rename] w (AlignOut (alignE ha ra hb rb) (alignR ha ra hb rb rename) w) := by
  obtain ⟨W, HW⟩ : ∃ W, Hid (W = (w.alloc (TabO ho ha.length hc ro ra.length rc)).alloc (TabO bo hb.length bc so rb.length sc)) := ⟨_, Lib.hid rfl⟩
  have hB : Below w.heap.size w W := by rw [HW.out]; exact two_below _ _ _
  have HB0 := Lib.hid hB
  have hN := two_new w (TabO ho ha.length hc ro ra.length rc) (TabO bo hb.length bc so rb.length sc)
  rw [← HW.out] at hN
  have box : Hid (∀ V, Below W.heap.size W V → (V.cell? ⟨w.heap.size, 0, none⟩ = some (.slice ho ha.length hc) ∧ V.cell? ⟨w.heap.size, 1, none⟩ = some (.slice ro ra.length rc)) ∧ V.cell? ⟨w.heap.size + 1, 0, none⟩ = some (.slice bo hb.length bc) ∧ V.cell? ⟨w.heap.size + 1, 1, none⟩ = some (.slice so rb.length sc)) := Lib.hid (fun V hV => ⟨tabs ((hV.block _ (lt_of_heap hN.2.1)).trans hN.2.1), tabs ((hV.block _ (lt_of_heap hN.2.2)).trans hN.2.2)⟩)
  have C1 := Lib.hid (rcheck_any ho hc ha ro rc ra W (by omega) (by omega) hxa (hH.kept hB) (hR.kept hB) hsa)
  have C2 := Lib.hid (fun V (h : Below W.heap.size W V) => rcheck_any bo bc hb so sc rb V (by omega) (by omega) hxb (hK.kept (below_up hB h)) (hS.kept (below_up hB h)) hsb)
  have C3 := Lib.hid (fun V (h : Below W.heap.size W V) => rnamed_any ho hc ha ro ra.length rc bo bc hb so rb.length sc V (by omega) (by omega) (hH.kept (below_up hB h)) (hK.kept (below_up hB h)))
  have C4 := Lib.hid (fun V lo lc l (h : Below W.heap.size W V) (hl : l.length ≤ 1024) (hP : PairsAt V lo l) => rchoices_any ho hc ha ro rc ra bo bc hb so sc rb lo lc l V hn hn2 hra hrb hl (hR.kept (below_up hB h)) (hS.kept (below_up hB h)) hP)
  have C5 := Lib.hid (fun V ao cap (h : TripAt V ao (choicesA ra rb ha hb)) => rpick_any ao cap (choicesA ra rb ha hb) V (by have := choicesA_le ra rb ha hb hn hn2; omega) h)
  have HB1 := Lib.hid (fun h => align_bad1 ha ra hb rb rename h)
  have HB2 := Lib.hid (fun h1 h2 => align_bad2 ha ra hb rb rename h1 h2)
  have HG := Lib.hid (fun h1 h2 => align_good ha ra hb rb rename h1 h2)
  have HLn : Hid ((namedL ha hb).length ≤ 1024) := Lib.hid (Nat.le_trans (named_le ha hb hb.length) hn2)
  have HLp : Hid ((pickL (choicesA ra rb ha hb)).length ≤ 1048576) := Lib.hid (Nat.le_trans (pick_len _) (choicesA_le ra rb ha hb hn hn2))
  have HAl : Hid (∀ b, alignL ra rb ha hb b = if b then (pickL (choicesA ra rb ha hb)).foldl putB (namedL ha hb) else namedL ha hb) := Lib.hid (fun b => rfl)
  have HCA : Hid (choicesOf ra rb ha hb (freeA ha (namedL ha hb)) (freeB hb (namedL ha hb)) = choicesA ra rb ha hb) := Lib.hid rfl
  obtain ⟨a, b⟩ := box.out W (Below.refl _ _)
  obtain ⟨a0, a1⟩ := a
  obtain ⟨b0, b1⟩ := b
  clear hR hS hB hN hH hK
  generalize alignE ha ra hb rb = E at HB1 HB2 HG ⊢
  generalize alignR ha ra hb rb rename = R at HB1 HB2 HG ⊢
  generalize checkI ha ra = E1 at C1 HB1 HB2 HG
  generalize checkI hb rb = E2 at C2 HB2 HG
  go_enter Tryz.func11, Tryz.ntmps11
  go_upto_region 1 with fail
  rw [show (w.alloc (Obj.cells #[Value.slice ho ha.length hc, Value.slice ro ra.length rc] 25)).alloc (Obj.cells #[Value.slice bo hb.length bc, Value.slice so rb.length sc] 25) = W from HW.out.symm]
  go_wp2_with fail
  refine C1.out.mono ?_; rintro e w1 ⟨rfl, g1⟩
  have HBa := Lib.hid g1
  have D2 := Lib.hid (C2.out w1 g1)
  clear g1 a0 a1 b0 b1 C1 C2
  obtain ⟨⟨a0, a1⟩, b0, b1⟩ := box.out w1 HBa.out
  by_cases h1 : E1 = 0
  · have HG1 := Lib.hid (fun h => HG.out h1 h)
    have HB3 := Lib.hid (fun h => HB2.out h1 h)
    clear HG HB2 HB1
    subst h1
    go_wp2_with fail
    refine D2.out.mono ?_; rintro e w2 ⟨rfl, g2⟩
    have HBb := Lib.hid (below_up HBa.out g2)
    clear g2 a0 a1 b0 b1 D2 HBa
    obtain ⟨⟨a0, a1⟩, b0, b1⟩ := box.out w2 HBb.out
    by_cases h2 : E2 = 0
    · obtain ⟨hE, hR⟩ := HG1.out h2
      have HEq := Lib.hid hE
      have HRq := Lib.hid hR
      clear hE hR HG1 HB3
      subst h2
      have D3 := Lib.hid (C3.out w2 HBb.out)
      clear C3
      go_wp2_with fail
      refine D3.out.mono ?_; rintro e w3 ⟨lo, lc, rfl, p3, k1, k2, k3, g3⟩
      have HBc := Lib.hid (below_up HBb.out g3)
      have HP := Lib.hid p3
      have HK1 := Lib.hid k1
      have HK2 := Lib.hid k2
      have HK3 := Lib.hid k3
      clear g3 a0 a1 b0 b1 p3 D3 HBb k1 k2 k3
      obtain ⟨⟨a0, a1⟩, b0, b1⟩ := box.out w3 HBc.out
      cases rename with
      | false =>
        have HE : Hid (AlignOut E R w (.returned (.tuple #[.slice lo (namedL ha hb).length lc, .int .i64 0])) w3) := Lib.hid (by rw [HEq.out, HRq.out]; exact ⟨lo, lc, rfl, HP.out, HK1.out, HK2.out, below_up HB0.out HBc.out⟩)
        clear HAl HEq HRq C4 HCA C5
        generalize namedL ha hb = L at HE
        go_wp2_with fail
        refine bodyPost_ret (v := .tuple #[.slice lo L.length lc, .int .i64 0]) (by simp [results, Tryz.results11, go_sem]) rfl ?_
        exact HE.out
      | true =>
        have D4 := Lib.hid (C4.out w3 lo lc (namedL ha hb) HBc.out HLn.out HP.out)
        have hA := HAl.out true
        rw [if_pos rfl] at hA
        rw [HCA.out] at D4
        have HR2 : Hid (R = (pickL (choicesA ra rb ha hb)).foldl putB (namedL ha hb)) := Lib.hid (by rw [HRq.out, hA])
        clear hA HAl HCA C4 HRq
        generalize choicesA ra rb ha hb = ch at D4 C5 HLp HR2
        generalize namedL ha hb = L at D4 HP HK1 HK2 HK3 HLn HR2
        go_wp2_with fail
        refine D4.out.mono ?_; rintro e w4 ⟨co, cc, rfl, t4, -, -, g4⟩
        have HBd := Lib.hid (below_up HBc.out g4)
        have HP4 := Lib.hid (HP.out.kept g4)
        have D5 := Lib.hid (C5.out w4 co cc t4)
        clear g4 a0 a1 b0 b1 D4 C5 HP HBc t4
        generalize pickL ch = M at D5 HLp HR2
        go_wp2_with fail
        refine D5.out.mono ?_; rintro e w5 ⟨mo, mc, rfl, m5, -, -, g5⟩
        have HBe := Lib.hid (below_up HBd.out g5)
        have HP5 := Lib.hid (HP4.out.kept g5)
        have HM := Lib.hid m5
        clear g5 D5 HP4 HBd m5
        obtain ⟨O, HO⟩ : ∃ O : Nat → PL, Hid (O = fun k => (M.take k).foldl putB L) := ⟨_, Lib.hid rfl⟩
        have HO0 : Hid (O 0 = L) := Lib.hid (by rw [HO.out]; rfl)
        have HOn : Hid (∀ (k : Nat) x, M[k]? = some x → O (k + 1) = putB (O k) x) := Lib.hid (fun k x h => by rw [HO.out]; exact puts_next M L k x h)
        have HOl : Hid (∀ k, (O k).length ≤ 1049600) := Lib.hid (fun k => by
          rw [HO.out]
          show ((M.take k).foldl putB L).length ≤ _
          have := puts_len (M.take k) L
          have := HLn.out; have := HLp.out
          rw [List.length_take] at *
          omega)
        have HR3 : Hid (R = O M.length) := Lib.hid (by rw [HR2.out, HO.out]; simp)
        clear HR2
        have hst : lo = none → lc = 0 := HK1.out
        have hL0 := congrArg List.length HO0.out
        have HS0 : Hid (PairsAt w5 lo (O 0) ∧ (lo = none → lc = 0) ∧ (O 0).length ≤ lc ∧ (O 0 = [] → lo = none)) := Lib.hid (by rw [HO0.out]; exact ⟨HP5.out, HK1.out, HK2.out, HK3.out⟩)
        have HL0 : Hid (L.length = (O 0).length) := Lib.hid (by rw [HO0.out])
        clear hst hL0 HP5 HK1 HK2 HK3 HO0
        go_wp2_with fail
        go_loopw [10, 12] (fun v u wr => ∃ (k q cp : Nat) (go : Option Addr), k ≤ M.length ∧ u = .int .i64 k ∧ v = .slice go q cp ∧ Hid (q = (O k).length) ∧ Hid (Below w5.heap.size w5 wr) ∧ Hid (PairsAt wr go (O k) ∧ (go = none → cp = 0) ∧ (O k).length ≤ cp ∧ (O k = [] → go = none))) (fun _ u _ => M.length - (intOf u).toNat)
        case atStart => exact ⟨0, L.length, lc, lo, Nat.zero_le _, rfl, rfl, HL0, Lib.hid (Below.refl _ _), HS0⟩
        case round =>
          obtain ⟨k, q, cp, go, hk, rfl, rfl, HQ, HB, HS⟩ := hrel
          have hk2 : k ≤ 1048576 := by have := HLp.out; omega
          by_cases hlt : k < M.length
          · obtain ⟨⟨x1, x2⟩, hx⟩ : ∃ x, M[k]? = some x := ⟨_, List.getElem?_eq_getElem hlt⟩
            rcases (HM.out.kept HB.out) with h0 | ⟨b, o, rfl, hA, hcell⟩
            · rw [h0] at hlt; simp at hlt
            obtain ⟨hc1, hc2⟩ := hcell k _ hx
            have HN := Lib.hid (HOn.out k _ hx)
            obtain ⟨s1, s2, s3, s4⟩ := HS.out
            have D6 := Lib.hid (rput_any go cp (O k) x1 x2 wr (by have := HOl.out k; omega) s3 s2 s4 s1)
            rw [← HQ.out] at D6
            dsimp only at hc1 hc2
            clear hcell hx s1 s2 s3 s4 HS
            go_wp2_with fail
            refine D6.out.mono ?_; rintro e w6 ⟨go6, cp6, rfl, p6, n6, l6, g6⟩
            rw [← HN.out] at p6 l6 ⊢
            have HB6 := Lib.hid (below_up HB.out g6)
            have HNe : Hid (O (k + 1) = [] → go6 = none) := Lib.hid (fun h => by
              have := congrArg List.length (HN.out.symm.trans h)
              rw [putB_len] at this; simp at this)
            have HS6 : Hid (PairsAt w6 go6 (O (k + 1)) ∧ (go6 = none → cp6 = 0) ∧ (O (k + 1)).length ≤ cp6 ∧ (O (k + 1) = [] → go6 = none)) := Lib.hid ⟨p6, n6, l6, HNe.out⟩
            clear D6 p6 n6 l6 g6 HNe HQ HN
            obtain ⟨q6, hq6⟩ : ∃ q6, q6 = (O (k + 1)).length := ⟨_, rfl⟩
            rw [← hq6]
            have HQ6 := Lib.hid hq6
            clear hq6
            go_wp2_with fail
            go_roundw
            case rel => exact ⟨k + 1, q6, cp6, go6, by omega, by go_num, rfl, HQ6, HB6, HS6⟩
            case measure => simp [intOf]; omega
          · obtain rfl : k = M.length := by omega
            obtain ⟨s1, s2, s3, s4⟩ := HS.out
            have HE : Hid (AlignOut E R w (.returned (.tuple #[.slice go q cp, .int .i64 0])) wr) := Lib.hid (by rw [HEq.out, HR3.out]; exact ⟨go, cp, by rw [HQ.out], s1, s2, s3, below_up HB0.out (below_up HBe.out HB.out)⟩)
            clear HS s1 s2 s3 s4 HQ HEq HR3
            go_wp2_with fail
            refine bodyPost_ret (v := .tuple #[.slice go q cp, .int .i64 0]) (by simp [results, Tryz.results11, go_sem]) rfl ?_
            exact HE.out
    · have hb : (E2 != 0) = true := by simp [h2]
      obtain ⟨hE, hR⟩ := HB3.out h2
      have HE : Hid (AlignOut E R w (.returned (.tuple #[.slice none 0 0, .int .i64 E2])) w2) := Lib.hid (by rw [hE, hR]; exact ⟨none, 0, rfl, .inl rfl, fun _ => rfl, Nat.le_refl _, below_up HB0.out HBb.out⟩)
      clear HG1 HB3 C3 C4 C5 HAl HCA hE hR
      go_wp2_with fail
      refine bodyPost_ret (v := .tuple #[.slice none 0 0, .int .i64 E2]) (by simp [results, Tryz.results11, go_sem]) rfl ?_
      exact HE.out
  · have hb : (E1 != 0) = true := by simp [h1]
    obtain ⟨hE, hR⟩ := HB1.out h1
    have HE : Hid (AlignOut E R w (.returned (.tuple #[.slice none 0 0, .int .i64 E1])) w1) := Lib.hid (by rw [hE, hR]; exact ⟨none, 0, rfl, .inl rfl, fun _ => rfl, Nat.le_refl _, below_up HB0.out HBa.out⟩)
    clear HB1 HB2 HG C3 C4 C5 HAl HCA D2 hE hR
    go_wp2_with fail
    refine bodyPost_ret (v := .tuple #[.slice none 0 0, .int .i64 E1]) (by simp [results, Tryz.results11, go_sem]) rfl ?_
    exact HE.out
end Go.Proofs.YtigijgcldgbokaaGreat
