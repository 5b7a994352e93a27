/-
  Which columns of two tables are the same: the program's answer.
  Conditions: small tables.
-/
import Derived.WalkKit
import Derived.WalkMore
import Derived.IntWalk
import Derived.Deep.RegionHeld3
import Derived.Lib.Hide
import Derived.Test.YtigijgcldgbokaaGreatProg
import Derived.Test.YtigijgcldgbokaaGreatPkB
import Derived.Test.YtigijgcldgbokaaGreatCFew
import Derived.Test.YtigijgcldgbokaaGreatCNamed
import Derived.Test.YtigijgcldgbokaaGreatCSort
import Derived.Test.YtigijgcldgbokaaGreatCPick
namespace Go.Proofs.YtigijgcldgbokaaGreat
open Go.RowKit Go.Shelf
set_option linter.unusedVariables false

set_option maxRecDepth 100000 in
set_option maxHeartbeats 1000000 in
theorem orE_any (ao : Option Addr) (cap : Nat) (xs : List Int) (w : World) (hn : xs.length ≤ 274877906944) (hR : IntsAt w ao xs) :
    Calls Tryz.prog 22 #[.slice ao xs.length cap] w fun e w' => e = .returned (.int .i64 (orL xs)) ∧ w' = w := by
  have HRo := Lib.hid hR
  have HH := Lib.hid (or_hit xs)
  have HNo := Lib.hid (or_none xs)
  clear hR
  generalize orL xs = F at HH HNo ⊢
  go_enter Tryz.func22, Tryz.ntmps22
  go_wp2_with fail
  go_loopw [8] (fun i wr => ∃ (k : Nat), k ≤ xs.length ∧ i = .int .i64 k ∧ Hid (wr = w) ∧ Hid (∀ (j : Nat) y, j < k → xs[j]? = some y → y = 0)) (fun i _ => xs.length - (intOf i).toNat)
  case atStart => exact ⟨0, Nat.zero_le _, rfl, Lib.hid rfl, Lib.hid (fun j y hj _ => by omega)⟩
  case round =>
    obtain ⟨k, hk, rfl, HW, HZ⟩ := hrel
    by_cases hlt : k < xs.length
    · obtain ⟨x, hx⟩ : ∃ x, xs[k]? = some x := ⟨_, List.getElem?_eq_getElem hlt⟩
      have hR := HRo.out
      rw [← HW.out] at hR
      rcases hR with h0 | ⟨A, rfl, hA, hcell⟩
      · rw [h0] at hlt; simp at hlt
      have hc := hcell k _ hx
      have HX := Lib.hid hx
      clear hcell hx
      by_cases h0 : x = 0
      · have HZ2 : Hid (∀ (j : Nat) y, j < k + 1 → xs[j]? = some y → y = 0) := Lib.hid (fun j y hj hy => by
          by_cases e : j = k
          · subst e; rw [HX.out] at hy; cases hy; exact h0
          · exact HZ.out j y (by omega) hy)
        subst h0
        go_wp2_with fail
        go_roundw
        case rel => exact ⟨k + 1, by omega, by go_num, HW, HZ2⟩
        case measure => simp [intOf]; omega
      · have E := Lib.hid (HH.out k x HX.out HZ.out h0)
        go_wp2_with fail
        go_ret
        exact ⟨by rw [E.out]; rfl, HW.out⟩
    · obtain rfl : k = xs.length := by omega
      have E := Lib.hid (HNo.out HZ.out)
      go_wp2_with fail
      go_ret
      exact ⟨by rw [E.out]; rfl, HW.out⟩


theorem ints2_at (w : World) (a b : Int) (T : TypeId) : IntsAt (w.alloc (.cells #[.int .i64 a, .int .i64 b] T)) (some ⟨w.heap.size, 0, none⟩) [a, b] := by
  refine .inr ⟨_, rfl, by simp, fun i p hp => ?_⟩
  have h := World.alloc_heap_new w (.cells #[.int .i64 a, .int .i64 b] T)
  have e : (⟨w.heap.size, 0, none⟩ : Addr).add i = ⟨w.heap.size, i, none⟩ := by unfold Addr.add; split <;> simp_all
  rw [e, Lib.cell_of_heap h]
  match i, hp with
  | 0, hp => simp at hp; subst hp; rfl
  | 1, hp => simp at hp; subst hp; rfl
  | i + 2, hp => simp at hp
/-- the first error of two -/
theorem or2_any (a b : Int) (w : World) : Calls Tryz.prog 22 #[.slice (some ⟨w.heap.size, 0, none⟩) 2 2] (w.alloc (.cells #[.int .i64 a, .int .i64 b] 29)) fun e w' => e = .returned (.int .i64 (if a ≠ 0 then a else b)) ∧ Below w.heap.size w w' := by
  refine (orE_any (some ⟨w.heap.size, 0, none⟩) 2 [a, b] _ (by simp) (ints2_at w a b 29)).mono ?_
  rintro e w' ⟨rfl, rfl⟩
  refine ⟨?_, one_below _ _⟩
  simp only [orL]
  by_cases h : a = 0
  · subst h
    by_cases h2 : b = 0
    · subst h2; rfl
    · simp [h2]
  · simp [h]
theorem named_ok2 (ha hb : List ByteArray) (h1 : ha.length ≤ 60) (h2 : hb.length ≤ 60) : okP (namedL ha hb) := fun p hp => by
  obtain ⟨k, s, e1, h3, h4, h5⟩ := (named_mem ha hb p.1 p.2).1 hp
  obtain ⟨j, e2, h6⟩ := find_there ha s (by omega)
  have := (List.getElem?_eq_some_iff.1 h3).1
  have := (List.getElem?_eq_some_iff.1 h6).1
  exact ⟨Go.WalkArith.wf_i64 (by omega), Go.WalkArith.wf_i64 (by omega)⟩

set_option maxRecDepth 100000 in
set_option maxHeartbeats 8000000 in
theorem align_ok : AlignOK := by
  intro ho hc ha ro rc ra bo bc hb so sc rb rename w hA hB
  obtain ⟨W, HW⟩ : ∃ W, Hid (W = (w.alloc (TabO ho ha.length hc ro ra.length rc)).alloc (TabO bo hb.length bc so rb.length sc)) := ⟨_, Lib.hid rfl⟩
  have hBW : Below w.heap.size w W := by rw [HW.out]; exact two_below _ _ _
  have HB0 := Lib.hid hBW
  have hN := two_new w (TabO ho ha.length hc ro ra.length rc) (TabO bo hb.length bc so rb.length sc)
  rw [← HW.out] at hN
  have box : Hid (∀ V, Below W.heap.size W V → (V.cell? ⟨w.heap.size, 0, none⟩ = some (.slice ho ha.length hc) ∧ V.cell? ⟨w.heap.size, 1, none⟩ = some (.slice ro ra.length rc)) ∧ V.cell? ⟨w.heap.size + 1, 0, none⟩ = some (.slice bo hb.length bc) ∧ V.cell? ⟨w.heap.size + 1, 1, none⟩ = some (.slice so rb.length sc)) := Lib.hid (fun V hV => ⟨tabs ((hV.block _ (lt_of_heap hN.2.1)).trans hN.2.1), tabs ((hV.block _ (lt_of_heap hN.2.2)).trans hN.2.2)⟩)
  have HA1 := Lib.hid (fun V (h : Below W.heap.size W V) => (hA.kept hBW).kept h)
  have HB1 := Lib.hid (fun V (h : Below W.heap.size W V) => (hB.kept hBW).kept h)
  have C1 := Lib.hid (fun V (h : Below W.heap.size W V) => tcheck_in (HA1.out V h))
  have C2 := Lib.hid (fun V (h : Below W.heap.size W V) => tcheck_in (HB1.out V h))
  have CN := Lib.hid (fun V (h : Below W.heap.size W V) => named_ok ho hc ha ro rc ra bo bc hb so sc rb V (HA1.out V h) (HB1.out V h))
  have HNl : Hid ((namedL ha hb).length ≤ 60) := Lib.hid (Nat.le_trans (named_le ha hb hb.length) hB.hl)
  have HNo := Lib.hid (named_ok2 ha hb hA.hl hB.hl)
  have CR := Lib.hid (fun lo lc V (h : Below W.heap.size W V) hP => renamed_any ho hc ha ro rc ra bo bc hb so sc rb lo lc (namedL ha hb) V (HA1.out V h) (HB1.out V h) hP HNo.out (by have := HNl.out; omega))
  have HPi : Hid ((pickL (choicesA ra rb ha hb)).length ≤ 1048576) := Lib.hid (Nat.le_trans (pick_len _) (choicesA_le ra rb ha hb (by have := hA.hl; omega) (by have := hB.hl; omega)))
  have HE0 : Hid ((if checkI ha ra ≠ 0 then checkI ha ra else checkI hb rb) = alignE ha ra hb rb) := Lib.hid rfl
  have HR0 : Hid (alignE ha ra hb rb ≠ 0 → alignR ha ra hb rb rename = []) := Lib.hid (fun h => by unfold alignR; rw [if_neg h])
  have HR1 : Hid (alignE ha ra hb rb = 0 → rename = false → alignR ha ra hb rb rename = namedL ha hb) := Lib.hid (fun h e => by unfold alignR; rw [if_pos h, e]; rfl)
  have HR2 : Hid (alignE ha ra hb rb = 0 → rename = true → alignR ha ra hb rb rename = (pickL (choicesA ra rb ha hb)).foldl putB (namedL ha hb)) := Lib.hid (fun h e => by unfold alignR; rw [if_pos h, e]; rfl)
  have HPm : Hid (((pickL (choicesA ra rb ha hb)).foldl putB (namedL ha hb)).Perm (namedL ha hb ++ pickL (choicesA ra rb ha hb))) := Lib.hid (puts_perm _ _)
  have HRs : Hid (RiseB ((pickL (choicesA ra rb ha hb)).foldl putB (namedL ha hb))) := Lib.hid (by have := align_rise ra rb ha hb true; unfold alignL at this; rwa [if_pos rfl] at this)
  have HCh : Hid (choicesOf ra rb ha hb (freeA ha (namedL ha hb)) (freeB hb (namedL ha hb)) = choicesA ra rb ha hb) := Lib.hid rfl
  obtain ⟨⟨a0, a1⟩, b0, b1⟩ := box.out W (Below.refl _ _)
  rw [HCh.out] at CR
  clear hN hBW hA hB HA1 HB1 HNo HCh
  generalize alignR ha ra hb rb rename = R at HR0 HR1 HR2 ⊢
  generalize alignE ha ra hb rb = E at HE0 HR0 HR1 HR2 ⊢
  generalize (pickL (choicesA ra rb ha hb)).foldl putB (namedL ha hb) = RP at HR2 HPm HRs
  generalize pickL (choicesA ra rb ha hb) = PL0 at CR HPi HPm
  generalize namedL ha hb = NL at CN CR HNl HR1 HPm
  generalize checkI ha ra = E1 at C1 HE0
  generalize checkI hb rb = E2 at C2 HE0
  have HBel : Hid (Below W.heap.size W W.drew) := Lib.hid ((Below.refl _ W).drew)
  go_enter Tryz.func10, Tryz.ntmps10
  go_upto_region 1 with fail
  rw [show (w.alloc (Obj.cells #[Value.slice ho ha.length hc, Value.slice ro ra.length rc] 25)).alloc (Obj.cells #[Value.slice bo hb.length bc, Value.slice so rb.length sc] 25) = W from HW.out.symm]
  go_region_held3 (fun V => (V.cell? ⟨w.heap.size, 0, none⟩ = some (.slice ho ha.length hc) ∧ V.cell? ⟨w.heap.size, 1, none⟩ = some (.slice ro ra.length rc)) ∧ V.cell? ⟨w.heap.size + 1, 0, none⟩ = some (.slice bo hb.length bc) ∧ V.cell? ⟨w.heap.size + 1, 1, none⟩ = some (.slice so rb.length sc)) ((refine ⟨⟨?_, ?_⟩, ?_, ?_⟩ <;> first | assumption | go_keep))
    (first
      | (go_at_call 17; refine (C1.out _ HBel.out).mono ?_; rintro e w2 ⟨rfl, b2⟩; have HBel := Lib.hid (below_up HBel.out b2); obtain ⟨⟨a0, a1⟩, b0, b1⟩ := box.out w2 HBel.out; clear b2 C1)
      | (go_at_call 17; refine (C2.out _ HBel.out).mono ?_; rintro e w3 ⟨rfl, b2⟩; have HBel := Lib.hid (below_up HBel.out b2); obtain ⟨⟨a0, a1⟩, b0, b1⟩ := box.out w3 HBel.out; clear b2 C2)
      | (go_at_call 22; refine (or2_any E1 E2 w3).mono ?_; rintro e w4 ⟨rfl, b2⟩; rw [HE0.out]; have HBel := Lib.hid (below_up HBel.out b2); obtain ⟨⟨a0, a1⟩, b0, b1⟩ := box.out w4 HBel.out; clear b2))
  rename_i hHeld
  clear hHeld HE0 box
  have HBc := Lib.hid (fun V (h : Below w4.heap.size w4 V) => below_up HBel.out h)
  have D3 := Lib.hid (CN.out w4 HBel.out)
  by_cases hE : E = 0
  · subst hE
    have HR1' := Lib.hid (HR1.out rfl)
    have HR2' := Lib.hid (HR2.out rfl)
    have hW4 : Hid (∀ V, Below w4.heap.size w4 V → (V.cell? ⟨w.heap.size, 0, none⟩ = some (.slice ho ha.length hc) ∧ V.cell? ⟨w.heap.size, 1, none⟩ = some (.slice ro ra.length rc)) ∧ V.cell? ⟨w.heap.size + 1, 0, none⟩ = some (.slice bo hb.length bc) ∧ V.cell? ⟨w.heap.size + 1, 1, none⟩ = some (.slice so rb.length sc)) :=
      Lib.hid (fun V h => ⟨⟨(h.cell (p := ⟨_, _, none⟩) (block_lt_of_cell a0)).trans a0, (h.cell (p := ⟨_, _, none⟩) (block_lt_of_cell a1)).trans a1⟩, (h.cell (p := ⟨_, _, none⟩) (block_lt_of_cell b0)).trans b0, (h.cell (p := ⟨_, _, none⟩) (block_lt_of_cell b1)).trans b1⟩)
    clear HR0 HR1 HR2 CN
    go_wp2_with fail
    refine D3.out.mono ?_; rintro e w5 ⟨lo, lc, rfl, p5, k1, k2, b5⟩
    have HP := Lib.hid p5
    have HK1 := Lib.hid k1
    have HK2 := Lib.hid k2
    have HB5 := Lib.hid (below_up HBel.out b5)
    have D4 := Lib.hid (CR.out lo lc w5 HB5.out p5)
    clear a0 a1 b0 b1 D3 CR HBc
    obtain ⟨⟨a0, a1⟩, b0, b1⟩ := hW4.out w5 b5
    clear p5 k1 k2 b5 hW4
    cases rename with
    | false =>
      have HE : Hid (AlignOut 0 R w (.returned (.tuple #[.slice lo NL.length lc, .int .i64 0])) w5) := Lib.hid (by rw [HR1'.out rfl]; exact ⟨lo, lc, rfl, HP.out, HK1.out, HK2.out, below_up HB0.out HB5.out⟩)
      clear D4 HP HK1 HK2 HR1' HR2'
      go_wp2_with fail
      refine bodyPost_ret (v := .tuple #[.slice lo NL.length lc, .int .i64 0]) (by simp [results, Tryz.results10, go_sem]) rfl ?_
      exact HE.out
    | true =>
      have HRe := Lib.hid (HR2'.out rfl)
      clear HR1' HR2'
      go_upto_region 7 with fail
      go_wp2_with fail
      refine D4.out.mono ?_; rintro e w6 ⟨mo, mc, rfl, m6, k3, k4, b6⟩
      have b7 := one_below w6 (.cells #[.slice lo NL.length lc, .slice mo PL0.length mc] 28)
      have C5 := Lib.hid (together_any lo mo lc mc NL PL0 RP (w6.alloc (.cells #[.slice lo NL.length lc, .slice mo PL0.length mc] 28)) (by have := HNl.out; have := HPi.out; omega) ((HP.out.kept b6).kept b7) (m6.kept b7) HK1.out k3 HK2.out k4 w6.heap.size (World.alloc_heap_new _ _) HPm.out HRs.out)
      have HB7 := Lib.hid (below_up (below_up HB5.out b6) b7)
      clear D4 m6 k3 k4 b6 b7 HP HK1 HK2 a0 a1 b0 b1 HPm HRs
      go_wp2_with fail
      refine C5.out.mono ?_; rintro e w7 ⟨xo, xc, rfl, x7, j1, j2, b8⟩
      have HE : Hid (AlignOut 0 R w (.returned (.tuple #[.slice xo RP.length xc, .int .i64 0])) w7) := Lib.hid (by rw [HRe.out]; exact ⟨xo, xc, rfl, x7, j1, j2, below_up HB0.out (below_up HB7.out b8)⟩)
      clear x7 j1 j2 b8 C5 HRe
      go_wp2_with fail
      refine bodyPost_ret (v := .tuple #[.slice xo RP.length xc, .int .i64 0]) (by simp [results, Tryz.results10, go_sem]) rfl ?_
      exact HE.out
  · have hbE : (E != 0) = true := by simp [hE]
    have HE : Hid (AlignOut E R w (.returned (.tuple #[.slice none 0 0, .int .i64 E])) w4) := Lib.hid (by rw [HR0.out hE]; exact ⟨none, 0, rfl, .inl rfl, fun _ => rfl, Nat.le_refl _, below_up HB0.out HBel.out⟩)
    clear HR0 HR1 HR2 CN CR D3
    go_wp2_with fail
    refine bodyPost_ret (v := .tuple #[.slice none 0 0, .int .i64 E]) (by simp [results, Tryz.results10, go_sem]) rfl ?_
    exact HE.out
end Go.Proofs.YtigijgcldgbokaaGreat
