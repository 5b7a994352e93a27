/-
  The walk of the statement RowsLeft.
  Conditions: what the code answers; heads of at most 2^43 columns.
-/
import Derived.WalkKit
import Derived.WalkMore
import Derived.IntWalk
import Derived.Lib.Hide
import Derived.Deep.RegionHeld3
import Derived.Test.YtdenehnneloegaaGreatDoorProg
import Derived.Test.YtdenehnneloegaaGreatDoorPb26
import Derived.Test.YtdenehnneloegaaGreatDoorPb39
namespace Go.Proofs.YtdenehnneloegaaGreatDoor
open Go.RowKit Go.Shelf
set_option linter.unusedVariables false
theorem named_few (ha hb : List ByteArray) (h1 : ha.length ≤ 12) (h2 : hb.length ≤ 12) : okP (namedL ha hb) ∧ (namedL ha hb).length ≤ 12 := by
  refine ⟨fun p hp => ?_, Nat.le_trans (named_le ha hb hb.length) h2⟩
  obtain ⟨p1, p2⟩ := p
  obtain ⟨k, s, rfl, hk, h3, h4⟩ := (named_mem ha hb p1 p2).1 hp
  have hkl := (List.getElem?_eq_some_iff.1 hk).1
  obtain ⟨m, h6, h5⟩ := find_there ha s (by rw [h3]; exact h4)
  have hml := (List.getElem?_eq_some_iff.1 h5).1
  rw [← h3, h6]
  exact ⟨wf_small m (by omega), wf_small k (by omega)⟩
def anyUp (X : PL) (i k : Int) (c : Nat) : Bool := (X.take c).any fun p => p.1 == i || p.2 == k
theorem anyUp_next (X : PL) (i k : Int) (c : Nat) (p : Int × Int) (h : X[c]? = some p) : anyUp X i k (c + 1) = (anyUp X i k c || (p.1 == i || p.2 == k)) := by
  unfold anyUp
  rw [take_one X c p h, List.any_append]
  simp
theorem anyUp_all (X : PL) (i k : Int) : anyUp X i k X.length = X.any fun p => p.1 == i || p.2 == k := by
  unfold anyUp; rw [List.take_length]
theorem left_fact {ha : List ByteArray} {ra : List (List ByteArray)} {hb : List ByteArray} {rb : List (List ByteArray)} {L : PL} (i k : Nat) (h0 : L.length ≠ 0) (hc : checkP L ha.length hb.length = 0) (hi : i < ra.length) (hk : k < rb.length)
    (hx : (byLookU ha ra hb rb L).any (fun p => p.1 == (i : Int) || p.2 == (k : Int)) = false) : 2 * comN ra rb L i k ≤ L.length := by
  apply Nat.le_of_not_lt
  intro hlt
  have e : byLookU ha ra hb rb L = byLookL ra rb L := if_neg (by rintro (h1 | h1); exact h0 h1; exact h1 hc)
  rw [e, List.any_eq_false] at hx
  obtain ⟨p, hp, ho⟩ := byLook_left i k hi hk hlt
  have := hx p hp
  rcases ho with ho | ho <;> simp [ho] at this
set_option maxRecDepth 100000 in
set_option maxHeartbeats 8000000 in
theorem walkRowsLeft_of (HKe : ByKeyOK) (HLo : ByLookOK) (HRo : RowsOK) (ho : Option Addr) (hc : Nat) (ha : List ByteArray) (ro : Option Addr) (rc : Nat) (ra : List (List ByteArray)) (bo : Option Addr) (bc : Nat) (hb : List ByteArray) (so : Option Addr) (sc : Nat) (rb : List (List ByteArray)) (i k : Int) (w : World)
    (hA : StrArg w ho hc ha) (hB : RowsArg w ro rc ra) (hAb : ha.length ≤ 8796093022208) (hC : StrArg w bo bc hb) (hD : RowsArg w so sc rb) (hCb : hb.length ≤ 8796093022208) (hiw : (Lit.int .i64 i).wf = true) (hkw : (Lit.int .i64 k).wf = true) (hpow : Pow w) :
    Calls Tryz.prog 7 #[.agg #[.slice ho ha.length hc, .slice ro ra.length rc], .agg #[.slice bo hb.length bc, .slice so rb.length sc], .int .i64 i, .int .i64 k] w fun e w' => e = .returned (.bool true) ∧ Below w.heap.size w w' := by
  obtain ⟨W, HW⟩ : ∃ W, Hid (W = (w.alloc (TabO ho ha.length hc ro ra.length rc)).alloc (TabO bo hb.length bc so rb.length sc)) := ⟨_, Lib.hid rfl⟩
  have box : Hid (BoxedC w W ho ha.length hc ro ra.length rc bo hb.length bc so rb.length sc) := Lib.hid (by rw [HW.out]; exact boxedC _ _ _ _ _ _ _ _ _ _ _ _ _)
  have B0 := Lib.hid box.out.start
  have HK := Lib.hid HKe
  have HL := Lib.hid HLo
  have HR := Lib.hid HRo
  have F1 := Lib.hid (fun V (h : Below w.heap.size w V) => few14_any hA hB hC hD V h)
  have T1 := Lib.hid (fun V h (k : Below w.heap.size w V) => tabR_of hA hB hC hD h k)
  have NM := Lib.hid (fun V (h : Below w.heap.size w V) => named_any ho hc ha ro ra.length rc bo bc hb so rb.length sc V hAb hCb (fun c h => by have := hA.size c h; unfold maxLen; omega) (fun c h => by have := hC.size c h; unfold maxLen; omega) (hA.row.kept h) (hC.row.kept h))
  have NF := Lib.hid (fun h1 h2 => named_few ha hb h1 h2)
  have HPw := Lib.hid (fun V (k : Below w.heap.size w V) => hpow.kept k)
  have hlf := fun (i k : Nat) h0 h1 h2 h3 h4 => left_fact (ha := ha) (ra := ra) (hb := hb) (rb := rb) (L := namedL ha hb) i k h0 h1 h2 h3 h4
  have HLf := Lib.hid hlf
  have hra : ra.length ≤ 9223372036854775807 := by have := hB.len; unfold maxLen at this; omega
  have hrb : rb.length ≤ 9223372036854775807 := by have := hD.len; unfold maxLen at this; omega
  have hll : (namedL ha hb).length ≤ 8796093022208 := Nat.le_trans (named_le ha hb hb.length) hCb
  obtain ⟨hi1, hi2⟩ := wf_int hiw
  obtain ⟨hk1, hk2⟩ := wf_int hkw
  clear hA hB hC hD hpow HKe HLo HRo hlf hiw hkw
  go_enter Tryz.func7, Tryz.ntmps7
  go_upto_region 1 with fail
  rw [show (w.alloc (TabO ho ha.length hc ro ra.length rc)).alloc (TabO bo hb.length bc so rb.length sc) = W from HW.out.symm]
  go_wp2_with fail
  refine (rwworks_any HK.out HL.out HR.out _ (HPw.out W B0.out)).mono ?_; rintro e w1 ⟨rfl, b1⟩
  have B1 := Lib.hid b1
  have C1 := Lib.hid (NM.out w1 (below_up B0.out b1))
  obtain ⟨⟨k0, k1⟩, k2, k3⟩ := box.out.cell w1 b1
  clear b1 NM
  obtain ⟨L, HLL⟩ : ∃ L, Hid (L = namedL ha hb) := ⟨_, Lib.hid rfl⟩
  rw [← HLL.out] at hll C1 HLf NF
  go_wp2_with fail
  refine C1.out.mono ?_; rintro e w2 ⟨lo, lc, rfl, p2, p3, p4, b2⟩
  have B2 := Lib.hid (below_up B1.out b2)
  have P2 := Lib.hid p2
  have HLc := Lib.hid p4
  have HLn := Lib.hid p3
  have C2 := Lib.hid (F1.out w2 (below_up B0.out B2.out))
  clear b2 p2 p3 p4 k0 k1 k2 k3 C1 B1 F1
  obtain ⟨⟨k0, k1⟩, k2, k3⟩ := box.out.cell w2 B2.out
  go_wp2_with fail
  refine C2.out.mono ?_; rintro e w3 ⟨b, rfl, hf, b3⟩
  have B3 := Lib.hid (below_up B2.out b3)
  have P3 := Lib.hid (P2.out.kept b3)
  have T1' := Lib.hid (fun h V (k : Below w.heap.size w V) => T1.out V (hf h) k)
  clear b3 k0 k1 k2 k3 C2 B2 T1 hf P2
  obtain ⟨⟨k0, k1⟩, k2, k3⟩ := box.out.cell w3 B3.out
  cases b with
  | false =>
    clear T1'
    go_wp2_with fail
    go_ret
    exact ⟨rfl, below_up B0.out B3.out⟩
  | true =>
    have HT : Hid (∀ V, Below W.heap.size W V → TabR V ho hc ha ro rc ra ∧ TabR V bo bc hb so sc rb) := Lib.hid (fun V h => T1'.out rfl V (below_up B0.out h))
    have HPo : Hid (∀ V, Below W.heap.size W V → Pow V) := Lib.hid (fun V h => HPw.out V (below_up B0.out h))
    obtain ⟨hok, hl12⟩ := NF.out (HT.out w3 B3.out).1.h12 (HT.out w3 B3.out).2.h12
    have hra2 := (HT.out w3 B3.out).1.r25
    have hrb2 := (HT.out w3 B3.out).2.r25
    have HOk := Lib.hid hok
    have D1 := Lib.hid (pcheck_any lo lc L (ha.length : Int) (hb.length : Int) w3 (by omega) hok P3.out)
    obtain ⟨E, HE⟩ : ∃ E, Hid (E = checkP L ha.length hb.length) := ⟨_, Lib.hid rfl⟩
    rw [← HE.out] at D1 HLf
    have hn3 := (HT.out w3 B3.out).1.h12
    have hn4 := (HT.out w3 B3.out).2.h12
    clear T1' HPw hok NF
    go_wp2_with fail
    refine D1.out.mono ?_; rintro e w4 ⟨rfl, b4⟩
    have B4 := Lib.hid (below_up B3.out b4)
    have P4 := Lib.hid (P3.out.kept b4)
    clear b4 k0 k1 k2 k3 D1 B3 P3
    obtain ⟨⟨k0, k1⟩, k2, k3⟩ := box.out.cell w4 B4.out
    by_cases h0 : E = 0
    · have ee : (E != 0) = false := by simp [h0]
      by_cases hl0 : L.length = 0
      · have e1 : ((L.length : Int) == 0) = true := by rw [hl0]; rfl
        clear HLf HE
        go_wp2_with fail
        go_ret
        exact ⟨rfl, below_up B0.out B4.out⟩
      · have e1 : ((L.length : Int) == 0) = false := by rw [beq_eq_false_iff_ne]; omega
        by_cases hi : i < 0
        · have e2 : decide (i < 0) = true := decide_eq_true hi
          clear HLf HE
          go_wp2_with fail
          go_ret
          exact ⟨rfl, below_up B0.out B4.out⟩
        · have e2 : decide (i < 0) = false := decide_eq_false hi
          by_cases hi3 : (ra.length : Int) ≤ i
          · have e3 : decide ((ra.length : Int) ≤ i) = true := decide_eq_true hi3
            clear HLf HE
            go_wp2_with fail
            go_ret
            exact ⟨rfl, below_up B0.out B4.out⟩
          · have e3 : decide ((ra.length : Int) ≤ i) = false := decide_eq_false hi3
            by_cases hk : k < 0
            · have e4 : decide (k < 0) = true := decide_eq_true hk
              clear HLf HE
              go_wp2_with fail
              go_ret
              exact ⟨rfl, below_up B0.out B4.out⟩
            · have e4 : decide (k < 0) = false := decide_eq_false hk
              by_cases hk3 : (rb.length : Int) ≤ k
              · have e5 : decide ((rb.length : Int) ≤ k) = true := decide_eq_true hk3
                clear HLf HE
                go_wp2_with fail
                go_ret
                exact ⟨rfl, below_up B0.out B4.out⟩
              · have e5 : decide ((rb.length : Int) ≤ k) = false := decide_eq_false hk3
                have HFin : Hid ((byLookU ha ra hb rb L).any (fun p => p.1 == i || p.2 == k) = false → 2 * comN ra rb L i k ≤ L.length) := Lib.hid (fun h => by
                  obtain ⟨i', rfl⟩ : ∃ n : Nat, i = n := ⟨i.toNat, by omega⟩
                  obtain ⟨k', rfl⟩ : ∃ n : Nat, k = n := ⟨k.toNat, by omega⟩
                  exact HLf.out i' k' hl0 h0 (by omega) (by omega) h)
                clear HLf HE
                have HA1 := Lib.hid (HT.out w4 B4.out).1
                have hE1 : ∀ r ∈ ra, r.length ≤ 1099511627776 ∧ ∀ c ∈ r, c.size ≤ 281474976710656 := fun r hr => ⟨by have := HA1.out.tab.el r hr; omega, fun c hc => by
                  have := HA1.out.tab.size c (by unfold allT; exact List.mem_append_right _ (List.mem_flatten.2 ⟨r, hr, hc⟩)); omega⟩
                have HA2 := Lib.hid (HT.out w4 B4.out).2
                have hE2 : ∀ r ∈ rb, r.length ≤ 1099511627776 ∧ ∀ c ∈ r, c.size ≤ 281474976710656 := fun r hr => ⟨by have := HA2.out.tab.el r hr; omega, fun c hc => by
                  have := HA2.out.tab.size c (by unfold allT; exact List.mem_append_right _ (List.mem_flatten.2 ⟨r, hr, hc⟩)); omega⟩
                have CA := Lib.hid (fun V (c : Int) (h : Below W.heap.size W V) => tcell_any ho ha.length hc ro rc ra i c V (by omega) hE1 (HT.out V h).1.tab.rows)
                have CB := Lib.hid (fun V (c : Int) (h : Below W.heap.size W V) => tcell_any bo hb.length bc so sc rb k c V (by omega) hE2 (HT.out V h).2.tab.rows)
                obtain ⟨O, HQ⟩ : ∃ O : Nat → Nat, Hid (O = fun c => comN ra rb (L.take c) i k) := ⟨_, Lib.hid rfl⟩
                have HNx : Hid (∀ (c : Nat) x, L[c]? = some x → O (c + 1) = O c + if cellL ra i x.1 = cellL rb k x.2 then 1 else 0) := Lib.hid (fun c x h => by rw [HQ.out]; exact com_next ra rb L i k c x h)
                have HLe : Hid (∀ c, O c ≤ 12) := Lib.hid (fun c => by
                  rw [HQ.out]
                  have := com_le ra rb (L.take c) i k
                  show comN ra rb (L.take c) i k ≤ _
                  rw [List.length_take] at this
                  omega)
                have HZ : Hid (O 0 = 0) := Lib.hid (by rw [HQ.out]; rfl)
                have HFin : Hid ((byLookU ha ra hb rb L).any (fun p => p.1 == i || p.2 == k) = false → 2 * O L.length ≤ L.length) := Lib.hid (by
                  rw [show O L.length = comN ra rb L i k from by rw [HQ.out]; simp]; exact HFin.out)
                have HLk := byLookU_len ha ra hb rb L
                have DL : Hid (∀ V, Below W.heap.size W V → Below w4.heap.size w4 V → Calls Tryz.prog 16 #[.agg #[.slice ho ha.length hc, .slice ro ra.length rc], .agg #[.slice bo hb.length bc, .slice so rb.length sc], .slice lo L.length lc] V (PairsOut (byLookU ha ra hb rb L) V)) :=
                  Lib.hid (fun V h h2 => HL.out ho hc ha ro rc ra bo bc hb so sc rb lo lc L V (HT.out V h).1 (HT.out V h).2 ⟨by omega, HOk.out, P4.out.kept h2, HLc.out, HLn.out⟩ (HPo.out V h))
                have HXl : Hid ((byLookU ha ra hb rb L).length ≤ 25) := Lib.hid (by omega)
                clear HLk
                generalize byLookU ha ra hb rb L = X at DL HFin HXl
                obtain ⟨n, Hn⟩ : ∃ n, Hid (n = L.length) := ⟨_, Lib.hid rfl⟩
                have hn12 : n ≤ 12 := by have := Hn.out; omega
                clear hE1 hE2 HA1 HA2 HT HPo HOk HLc HLn HK HR HL HQ h0
                go_wp2_with fail
                go_loopw [11, 12] (fun v u wr => ∃ (c m : Nat), c ≤ n ∧ u = .int .i64 c ∧ v = .int .i64 m ∧ Hid (m = O c) ∧ Hid (Below w4.heap.size w4 wr)) (fun _ u _ => n - (intOf u).toNat)
                case atStart => exact ⟨0, 0, Nat.zero_le _, rfl, rfl, Lib.hid HZ.out.symm, Lib.hid (Below.refl _ _)⟩
                case round =>
                  obtain ⟨c, m, hc2, rfl, rfl, HM, HB⟩ := hrel
                  have BB := Lib.hid (below_up B4.out HB.out)
                  have hm := HLe.out c
                  rw [← HM.out] at hm
                  obtain ⟨⟨k0, k1⟩, k2, k3⟩ := box.out.cell wr BB.out
                  by_cases hlt : c < n
                  · have hlt2 : c < L.length := by rw [← Hn.out]; exact hlt
                    obtain ⟨⟨x1, x2⟩, hx⟩ : ∃ x, L[c]? = some x := ⟨_, List.getElem?_eq_getElem hlt2⟩
                    rcases (P4.out.kept HB.out) with hz | ⟨b, o, rfl, hA', hcell⟩
                    · rw [hz] at hlt2; simp at hlt2
                    obtain ⟨hc1, hc3⟩ := hcell c _ hx
                    have HST := Lib.hid (HNx.out c _ hx)
                    have D1 := Lib.hid (fun V (h : Below W.heap.size W V) => CA.out V x1 h)
                    have D2 := Lib.hid (fun V (h : Below W.heap.size W V) => CB.out V x2 h)
                    dsimp only at hc1 hc3 HST
                    have HCc : Hid (∀ V, Below wr.heap.size wr V → V.cell? ⟨b, o + c * 2, none⟩ = some (.int .i64 x1) ∧ V.cell? ⟨b, o + c * 2 + 1, none⟩ = some (.int .i64 x2)) := Lib.hid (fun V h => ⟨(h.cell (p := ⟨b, _, none⟩) hA').trans hc1, (h.cell (p := ⟨b, _, none⟩) hA').trans hc3⟩)
                    have HBel : Hid (Below wr.heap.size wr wr.drew) := Lib.hid ((Below.refl _ _).drew)
                    generalize cellL ra i x1 = y1 at D1 HST
                    generalize cellL rb k x2 = y2 at D2 HST
                    clear hcell hx
                    go_upto_region 11 with fail
                    go_region_held3 (fun V => ((V.cell? ⟨w.heap.size, 0, none⟩ = some (.slice ho ha.length hc) ∧ V.cell? ⟨w.heap.size, 1, none⟩ = some (.slice ro ra.length rc)) ∧ V.cell? ⟨w.heap.size + 1, 0, none⟩ = some (.slice bo hb.length bc) ∧ V.cell? ⟨w.heap.size + 1, 1, none⟩ = some (.slice so rb.length sc)) ∧ V.cell? ⟨b, o + c * 2, none⟩ = some (.int .i64 x1) ∧ V.cell? ⟨b, o + c * 2 + 1, none⟩ = some (.int .i64 x2)) ((refine ⟨⟨⟨?_, ?_⟩, ?_, ?_⟩, ?_, ?_⟩ <;> first | assumption | go_keep))
                      (first
                        | (go_at_call 25; refine (D1.out _ (below_up BB.out HBel.out)).mono ?_; rintro e w5 ⟨rfl, b2⟩; have HBel := Lib.hid (below_up HBel.out b2); obtain ⟨⟨k0, k1⟩, k2, k3⟩ := box.out.cell w5 (below_up BB.out HBel.out); obtain ⟨hc1, hc3⟩ := HCc.out w5 HBel.out; clear b2 D1)
                        | (go_at_call 25; refine (D2.out _ (below_up BB.out HBel.out)).mono ?_; rintro e w6 ⟨rfl, b2⟩; have HBel := Lib.hid (below_up HBel.out b2); obtain ⟨⟨k0, k1⟩, k2, k3⟩ := box.out.cell w6 (below_up BB.out HBel.out); obtain ⟨hc1, hc3⟩ := HCc.out w6 HBel.out; clear b2 D2))
                    rename_i hHeld
                    clear hHeld
                    have HB3 := Lib.hid (below_up HB.out HBel.out)
                    by_cases hy : y1 = y2
                    · have HM2 : Hid (m + 1 = O (c + 1)) := Lib.hid (by rw [HST.out, if_pos hy, HM.out])
                      have hbb : (y1.toList == y2.toList) = true := by rw [ba_iff]; exact decide_eq_true hy
                      clear HST hy HM
                      simp only [hbb]
                      go_wp2_with fail
                      go_roundw
                      case rel => exact ⟨c + 1, m + 1, by omega, by go_num, by go_num, HM2, HB3⟩
                      case measure => simp [intOf]; omega
                    · have HM2 : Hid (m = O (c + 1)) := Lib.hid (by rw [HST.out, if_neg hy, HM.out]; rfl)
                      have hbb : (y1.toList == y2.toList) = false := by rw [ba_iff]; exact decide_eq_false hy
                      clear HST hy HM
                      simp only [hbb]
                      go_wp2_with fail
                      go_roundw
                      case rel => exact ⟨c + 1, m, by omega, by go_num, rfl, HM2, HB3⟩
                      case measure => simp [intOf]; omega
                  · obtain rfl : c = L.length := by have := Hn.out; omega
                    have hlt3 : decide ((L.length : Int) < (L.length : Int)) = false := by simp
                    have HFin2 := Lib.hid (show X.any (fun p => p.1 == i || p.2 == k) = false → 2 * m ≤ L.length from by rw [HM.out]; exact HFin.out)
                    have D3 := Lib.hid (DL.out wr BB.out HB.out)
                    clear HM HFin DL HNx HLe HZ CA CB
                    go_wp2_with fail
                    refine D3.out.mono ?_; rintro e w5 ⟨xo, xc, rfl, p5, -, -, b5⟩
                    have B5 := Lib.hid (below_up BB.out b5)
                    have P5 := Lib.hid p5
                    clear b5 p5 D3 k0 k1 k2 k3
                    obtain ⟨S, HS⟩ : ∃ S, Hid (S = anyUp X i k) := ⟨_, Lib.hid rfl⟩
                    have HS0 : Hid (S 0 = false) := Lib.hid (by rw [HS.out]; rfl)
                    have HSn : Hid (∀ (c : Nat) p, X[c]? = some p → S (c + 1) = (S c || (p.1 == i || p.2 == k))) := Lib.hid (fun c p h => by rw [HS.out]; exact anyUp_next X i k c p h)
                    have HFin3 := Lib.hid (show S X.length = false → 2 * m ≤ L.length from by rw [HS.out, anyUp_all]; exact HFin2.out)
                    obtain ⟨N, HN⟩ : ∃ N, Hid (N = X.length) := ⟨_, Lib.hid rfl⟩
                    have hN25 : N ≤ 25 := by have := HN.out; have := HXl.out; omega
                    clear HS HFin2
                    go_wp2_with fail
                    go_loopw [14, 15] (fun t u wq => ∃ (c : Nat) (tt : Bool), c ≤ N ∧ u = .int .i64 c ∧ t = .bool tt ∧ Hid (tt = S c) ∧ wq = w5) (fun _ u _ => N - (intOf u).toNat)
                    case atStart => exact ⟨0, false, Nat.zero_le _, rfl, rfl, Lib.hid HS0.out.symm, rfl⟩
                    case round =>
                      obtain ⟨c, tt, hc5, rfl, rfl, HTt, rfl⟩ := hrel
                      by_cases hlc : c < N
                      · have hlc2 : c < X.length := by rw [← HN.out]; exact hlc
                        obtain ⟨⟨x1, x2⟩, hx⟩ : ∃ x, X[c]? = some x := ⟨_, List.getElem?_eq_getElem hlc2⟩
                        rcases P5.out with hz | ⟨b, o, rfl, hA', hcell⟩
                        · rw [hz] at hlc2; simp at hlc2
                        obtain ⟨hc1, hc3⟩ := hcell c _ hx
                        have HT2 := Lib.hid (HSn.out c _ hx)
                        dsimp only at hc1 hc3 HT2
                        clear hcell hx
                        cases tt with
                        | true =>
                          have HT3 : Hid (true = S (c + 1)) := Lib.hid (by rw [HT2.out, ← HTt.out]; rfl)
                          clear HT2 HTt
                          go_wp2_with fail
                          go_roundw
                          case rel => exact ⟨c + 1, true, by omega, by go_num, rfl, HT3, by first | rfl | trivial⟩
                          case measure => simp [intOf]; omega
                        | false =>
                          by_cases h1 : x1 = i
                          · have f1 : (x1 == i) = true := by simp [h1]
                            have HT3 : Hid (true = S (c + 1)) := Lib.hid (by rw [HT2.out, f1]; simp)
                            clear HT2 HTt h1
                            go_wp2_with fail
                            go_roundw
                            case rel => exact ⟨c + 1, true, by omega, by go_num, rfl, HT3, by first | rfl | trivial⟩
                            case measure => simp [intOf]; omega
                          · have f1 : (x1 == i) = false := by simp [h1]
                            by_cases h2 : x2 = k
                            · have f2 : (x2 == k) = true := by simp [h2]
                              have HT3 : Hid (true = S (c + 1)) := Lib.hid (by rw [HT2.out, f2]; simp)
                              clear HT2 HTt h1 h2
                              go_wp2_with fail
                              go_roundw
                              case rel => exact ⟨c + 1, true, by omega, by go_num, rfl, HT3, by first | rfl | trivial⟩
                              case measure => simp [intOf]; omega
                            · have f2 : (x2 == k) = false := by simp [h2]
                              have HT3 : Hid (false = S (c + 1)) := Lib.hid (by rw [HT2.out, f1, f2, ← HTt.out]; rfl)
                              clear HT2 HTt h1 h2
                              go_wp2_with fail
                              go_roundw
                              case rel => exact ⟨c + 1, false, by omega, by go_num, rfl, HT3, by first | rfl | trivial⟩
                              case measure => simp [intOf]; omega
                      · obtain rfl : c = X.length := by have := HN.out; omega
                        have hlt4 : decide ((X.length : Int) < (X.length : Int)) = false := by simp
                        cases tt with
                        | true =>
                          clear HTt
                          go_wp2_with fail
                          go_ret
                          exact ⟨rfl, below_up B0.out B5.out⟩
                        | false =>
                          have h2m := HFin3.out HTt.out.symm
                          have f1 : decide (2 * (m : Int) ≤ (L.length : Int)) = true := decide_eq_true (by omega)
                          clear HTt
                          go_wp2_with fail
                          go_ret
                          exact ⟨by simp, below_up B0.out B5.out⟩
    · have ee : (E != 0) = true := by simp [h0]
      clear HLf HE
      go_wp2_with fail
      go_ret
      exact ⟨rfl, below_up B0.out B4.out⟩
end Go.Proofs.YtdenehnneloegaaGreatDoor
