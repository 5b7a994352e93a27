/-
  Texts of these rows' proofs, laid one behind the other: RwWKeyed, RwKeyOk.
  Conditions: those of each theorem.
-/
import Derived.WalkKit
import Derived.WalkMore
import Derived.IntWalk
import Derived.Lib.Hide
import Derived.Deep.RegionHeld3
import Derived.Test.YtdenehnneloegaaGreatDoorProg
import Derived.Test.YtdenehnneloegaaGreatDoorPb26
import Derived.Test.YtdenehnneloegaaGreatDoorPb39
import Derived.Test.YtdenehnneloegaaGreatDoorPb21
import Derived.Test.YtdenehnneloegaaGreatDoorPb18
import Derived.Test.YtdenehnneloegaaGreatDoorPb37
namespace Go.Proofs.YtdenehnneloegaaGreatDoor
open Go.RowKit Go.Shelf
set_option linter.unusedVariables false
/-- the answers of keys.Usable of two tables, keys.Places, index.Key and index.Compare -/
def UsableOK : Prop := ∀ (lo : Option Addr) (lc : Nat) (ho : Option Addr) (hc : Nat) (ha : List ByteArray) (ro : Option Addr) (rc : Nat) (ra : List (List ByteArray)) (bo : Option Addr) (bc : Nat) (hb : List ByteArray) (so : Option Addr) (sc : Nat) (rb : List (List ByteArray)) (no : Option Addr) (nc : Nat) (names : List ByteArray) (w : World),
  TabR w ho hc ha ro rc ra → TabR w bo bc hb so sc rb → NamesIn w no nc names → Pow w → TabsAt w lo [(ha, ra), (hb, rb)] →
    Calls Tryz.prog 19 #[.slice lo 2 lc, .slice no names.length nc] w fun e w' => e = .returned (.bool (useAB ha ra hb rb names)) ∧ Below w.heap.size w w'
def PlacesOK : Prop := ∀ (ho : Option Addr) (hc : Nat) (hd : List ByteArray) (ro : Option Addr) (rc : Nat) (rs : List (List ByteArray)) (no : Option Addr) (nc : Nat) (names : List ByteArray) (w : World),
  TabR w ho hc hd ro rc rs → NamesIn w no nc names → inAll hd names = true →
    Calls Tryz.prog 22 #[.agg #[.slice ho hd.length hc, .slice ro rs.length rc], .slice no names.length nc] w fun e w' => ∃ (ao : Option Addr) (cap : Nat), e = .returned (.tuple #[.slice ao names.length cap, .bool true]) ∧ IntsAt w' ao (names.map (findL hd)) ∧ Below w.heap.size w w'
def KeyOfOK : Prop := ∀ (ho : Option Addr) (hc : Nat) (hd : List ByteArray) (ro : Option Addr) (rc : Nat) (rs : List (List ByteArray)) (row : Int) (co : Option Addr) (cc : Nat) (cols : List Int) (w : World),
  TabR w ho hc hd ro rc rs → cols.length ≤ 8 → IntsAt w co cols →
    Calls Tryz.prog 24 #[.agg #[.slice ho hd.length hc, .slice ro rs.length rc], .int .i64 row, .slice co cols.length cc] w fun e w' => ∃ (ao : Option Addr) (cap : Nat), e = .returned (.slice ao cols.length cap) ∧ StrRow w' ao (keyAt rs cols row) ∧ Below w.heap.size w w'
def CompareOK : Prop := ∀ (ao bo : Option Addr) (ca cb : Nat) (xs ys : List ByteArray) (w : World), xs.length ≤ 8 → ys.length ≤ 8 → StrRow w ao xs → StrRow w bo ys →
    Calls Tryz.prog 23 #[.slice ao xs.length ca, .slice bo ys.length cb] w fun e w' => ∃ r : Int, e = .returned (.int .i64 r) ∧ (r = 0 ↔ xs = ys) ∧ Below w.heap.size w w'
theorem named_few' (ha hb : List ByteArray) (h1 : ha.length ≤ 12) (h2 : hb.length ≤ 12) : okP (namedL ha hb) ∧ (namedL ha hb).length ≤ 12 := by
  refine ⟨fun p hp => ?_, Nat.le_trans (named_le ha hb hb.length) h2⟩
  obtain ⟨p1, p2⟩ := p
  obtain ⟨k, s, rfl, hk, h3, h4⟩ := (named_mem ha hb p1 p2).1 hp
  have hkl := (List.getElem?_eq_some_iff.1 hk).1
  obtain ⟨m, h6, h5⟩ := find_there ha s (by rw [h3]; exact h4)
  have hml := (List.getElem?_eq_some_iff.1 h5).1
  rw [← h3, h6]
  exact ⟨wf_small m (by omega), wf_small k (by omega)⟩
def isUp (X : PL) (i k : Int) (c : Nat) : Bool := (X.take c).any fun p => p.1 == i && p.2 == k
theorem isUp_next (X : PL) (i k : Int) (c : Nat) (p : Int × Int) (h : X[c]? = some p) : isUp X i k (c + 1) = (isUp X i k c || (p.1 == i && p.2 == k)) := by
  unfold isUp
  rw [take_one X c p h, List.any_append]
  simp
theorem isUp_all (X : PL) (i k : Int) : isUp X i k X.length = decide ((i, k) ∈ X) := by
  unfold isUp
  rw [List.take_length, Bool.eq_iff_iff, List.any_eq_true, decide_eq_true_iff]
  constructor
  · rintro ⟨p, hp, h⟩
    rw [Bool.and_eq_true, beq_iff_eq, beq_iff_eq] at h
    obtain ⟨p1, p2⟩ := p
    obtain ⟨rfl, rfl⟩ := h
    exact hp
  · exact fun h => ⟨_, h, by simp⟩
theorem keyed_bad {ha : List ByteArray} {ra : List (List ByteArray)} {hb : List ByteArray} {rb : List (List ByteArray)} (h12 : ha.length ≤ 12) (h13 : hb.length ≤ 12) (h : rowsE ha ra hb rb (namedL ha hb) ≠ 0) : checkI ha ra = 0 → checkI hb rb ≠ 0 := by
  intro h1 h2
  exact h (rowsE_mk h1 h2 (named_check h1 h2 (by omega) (by omega)))
theorem keyed_fact {ha : List ByteArray} {ra : List (List ByteArray)} {hb : List ByteArray} {rb : List (List ByteArray)} {names : List ByteArray} (hu : useAB ha ra hb rb names = true) (he : rowsE ha ra hb rb (namedL ha hb) = 0) (i k : Int) (hi0 : ¬ i < 0) (hi : ¬ (ra.length : Int) ≤ i) (hk0 : ¬ k < 0) (hk : ¬ (rb.length : Int) ≤ k) :
    isUp (rowsL true ha ra hb rb (namedL ha hb) names) i k (rowsL true ha ra hb rb (namedL ha hb) names).length = decide (keyAt ra (names.map (findL ha)) i = keyAt rb (names.map (findL hb)) k) := by
  obtain ⟨i', rfl⟩ : ∃ n : Nat, i = n := ⟨i.toNat, by omega⟩
  obtain ⟨k', rfl⟩ : ∃ n : Nat, k = n := ⟨k.toNat, by omega⟩
  rw [isUp_all]
  exact decide_eq_decide.2 (rows_keyed (use_of hu) he i' k' (by omega) (by omega))
set_option maxRecDepth 100000 in
set_option maxHeartbeats 8000000 in
theorem walkRowsKeyed_of (HUs : UsableOK) (HPl : PlacesOK) (HKo : KeyOfOK) (HCo : CompareOK) (HKe : ByKeyOK) (HLo : ByLookOK) (HRo : RowsOK) (ho : Option Addr) (hc : Nat) (ha : List ByteArray) (ro : Option Addr) (rc : Nat) (ra : List (List ByteArray)) (bo : Option Addr) (bc : Nat) (hb : List ByteArray) (so : Option Addr) (sc : Nat) (rb : List (List ByteArray)) (no : Option Addr) (nc : Nat) (names : List ByteArray) (i k : Int) (w : World)
    (hA : StrArg w ho hc ha) (hB : RowsArg w ro rc ra) (hC : StrArg w bo bc hb) (hD : RowsArg w so sc rb) (hN : StrArg w no nc names) (hiw : (Lit.int .i64 i).wf = true) (hkw : (Lit.int .i64 k).wf = true) (hpow : Pow w) :
    Calls Tryz.prog 6 #[.agg #[.slice ho ha.length hc, .slice ro ra.length rc], .agg #[.slice bo hb.length bc, .slice so rb.length sc], .slice no names.length nc, .int .i64 i, .int .i64 k] w fun e w' => e = .returned (.bool true) ∧ Below w.heap.size w w' := by
  obtain ⟨W, HW⟩ : ∃ W, Hid (W = (w.alloc (TabO ho ha.length hc ro ra.length rc)).alloc (TabO bo hb.length bc so rb.length sc)) := ⟨_, Lib.hid rfl⟩
  have box : Hid (BoxedC w W ho ha.length hc ro ra.length rc bo hb.length bc so rb.length sc) := Lib.hid (by rw [HW.out]; exact boxedC _ _ _ _ _ _ _ _ _ _ _ _ _)
  have B0 := Lib.hid box.out.start
  have HU := Lib.hid HUs
  have HPa := Lib.hid HPl
  have HKy := Lib.hid HKo
  have HCm := Lib.hid HCo
  have HK := Lib.hid HKe
  have HL := Lib.hid HLo
  have HR := Lib.hid HRo
  have F1 := Lib.hid (fun V (h : Below w.heap.size w V) => few14_any hA hB hC hD V h)
  have T1 := Lib.hid (fun V h (k : Below w.heap.size w V) => tabR_of hA hB hC hD h k)
  have N1 := Lib.hid (fun V h (k : Below w.heap.size w V) => namesIn_of hN h k)
  have HPw := Lib.hid (fun V (k : Below w.heap.size w V) => hpow.kept k)
  have hra : ra.length ≤ 9223372036854775807 := by have := hB.len; unfold maxLen at this; omega
  have hrb : rb.length ≤ 9223372036854775807 := by have := hD.len; unfold maxLen at this; omega
  have hnl : names.length ≤ 9223372036854775807 := by have := hN.len; unfold maxLen at this; omega
  obtain ⟨hi1, hi2⟩ := wf_int hiw
  obtain ⟨hk1, hk2⟩ := wf_int hkw
  clear hA hB hC hD hN hpow HUs HPl HKo HCo HKe HLo HRo hiw hkw
  go_enter Tryz.func6, Tryz.ntmps6
  go_upto_region 1 with fail
  rw [show (w.alloc (TabO ho ha.length hc ro ra.length rc)).alloc (TabO bo hb.length bc so rb.length sc) = W from HW.out.symm]
  go_wp2_with fail
  refine (rwworks_any HK.out HL.out HR.out _ (HPw.out W B0.out)).mono ?_; rintro e w1 ⟨rfl, b1⟩
  have B1 := Lib.hid b1
  have C1 := Lib.hid (F1.out w1 (below_up B0.out b1))
  obtain ⟨⟨k0, k1⟩, k2, k3⟩ := box.out.cell w1 b1
  clear b1 F1
  go_wp2_with fail
  refine C1.out.mono ?_; rintro e w2 ⟨b, rfl, hf, b2⟩
  have B2 := Lib.hid (below_up B1.out b2)
  have T1' := Lib.hid (fun h V (k : Below w.heap.size w V) => T1.out V (hf h) k)
  clear b2 k0 k1 k2 k3 C1 B1 T1 hf
  obtain ⟨⟨k0, k1⟩, k2, k3⟩ := box.out.cell w2 B2.out
  cases b with
  | false =>
    clear T1' N1
    go_wp2_with fail
    go_ret
    exact ⟨rfl, below_up B0.out B2.out⟩
  | true =>
    have HT : Hid (∀ V, Below W.heap.size W V → TabR V ho hc ha ro rc ra ∧ TabR V bo bc hb so sc rb) := Lib.hid (fun V h => T1'.out rfl V (below_up B0.out h))
    have HPo : Hid (∀ V, Below W.heap.size W V → Pow V) := Lib.hid (fun V h => HPw.out V (below_up B0.out h))
    have hra2 := (HT.out w2 B2.out).1.r25
    have hrb2 := (HT.out w2 B2.out).2.r25
    have hn3 := (HT.out w2 B2.out).1.h12
    have hn4 := (HT.out w2 B2.out).2.h12
    clear T1' HPw
    by_cases hn : names.length ≤ 8
    · have e1 : decide ((8 : Int) < (names.length : Int)) = false := decide_eq_false (by omega)
      have HN : Hid (∀ V, Below W.heap.size W V → NamesIn V no nc names) := Lib.hid (fun V h => N1.out V hn (below_up B0.out h))
      clear N1
      by_cases hi : i < 0
      · have e2 : decide (i < 0) = true := decide_eq_true hi
        go_wp2_with fail
        go_ret
        exact ⟨rfl, below_up B0.out B2.out⟩
      · have e2 : decide (i < 0) = false := decide_eq_false hi
        by_cases hi3 : (ra.length : Int) ≤ i
        · have e3 : decide ((ra.length : Int) ≤ i) = true := decide_eq_true hi3
          go_wp2_with fail
          go_ret
          exact ⟨rfl, below_up B0.out B2.out⟩
        · have e3 : decide ((ra.length : Int) ≤ i) = false := decide_eq_false hi3
          by_cases hk : k < 0
          · have e4 : decide (k < 0) = true := decide_eq_true hk
            go_wp2_with fail
            go_ret
            exact ⟨rfl, below_up B0.out B2.out⟩
          · have e4 : decide (k < 0) = false := decide_eq_false hk
            by_cases hk3 : (rb.length : Int) ≤ k
            · have e5 : decide ((rb.length : Int) ≤ k) = true := decide_eq_true hk3
              go_wp2_with fail
              go_ret
              exact ⟨rfl, below_up B0.out B2.out⟩
            · have e5 : decide ((rb.length : Int) ≤ k) = false := decide_eq_false hk3
              have hT2 := HT.out w2 B2.out
              have g1 := one_below w2 (TwoO ho ha.length hc ro ra.length rc bo hb.length bc so rb.length sc)
              have G1 := Lib.hid (below_up B2.out g1)
              have DU := Lib.hid (HU.out (some ⟨w2.heap.size, 0, none⟩) 2 ho hc ha ro rc ra bo bc hb so sc rb no nc names (w2.alloc (TwoO ho ha.length hc ro ra.length rc bo hb.length bc so rb.length sc)) (HT.out _ G1.out).1 (HT.out _ G1.out).2 (HN.out _ G1.out) (HPo.out _ G1.out) (tabs_two hT2.1.tab.row hT2.1.tab.rows hT2.2.tab.row hT2.2.tab.rows))
              obtain ⟨L, HLL⟩ : ∃ L, Hid (L = namedL ha hb) := ⟨_, Lib.hid rfl⟩
              obtain ⟨us, Hus⟩ : ∃ us, Hid (us = useAB ha ra hb rb names) := ⟨_, Lib.hid rfl⟩
              rw [← Hus.out] at DU
              obtain ⟨hok, hl12⟩ := named_few' ha hb hn3 hn4
              have DK := Lib.hid (fun V (h : Below W.heap.size W V) => HK.out ho hc ha ro rc ra bo bc hb so sc rb no nc names V (HT.out V h).1 (HT.out V h).2 (HN.out V h) (HPo.out V h))
              have DN := Lib.hid (fun V (h : Below W.heap.size W V) => named_ok ho hc ha ro rc ra bo bc hb so sc rb V (HT.out V h).1.tab (HT.out V h).2.tab)
              have DR := Lib.hid (fun lo lc V (h : Below W.heap.size W V) hp h1 h2 => HR.out ho hc ha ro rc ra bo bc hb so sc rb lo lc (namedL ha hb) no nc names V (HT.out V h).1 (HT.out V h).2 ⟨by omega, hok, hp, h1, h2⟩ (HN.out V h) (HPo.out V h))
              have DCa := Lib.hid (fun V (h : Below W.heap.size W V) => tcheck_in (HT.out V h).1.tab)
              have DCb := Lib.hid (fun V (h : Below W.heap.size W V) => tcheck_in (HT.out V h).2.tab)
              have DP1 := Lib.hid (fun V (h : Below W.heap.size W V) hin => HPa.out ho hc ha ro rc ra no nc names V (HT.out V h).1 (HN.out V h) hin)
              have DP2 := Lib.hid (fun V (h : Below W.heap.size W V) hin => HPa.out bo bc hb so sc rb no nc names V (HT.out V h).2 (HN.out V h) hin)
              have DY1 := Lib.hid (fun po pc V (h : Below W.heap.size W V) hI => HKy.out ho hc ha ro rc ra i po pc (names.map (findL ha)) V (HT.out V h).1 (by rw [List.length_map]; exact hn) hI)
              have DY2 := Lib.hid (fun po pc V (h : Below W.heap.size W V) hI => HKy.out bo bc hb so sc rb k po pc (names.map (findL hb)) V (HT.out V h).2 (by rw [List.length_map]; exact hn) hI)
              have HBad := Lib.hid (fun h => keyed_bad (ha := ha) (ra := ra) (hb := hb) (rb := rb) hn3 hn4 h)
              have HFa := Lib.hid (fun hu he => keyed_fact (ha := ha) (ra := ra) (hb := hb) (rb := rb) (names := names) hu he i k hi hi3 hk hk3)
              have HIn := Lib.hid (fun h => use_in (ha := ha) (ra := ra) (hb := hb) (rb := rb) (names := names) h)
              have HLn := Lib.hid (fun h => rowsL_len (u := useAB ha ra hb rb names) (ha := ha) (ra := ra) (hb := hb) (rb := rb) (cols := namedL ha hb) (names := names) h)
              have HUo := Lib.hid (fun h => use_of (ha := ha) (ra := ra) (hb := hb) (rb := rb) (names := names) h)
              rw [← HLL.out] at DN DR HBad HFa HLn
              rw [← Hus.out] at DK DR HFa HIn HLn HUo
              clear HT HPo HN hT2 g1 G1 HK HL HR HU HPa HKy hok hl12
              go_wp2_with fail
              refine DU.out.mono ?_; rintro e w3 ⟨rfl, b3⟩
              have B3 := Lib.hid (below_up B2.out (below_up (one_below w2 (TwoO ho ha.length hc ro ra.length rc bo hb.length bc so rb.length sc)) b3))
              clear b3 k0 k1 k2 k3 DU B2
              obtain ⟨⟨k0, k1⟩, k2, k3⟩ := box.out.cell w3 B3.out
              cases us with
              | false =>
                have D1 := Lib.hid (DK.out w3 B3.out)
                rw [show byKeyU false ha ra hb rb names = [] from rfl] at D1
                clear DK DN DR DCa DCb DP1 DP2 DY1 DY2 HBad HFa HIn HLn HUo
                go_wp2_with fail
                refine D1.out.mono ?_; rintro e w4 ⟨ao, cap, rfl, -, -, -, b4⟩
                have B4 := Lib.hid (below_up B3.out b4)
                clear b4 D1
                go_wp2_with fail
                go_ret
                exact ⟨by simp, below_up B0.out B4.out⟩
              | true =>
                obtain ⟨hin1, hin2⟩ := HIn.out rfl
                replace DP1 := Lib.hid (fun V h => DP1.out V h hin1)
                replace DP2 := Lib.hid (fun V h => DP2.out V h hin2)
                have hXl := HLn.out (fun _ => HUo.out rfl)
                have HXl : Hid ((rowsL true ha ra hb rb L names).length ≤ 25) := Lib.hid (by omega)
                replace HFa := Lib.hid (HFa.out rfl)
                clear DK HIn HLn HUo hXl hin1 hin2 Hus
                obtain ⟨X, HX⟩ : ∃ X, Hid (X = rowsL true ha ra hb rb L names) := ⟨_, Lib.hid rfl⟩
                rw [← HX.out] at DR HXl HFa
                obtain ⟨E, HE⟩ : ∃ E, Hid (E = rowsE ha ra hb rb L) := ⟨_, Lib.hid rfl⟩
                rw [← HE.out] at DR HBad HFa
                have BD := Lib.hid B3.out.drew
                clear HX HE HLL
                go_upto_region 8 with fail
                go_region_held3 (fun V => (V.cell? ⟨w.heap.size, 0, none⟩ = some (.slice ho ha.length hc) ∧ V.cell? ⟨w.heap.size, 1, none⟩ = some (.slice ro ra.length rc)) ∧ V.cell? ⟨w.heap.size + 1, 0, none⟩ = some (.slice bo hb.length bc) ∧ V.cell? ⟨w.heap.size + 1, 1, none⟩ = some (.slice so rb.length sc)) ((refine ⟨⟨?_, ?_⟩, ?_, ?_⟩ <;> first | assumption | go_keep))
                  (first
                    | (go_at_call 20; (with_reducible refine (DN.out _ BD.out).mono ?_); rintro e w4 ⟨lo, lc, rfl, p4, q4, r4, b4⟩; have B4 := Lib.hid (below_up BD.out b4); have D4 := Lib.hid (DR.out lo lc w4 B4.out p4 r4 q4); obtain ⟨⟨k0, k1⟩, k2, k3⟩ := box.out.cell w4 B4.out; clear b4 p4 q4 r4 DN DR)
                    | (go_at_call 11; (with_reducible refine D4.out.mono ?_); rintro e w5 ⟨xo, xc, rfl, p5, -, -, b5⟩; have B5 := Lib.hid (below_up B4.out b5); have P5 := Lib.hid p5; obtain ⟨⟨k0, k1⟩, k2, k3⟩ := box.out.cell w5 B5.out; clear b5 p5 D4))
                rename_i hHeld
                clear hHeld
                by_cases h0 : E = 0
                · have ee : (E != 0) = false := by simp [h0]
                  have HF := Lib.hid (HFa.out h0)
                  have D6 := Lib.hid (DP1.out w5 B5.out)
                  clear HBad HFa DCa DCb DP1 h0
                  go_wp2_with fail
                  refine D6.out.mono ?_; rintro e w6 ⟨po, pc, rfl, p6, b6⟩
                  have B6 := Lib.hid (below_up B5.out b6)
                  have P6 := Lib.hid (P5.out.kept b6)
                  have I6 := Lib.hid p6
                  have D7 := Lib.hid (DP2.out w6 B6.out)
                  clear b6 p6 D6 DP2 k0 k1 k2 k3
                  obtain ⟨⟨k0, k1⟩, k2, k3⟩ := box.out.cell w6 B6.out
                  go_wp2_with fail
                  refine D7.out.mono ?_; rintro e w7 ⟨qo, qc, rfl, p7, b7⟩
                  have B7 := Lib.hid (below_up B6.out b7)
                  have P7 := Lib.hid (P6.out.kept b7)
                  have I7 := Lib.hid (I6.out.kept b7)
                  have J7 := Lib.hid p7
                  clear b7 p7 D7 k0 k1 k2 k3 I6 P6
                  obtain ⟨S, HS⟩ : ∃ S, Hid (S = isUp X i k) := ⟨_, Lib.hid rfl⟩
                  have HS0 : Hid (S 0 = false) := Lib.hid (by rw [HS.out]; rfl)
                  have HSn : Hid (∀ (c : Nat) p, X[c]? = some p → S (c + 1) = (S c || (p.1 == i && p.2 == k))) := Lib.hid (fun c p h => by rw [HS.out]; exact isUp_next X i k c p h)
                  replace HF := Lib.hid (show S X.length = decide (keyAt ra (names.map (findL ha)) i = keyAt rb (names.map (findL hb)) k) from by rw [HS.out]; exact HF.out)
                  obtain ⟨N, HN⟩ : ∃ N, Hid (N = X.length) := ⟨_, Lib.hid rfl⟩
                  have hN25 : N ≤ 25 := by have := HN.out; have := HXl.out; omega
                  replace DY1 := Lib.hid (fun V h h2 => DY1.out po pc V h (I7.out.kept h2))
                  replace DY2 := Lib.hid (fun V h h2 => DY2.out qo qc V h (J7.out.kept h2))
                  rw [List.length_map] at DY1 DY2
                  have hkl1 : (keyAt ra (names.map (findL ha)) i).length = names.length := by simp [keyAt]
                  have hkl2 : (keyAt rb (names.map (findL hb)) k).length = names.length := by simp [keyAt]
                  have HKl := Lib.hid (And.intro hkl1 hkl2)
                  clear HS hkl1 hkl2 I7 J7
                  generalize keyAt ra (names.map (findL ha)) i = y1 at DY1 HF HKl
                  generalize keyAt rb (names.map (findL hb)) k = y2 at DY2 HF HKl
                  have BD7 := Lib.hid (Below.refl w7.heap.size w7).drew
                  go_wp2_with fail
                  go_loopw [18, 19] (fun t u wq => ∃ (c : Nat) (tt : Bool), c ≤ N ∧ u = .int .i64 c ∧ t = .bool tt ∧ Hid (tt = S c) ∧ wq = w7) (fun _ u _ => N - (intOf u).toNat)
                  case atStart => exact ⟨0, false, Nat.zero_le _, rfl, rfl, Lib.hid HS0.out.symm, rfl⟩
                  case round =>
                    obtain ⟨c, tt, hc5, rfl, rfl, HTt, rfl⟩ := hrel
                    by_cases hlc : c < N
                    · have hlc2 : c < X.length := by rw [← HN.out]; exact hlc
                      obtain ⟨⟨x1, x2⟩, hx⟩ : ∃ x, X[c]? = some x := ⟨_, List.getElem?_eq_getElem hlc2⟩
                      rcases P7.out with hz | ⟨b, o, rfl, hA', hcell⟩
                      · rw [hz] at hlc2; simp at hlc2
                      obtain ⟨hc1, hc3⟩ := hcell c _ hx
                      have HT2 := Lib.hid (HSn.out c _ hx)
                      dsimp only at hc1 hc3 HT2
                      clear hcell hx HF DY1 DY2
                      cases tt with
                      | true =>
                        have HT3 : Hid (true = S (c + 1)) := Lib.hid (by rw [HT2.out, ← HTt.out]; rfl)
                        clear HT2 HTt
                        go_wp2_with fail
                        go_roundw
                        case rel => exact ⟨c + 1, true, by omega, by go_num, rfl, HT3, by first | rfl | trivial⟩
                        case measure => simp [intOf]; omega
                      | false =>
                        by_cases h1 : x1 = i
                        · have f1 : (x1 == i) = true := by simp [h1]
                          by_cases h2 : x2 = k
                          · have f2 : (x2 == k) = true := by simp [h2]
                            have HT3 : Hid (true = S (c + 1)) := Lib.hid (by rw [HT2.out, f1, f2]; simp)
                            clear HT2 HTt h1 h2
                            go_wp2_with fail
                            go_roundw
                            case rel => exact ⟨c + 1, true, by omega, by go_num, rfl, HT3, by first | rfl | trivial⟩
                            case measure => simp [intOf]; omega
                          · have f2 : (x2 == k) = false := by simp [h2]
                            have HT3 : Hid (false = S (c + 1)) := Lib.hid (by rw [HT2.out, f1, f2, ← HTt.out]; rfl)
                            clear HT2 HTt h1 h2
                            go_wp2_with fail
                            go_roundw
                            case rel => exact ⟨c + 1, false, by omega, by go_num, rfl, HT3, by first | rfl | trivial⟩
                            case measure => simp [intOf]; omega
                        · have f1 : (x1 == i) = false := by simp [h1]
                          have HT3 : Hid (false = S (c + 1)) := Lib.hid (by rw [HT2.out, f1, ← HTt.out]; rfl)
                          clear HT2 HTt h1
                          go_wp2_with fail
                          go_roundw
                          case rel => exact ⟨c + 1, false, by omega, by go_num, rfl, HT3, by first | rfl | trivial⟩
                          case measure => simp [intOf]; omega
                    · obtain rfl : c = X.length := by have := HN.out; omega
                      have hlt4 : decide ((X.length : Int) < (X.length : Int)) = false := by simp
                      have HTF : Hid (tt = decide (y1 = y2)) := Lib.hid (by rw [HTt.out, HF.out])
                      obtain ⟨⟨k0, k1⟩, k2, k3⟩ := box.out.cell _ B7.out
                      have DC := Lib.hid (fun ao bo ca cb V h1 h2 => HCm.out ao bo ca cb y1 y2 V (by rw [HKl.out.1]; exact hn) (by rw [HKl.out.2]; exact hn) h1 h2)
                      rw [HKl.out.1, HKl.out.2] at DC
                      clear HTt HF HSn HS0 HXl
                      go_upto_region 18 with fail
                      go_region_held3 (fun V => (V.cell? ⟨w.heap.size, 0, none⟩ = some (.slice ho ha.length hc) ∧ V.cell? ⟨w.heap.size, 1, none⟩ = some (.slice ro ra.length rc)) ∧ V.cell? ⟨w.heap.size + 1, 0, none⟩ = some (.slice bo hb.length bc) ∧ V.cell? ⟨w.heap.size + 1, 1, none⟩ = some (.slice so rb.length sc)) ((refine ⟨⟨?_, ?_⟩, ?_, ?_⟩ <;> first | assumption | go_keep))
                        (first
                          | (go_at_call 24; (with_reducible refine (DY1.out _ (below_up B7.out BD7.out) BD7.out).mono ?_); rintro e w8 ⟨yo, yc, rfl, p8, b8⟩; have B8 := Lib.hid (below_up BD7.out b8); have P8 := Lib.hid p8; obtain ⟨⟨k0, k1⟩, k2, k3⟩ := box.out.cell w8 (below_up B7.out B8.out); clear b8 p8 DY1)
                          | (go_at_call 24; (with_reducible refine (DY2.out _ (below_up B7.out B8.out) B8.out).mono ?_); rintro e w9 ⟨zo, zc, rfl, p9, b9⟩; have B9 := Lib.hid (below_up B8.out b9); have D9 := Lib.hid (DC.out yo zo yc zc w9 (P8.out.kept b9) p9); obtain ⟨⟨k0, k1⟩, k2, k3⟩ := box.out.cell w9 (below_up B7.out B9.out); clear b9 p9 DY2)
                          | (go_at_call 23; (with_reducible refine D9.out.mono ?_); rintro e w10 ⟨r, rfl, hr, b10⟩; have B10 := Lib.hid (below_up B9.out b10); have HRr := Lib.hid hr; obtain ⟨⟨k0, k1⟩, k2, k3⟩ := box.out.cell w10 (below_up B7.out B10.out); clear b10 hr D9))
                      rename_i hHeld
                      clear hHeld
                      have hres : (tt == (r == 0)) = true := by
                        rw [HTF.out]
                        by_cases hy : y1 = y2
                        · rw [decide_eq_true hy, HRr.out.2 hy]; rfl
                        · rw [decide_eq_false hy]
                          have : ¬ r = 0 := fun e => hy (HRr.out.1 e)
                          simp [this]
                      go_wp2_with fail
                      go_ret
                      exact ⟨by simp [hres], below_up B0.out (below_up B7.out B10.out)⟩
                · have ee : (E != 0) = true := by simp [h0]
                  have HB2 := Lib.hid (HBad.out h0)
                  have D6 := Lib.hid (DCa.out w5 B5.out)
                  clear HBad HFa DP1 DP2 DY1 DY2 h0 DCa
                  generalize checkI ha ra = E1 at D6 HB2
                  go_wp2_with fail
                  refine D6.out.mono ?_; rintro e w6 ⟨rfl, b6⟩
                  have B6 := Lib.hid (below_up B5.out b6)
                  have D7 := Lib.hid (DCb.out w6 B6.out)
                  clear b6 D6 DCb k0 k1 k2 k3
                  obtain ⟨⟨k0, k1⟩, k2, k3⟩ := box.out.cell w6 B6.out
                  by_cases h1 : E1 = 0
                  · have f1 : (E1 != 0) = false := by simp [h1]
                    have h2 := HB2.out h1
                    generalize checkI hb rb = E2 at D7 h2
                    have f2 : (E2 != 0) = true := by simp [h2]
                    clear HB2 h2 h1
                    go_wp2_with fail
                    refine D7.out.mono ?_; rintro e w8 ⟨rfl, b8⟩
                    have B8 := Lib.hid (below_up B6.out b8)
                    clear b8 D7
                    go_wp2_with fail
                    go_ret
                    exact ⟨by simp, below_up B0.out B8.out⟩
                  · have f1 : (E1 != 0) = true := by simp [h1]
                    clear HB2 D7 h1
                    go_wp2_with fail
                    go_ret
                    exact ⟨by simp, below_up B0.out B6.out⟩
    · have e1 : decide ((8 : Int) < (names.length : Int)) = true := decide_eq_true (by omega)
      clear N1
      go_wp2_with fail
      go_ret
      exact ⟨rfl, below_up B0.out B2.out⟩
end Go.Proofs.YtdenehnneloegaaGreatDoor
namespace Go.Proofs.YtdenehnneloegaaGreatDoor
open Go.RowKit Go.Shelf
set_option linter.unusedVariables false
theorem tabIn_cells {w : World} {ho : Option Addr} {hc : Nat} {hd : List ByteArray} {ro : Option Addr} {rc : Nat} {rs : List (List ByteArray)} (h : TabIn w ho hc hd ro rc rs) : ∀ r ∈ rs, ∀ c ∈ r, c.size ≤ 100000 := fun r hr c hcr =>
  h.size c (by unfold allT; exact List.mem_append_right _ (List.mem_flatten.2 ⟨r, hr, hcr⟩))
theorem tabIn_rows {w : World} {ho : Option Addr} {hc : Nat} {hd : List ByteArray} {ro : Option Addr} {rc : Nat} {rs : List (List ByteArray)} (h : TabIn w ho hc hd ro rc rs) : ∀ r ∈ rs, r.length ≤ 1099511627776 ∧ ∀ c ∈ r, c.size ≤ 281474976710656 := fun r hr =>
  ⟨by have := h.el r hr; omega, fun c hcr => by have := tabIn_cells h r hr c hcr; omega⟩
theorem tabIn_head {w : World} {ho : Option Addr} {hc : Nat} {hd : List ByteArray} {ro : Option Addr} {rc : Nat} {rs : List (List ByteArray)} (h : TabIn w ho hc hd ro rc rs) : ∀ c ∈ hd, c.size ≤ maxLen := fun c hc => by
  have := h.size c (by unfold allT; exact List.mem_append_left _ hc)
  unfold maxLen; omega
theorem usable_ok : UsableOK := by
  intro lo lc ho hc ha ro rc ra bo bc hb so sc rb no nc names w hA hB hN hpow hT
  have hl := hN.len
  refine usable_any lo lc [(ha, ra), (hb, rb)] no nc names w (by simp) (by omega) (fun c hc => by have := hN.size c hc; unfold maxLen; omega) (fun t ht => ?_) (fun t ht => ?_) hT hN.row hpow
  · simp only [List.mem_cons, List.not_mem_nil, or_false] at ht
    rcases ht with rfl | rfl
    · exact ⟨by have := hA.h12; dsimp only; omega, by have := hA.r25; dsimp only; omega, fun r hr => ⟨by have := hA.tab.el r hr; omega, fun c hcr => by have := tabIn_cells hA.tab r hr c hcr; omega⟩⟩
    · exact ⟨by have := hB.h12; dsimp only; omega, by have := hB.r25; dsimp only; omega, fun r hr => ⟨by have := hB.tab.el r hr; omega, fun c hcr => by have := tabIn_cells hB.tab r hr c hcr; omega⟩⟩
  · simp only [List.mem_cons, List.not_mem_nil, or_false] at ht
    rcases ht with rfl | rfl
    · exact ⟨by have := hA.h12; dsimp only; omega, tabIn_head hA.tab⟩
    · exact ⟨by have := hB.h12; dsimp only; omega, tabIn_head hB.tab⟩
theorem places_ok : PlacesOK := by
  intro ho hc hd ro rc rs no nc names w hT hN hin
  have hl := hN.len
  refine (places_any ho hc hd ro rs.length rc no nc names w (by have := hT.h12; omega) (tabIn_head hT.tab) (by omega) (fun c hc => by have := hN.size c hc; unfold maxLen; omega) hT.tab.row hN.row).mono ?_
  rintro e w' (⟨-, ao, cap, h1, h2, -, h3⟩ | ⟨h0, -⟩)
  · exact ⟨ao, cap, h1, h2, h3⟩
  · rw [hin] at h0; cases h0
theorem keyOf_ok : KeyOfOK := by
  intro ho hc hd ro rc rs row co cc cols w hT hl hI
  refine (key_any ho hd.length hc ro rc rs row co cc cols w (by omega) (by have := hT.r25; omega) (tabIn_rows hT.tab) hT.tab.rows hI).mono ?_
  rintro e w' ⟨ao, h1, h2, h3⟩
  exact ⟨ao, cols.length, h1, h2, h3⟩
theorem compare_ok : CompareOK := by
  intro ao bo ca cb xs ys w h1 h2 hR hS
  refine (compareK_any ao bo ca cb xs ys w (by omega) (by omega) hR hS).mono ?_
  rintro e w' ⟨h3, h4⟩
  exact ⟨_, h3, key_cmp.zero xs ys, h4⟩
/-- what halving finds is the row of that key -/
theorem found_byKey {ra rb : List (List ByteArray)} {ps qs : List Int} {k : Nat} {a : Int} {ok : Bool} (hu : apartRows ra ps = true) (h : FoundAt (fun x => keyC (rowKey ra ps x) (keyAt rb qs k)) (buildL ra ps) a ok) :
    (ok = true ∧ byKeyO ra rb ps qs k = some (a, (k : Int))) ∨ (ok = false ∧ byKeyO ra rb ps qs k = none) := by
  rcases found_first ra ps (keyAt rb qs k) a ok h with ⟨i, rfl, rfl, hi, hk, -⟩ | ⟨-, rfl, hn⟩
  · exact .inl ⟨rfl, byKeyO_is hu hi ((key_cmp.zero _ _).1 hk)⟩
  · refine .inr ⟨rfl, ?_⟩
    unfold byKeyO
    rw [Option.map_eq_none_iff, List.find?_eq_none]
    intro i hi
    have := hn i (List.mem_range.1 hi)
    simp only [decide_eq_true_eq]
    exact fun e => this ((key_cmp.zero _ _).2 e)
theorem find_wf {hd names : List ByteArray} (h : ∀ s ∈ names, 0 ≤ findL hd s) (hl : hd.length ≤ 12) : ∀ c ∈ names.map (findL hd), (Lit.int .i64 c).wf = true := fun c hc => by
  obtain ⟨s, hs, rfl⟩ := List.mem_map.1 hc
  obtain ⟨k, e, hk⟩ := find_there hd s (h s hs)
  have := (List.getElem?_eq_some_iff.1 hk).1
  rw [e]
  exact Go.WalkArith.wf_i64 (by omega)
theorem byKeyK_le (ra rb : List (List ByteArray)) (ps qs : List Int) (n : Nat) : (byKeyK ra rb ps qs n).length ≤ n := by
  unfold byKeyK
  have := List.length_filterMap_le (byKeyO ra rb ps qs) (List.range n)
  rw [List.length_range] at this; exact this
end Go.Proofs.YtdenehnneloegaaGreatDoor
