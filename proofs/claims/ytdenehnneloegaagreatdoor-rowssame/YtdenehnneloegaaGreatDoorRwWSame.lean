/-
  The walk of the statement RowsSame.
  Conditions: what the code answers.
-/
import Derived.WalkKit
import Derived.WalkMore
import Derived.IntWalk
import Derived.Lib.Hide
import Derived.Deep.RegionHeld3
import Derived.Test.YtdenehnneloegaaGreatDoorProg
import Derived.Test.YtdenehnneloegaaGreatDoorPb39
namespace Go.Proofs.YtdenehnneloegaaGreatDoor
open Go.RowKit Go.Shelf
set_option linter.unusedVariables false
theorem alignR_diag (hd : List ByteArray) (rs : List (List ByteArray)) (h : hd.length ≤ 12) : okP (alignR hd rs hd rs true) ∧ (alignR hd rs hd rs true).length ≤ 12 := by
  by_cases h0 : checkI hd rs = 0
  · rw [alignR_self hd rs true h0]
    refine ⟨fun p hp => ?_, by rw [diag_len]; exact h⟩
    obtain ⟨i, hi, rfl⟩ := (diag_mem _ _).1 hp
    exact ⟨wf_small i (by omega), wf_small i (by omega)⟩
  · have e : alignR hd rs hd rs true = [] := by
      unfold alignR
      rw [if_neg (by rw [alignE_self]; exact h0)]
    rw [e]; exact ⟨(fun p hp => by cases hp), by simp⟩
theorem check_some {hd : List ByteArray} {rs : List (List ByteArray)} (h : checkI hd rs = 0) : hd.length ≠ 0 := by
  intro e
  unfold checkI at h
  rw [e] at h
  simp at h
set_option maxRecDepth 100000 in
set_option maxHeartbeats 4000000 in
theorem walkRowsSame_of (HAl : AlignOK) (HKe : ByKeyOK) (HLo : ByLookOK) (HRo : RowsOK) (ho : Option Addr) (hc : Nat) (hd : List ByteArray) (ro : Option Addr) (rc : Nat) (rs : List (List ByteArray)) (no : Option Addr) (nc : Nat) (names : List ByteArray) (w : World)
    (hA : StrArg w ho hc hd) (hB : RowsArg w ro rc rs) (hN : StrArg w no nc names) (hpow : Pow w) :
    Calls Tryz.prog 8 #[.agg #[.slice ho hd.length hc, .slice ro rs.length rc], .slice no names.length nc] w fun e w' => e = .returned (.bool true) ∧ Below w.heap.size w w' := by
  obtain ⟨W, HW⟩ : ∃ W, Hid (W = w.alloc (TabO ho hd.length hc ro rs.length rc)) := ⟨_, Lib.hid rfl⟩
  have box : Hid (BoxC w W ho hd.length hc ro rs.length rc) := Lib.hid (by rw [HW.out]; exact boxC _ _ _ _ _ _ _)
  have B0 := Lib.hid box.out.start
  have HA := Lib.hid HAl
  have HK := Lib.hid HKe
  have HL := Lib.hid HLo
  have HR := Lib.hid HRo
  have F1 := Lib.hid (fun V (h : Below w.heap.size w V) => few14_any hA hB hA hB V h)
  have T1 := Lib.hid (fun V h (k : Below w.heap.size w V) => (tabR_of hA hB hA hB h k).1)
  have N1 := Lib.hid (fun V h (k : Below w.heap.size w V) => namesIn_of hN h k)
  have HPw := Lib.hid (fun V (k : Below w.heap.size w V) => hpow.kept k)
  have hn1 : names.length ≤ 9223372036854775807 := by have := hN.len; unfold maxLen at this; omega
  clear hA hB hN hpow HAl HKe HLo HRo
  go_enter Tryz.func8, Tryz.ntmps8
  go_upto_region 1 with fail
  rw [show w.alloc (TabO ho hd.length hc ro rs.length rc) = W from HW.out.symm]
  go_wp2_with fail
  refine (rwworks_any HK.out HL.out HR.out _ (HPw.out W B0.out)).mono ?_; rintro e w1 ⟨rfl, b1⟩
  have B1 := Lib.hid b1
  have C1 := Lib.hid (F1.out w1 (below_up B0.out b1))
  obtain ⟨k0, k1⟩ := box.out.cell w1 b1
  clear b1 F1
  go_wp2_with fail
  refine C1.out.mono ?_; rintro e w2 ⟨b, rfl, hf, b2⟩
  have B2 := Lib.hid (below_up B1.out b2)
  have T1' := Lib.hid (fun h V (k : Below w.heap.size w V) => T1.out V (hf h) k)
  clear b2 k0 k1 C1 B1 T1 hf
  obtain ⟨k0, k1⟩ := box.out.cell w2 B2.out
  cases b with
  | false =>
    clear T1' N1
    go_wp2_with fail
    go_ret
    exact ⟨rfl, below_up B0.out B2.out⟩
  | true =>
    have T1 := Lib.hid (T1'.out rfl)
    clear T1'
    by_cases hn : names.length ≤ 8
    · have HT : Hid (∀ V, Below W.heap.size W V → TabR V ho hc hd ro rc rs) := Lib.hid (fun V h => T1.out V (below_up B0.out h))
      have HN : Hid (∀ V, Below W.heap.size W V → NamesIn V no nc names) := Lib.hid (fun V h => N1.out V hn (below_up B0.out h))
      have HPo : Hid (∀ V, Below W.heap.size W V → Pow V) := Lib.hid (fun V h => HPw.out V (below_up B0.out h))
      have e2 : decide ((8 : Int) < (names.length : Int)) = false := decide_eq_false (by omega)
      have h12 := (HT.out w2 B2.out).h12
      have hr25 := (HT.out w2 B2.out).r25
      have D1 := Lib.hid (HA.out ho hc hd ro rc rs ho hc hd ro rc rs true w2 (HT.out w2 B2.out).tab (HT.out w2 B2.out).tab)
      have D3 := Lib.hid (fun V (h : Below W.heap.size W V) => tcheck_in (HT.out V h).tab)
      obtain ⟨hok, hl12⟩ := alignR_diag hd rs h12
      have D2 := Lib.hid (fun lo lc V (h : Below W.heap.size W V) hp h1 h2 => HR.out ho hc hd ro rc rs ho hc hd ro rc rs lo lc (alignR hd rs hd rs true) no nc names V (HT.out V h) (HT.out V h) ⟨by omega, hok, hp, h1, h2⟩ (HN.out V h) (HPo.out V h))
      have hU := fun h => use_of (ha := hd) (ra := rs) (hb := hd) (rb := rs) (names := names) h
      have HS := Lib.hid (fun h0 => rows_self (u := useAB hd rs hd rs names) (hd := hd) (rs := rs) (names := names) hU h0 (by omega) (check_some h0))
      have HRq := Lib.hid (fun h0 => alignR_self hd rs true h0)
      have hE := alignE_self hd rs
      rw [hE] at D1
      clear T1 N1 HPw HT HN HPo hU hE hok hn
      generalize alignR hd rs hd rs true = L at D1 D2 HRq hl12
      generalize useAB hd rs hd rs names = U at D2 HS
      go_wp2_with fail
      refine D1.out.mono ?_; rintro e w3 ⟨lo, lc, rfl, p3, q3, r3, b3⟩
      have B3 := Lib.hid (below_up B2.out b3)
      have D2 := Lib.hid (D2.out lo lc w3 B3.out p3 r3 q3)
      clear k0 k1 b3 p3 q3 r3 D1 B2
      obtain ⟨k0, k1⟩ := box.out.cell w3 B3.out
      by_cases h0 : checkI hd rs = 0
      · obtain ⟨he, hx⟩ := HS.out h0
        rw [← HRq.out h0] at he hx
        rw [he, hx] at D2
        rw [h0]
        clear HS HRq D3 he hx
        obtain ⟨X, HX⟩ : ∃ X, Hid (X = diagL rs.length) := ⟨_, Lib.hid rfl⟩
        rw [← HX.out] at D2
        obtain ⟨n, Hn⟩ : ∃ n, Hid (n = rs.length) := ⟨_, Lib.hid rfl⟩
        have HXl : Hid (X.length = n) := Lib.hid (by rw [HX.out, diag_len, Hn.out])
        have HAt : Hid (∀ i : Nat, i < n → X[i]? = some ((i : Int), (i : Int))) := Lib.hid (fun i h => by rw [HX.out]; exact diag_at _ i (by rw [← Hn.out]; exact h))
        have hn25 : n ≤ 25 := by have := Hn.out; omega
        go_wp2_with fail
        refine D2.out.mono ?_; rintro e w4 ⟨xo, xc, rfl, p4, -, -, b4⟩
        have B4 := Lib.hid (below_up B3.out b4)
        have P4 := Lib.hid p4
        have hXl := HXl.out
        rw [hXl]
        clear b4 p4 D2 k0 k1 hXl HX h0
        obtain ⟨k0, k1⟩ := box.out.cell w4 B4.out
        go_wp2_with fail
        go_loopw [10] (fun u wr => ∃ c : Nat, c ≤ n ∧ u = .int .i64 c ∧ wr = w4) (fun u _ => n - (intOf u).toNat)
        case atStart => exact ⟨0, Nat.zero_le _, rfl, rfl⟩
        case round =>
          obtain ⟨c, hc5, rfl, rfl⟩ := hrel
          by_cases hlc : c < n
          · have hx := HAt.out c hlc
            rcases P4.out with hz | ⟨b, o, rfl, hA', hcell⟩
            · have := HXl.out; rw [hz] at this; simp at this; omega
            obtain ⟨hc1, hc3⟩ := hcell c _ hx
            dsimp only at hc1 hc3
            clear hcell hx
            go_wp2_with fail
            go_roundw
            case rel => exact ⟨c + 1, by omega, by go_num, by first | rfl | trivial⟩
            case measure => simp [intOf]; omega
          · obtain rfl : c = n := by omega
            have hb : ((c : Int) == (rs.length : Int)) = true := by rw [Hn.out]; simp
            go_wp2_with fail
            go_ret
            exact ⟨by simp, below_up B0.out B4.out⟩
      · generalize checkI hd rs = E at h0 D3
        have ee : (E != 0) = true := by simp [h0]
        clear HS HRq
        generalize rowsL U hd rs hd rs L names = X at D2
        generalize rowsE hd rs hd rs L = G at D2
        go_wp2_with fail
        refine D2.out.mono ?_; rintro e w4 ⟨xo, xc, rfl, -, -, -, b4⟩
        have B4 := Lib.hid (below_up B3.out b4)
        have D3 := Lib.hid (D3.out w4 B4.out)
        clear b4 D2 k0 k1
        obtain ⟨k0, k1⟩ := box.out.cell w4 B4.out
        go_wp2_with fail
        refine D3.out.mono ?_; rintro e w5 ⟨rfl, b5⟩
        have B5 := Lib.hid (below_up B4.out b5)
        clear b5 D3
        go_wp2_with fail
        go_ret
        exact ⟨by simp, below_up B0.out B5.out⟩
    · have e2 : decide ((8 : Int) < (names.length : Int)) = true := decide_eq_true (by omega)
      clear N1 T1
      go_wp2_with fail
      go_ret
      exact ⟨rfl, below_up B0.out B2.out⟩
end Go.Proofs.YtdenehnneloegaaGreatDoor
