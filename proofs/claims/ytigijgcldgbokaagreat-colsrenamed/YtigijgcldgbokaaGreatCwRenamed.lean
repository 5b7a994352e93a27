/-
  The walk of the statement ColsRenamed.
  Conditions: what the code answers.
-/
import Derived.WalkKit
import Derived.WalkMore
import Derived.IntWalk
import Derived.Lib.Hide
import Derived.Deep.RegionHeld3
import Derived.Test.YtigijgcldgbokaaGreatProg
import Derived.Test.YtigijgcldgbokaaGreatCMath3
namespace Go.Proofs.YtigijgcldgbokaaGreat
open Go.RowKit Go.Shelf
set_option linter.unusedVariables false

set_option maxRecDepth 100000 in
set_option maxHeartbeats 8000000 in
theorem walkColsRenamed_of (HNa : NamedOK) (HAl : AlignOK) (ho : Option Addr) (hc : Nat) (hd : List ByteArray) (ro : Option Addr) (rc : Nat) (rs : List (List ByteArray)) (at_ : Int) (name : ByteArray) (rename : Bool) (w : World)
    (hA : StrArg w ho hc hd) (hB : RowsArg w ro rc rs) (hat : (Lit.int .i64 at_).wf = true) (hnm : name.size ≤ 140737488351232) :
    Calls Tryz.prog 6 #[.agg #[.slice ho hd.length hc, .slice ro rs.length rc], .int .i64 at_, .string name, .bool rename] w fun e w' => e = .returned (.bool true) ∧ Below w.heap.size w w' := by
  obtain ⟨W, HW⟩ : ∃ W, Hid (W = w.alloc (TabO ho hd.length hc ro rs.length rc)) := ⟨_, Lib.hid rfl⟩
  have box : Hid (BoxC w W ho hd.length hc ro rs.length rc) := Lib.hid (by rw [HW.out]; exact boxC _ _ _ _ _ _ _)
  have B0 := Lib.hid box.out.start
  have HN := Lib.hid HNa
  have HA := Lib.hid HAl
  have F1 := Lib.hid (fun V (h : Below w.heap.size w V) => few_in hA hB h)
  have T1 := Lib.hid (fun V h (k : Below w.heap.size w V) => tabIn_of hA hB h k)
  have E1 : Hid (∀ V, fewT hd rs → name.size ≤ 500 → Below w.heap.size w V → Calls Tryz.prog 18 #[.agg #[.slice ho hd.length hc, .slice ro rs.length rc], .int .i64 at_, .string name] V (TabOut (turnR (fun xs => setL xs at_ name) (fun rs => .ok rs) hd rs) V)) := Lib.hid (fun V h h5 k => eRenameCol ho ro hd rs hA.cpC hB.cpC at_ name V (few_tiC h) (hA.row.kept k) (hB.rows.kept k) (by omega))
  clear hA hB HNa HAl
  go_enter Tryz.func6, Tryz.ntmps6
  go_upto_region 1 with fail
  rw [show w.alloc (TabO ho hd.length hc ro rs.length rc) = W from HW.out.symm]
  go_wp2_with fail
  refine (cworks_any HN.out HA.out _).mono ?_; rintro e w1 ⟨rfl, b1⟩
  have B1 := Lib.hid b1
  have C1 := Lib.hid (F1.out w1 (below_up B0.out b1))
  obtain ⟨k0, k1⟩ := box.out.cell w1 b1
  clear b1 F1
  go_wp2_with fail
  refine C1.out.mono ?_; rintro e w2 ⟨b, rfl, hf, b2⟩
  have B2 := Lib.hid (below_up B1.out b2)
  have HF := Lib.hid hf
  clear b2 k0 k1 C1 B1 hf
  obtain ⟨k0, k1⟩ := box.out.cell w2 B2.out
  cases b with
  | false =>
    clear HF
    go_wp2_with fail
    go_ret
    exact ⟨rfl, below_up B0.out B2.out⟩
  | true =>
    have HFe := Lib.hid (HF.out rfl)
    clear HF
    by_cases h5 : name.size ≤ 500
    · have d5 : decide (500 < (name.size : Int)) = false := decide_eq_false (by omega)
      have D1 := Lib.hid (E1.out w2 HFe.out h5 (below_up B0.out B2.out))
      have HT : Hid (∀ V, Below W.heap.size W V → TabIn V ho hc hd ro rc rs) := Lib.hid (fun V h => T1.out V HFe.out (below_up B0.out h))
      have HLe : Hid (hd.length ≤ 60) := Lib.hid (HT.out w2 B2.out).hl
      clear E1 T1
      generalize hX : turnR (fun xs => setL xs at_ name) (fun rs => .ok rs) hd rs = X at D1
      have HX := Lib.hid hX
      clear hX
      go_wp2_with fail
      cases X with
      | error x =>
        refine D1.out.mono ?_; rintro e w3 ⟨qo, qc, so, sc, rfl, b3⟩
        have hx := rename_err HX.out
        have hb : (x != 0) = true := by simp [hx]
        have B3 := Lib.hid (below_up B2.out b3)
        clear HX hx b3 D1 k0 k1
        go_wp2_with fail
        go_ret
        exact ⟨rfl, below_up B0.out (B3.out.alloc B3.out.size _)⟩
      | ok t =>
        obtain ⟨h, r⟩ := t
        refine D1.out.mono ?_; rintro e w3 ⟨qo, qc, so, sc, rfl, s1, s2, b3, -⟩
        obtain ⟨rfl, h0, h1, hlen, i, s, rfl, hi, hh⟩ := rename_facts HX.out
        obtain ⟨a1, a2, a3, a4⟩ := rename_align hi h0 (by rw [← hh]; exact h1) rename
        rw [← hh] at a1 a2 a3 a4
        have hT2 := tabIn_check qc sc h1 s1 s2
        have B3 := Lib.hid (below_up B2.out b3)
        obtain ⟨U, HU⟩ : ∃ U, Hid (U = w3.alloc (TabO qo h.length qc.1 so r.length sc.1)) := ⟨_, Lib.hid rfl⟩
        have hbU : Below w3.heap.size w3 U := by rw [HU.out]; exact one_below _ _
        have hU0 : U.heap[w3.heap.size]? = some (TabO qo h.length qc.1 so r.length sc.1) := by rw [HU.out]; exact World.alloc_heap_new _ _
        have B4 := Lib.hid (below_up B3.out hbU)
        have D2 := Lib.hid (HA.out ho hc hd ro rc r qo qc.1 h so sc.1 r rename U (HT.out U B4.out) (hT2.kept hbU))
        rw [a1] at D2
        have HK := Lib.hid hi
        have R1 := Lib.hid a2
        have R2 := Lib.hid a3
        have R3 := Lib.hid a4
        have Rows : Hid (StrRow U ho hd) := Lib.hid (HT.out U B4.out).row
        obtain ⟨qcv, hqc⟩ : ∃ v, v = qc.1 := ⟨_, rfl⟩
        obtain ⟨scv, hsc⟩ : ∃ v, v = sc.1 := ⟨_, rfl⟩
        rw [← hqc, ← hsc] at HU hU0 D2 ⊢
        obtain ⟨n0, n1⟩ := tabs hU0
        clear hqc hsc qc sc s1 s2 b3 D1 h0 h1 hi hh a1 a2 a3 a4 hT2 HX k0 k1 HT HN HA hbU hU0 hlen
        obtain ⟨k0, k1⟩ := box.out.cell U B4.out
        generalize alignR hd r h r rename = L at D2 R1 R2 R3
        go_upto_region 8 with fail
        rw [show w3.alloc (Obj.cells #[Value.slice qo h.length qcv, Value.slice so r.length scv] 25) = U from HU.out.symm]
        go_wp2_with fail
        refine D2.out.mono ?_; rintro e w5 ⟨lo, lc, rfl, p5, -, -, b5⟩
        have B5 := Lib.hid (below_up B4.out b5)
        have P5 := Lib.hid p5
        have Rows := Lib.hid (Rows.out.kept b5)
        clear b5 p5 D2 k0 k1 n0 n1 B4
        obtain ⟨k0, k1⟩ := box.out.cell w5 B5.out
        rcases Rows.out with e0 | ⟨A, rfl, hA, hcell⟩
        · have := HK.out; rw [e0] at this; cases this
        have hs := hcell i s HK.out
        have hil : i < hd.length := (List.getElem?_eq_some_iff.1 HK.out).1
        have hbe := strb_eq s name
        clear hcell hA Rows
        have hdec : s = name ∨ s ≠ name := Classical.em _
        cases rename with
        | true =>
          by_cases hr : 0 < r.length
          · have hdr : decide (0 < (r.length : Int)) = true := decide_eq_true (by omega)
            have hD := R2.out rfl hr
            clear hdec hbe hs
            have HAt : Hid (∀ i : Nat, i < hd.length → L[i]? = some ((i : Int), (i : Int))) := Lib.hid (fun i h => by rw [hD]; exact diag_at _ i h)
            have hLn : L.length = hd.length := by rw [hD, diag_len]
            obtain ⟨n, hn⟩ : ∃ n, n = hd.length := ⟨_, rfl⟩
            rw [← hn] at hLn HAt HLe
            rw [hLn]
            have HLn := Lib.hid hLn
            have Hn := Lib.hid hn
            clear hLn hn R1 R2 R3
            go_wp2_with fail
            go_loopw [15] (fun u wr => ∃ k : Nat, k ≤ n ∧ u = .int .i64 k ∧ wr = w5) (fun u _ => n - (intOf u).toNat)
            case atStart => exact ⟨0, Nat.zero_le _, rfl, rfl⟩
            case round =>
              obtain ⟨k, hk, rfl, rfl⟩ := hrel
              have hk2 : k ≤ 60 := by have := HLe.out; omega
              by_cases hlt : k < n
              · have hx := HAt.out k hlt
                rcases P5.out with e0 | ⟨b, o, rfl, hA, hcell⟩
                · have := HLn.out; rw [e0] at this; simp at this; omega
                obtain ⟨c1, c2⟩ := hcell k _ hx
                dsimp only at c1 c2
                clear hcell hx
                go_wp2_with fail
                go_roundw
                case rel => exact ⟨k + 1, by omega, by go_num, by first | rfl | trivial⟩
                case measure => simp [intOf]; omega
              · obtain rfl : k = n := by omega
                have hb : ((k : Int) == (hd.length : Int)) = true := by rw [Hn.out]; simp
                go_wp2_with fail
                go_ret
                exact ⟨by simp, below_up B0.out B5.out⟩
          · have hdr : decide (0 < (r.length : Int)) = false := decide_eq_false (by omega)
            have hr0 : r.length = 0 := by omega
            rcases hdec with he | he
            · have hD := R1.out he
              rw [decide_eq_true (congrArg (fun c => c.data.toList) he)] at hbe
              clear he
              have HAt : Hid (∀ i : Nat, i < hd.length → L[i]? = some ((i : Int), (i : Int))) := Lib.hid (fun i h => by rw [hD]; exact diag_at _ i h)
              have hLn : L.length = hd.length := by rw [hD, diag_len]
              obtain ⟨n, hn⟩ : ∃ n, n = hd.length := ⟨_, rfl⟩
              rw [← hn] at hLn HAt HLe
              rw [hLn]
              have HLn := Lib.hid hLn
              have Hn := Lib.hid hn
              clear hLn hn R1 R2 R3
              go_wp2_with fail
              go_loopw [15] (fun u wr => ∃ k : Nat, k ≤ n ∧ u = .int .i64 k ∧ wr = w5) (fun u _ => n - (intOf u).toNat)
              case atStart => exact ⟨0, Nat.zero_le _, rfl, rfl⟩
              case round =>
                obtain ⟨k, hk, rfl, rfl⟩ := hrel
                have hk2 : k ≤ 60 := by have := HLe.out; omega
                by_cases hlt : k < n
                · have hx := HAt.out k hlt
                  rcases P5.out with e0 | ⟨b, o, rfl, hA, hcell⟩
                  · have := HLn.out; rw [e0] at this; simp at this; omega
                  obtain ⟨c1, c2⟩ := hcell k _ hx
                  dsimp only at c1 c2
                  clear hcell hx
                  go_wp2_with fail
                  go_roundw
                  case rel => exact ⟨k + 1, by omega, by go_num, by first | rfl | trivial⟩
                  case measure => simp [intOf]; omega
                · obtain rfl : k = n := by omega
                  have hb : ((k : Int) == (hd.length : Int)) = true := by rw [Hn.out]; simp
                  go_wp2_with fail
                  go_ret
                  exact ⟨by simp, below_up B0.out B5.out⟩
            · rw [decide_eq_false (fun h => he (ba_eq h))] at hbe
              have hLn := R3.out he (.inr hr0)
              have HLp : Hid (0 < hd.length) := Lib.hid (by have := (List.getElem?_eq_some_iff.1 HK.out).1; omega)
              have hw1 : IntKind.i64.wrap ((hd.length : Int) - 1) = (hd.length : Int) - 1 := IntWalk.i64_in _ (by have := HLe.out; omega)
              rw [hLn]
              have hb : (((hd.length - 1 : Nat) : Int) == ((hd.length : Int) - 1)) = true := by have := HLp.out; rw [beq_iff_eq]; omega
              clear hLn R1 R2 R3
              go_wp2_with fail
              go_ret
              exact ⟨by simp, below_up B0.out B5.out⟩
        | false =>
          rcases hdec with he | he
          · have hD := R1.out he
            rw [decide_eq_true (congrArg (fun c => c.data.toList) he)] at hbe
            clear he
            have HAt : Hid (∀ i : Nat, i < hd.length → L[i]? = some ((i : Int), (i : Int))) := Lib.hid (fun i h => by rw [hD]; exact diag_at _ i h)
            have hLn : L.length = hd.length := by rw [hD, diag_len]
            obtain ⟨n, hn⟩ : ∃ n, n = hd.length := ⟨_, rfl⟩
            rw [← hn] at hLn HAt HLe
            rw [hLn]
            have HLn := Lib.hid hLn
            have Hn := Lib.hid hn
            clear hLn hn R1 R2 R3
            go_wp2_with fail
            go_loopw [15] (fun u wr => ∃ k : Nat, k ≤ n ∧ u = .int .i64 k ∧ wr = w5) (fun u _ => n - (intOf u).toNat)
            case atStart => exact ⟨0, Nat.zero_le _, rfl, rfl⟩
            case round =>
              obtain ⟨k, hk, rfl, rfl⟩ := hrel
              have hk2 : k ≤ 60 := by have := HLe.out; omega
              by_cases hlt : k < n
              · have hx := HAt.out k hlt
                rcases P5.out with e0 | ⟨b, o, rfl, hA, hcell⟩
                · have := HLn.out; rw [e0] at this; simp at this; omega
                obtain ⟨c1, c2⟩ := hcell k _ hx
                dsimp only at c1 c2
                clear hcell hx
                go_wp2_with fail
                go_roundw
                case rel => exact ⟨k + 1, by omega, by go_num, by first | rfl | trivial⟩
                case measure => simp [intOf]; omega
              · obtain rfl : k = n := by omega
                have hb : ((k : Int) == (hd.length : Int)) = true := by rw [Hn.out]; simp
                go_wp2_with fail
                go_ret
                exact ⟨by simp, below_up B0.out B5.out⟩
          · rw [decide_eq_false (fun h => he (ba_eq h))] at hbe
            have hLn := R3.out he (.inl rfl)
            have HLp : Hid (0 < hd.length) := Lib.hid (by have := (List.getElem?_eq_some_iff.1 HK.out).1; omega)
            have hw1 : IntKind.i64.wrap ((hd.length : Int) - 1) = (hd.length : Int) - 1 := IntWalk.i64_in _ (by have := HLe.out; omega)
            rw [hLn]
            have hb : (((hd.length - 1 : Nat) : Int) == ((hd.length : Int) - 1)) = true := by have := HLp.out; rw [beq_iff_eq]; omega
            clear hLn R1 R2 R3
            go_wp2_with fail
            go_ret
            exact ⟨by simp, below_up B0.out B5.out⟩
    · have d5 : decide (500 < (name.size : Int)) = true := decide_eq_true (by omega)
      clear HFe E1 T1
      go_wp2_with fail
      go_ret
      exact ⟨rfl, below_up B0.out B2.out⟩
end Go.Proofs.YtigijgcldgbokaaGreat
