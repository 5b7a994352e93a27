/-
  The walk of the statement ColsSame.
  Conditions: what the code answers.
-/
import Derived.WalkKit
import Derived.WalkMore
import Derived.IntWalk
import Derived.Lib.Hide
import Derived.Deep.RegionHeld3
import Derived.Test.YtigijgcldgbokaaGreatProg
import Derived.Test.YtigijgcldgbokaaGreatCFew
namespace Go.Proofs.YtigijgcldgbokaaGreat
open Go.RowKit Go.Shelf
set_option linter.unusedVariables false

set_option maxRecDepth 100000 in
set_option maxHeartbeats 4000000 in
theorem walkColsSame_of (HNa : NamedOK) (HAl : AlignOK) (ho : Option Addr) (hc : Nat) (hd : List ByteArray) (ro : Option Addr) (rc : Nat) (rs : List (List ByteArray)) (rename : Bool) (at_ : Int) (w : World)
    (hA : StrArg w ho hc hd) (hB : RowsArg w ro rc rs) (hat : (Lit.int .i64 at_).wf = true) :
    Calls Tryz.prog 5 #[.agg #[.slice ho hd.length hc, .slice ro rs.length rc], .bool rename, .int .i64 at_] w fun e w' => e = .returned (.bool true) ∧ Below w.heap.size w w' := by
  obtain ⟨W, HW⟩ : ∃ W, Hid (W = w.alloc (TabO ho hd.length hc ro rs.length rc)) := ⟨_, Lib.hid rfl⟩
  have box : Hid (BoxC w W ho hd.length hc ro rs.length rc) := Lib.hid (by rw [HW.out]; exact boxC _ _ _ _ _ _ _)
  have B0 := Lib.hid box.out.start
  have HN := Lib.hid HNa
  have HA := Lib.hid HAl
  have F1 := Lib.hid (fun V (h : Below w.heap.size w V) => few_in hA hB h)
  have T1 := Lib.hid (fun V h (k : Below w.heap.size w V) => tabIn_of hA hB h k)
  clear hA hB HNa HAl
  go_enter Tryz.func5, Tryz.ntmps5
  go_upto_region 1 with fail
  rw [show w.alloc (TabO ho hd.length hc ro rs.length rc) = W from HW.out.symm]
  go_wp2_with fail
  refine (cworks_any HN.out HA.out _).mono ?_; rintro e w1 ⟨rfl, b1⟩
  have B1 := Lib.hid b1
  have C1 := Lib.hid (F1.out w1 (below_up B0.out b1))
  obtain ⟨k0, k1⟩ := box.out.cell w1 b1
  clear b1 F1
  go_wp2_with fail
  refine C1.out.mono ?_; rintro e w2 ⟨b, rfl, hf, b2⟩
  have B2 := Lib.hid (below_up B1.out b2)
  have T1' := Lib.hid (fun h V (k : Below w.heap.size w V) => T1.out V (hf h) k)
  clear b2 k0 k1 C1 B1 T1 hf
  obtain ⟨k0, k1⟩ := box.out.cell w2 B2.out
  cases b with
  | false =>
    clear T1'
    go_wp2_with fail
    go_ret
    exact ⟨rfl, below_up B0.out B2.out⟩
  | true =>
    have T1 := Lib.hid (T1'.out rfl)
    have HT : Hid (∀ V, Below W.heap.size W V → TabIn V ho hc hd ro rc rs) := Lib.hid (fun V h => T1.out V (below_up B0.out h))
    have D1 := Lib.hid (HA.out ho hc hd ro rc rs ho hc hd ro rc rs rename w2 (HT.out w2 B2.out) (HT.out w2 B2.out))
    have D2 := Lib.hid (fun V (h : Below W.heap.size W V) => tcheck_in (HT.out V h))
    have hE := alignE_self hd rs
    have HR := Lib.hid (alignR_self hd rs rename)
    have HLe : Hid (hd.length ≤ 60) := Lib.hid (HT.out w2 B2.out).hl
    rw [hE] at D1
    clear T1' T1 HT hE
    generalize alignR hd rs hd rs rename = L at D1 HR
    generalize checkI hd rs = E at D1 D2 HR
    go_wp2_with fail
    refine D1.out.mono ?_; rintro e w3 ⟨lo, lc, rfl, p3, -, -, b3⟩
    have B3 := Lib.hid (below_up B2.out b3)
    have P3 := Lib.hid p3
    have D2 := Lib.hid (D2.out w3 B3.out)
    clear k0 k1 b3 p3 D1 B2
    obtain ⟨k0, k1⟩ := box.out.cell w3 B3.out
    by_cases h0 : E = 0
    · have HL := Lib.hid (HR.out h0)
      clear HR D2
      subst h0
      have HLn : Hid (L.length = hd.length) := Lib.hid (by rw [HL.out, diag_len])
      have HAt : Hid (∀ i : Nat, i < hd.length → L[i]? = some ((i : Int), (i : Int))) := Lib.hid (fun i h => by rw [HL.out]; exact diag_at _ i h)
      clear HL
      obtain ⟨n, hn⟩ : ∃ n, n = hd.length := ⟨_, rfl⟩
      have hLn := HLn.out
      rw [← hn] at hLn HAt HLe
      rw [hLn]
      have HLn := Lib.hid hLn
      have Hn := Lib.hid hn
      clear hLn hn
      go_wp2_with fail
      go_loopw [11] (fun u wr => ∃ k : Nat, k ≤ n ∧ u = .int .i64 k ∧ wr = w3) (fun u _ => n - (intOf u).toNat)
      case atStart => exact ⟨0, Nat.zero_le _, rfl, rfl⟩
      case round =>
        obtain ⟨k, hk, rfl, rfl⟩ := hrel
        have hk2 : k ≤ 60 := by have := HLe.out; omega
        by_cases hlt : k < n
        · have hx := HAt.out k hlt
          rcases P3.out with e0 | ⟨b, o, rfl, hA, hcell⟩
          · have := HLn.out; rw [e0] at this; simp at this; omega
          obtain ⟨c1, c2⟩ := hcell k _ hx
          dsimp only at c1 c2
          clear hcell hx
          go_wp2_with fail
          go_roundw
          case rel => exact ⟨k + 1, by omega, by go_num, by first | rfl | trivial⟩
          case measure => simp [intOf]; omega
        · obtain rfl : k = n := by omega
          have hb : ((k : Int) == (hd.length : Int)) = true := by rw [Hn.out]; simp
          go_wp2_with fail
          go_ret
          exact ⟨by simp, below_up B0.out B3.out⟩
    · have hb : (E != 0) = true := by simp [h0]
      have hb2 : (E == E) = true := by simp
      clear HR
      go_wp2_with fail
      refine D2.out.mono ?_; rintro e w4 ⟨rfl, b4⟩
      have B4 := Lib.hid (below_up B3.out b4)
      clear b4 D2 k0 k1
      go_wp2_with fail
      go_ret
      exact ⟨by simp, below_up B0.out B4.out⟩
end Go.Proofs.YtigijgcldgbokaaGreat
