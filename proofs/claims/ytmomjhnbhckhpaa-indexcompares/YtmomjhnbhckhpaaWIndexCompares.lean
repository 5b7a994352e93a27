/-
  The walk of the statement IndexCompares.
  Conditions: none.
-/
import Derived.WalkKit
import Derived.WalkMore
import Derived.IntWalk
import Derived.Lib.Hide
import Derived.Test.YtmomjhnbhckhpaaProg
import Derived.Test.YtmomjhnbhckhpaaIOpen
import Derived.Test.YtmomjhnbhckhpaaTOpen
import Derived.Test.YtmomjhnbhckhpaaIWorks
import Derived.Test.YtmomjhnbhckhpaaIRef
namespace Go.Proofs.Ytmomjhnbhckhpaa
open Go.RowKit Go.Shelf
set_option linter.unusedVariables false

theorem bytes_injI {xs ys : List ByteArray} (h : bytesOf xs = bytesOf ys) : xs = ys := by
  unfold bytesOf at h
  exact List.map_inj_right (fun a b e => ba_eq e) |>.1 h
theorem same_key (xs ys : List ByteArray) : sameRow xs ys = decide (keyC xs ys = 0) := by
  rw [Bool.eq_iff_iff, sameRow_iff, decide_eq_true_iff, key_cmp.zero]
  exact ⟨bytes_injI, fun e => by rw [e]⟩

set_option maxRecDepth 100000 in
set_option maxHeartbeats 2000000 in
theorem walkIndexCompares (ao : Option Addr) (ca : Nat) (as' : List ByteArray) (bo : Option Addr) (cb : Nat) (bs' : List ByteArray) (co : Option Addr) (cc : Nat) (cs' : List ByteArray) (w : World)
    (hA : StrArg w ao ca as') (hB : StrArg w bo cb bs') (hC : StrArg w co cc cs') :
    Calls Try.prog 6 #[.slice ao as'.length ca, .slice bo bs'.length cb, .slice co cs'.length cc] w fun e w' => e = .returned (.bool true) ∧ Below w.heap.size w w' := by
  have HA := Lib.hid hA
  have HB := Lib.hid hB
  have HC := Lib.hid hC
  have al := hA.len
  have bl := hB.len
  have cl := hC.len
  unfold maxLen at al bl cl
  clear hA hB hC
  go_enter Try.func6, Try.ntmps6
  go_wp2_with fail
  refine (iworks_any _).mono ?_; rintro e w1 ⟨rfl, b1⟩
  have B1 := Lib.hid b1
  clear b1
  by_cases ga : as'.length ≤ 60
  · have ea : decide ((60 : Int) < (as'.length : Int)) = false := decide_eq_false (by omega)
    by_cases gb : bs'.length ≤ 60
    · have eb : decide ((60 : Int) < (bs'.length : Int)) = false := decide_eq_false (by omega)
      by_cases gc : cs'.length ≤ 60
      · have ec : decide ((60 : Int) < (cs'.length : Int)) = false := decide_eq_false (by omega)
        have Kab := Lib.hid (fun V (h : Below w.heap.size w V) => compareK_any ao bo ca cb as' bs' V (by omega) (by omega) (HA.out.row.kept h) (HB.out.row.kept h))
        have Kba := Lib.hid (fun V (h : Below w.heap.size w V) => compareK_any bo ao cb ca bs' as' V (by omega) (by omega) (HB.out.row.kept h) (HA.out.row.kept h))
        have Kbc := Lib.hid (fun V (h : Below w.heap.size w V) => compareK_any bo co cb cc bs' cs' V (by omega) (by omega) (HB.out.row.kept h) (HC.out.row.kept h))
        have Kac := Lib.hid (fun V (h : Below w.heap.size w V) => compareK_any ao co ca cc as' cs' V (by omega) (by omega) (HA.out.row.kept h) (HC.out.row.kept h))
        have Rab := Lib.hid (fun V (h : Below w.heap.size w V) => rcmp_any ao bo ca cb as' bs' V (by omega) (by omega) (HA.out.row.kept h) (HB.out.row.kept h))
        have Sab := Lib.hid (fun V (h : Below w.heap.size w V) => rrow_any ao bo ca cb as' bs' V (by omega) (HA.out.row.kept h) (HB.out.row.kept h))
        rw [same_key] at Sab
        rw [key_cmp.anti as' bs'] at Kba
        have hu := key_cmp.unit as' bs'
        have ht := key_cmp.trans as' bs' cs'
        obtain ⟨na, hna⟩ : ∃ n, n = as'.length := ⟨_, rfl⟩
        obtain ⟨nb, hnb⟩ : ∃ n, n = bs'.length := ⟨_, rfl⟩
        obtain ⟨nc, hnc⟩ : ∃ n, n = cs'.length := ⟨_, rfl⟩
        rw [← hna, ← hnb] at Kab Rab Sab
        rw [← hnb, ← hna] at Kba
        rw [← hnb, ← hnc] at Kbc
        rw [← hna, ← hnc] at Kac
        rw [← hna] at ea ⊢
        rw [← hnb] at eb ⊢
        rw [← hnc] at ec ⊢
        generalize keyC as' bs' = x at Kab Kba Rab Sab hu ht
        generalize keyC bs' cs' = y at Kbc ht
        generalize keyC as' cs' = z at Kac ht
        clear hna hnb hnc ga gb gc al bl cl
        have e1 : (x != x) = false := by simp
        have e2 : IntKind.i64.wrap (-x) = -x := IntWalk.i64_in _ (by omega)
        have e3 : (-x != -x) = false := by simp
        have e4 : ((x == 0) == decide (x = 0)) = true := by by_cases h : x = 0 <;> simp [h]
        have D1 := Lib.hid (Kab.out w1 B1.out)
        clear hu
        go_wp2_with fail
        refine D1.out.mono ?_; rintro e w2 ⟨rfl, b2⟩
        have B2 := Lib.hid (below_up B1.out b2)
        have D2 := Lib.hid (Kbc.out w2 B2.out)
        clear b2 D1
        go_wp2_with fail
        refine D2.out.mono ?_; rintro e w3 ⟨rfl, b3⟩
        have B3 := Lib.hid (below_up B2.out b3)
        have D3 := Lib.hid (Kac.out w3 B3.out)
        clear b3 D2
        go_wp2_with fail
        refine D3.out.mono ?_; rintro e w4 ⟨rfl, b4⟩
        have B4 := Lib.hid (below_up B3.out b4)
        have D4 := Lib.hid (Rab.out w4 B4.out)
        clear b4 D3
        go_wp2_with fail
        refine D4.out.mono ?_; rintro e w5 ⟨rfl, b5⟩
        have B5 := Lib.hid (below_up B4.out b5)
        have D5 := Lib.hid (Kba.out w5 B5.out)
        clear b5 D4
        go_wp2_with fail
        refine D5.out.mono ?_; rintro e w6 ⟨rfl, b6⟩
        have B6 := Lib.hid (below_up B5.out b6)
        have D6 := Lib.hid (Sab.out w6 B6.out)
        clear b6 D5
        go_wp2_with fail
        refine D6.out.mono ?_; rintro e w7 ⟨rfl, b7⟩
        have B7 := Lib.hid (below_up B6.out b7)
        clear b7 D6
        generalize decide (x = 0) = same at e4
        by_cases hx : 0 < x
        · have f1 : decide (0 < x) = true := decide_eq_true hx
          clear ht
          go_wp2_with fail
          go_ret
          exact ⟨rfl, B7.out⟩
        · have f1 : decide (0 < x) = false := decide_eq_false hx
          by_cases hy : 0 < y
          · have f2 : decide (0 < y) = true := decide_eq_true hy
            clear ht
            go_wp2_with fail
            go_ret
            exact ⟨rfl, B7.out⟩
          · have f2 : decide (0 < y) = false := decide_eq_false hy
            have f3 : decide (z ≤ 0) = true := decide_eq_true (ht (by omega) (by omega))
            clear ht
            go_wp2_with fail
            go_ret
            exact ⟨rfl, B7.out⟩
      · have ec : decide ((60 : Int) < (cs'.length : Int)) = true := decide_eq_true (by omega)
        go_wp2_with fail
        go_ret
        exact ⟨rfl, B1.out⟩
    · have eb : decide ((60 : Int) < (bs'.length : Int)) = true := decide_eq_true (by omega)
      go_wp2_with fail
      go_ret
      exact ⟨rfl, B1.out⟩
  · have ea : decide ((60 : Int) < (as'.length : Int)) = true := decide_eq_true (by omega)
    go_wp2_with fail
    go_ret
    exact ⟨rfl, B1.out⟩
end Go.Proofs.Ytmomjhnbhckhpaa
