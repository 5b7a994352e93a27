/-
  Whether records are few and short, where each cell has fewer than 2^47 bytes.
  Conditions: slices and texts are Go values of the form of claims.
-/
import Derived.WalkKit
import Derived.WalkMore
import Derived.Lib.Hide
import Derived.Test.YtigijgcldgbokaaGreatProg
import Derived.Test.YtigijgcldgbokaaGreatPkA
namespace Go.Proofs.YtigijgcldgbokaaGreat
open Go.RowKit Go.Shelf

set_option maxRecDepth 100000 in
set_option maxHeartbeats 4000000 in
theorem fewReach_any (ao : Option Addr) (cap : Nat) (rs : List (List ByteArray)) (w : World) (hn : rs.length ≤ maxLen) (hx : ∀ r ∈ rs, r.length ≤ maxLen ∧ ∀ c ∈ r, c.size ≤ 140737488351232) (hR : RowsAt w ao rs) :
    Calls Tryz.prog 20 #[.slice ao rs.length cap] w fun e w' => ∃ b, e = .returned (.bool b) ∧ (b = true → fewP rs) ∧ w = w' := by
  have HX := Lib.hid hx
  have HRo := Lib.hid hR
  unfold maxLen at hn
  clear hx hR
  by_cases h60 : rs.length ≤ 60
  · go_enter Tryz.func20, Tryz.ntmps20
    go_wp2_with fail
    go_loopw [3, 4] (fun p i wr => ∃ (k : Nat) (n : Int), k ≤ rs.length ∧ p = .int .i64 n ∧ i = .int .i64 k ∧ wr = w ∧ Hid (n = (tot (rs.take k) : Int) ∧ n ≤ 8000) ∧ Hid (∀ (j : Nat) r, j < k → rs[j]? = some r → r.length ≤ 60)) (fun _ i _ => rs.length - (intOf i).toNat)
    case atStart => exact ⟨0, 0, Nat.zero_le _, rfl, rfl, rfl, Lib.hid ⟨rfl, by decide⟩, Lib.hid (fun j r h _ => by omega)⟩
    case round =>
      obtain ⟨k, n, hk, rfl, rfl, hww, HT, HA⟩ := hrel
      subst hww
      by_cases hlt : k < rs.length
      · obtain ⟨r, hr⟩ : ∃ r, rs[k]? = some r := ⟨_, List.getElem?_eq_getElem hlt⟩
        have HN := Lib.hid (tot_next rs k r hr)
        have HXr := HX.out r (List.mem_of_getElem? hr)
        have hrl := HXr.1
        unfold maxLen at hrl
        have HC := Lib.hid HXr.2
        have Hr := Lib.hid hr
        rcases HRo.out with h0 | ⟨A, rfl, hA, hcell⟩
        · rw [h0] at hlt; simp at hlt
        obtain ⟨ro, rc, hc, hs⟩ := hcell k r hr
        have HSr := Lib.hid hs
        clear hcell hs hr HXr
        by_cases hr60 : r.length ≤ 60
        · have HA' : Hid (∀ (j : Nat) x, j < k + 1 → rs[j]? = some x → x.length ≤ 60) := Lib.hid (fun j x hj hx' => by
            by_cases e : j = k
            · subst e; rw [Hr.out] at hx'; cases hx'; exact hr60
            · exact HA.out j x (by omega) hx')
          go_wp2_with fail
          obtain ⟨wo, rfl⟩ : ∃ wo : World, wo = wr := ⟨_, rfl⟩
          go_loopw [3, 5] (fun p i wi => ∃ (j : Nat) (m : Int), j ≤ r.length ∧ p = .int .i64 m ∧ i = .int .i64 j ∧ wi = wo ∧ Hid (m = ((tot (rs.take k) + rowTot (r.take j) : Nat) : Int) ∧ m ≤ 8000)) (fun _ i _ => r.length - (intOf i).toNat)
          case atStart => exact ⟨0, n, Nat.zero_le _, rfl, rfl, rfl, Lib.hid ⟨by rw [HT.out.1]; simp [rowTot], HT.out.2⟩⟩
          case round =>
            obtain ⟨j, m, hj, rfl, rfl, hwi, HM⟩ := hrel
            subst hwi
            by_cases hjl : j < r.length
            · obtain ⟨x, hx⟩ : ∃ x, r[j]? = some x := ⟨_, List.getElem?_eq_getElem hjl⟩
              have HJ := Lib.hid (rowTot_next r j x hx)
              have hxs := HC.out x (List.mem_of_getElem? hx)
              rcases HSr.out with h0 | ⟨D, rfl, hD, hcell⟩
              · rw [h0] at hjl; simp at hjl
              have hcx := hcell j x hx
              clear hcell hx
              obtain ⟨m', hm', rfl⟩ : ∃ m' : Nat, m' ≤ 8000 ∧ m = (m' : Int) := ⟨_, by have := HM.out.2; have := HM.out.1; omega, HM.out.1⟩
              by_cases h8 : m' + x.size + 1 ≤ 8000
              · have HM' : Hid (((m' + x.size + 1 : Nat) : Int) = ((tot (rs.take k) + rowTot (r.take (j + 1)) : Nat) : Int) ∧ ((m' + x.size + 1 : Nat) : Int) ≤ 8000) := Lib.hid ⟨by have := HM.out.1; rw [HJ.out]; omega, by omega⟩
                go_wp2_with fail
                go_roundw
                case rel => exact ⟨j + 1, ((m' + x.size + 1 : Nat) : Int), by omega, by go_num, by go_num, by first | rfl | trivial, HM'⟩
                case measure => simp [intOf]; omega
              · go_wp2_with fail
                go_ret
                exact ⟨false, rfl, (fun h => by cases h), rfl⟩
            · obtain rfl : j = r.length := by omega
              have HM' : Hid (m = (tot (rs.take (k + 1)) : Int) ∧ m ≤ 8000) := Lib.hid ⟨by rw [HN.out, HM.out.1, List.take_length], HM.out.2⟩
              go_wp2_with fail
              go_roundw
              case rel => exact ⟨k + 1, m, by omega, rfl, by go_num, by first | rfl | trivial, HM', HA'⟩
              case measure => simp [intOf]; omega
        · go_wp2_with fail
          go_ret
          exact ⟨false, rfl, (fun h => by cases h), rfl⟩
      · obtain rfl : k = rs.length := by omega
        have F : Hid (fewP rs) := Lib.hid ⟨h60, fun r hr => by
          obtain ⟨i, hi, rfl⟩ := List.getElem_of_mem hr
          exact HA.out i _ hi (List.getElem?_eq_getElem hi), by have h1 := HT.out; rw [List.take_length] at h1; omega⟩
        go_wp2_with fail
        go_ret
        exact ⟨true, rfl, fun _ => F.out, rfl⟩
  · go_enter Tryz.func20, Tryz.ntmps20
    go_wp2_with fail
    go_ret
    exact ⟨false, rfl, (fun h => by cases h), rfl⟩
end Go.Proofs.YtigijgcldgbokaaGreat
