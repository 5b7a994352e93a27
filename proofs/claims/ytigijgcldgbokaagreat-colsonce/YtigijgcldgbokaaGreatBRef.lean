/-
  How often a text is in a list, and how much two have in common: the document's answers.
  Conditions: lists of at most 2^20 Go strings.
-/
import Derived.BigQuiet
import Derived.Deep.QuietTactic
import Derived.Test.YtigijgcldgbokaaGreatProg
import Derived.Test.YtigijgcldgbokaaGreatBSame
namespace Go.Proofs.YtigijgcldgbokaaGreat
open Go.RowKit Go.Shelf Go.Maps
set_option linter.unusedVariables false

theorem cnt_next (xs : List ByteArray) (k : Nat) (x : ByteArray) (l : Txt) (hx : xs[k]? = some x) : cntN l (bytesOf (xs.take (k + 1))) = cntN l (bytesOf (xs.take k)) + if x.data.toList = l then 1 else 0 := by
  obtain ⟨hk, e⟩ := List.getElem?_eq_some_iff.1 hx
  rw [List.take_succ_eq_append_getElem hk, e]
  simp only [bytesOf, List.map_append, List.map_cons, List.map_nil, cnt_append, cntN]; omega

set_option maxRecDepth 100000 in
set_option maxHeartbeats 2000000 in
theorem rcnt_any (ao : Option Addr) (cap : Nat) (xs : List ByteArray) (s : ByteArray) (w : World) (hn : xs.length ≤ 1048576) (hR : StrRow w ao xs) :
    Calls Tryz.prog 96 #[.slice ao xs.length cap, .string s] w fun e w' => e = .returned (.int .i64 ((cntN s.data.toList (bytesOf xs) : Nat) : Int)) ∧ w' = w := by
  have HR := Lib.hid hR
  have HN := Lib.hid (fun k x hx => cnt_next xs k x s.data.toList hx)
  have HF : Hid (cntN s.data.toList (bytesOf xs) = cntN s.data.toList (bytesOf (xs.take xs.length))) := Lib.hid (by rw [List.take_length])
  have HLe := Lib.hid (fun k => cnt_le s.data.toList (bytesOf (xs.take k)))
  clear hR
  go_enter Tryz.func96, Tryz.ntmps96
  go_wp2_with fail
  go_loopw [5, 6] (fun n i wr => ∃ k : Nat, k ≤ xs.length ∧ i = .int .i64 k ∧ n = .int .i64 ((cntN s.data.toList (bytesOf (xs.take k)) : Nat) : Int) ∧ wr = w) (fun _ i _ => xs.length - (intOf i).toNat)
  case atStart => exact ⟨0, Nat.zero_le _, rfl, by simp [bytesOf, cntN], rfl⟩
  case round =>
    obtain ⟨k, hk, rfl, rfl, rfl⟩ := hrel
    obtain ⟨wo, hwo⟩ : ∃ wo : World, wo = wr := ⟨_, rfl⟩
    by_cases hlt : k < xs.length
    · obtain ⟨x, hx⟩ : ∃ x, xs[k]? = some x := ⟨_, List.getElem?_eq_getElem hlt⟩
      have hnx := HN.out k x hx
      have hle := HLe.out k
      rw [bytes_len, List.length_take] at hle
      rcases HR.out with h0 | ⟨A, rfl, hA, hcell⟩
      · rw [h0] at hlt; simp at hlt
      have hc := hcell k x hx
      have hbe := strb_eq x s
      obtain ⟨c, hcc⟩ : ∃ c, c = cntN s.data.toList (bytesOf (xs.take k)) := ⟨_, rfl⟩
      rw [← hcc] at hnx hle ⊢
      by_cases he : x.data.toList = s.data.toList
      · rw [decide_eq_true he] at hbe
        rw [if_pos he] at hnx
        have HNx := Lib.hid hnx
        have hwr : IntKind.i64.wrap ((c : Int) + 1) = (c : Int) + 1 := IntWalk.i64_in _ (by omega)
        clear hcell hx he hcc hnx hwo
        go_wp2_with fail
        go_roundw
        case rel => exact ⟨k + 1, by omega, by go_num, by rw [HNx.out]; simp, by first | rfl | trivial⟩
        case measure => simp [intOf]; omega
      · rw [decide_eq_false he] at hbe
        rw [if_neg he] at hnx
        have HNx := Lib.hid hnx
        clear hcell hx he hcc hnx hwo
        go_wp2_with fail
        go_roundw
        case rel => exact ⟨k + 1, by omega, by go_num, by rw [HNx.out]; simp, by first | rfl | trivial⟩
        case measure => simp [intOf]; omega
    · obtain rfl : k = xs.length := by omega
      go_wp2_with fail
      go_ret
      exact ⟨by rw [HF.out]; rfl, rfl⟩

theorem over_next (xs : List ByteArray) (us : List Txt) (k : Nat) (x : ByteArray) (hx : xs[k]? = some x) : overL (bytesOf (xs.take (k + 1))) us = overL (bytesOf (xs.take k)) us + if cntN x.data.toList (bytesOf (xs.take k)) < cntN x.data.toList us then 1 else 0 := by
  obtain ⟨hk, e⟩ := List.getElem?_eq_some_iff.1 hx
  rw [List.take_succ_eq_append_getElem hk, e]
  simp only [bytesOf, List.map_append, List.map_cons, List.map_nil]
  exact over_snoc _ _ _

set_option maxRecDepth 100000 in
set_option maxHeartbeats 4000000 in
theorem rover_any (ao bo : Option Addr) (ca cb : Nat) (xs ys : List ByteArray) (w : World) (hn : xs.length ≤ 1048576) (hm : ys.length ≤ 1048576) (hca : xs.length ≤ ca) (hR : StrRow w ao xs) (hS : StrRow w bo ys) :
    Calls Tryz.prog 59 #[.slice ao xs.length ca, .slice bo ys.length cb] w fun e w' => e = .returned (.int .i64 ((overL (bytesOf xs) (bytesOf ys) : Nat) : Int)) ∧ Below w.heap.size w w' := by
  have HR := Lib.hid hR
  have HS := Lib.hid hS
  have HN := Lib.hid (fun k x hx => over_next xs (bytesOf ys) k x hx)
  have HF : Hid (overL (bytesOf xs) (bytesOf ys) = overL (bytesOf (xs.take xs.length)) (bytesOf ys)) := Lib.hid (by rw [List.take_length])
  have HLe := Lib.hid (fun k => over_le1 (bytesOf (xs.take k)) (bytesOf ys))
  clear hR hS
  go_enter Tryz.func59, Tryz.ntmps59
  go_wp2_with fail
  go_loopw [5, 6] (fun n i wr => ∃ k : Nat, k ≤ xs.length ∧ i = .int .i64 k ∧ n = .int .i64 ((overL (bytesOf (xs.take k)) (bytesOf ys) : Nat) : Int) ∧ Hid (Below w.heap.size w wr)) (fun _ i _ => xs.length - (intOf i).toNat)
  case atStart => exact ⟨0, Nat.zero_le _, rfl, by simp [bytesOf, overL], Lib.hid (Below.refl _ _)⟩
  case round =>
    obtain ⟨k, hk, rfl, rfl, HB⟩ := hrel
    by_cases hlt : k < xs.length
    · obtain ⟨x, hx⟩ : ∃ x, xs[k]? = some x := ⟨_, List.getElem?_eq_getElem hlt⟩
      have hnx := HN.out k x hx
      have hle := HLe.out k
      rw [bytes_len, List.length_take] at hle
      have hRw := HR.out.kept HB.out
      rcases hRw with h0 | ⟨A, rfl, hA, hcell⟩
      · rw [h0] at hlt; simp at hlt
      have hc := hcell k x hx
      have htl : (xs.take k).length = k := by rw [List.length_take]; omega
      have hT : StrRow wr (some A) (xs.take k) := .inr ⟨A, rfl, hA, fun i c hi => hcell i c (by
        rw [List.getElem?_take] at hi
        split at hi
        · exact hi
        · cases hi)⟩
      have C1 := Lib.hid (fun m => (rcnt_any (some A) ca (xs.take k) x (wr.drewN m) (by rw [htl]; omega) (hT.kept (bdn (Below.refl _ _)))).mono (fun e w' h => (⟨h.1, m, h.2⟩ : _ ∧ ∃ m, w' = wr.drewN m)))
      have C2 := Lib.hid (fun m => (rcnt_any bo cb ys x (wr.drewN m) hm ((HS.out.kept HB.out).kept (bdn (Below.refl _ _)))).mono (fun e w' h => (⟨h.1, m, h.2⟩ : _ ∧ ∃ m, w' = wr.drewN m)))
      rw [htl] at C1
      obtain ⟨c, hcc⟩ : ∃ c, c = overL (bytesOf (xs.take k)) (bytesOf ys) := ⟨_, rfl⟩
      rw [← hcc] at hnx hle ⊢
      generalize cntN x.data.toList (bytesOf (xs.take k)) = u at C1 hnx
      generalize cntN x.data.toList (bytesOf ys) = v at C2 hnx
      have hca2 : k ≤ ca := by omega
      have n1 : decide ((k : Int) < 0) = false := decide_eq_false (by omega)
      have n2 : decide (xs.length ≤ k) = false := decide_eq_false (by omega)
      have n3 : decide (ca < k) = false := decide_eq_false (by omega)
      have HNx := Lib.hid hnx
      clear hcell hx hcc hnx htl hT hA
      go_upto_region 5 with fail
      go_quiet (first | (go_at_call 96; with_reducible exact C1.out _) | (go_at_call 96; with_reducible exact C2.out _))
      have HB2 : Hid (Below w.heap.size w (wr.drewN nq)) := Lib.hid (bdn HB.out)
      by_cases huv : u < v
      · have hwr : IntKind.i64.wrap ((c : Int) + 1) = (c : Int) + 1 := IntWalk.i64_in _ (by omega)
        have HNy := Lib.hid (show overL (bytesOf (xs.take (k + 1))) (bytesOf ys) = c + 1 by rw [HNx.out, if_pos huv])
        clear HNx C1 C2 hc
        go_wp2_with fail
        go_roundw
        case rel => exact ⟨k + 1, by omega, by go_num, by rw [HNy.out]; simp, HB2⟩
        case measure => simp [intOf]; omega
      · have HNy := Lib.hid (show overL (bytesOf (xs.take (k + 1))) (bytesOf ys) = c by rw [HNx.out, if_neg huv]; rfl)
        clear HNx C1 C2 hc
        go_wp2_with fail
        go_roundw
        case rel => exact ⟨k + 1, by omega, by go_num, by rw [HNy.out], HB2⟩
        case measure => simp [intOf]; omega
    · obtain rfl : k = xs.length := by omega
      go_wp2_with fail
      go_ret
      exact ⟨by rw [HF.out]; rfl, HB.out⟩
end Go.Proofs.YtigijgcldgbokaaGreat
