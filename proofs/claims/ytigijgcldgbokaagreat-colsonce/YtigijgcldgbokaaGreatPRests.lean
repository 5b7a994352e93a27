/-
  Those that are in no pair: the program's answer, and the document's reference's.
  Conditions: lists of at most 2^38 pairs of Go integers; numbers up to 2^31 - 1.
-/
import Derived.IntWalk
import Derived.WalkArith
import Derived.OwnWalk
import Derived.Deep.Cut
import Derived.Test.YtigijgcldgbokaaGreatProg
import Derived.Test.YtigijgcldgbokaaGreatPkA
namespace Go.Proofs.YtigijgcldgbokaaGreat
open Go.RowKit Go.Shelf Go.Maps
set_option linter.unusedVariables false
theorem in_take_next (S : List Int) (i : Nat) (x a : Int) (h : S[i]? = some x) : decide (a ∈ S.take (i + 1)) = (decide (a ∈ S.take i) || (x == a)) := by
  obtain ⟨hk, e⟩ := List.getElem?_eq_some_iff.1 h
  rw [List.take_succ_eq_append_getElem hk, e]
  by_cases h1 : a ∈ S.take i
  · simp [h1]
  · by_cases h2 : x = a
    · subst h2; simp
    · have h3 : ¬ a = x := fun e => h2 e.symm
      simp [h1, h2, h3]

set_option maxRecDepth 100000 in
theorem restA_any (ao : Option Addr) (cap : Nat) (xs : PL) (n : Int) (w : World) (hn : xs.length ≤ 274877906944) (hs : okP xs) (hR : PairsAt w ao xs) (hlo : -9223372036854775808 ≤ n) (hhi : n ≤ 2147483647) :
    Calls Tryz.prog 89 #[.slice ao xs.length cap, .int .i64 n] w (IntsOut (outOf (xs.map Prod.fst) n.toNat) w) := by
  have C := Lib.hid (rest_any 118 Prod.fst restA1 (enters_of Tryz.func118 (by kernel_rfl) rfl) ao cap xs n w hn (fun p hp => (hs p hp).1) hR hlo hhi)
  clear hs hR
  generalize outOf (xs.map Prod.fst) n.toNat = O at C ⊢
  go_enter Tryz.func89, Tryz.ntmps89
  go_wp2_with fail
  refine C.out.mono ?_; rintro e w1 ⟨bo, cp, rfl, h1, h2, h3, h4⟩
  have HE : Hid (IntsOut O w (.returned (.slice bo O.length cp)) w1) := Lib.hid ⟨bo, cp, rfl, h1, h2, h3, h4⟩
  clear h1 h2 h3 h4
  go_wp2_with fail
  go_ret
  exact HE.out

set_option maxRecDepth 100000 in
set_option maxHeartbeats 2000000 in
theorem rrestA_any (ao : Option Addr) (cap : Nat) (xs : PL) (n : Int) (w : World) (hn : xs.length ≤ 274877906944) (hR : PairsAt w ao xs) (hlo : -9223372036854775808 ≤ n) (hhi : n ≤ 2147483647) :
    Calls Tryz.prog 57 #[.slice ao xs.length cap, .int .i64 n] w (IntsOut (outOf (xs.map Prod.fst) n.toNat) w) := by
  have hinfo : (Tryz.prog.info? 3).map (fun i => (i.zero, i.size, i.bytes)) = some (some (.int .i64 0), 1, 8) := by kernel_rfl
  obtain ⟨i0, hi, hz0, hz1, hz2⟩ := info_parts2 hinfo
  have HI := Lib.hid hi
  have HRo := Lib.hid hR
  have HNx := Lib.hid (outOf_next (xs.map Prod.fst))
  have HLe := Lib.hid (outOf_le (xs.map Prod.fst))
  have HZ : Hid (outOf (xs.map Prod.fst) 0 = []) := Lib.hid rfl
  clear hi hinfo hR
  generalize outOf (xs.map Prod.fst) = O at HNx HLe HZ ⊢
  have hneg : n < 0 → n.toNat = 0 := fun h => by omega
  by_cases hn0 : n < 0
  · rw [hneg hn0, HZ.out]
    go_enter Tryz.func57, Tryz.ntmps57
    go_wp2_with fail
    go_loopw [5, 6] (fun v i wr => v = .slice none 0 0 ∧ i = .int .i64 0 ∧ Hid (wr = w)) (fun _ i _ => 0)
    case atStart => exact ⟨rfl, rfl, Lib.hid rfl⟩
    case round =>
      obtain ⟨rfl, rfl, HW⟩ := hrel
      have hle : ¬ 0 < n := by omega
      go_wp2_with fail
      go_ret
      rw [HW.out]
      exact ⟨none, 0, rfl, .inl rfl, fun _ => rfl, Nat.le_refl _, Below.refl _ _⟩
  obtain ⟨m, rfl⟩ := Int.eq_ofNat_of_zero_le (show 0 ≤ n by omega)
  have hm31 : m ≤ 2147483647 := by omega
  rw [Int.toNat_natCast]
  clear hneg hn0 hlo hhi
  go_enter Tryz.func57, Tryz.ntmps57
  go_wp2_with fail
  go_loopw [5, 6] (fun v i wr => ∃ (k q cp : Nat) (bo : Option Addr), k ≤ m ∧ i = .int .i64 k ∧ v = .slice bo q cp ∧ Hid (q = (O k).length) ∧ Hid (Below w.heap.size w wr) ∧ Hid (OwnI wr w.heap.size (.slice bo q cp) (O k))) (fun _ i _ => m - (intOf i).toNat)
  case atStart => exact ⟨0, 0, 0, none, Nat.zero_le _, rfl, rfl, Lib.hid (by rw [HZ.out]; rfl), Lib.hid (Below.refl _ _), Lib.hid (by rw [HZ.out]; exact World.ownsRow_nil _ _ _ _)⟩
  case round =>
    obtain ⟨k, q, cp, bo, hk, rfl, rfl, HQ2, HB, HT⟩ := hrel
    by_cases hlt : k < m
    · obtain ⟨wo, HWO⟩ : ∃ wo : World, Hid (wo = wr) := ⟨_, Lib.hid rfl⟩
      go_wp2_with fail
      rw [← HWO.out]
      rw [← HWO.out] at HB HT
      clear HWO
      go_loopw [7, 8] (fun b i wr => ∃ (j : Nat) (c : Bool), j ≤ xs.length ∧ i = .int .i64 j ∧ b = .bool c ∧ Hid (c = decide ((k : Int) ∈ (xs.map Prod.fst).take j)) ∧ Hid (wr = wo)) (fun _ i _ => xs.length - (intOf i).toNat)
      case atStart => exact ⟨0, false, Nat.zero_le _, rfl, rfl, Lib.hid (by simp), Lib.hid rfl⟩
      case round =>
        obtain ⟨j, c, hj, rfl, rfl, HC, HW⟩ := hrel
        by_cases hjl : j < xs.length
        · obtain ⟨⟨x1, x2⟩, hx⟩ : ∃ x, xs[j]? = some x := ⟨_, List.getElem?_eq_getElem hjl⟩
          have HB2 : Below w.heap.size w wr := by rw [HW.out]; exact HB.out
          rcases (HRo.out.kept HB2) with h0 | ⟨b, o, rfl, hA, hcell⟩
          · rw [h0] at hjl; simp at hjl
          obtain ⟨hc1, hc2⟩ := hcell j _ hx
          dsimp only at hc1 hc2
          have HN := Lib.hid (in_take_next (xs.map Prod.fst) j x1 (k : Int) (by rw [List.getElem?_map, hx]; rfl))
          clear hcell hx HB2
          cases c with
          | true =>
            have HC2 : Hid (true = decide ((k : Int) ∈ (xs.map Prod.fst).take (j + 1))) := Lib.hid (by rw [HN.out, ← HC.out]; rfl)
            go_wp2_with fail
            go_roundw
            case rel => exact ⟨j + 1, true, by omega, by go_num, rfl, HC2, HW⟩
            case measure => simp [intOf]; omega
          | false =>
            have HC2 : Hid ((x1 == (k : Int)) = decide ((k : Int) ∈ (xs.map Prod.fst).take (j + 1))) := Lib.hid (by rw [HN.out, ← HC.out]; rfl)
            obtain ⟨bb, hbb⟩ : ∃ bb, (x1 == (k : Int)) = bb := ⟨_, rfl⟩
            rw [hbb] at HC2
            go_wp2_with fail
            go_roundw
            case rel => exact ⟨j + 1, bb, by omega, by go_num, by first | rfl | (rw [← hbb]; try simp), HC2, HW⟩
            case measure => simp [intOf]; omega
        · obtain rfl : j = xs.length := by omega
          have hwr := HW.out
          subst hwr
          have HC1 : Hid (c = decide ((k : Int) ∈ xs.map Prod.fst)) := Lib.hid (by rw [HC.out, show xs.length = (xs.map Prod.fst).length from by simp, List.take_length])
          clear HC HW
          have hstep := HNx.out k
          cases c with
          | true =>
            have hin : (k : Int) ∈ xs.map Prod.fst := of_decide_eq_true HC1.out.symm
            rw [if_pos hin] at hstep
            have HT2 : Hid (OwnI wr w.heap.size (.slice bo q cp) (O (k + 1))) := Lib.hid (by rw [hstep]; exact HT.out)
            have HQ3 : Hid (q = (O (k + 1)).length) := Lib.hid (by rw [hstep]; exact HQ2.out)
            clear hstep hin
            go_wp2_with fail
            go_roundw
            case rel => exact ⟨k + 1, q, cp, bo, by omega, by go_num, rfl, HQ3, HB, HT2⟩
            case measure => simp [intOf]; omega
          | false =>
            have hin : ¬ (k : Int) ∈ xs.map Prod.fst := of_decide_eq_false HC1.out.symm
            rw [if_neg hin] at hstep
            have hq : q ≤ k := by rw [HQ2.out]; exact HLe.out k
            have HTO : Hid (wr.ownsRow w.heap.size 3 1 (.slice bo q cp) q ((O k).map (Value.int .i64))) := Lib.hid (by have := HT.out; unfold OwnI at this; rw [← HQ2.out] at this; exact this)
            have HT1 := Lib.hid (HTO.out.alloc (.cells #[Value.int .i64 (k : Int)] 3))
            have hws : w.heap.size ≤ wr.heap.size := HB.out.size
            have hbs : w.heap.size ≤ (wr.alloc (.cells #[Value.int .i64 (k : Int)] 3)).heap.size := by simp; omega
            have HST := Lib.hid hstep
            clear hstep hin
            go_wp2_with (at_builtin; refine wpList_append_own _ rfl _ _ 95 rfl w.heap.size 3 i0 (.int .i64 0) 1 8 Tryz.underlying95 HI.out hz0 hz1 hz2 rfl (by decide) _ _ _ rfl HT1.out ⟨wr.heap.size, 0, none⟩ 1 1 [Value.int .i64 (k : Int)] rfl rfl (lit_cellI wr _) (fun u hu => by simp at hu; subst hu; rfl) (by unfold maxLen; omega) (by omega) hbs ?_)
            intro v' w3 hown' hgrow _
            obtain ⟨g, gc, rfl⟩ := ownsRow_succ hown'
            have HB3 := Lib.hid (own_grownI HB.out hws HTO.out hgrow)
            have HQ3 : Hid (q + 1 = (O (k + 1)).length) := Lib.hid (by rw [HST.out, List.length_append, ← HQ2.out]; rfl)
            have HT3 : Hid (OwnI w3 w.heap.size (.slice (some ⟨g, 0, none⟩) (q + 1) gc) (O (k + 1))) := Lib.hid (by unfold OwnI; rw [← HQ3.out, HST.out, List.map_append]; exact hown')
            clear hown' hgrow hbs
            go_wp2_with fail
            go_roundw
            case rel => exact ⟨k + 1, q + 1, gc, _, by omega, by go_num, rfl, HQ3, HB3, HT3⟩
            case measure => simp [intOf]; omega
    · obtain rfl : k = m := by omega
      have HE := Lib.hid (OwnI.end_ HT.out HB.out)
      clear HT
      go_wp2_with fail
      go_ret
      exact HE.out

set_option maxRecDepth 100000 in
theorem restB_any (ao : Option Addr) (cap : Nat) (xs : PL) (n : Int) (w : World) (hn : xs.length ≤ 274877906944) (hs : okP xs) (hR : PairsAt w ao xs) (hlo : -9223372036854775808 ≤ n) (hhi : n ≤ 2147483647) :
    Calls Tryz.prog 90 #[.slice ao xs.length cap, .int .i64 n] w (IntsOut (outOf (xs.map Prod.snd) n.toNat) w) := by
  have C := Lib.hid (rest_any 119 Prod.snd restB1 (enters_of Tryz.func119 (by kernel_rfl) rfl) ao cap xs n w hn (fun p hp => (hs p hp).2) hR hlo hhi)
  clear hs hR
  generalize outOf (xs.map Prod.snd) n.toNat = O at C ⊢
  go_enter Tryz.func90, Tryz.ntmps90
  go_wp2_with fail
  refine C.out.mono ?_; rintro e w1 ⟨bo, cp, rfl, h1, h2, h3, h4⟩
  have HE : Hid (IntsOut O w (.returned (.slice bo O.length cp)) w1) := Lib.hid ⟨bo, cp, rfl, h1, h2, h3, h4⟩
  clear h1 h2 h3 h4
  go_wp2_with fail
  go_ret
  exact HE.out

set_option maxRecDepth 100000 in
set_option maxHeartbeats 2000000 in
theorem rrestB_any (ao : Option Addr) (cap : Nat) (xs : PL) (n : Int) (w : World) (hn : xs.length ≤ 274877906944) (hR : PairsAt w ao xs) (hlo : -9223372036854775808 ≤ n) (hhi : n ≤ 2147483647) :
    Calls Tryz.prog 58 #[.slice ao xs.length cap, .int .i64 n] w (IntsOut (outOf (xs.map Prod.snd) n.toNat) w) := by
  have hinfo : (Tryz.prog.info? 3).map (fun i => (i.zero, i.size, i.bytes)) = some (some (.int .i64 0), 1, 8) := by kernel_rfl
  obtain ⟨i0, hi, hz0, hz1, hz2⟩ := info_parts2 hinfo
  have HI := Lib.hid hi
  have HRo := Lib.hid hR
  have HNx := Lib.hid (outOf_next (xs.map Prod.snd))
  have HLe := Lib.hid (outOf_le (xs.map Prod.snd))
  have HZ : Hid (outOf (xs.map Prod.snd) 0 = []) := Lib.hid rfl
  clear hi hinfo hR
  generalize outOf (xs.map Prod.snd) = O at HNx HLe HZ ⊢
  have hneg : n < 0 → n.toNat = 0 := fun h => by omega
  by_cases hn0 : n < 0
  · rw [hneg hn0, HZ.out]
    go_enter Tryz.func58, Tryz.ntmps58
    go_wp2_with fail
    go_loopw [5, 6] (fun v i wr => v = .slice none 0 0 ∧ i = .int .i64 0 ∧ Hid (wr = w)) (fun _ i _ => 0)
    case atStart => exact ⟨rfl, rfl, Lib.hid rfl⟩
    case round =>
      obtain ⟨rfl, rfl, HW⟩ := hrel
      have hle : ¬ 0 < n := by omega
      go_wp2_with fail
      go_ret
      rw [HW.out]
      exact ⟨none, 0, rfl, .inl rfl, fun _ => rfl, Nat.le_refl _, Below.refl _ _⟩
  obtain ⟨m, rfl⟩ := Int.eq_ofNat_of_zero_le (show 0 ≤ n by omega)
  have hm31 : m ≤ 2147483647 := by omega
  rw [Int.toNat_natCast]
  clear hneg hn0 hlo hhi
  go_enter Tryz.func58, Tryz.ntmps58
  go_wp2_with fail
  go_loopw [5, 6] (fun v i wr => ∃ (k q cp : Nat) (bo : Option Addr), k ≤ m ∧ i = .int .i64 k ∧ v = .slice bo q cp ∧ Hid (q = (O k).length) ∧ Hid (Below w.heap.size w wr) ∧ Hid (OwnI wr w.heap.size (.slice bo q cp) (O k))) (fun _ i _ => m - (intOf i).toNat)
  case atStart => exact ⟨0, 0, 0, none, Nat.zero_le _, rfl, rfl, Lib.hid (by rw [HZ.out]; rfl), Lib.hid (Below.refl _ _), Lib.hid (by rw [HZ.out]; exact World.ownsRow_nil _ _ _ _)⟩
  case round =>
    obtain ⟨k, q, cp, bo, hk, rfl, rfl, HQ2, HB, HT⟩ := hrel
    by_cases hlt : k < m
    · obtain ⟨wo, HWO⟩ : ∃ wo : World, Hid (wo = wr) := ⟨_, Lib.hid rfl⟩
      go_wp2_with fail
      rw [← HWO.out]
      rw [← HWO.out] at HB HT
      clear HWO
      go_loopw [7, 8] (fun b i wr => ∃ (j : Nat) (c : Bool), j ≤ xs.length ∧ i = .int .i64 j ∧ b = .bool c ∧ Hid (c = decide ((k : Int) ∈ (xs.map Prod.snd).take j)) ∧ Hid (wr = wo)) (fun _ i _ => xs.length - (intOf i).toNat)
      case atStart => exact ⟨0, false, Nat.zero_le _, rfl, rfl, Lib.hid (by simp), Lib.hid rfl⟩
      case round =>
        obtain ⟨j, c, hj, rfl, rfl, HC, HW⟩ := hrel
        by_cases hjl : j < xs.length
        · obtain ⟨⟨x1, x2⟩, hx⟩ : ∃ x, xs[j]? = some x := ⟨_, List.getElem?_eq_getElem hjl⟩
          have HB2 : Below w.heap.size w wr := by rw [HW.out]; exact HB.out
          rcases (HRo.out.kept HB2) with h0 | ⟨b, o, rfl, hA, hcell⟩
          · rw [h0] at hjl; simp at hjl
          obtain ⟨hc1, hc2⟩ := hcell j _ hx
          dsimp only at hc1 hc2
          have HN := Lib.hid (in_take_next (xs.map Prod.snd) j x2 (k : Int) (by rw [List.getElem?_map, hx]; rfl))
          clear hcell hx HB2
          cases c with
          | true =>
            have HC2 : Hid (true = decide ((k : Int) ∈ (xs.map Prod.snd).take (j + 1))) := Lib.hid (by rw [HN.out, ← HC.out]; rfl)
            go_wp2_with fail
            go_roundw
            case rel => exact ⟨j + 1, true, by omega, by go_num, rfl, HC2, HW⟩
            case measure => simp [intOf]; omega
          | false =>
            have HC2 : Hid ((x2 == (k : Int)) = decide ((k : Int) ∈ (xs.map Prod.snd).take (j + 1))) := Lib.hid (by rw [HN.out, ← HC.out]; rfl)
            obtain ⟨bb, hbb⟩ : ∃ bb, (x2 == (k : Int)) = bb := ⟨_, rfl⟩
            rw [hbb] at HC2
            go_wp2_with fail
            go_roundw
            case rel => exact ⟨j + 1, bb, by omega, by go_num, by first | rfl | (rw [← hbb]; try simp), HC2, HW⟩
            case measure => simp [intOf]; omega
        · obtain rfl : j = xs.length := by omega
          have hwr := HW.out
          subst hwr
          have HC1 : Hid (c = decide ((k : Int) ∈ xs.map Prod.snd)) := Lib.hid (by rw [HC.out, show xs.length = (xs.map Prod.snd).length from by simp, List.take_length])
          clear HC HW
          have hstep := HNx.out k
          cases c with
          | true =>
            have hin : (k : Int) ∈ xs.map Prod.snd := of_decide_eq_true HC1.out.symm
            rw [if_pos hin] at hstep
            have HT2 : Hid (OwnI wr w.heap.size (.slice bo q cp) (O (k + 1))) := Lib.hid (by rw [hstep]; exact HT.out)
            have HQ3 : Hid (q = (O (k + 1)).length) := Lib.hid (by rw [hstep]; exact HQ2.out)
            clear hstep hin
            go_wp2_with fail
            go_roundw
            case rel => exact ⟨k + 1, q, cp, bo, by omega, by go_num, rfl, HQ3, HB, HT2⟩
            case measure => simp [intOf]; omega
          | false =>
            have hin : ¬ (k : Int) ∈ xs.map Prod.snd := of_decide_eq_false HC1.out.symm
            rw [if_neg hin] at hstep
            have hq : q ≤ k := by rw [HQ2.out]; exact HLe.out k
            have HTO : Hid (wr.ownsRow w.heap.size 3 1 (.slice bo q cp) q ((O k).map (Value.int .i64))) := Lib.hid (by have := HT.out; unfold OwnI at this; rw [← HQ2.out] at this; exact this)
            have HT1 := Lib.hid (HTO.out.alloc (.cells #[Value.int .i64 (k : Int)] 3))
            have hws : w.heap.size ≤ wr.heap.size := HB.out.size
            have hbs : w.heap.size ≤ (wr.alloc (.cells #[Value.int .i64 (k : Int)] 3)).heap.size := by simp; omega
            have HST := Lib.hid hstep
            clear hstep hin
            go_wp2_with (at_builtin; refine wpList_append_own _ rfl _ _ 95 rfl w.heap.size 3 i0 (.int .i64 0) 1 8 Tryz.underlying95 HI.out hz0 hz1 hz2 rfl (by decide) _ _ _ rfl HT1.out ⟨wr.heap.size, 0, none⟩ 1 1 [Value.int .i64 (k : Int)] rfl rfl (lit_cellI wr _) (fun u hu => by simp at hu; subst hu; rfl) (by unfold maxLen; omega) (by omega) hbs ?_)
            intro v' w3 hown' hgrow _
            obtain ⟨g, gc, rfl⟩ := ownsRow_succ hown'
            have HB3 := Lib.hid (own_grownI HB.out hws HTO.out hgrow)
            have HQ3 : Hid (q + 1 = (O (k + 1)).length) := Lib.hid (by rw [HST.out, List.length_append, ← HQ2.out]; rfl)
            have HT3 : Hid (OwnI w3 w.heap.size (.slice (some ⟨g, 0, none⟩) (q + 1) gc) (O (k + 1))) := Lib.hid (by unfold OwnI; rw [← HQ3.out, HST.out, List.map_append]; exact hown')
            clear hown' hgrow hbs
            go_wp2_with fail
            go_roundw
            case rel => exact ⟨k + 1, q + 1, gc, _, by omega, by go_num, rfl, HQ3, HB3, HT3⟩
            case measure => simp [intOf]; omega
    · obtain rfl : k = m := by omega
      have HE := Lib.hid (OwnI.end_ HT.out HB.out)
      clear HT
      go_wp2_with fail
      go_ret
      exact HE.out
end Go.Proofs.YtigijgcldgbokaaGreat
