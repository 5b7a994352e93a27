/-
  Which pairs are still: the program's answer.
  Conditions: lists of at most 2^38 pairs.
-/
import Derived.WalkKit
import Derived.WalkMore
import Derived.IntWalk
import Derived.WalkArith
import Derived.OwnWalk
import Derived.Lib.Hide
import Derived.Deep.Cut
import Derived.Deep.Onto
import Derived.Test.YtolcdhdmonaeaaaProg
import Derived.Test.YtolcdhdmonaeaaaPLengths
namespace Go.Proofs.Ytolcdhdmonaeaaa
open Go.RowKit Go.Shelf
set_option linter.unusedVariables false

theorem addr0 (g k : Nat) : (⟨g, 0, none⟩ : Addr).add k = ⟨g, k, none⟩ := by unfold Addr.add; split <;> simp_all
theorem pick_hit (ns : List Nat) (k left : Nat) (h : ns[k]? = some left) (h0 : left ≠ 0) : pick (ns.drop k) k left = (k : Int) :: pick (ns.drop (k + 1)) (k + 1) (left - 1) := by
  obtain ⟨hk, e⟩ := List.getElem?_eq_some_iff.1 h
  rw [List.drop_eq_getElem_cons hk, e, pick, if_neg h0, if_pos rfl]
theorem pick_miss (ns : List Nat) (k left n : Nat) (h : ns[k]? = some n) (h0 : left ≠ 0) (hn : n ≠ left) : pick (ns.drop k) k left = pick (ns.drop (k + 1)) (k + 1) left := by
  obtain ⟨hk, e⟩ := List.getElem?_eq_some_iff.1 h
  rw [List.drop_eq_getElem_cons hk, e, pick, if_neg h0, if_neg hn]

set_option maxRecDepth 100000 in
set_option maxHeartbeats 2000000 in
theorem still_any (ao : Option Addr) (cap : Nat) (xs : PL) (w : World) (hn : xs.length ≤ 274877906944) (hR : PairsAt w ao xs) :
    Calls Try.prog 16 #[.slice ao xs.length cap] w (IntsOut (stillL xs) w) := by
  have hinfo : (Try.prog.info? 3).map (fun i => (i.zero, i.size, i.bytes)) = some (some (.int .i64 0), 1, 8) := by kernel_rfl
  obtain ⟨i0, hi, hz0, hz1, hz2⟩ := info_parts2 hinfo
  have HI := Lib.hid hi
  have C := Lib.hid (lengths_any ao cap xs w hn hR)
  obtain ⟨ns, HNS⟩ : ∃ ns, Hid (ns = longs (xs.map Prod.fst)) := ⟨_, Lib.hid rfl⟩
  have HNL : Hid (ns.length = xs.length) := Lib.hid (by rw [HNS.out, longs_len]; simp)
  have hmx : most ns ≤ xs.length := by rw [HNS.out]; have := most_longs_le (xs.map Prod.fst); simpa using this
  have HSt : Hid (stillL xs = pick ns 0 (most ns)) := Lib.hid (by rw [HNS.out]; rfl)
  have hpl : Hid (∀ k l, (pick (ns.drop k) k l).length ≤ xs.length) := Lib.hid (fun k l => by have := pick_le (ns.drop k) k l; simp at this; have := HNL.out; omega)
  rw [← HNS.out] at C
  clear hi hinfo hR
  generalize stillL xs = R at HSt ⊢
  go_enter Try.func16, Try.ntmps16
  go_wp2_with fail
  go_step3
  go_wp2_with fail
  refine C.out.mono ?_; rintro e w1 ⟨g, rfl, hN, b1⟩
  have HN1 := Lib.hid hN
  have HB1 := Lib.hid b1
  have hms : most ns ≤ maxLen := by unfold maxLen; omega
  clear hN b1 C
  go_wp2_with (at_make; refine wpList_make_own _ rfl _ _ 30 rfl w1.heap.size 3 i0 (.int .i64 0) 1 Try.underlying30 HI.out hz0 hz1 .i64 .i64 (most ns : Int) (most ns) rfl rfl rfl (by rw [hz2]; omega) hms (Nat.le_refl _) ?_; intro w2 ho hg)
  have HB2 : Hid (Below w1.heap.size w1 w2) := Lib.hid ((Below.refl _ w1).grown hg (Nat.le_refl _) (fun k h => by cases h))
  have HT : Hid (OwnI w2 w1.heap.size (.slice (some ⟨w1.heap.size, 0, none⟩) 0 (most ns)) []) := Lib.hid ho
  have HP : Hid (R = [] ++ pick (ns.drop 0) 0 (most ns)) := Lib.hid (by rw [HSt.out]; rfl)
  clear ho hg
  go_wp2_with fail
  go_step3
  go_wp2_with fail
  go_loopw [4, 5, 16] (fun lf v i wr => ∃ (k q cp left : Nat) (bo : Option Addr) (P : List Int), k ≤ xs.length ∧ left ≤ xs.length ∧ q = P.length ∧ q + left ≤ xs.length ∧ i = .int .i64 k ∧ lf = .int .i64 left ∧ v = .slice bo q cp ∧ Hid (Below w1.heap.size w1 wr) ∧ Hid (OwnI wr w1.heap.size (.slice bo q cp) P) ∧ Hid (R = P ++ pick (ns.drop k) k left)) (fun _ _ i _ => xs.length - (intOf i).toNat)
  case atStart => exact ⟨0, 0, _, _, _, [], Nat.zero_le _, hmx, rfl, by omega, rfl, rfl, rfl, HB2, HT, HP⟩
  case round =>
    obtain ⟨k, q, cp, left, bo, P, hk, hl, rfl, hql, rfl, rfl, rfl, HB, HT, HP⟩ := hrel
    have hws := HB.out.size
    by_cases hlt : k < xs.length
    · by_cases h0 : left = 0
      · subst h0
        have hb0 : (((0 : Nat) : Int) == 0) = true := rfl
        have HE := Lib.hid (OwnI.end_ (w := w) (show OwnI wr w.heap.size _ _ from World.ownsRow.mono HT.out HB1.out.size) (below_up HB1.out HB.out))
        have E : Hid (R = P) := Lib.hid (by rw [HP.out, pick_zero]; simp)
        clear HT
        go_wp2_with fail
        try rw [Exit.noGoto_ret]
        go_ret
        rw [E.out]
        exact HE.out
      · obtain ⟨n, hnk⟩ : ∃ n, ns[k]? = some n := ⟨_, List.getElem?_eq_getElem (by rw [HNL.out]; exact hlt)⟩
        have hb0 : (((left : Nat) : Int) == 0) = false := by simp; omega
        rcases HN1.out.kept HB.out with h | ⟨A, hA, hAl, hcell⟩
        · have := HNL.out; simp at h; rw [h] at this; simp at this; omega
        cases hA
        have hc := hcell k n (by rw [List.getElem?_map, hnk]; rfl)
        rw [addr0] at hc
        have HK := Lib.hid hnk
        clear hcell hnk
        by_cases hn2 : n = left
        · subst hn2
          have hb1 : ((n : Int) == (n : Int)) = true := by simp
          have hsub : (n : Int) - 1 = ((n - 1 : Nat) : Int) := by omega
          have hwn : IntKind.i64.wrap ((n : Int) - 1) = ((n - 1 : Nat) : Int) := by rw [IntWalk.i64_in _ (by omega)]; exact hsub
          have HP2 : Hid (R = (P ++ [(k : Int)]) ++ pick (ns.drop (k + 1)) (k + 1) (n - 1)) := Lib.hid (by rw [HP.out, pick_hit ns k n HK.out h0]; simp)
          have HT1 := Lib.hid (World.ownsRow.alloc HT.out (.cells #[Value.int .i64 (k : Int)] 3))
          have hbs : w1.heap.size ≤ (wr.alloc (.cells #[Value.int .i64 (k : Int)] 3)).heap.size := by simp; omega
          go_wp2_with (at_builtin; refine wpList_append_own _ rfl _ _ 30 rfl w1.heap.size 3 i0 (.int .i64 0) 1 8 Try.underlying30 HI.out hz0 hz1 hz2 rfl (by decide) _ _ _ rfl HT1.out ⟨wr.heap.size, 0, none⟩ 1 1 [Value.int .i64 (k : Int)] rfl rfl (lit_cellI wr _) (fun u hu => by simp at hu; subst hu; rfl) (by unfold maxLen; omega) (by omega) hbs ?_)
          intro v' w3 hown' hgrow _
          obtain ⟨g3, gc, rfl⟩ := ownsRow_succ hown'
          have HB3 := Lib.hid (own_grownI HB.out hws HT.out hgrow)
          have HT3 : Hid (OwnI w3 w1.heap.size (.slice (some ⟨g3, 0, none⟩) (P.length + 1) gc) (P ++ [(k : Int)])) := Lib.hid (by unfold OwnI; rw [List.length_append, List.map_append]; exact hown')
          clear hown' hgrow hbs hc
          go_wp2_with fail
          go_roundw
          case rel => exact ⟨k + 1, P.length + 1, gc, n - 1, _, P ++ [(k : Int)], by omega, by omega, by simp, by omega, by go_num, by first | rfl | go_num, rfl, HB3, HT3, HP2⟩
          case measure => simp [intOf]; omega
        · have hb1 : ((left : Int) == (n : Int)) = false := by simp; omega
          have HP2 : Hid (R = P ++ pick (ns.drop (k + 1)) (k + 1) left) := Lib.hid (by rw [HP.out, pick_miss ns k left n HK.out h0 hn2])
          go_wp2_with fail
          go_roundw
          case rel => exact ⟨k + 1, P.length, cp, left, bo, P, by omega, hl, rfl, hql, by go_num, rfl, rfl, HB, HT, HP2⟩
          case measure => simp [intOf]; omega
    · obtain rfl : k = xs.length := by omega
      have HE := Lib.hid (OwnI.end_ (w := w) (show OwnI wr w.heap.size _ _ from World.ownsRow.mono HT.out HB1.out.size) (below_up HB1.out HB.out))
      have E : Hid (R = P) := Lib.hid (by rw [HP.out, ← HNL.out, List.drop_length]; simp [pick])
      clear HT
      go_wp2_with fail
      try rw [Exit.noGoto_ret]
      go_ret
      rw [E.out]
      exact HE.out
end Go.Proofs.Ytolcdhdmonaeaaa
