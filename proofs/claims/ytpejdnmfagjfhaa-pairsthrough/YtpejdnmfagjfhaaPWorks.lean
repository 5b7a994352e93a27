/-
  The document's examples of pairs: what the statements' first function answers.
  Conditions: none.
-/
import Derived.WalkKit
import Derived.WalkMore
import Derived.Lib.Hide
import Derived.Test.YtpejdnmfagjfhaaProg
import Derived.Test.YtpejdnmfagjfhaaPTurn
import Derived.Test.YtpejdnmfagjfhaaPStill
import Derived.Test.YtpejdnmfagjfhaaPRests
namespace Go.Proofs.Ytpejdnmfagjfhaa
open Go.RowKit Go.Shelf
set_option linter.unusedVariables false

theorem lit_pairs (w : World) (l : PL) (T : TypeId) : PairsAt (w.alloc (.cells (cellsP l).toArray T)) (some ⟨w.heap.size, 0, none⟩) l := by
  refine .inr ⟨w.heap.size, 0, rfl, by simp, fun i p hp => ?_⟩
  obtain ⟨c1, c2⟩ := cellsP_at l i p hp
  have h := World.alloc_heap_new w (.cells (cellsP l).toArray T)
  constructor
  · rw [Lib.cell_of_heap h]; simpa using c1
  · rw [Lib.cell_of_heap h]; simpa using c2
theorem lit_ints (w : World) (l : List Int) (T : TypeId) : IntsAt (w.alloc (.cells (l.map (Value.int .i64)).toArray T)) (some ⟨w.heap.size, 0, none⟩) l :=
  .inr ⟨_, rfl, by simp, fun i c hc => by rw [new_cell]; simp [hc]⟩
theorem PairsAt.less {w : World} {ao : Option Addr} {l : PL} (h : PairsAt w ao l) (k : Nat) : PairsAt w ao (l.take k) := by
  rcases h with h | ⟨b, o, h1, h2, h3⟩
  · exact .inl (by rw [h]; simp)
  · exact .inr ⟨b, o, h1, h2, fun i p hp => h3 i p (by rw [List.getElem?_take] at hp; split at hp; exact hp; cases hp)⟩
theorem alloc_below (w : World) (o : Obj) : Below w.heap.size w (w.alloc o) := (Below.refl _ w).alloc (Nat.le_refl _) o
abbrev L4 : PL := [(2, 0), (0, 1), (1, 2), (3, 3)]
abbrev L2 : PL := [(2, 0), (0, 1)]
theorem okL4 : okP L4 := fun p hp => by
  simp only [L4, List.mem_cons, List.not_mem_nil, or_false] at hp
  rcases hp with rfl | rfl | rfl | rfl <;> exact ⟨by decide, by decide⟩

set_option maxRecDepth 100000 in
set_option maxHeartbeats 4000000 in
theorem works_any (w : World) : Calls Try.prog 10 #[] w fun e w' => e = .returned (.bool true) ∧ Below w.heap.size w w' := by
  have hPL := Lib.hid (lit_pairs w L4 37)
  have hB0 := Lib.hid (alloc_below w (.cells (cellsP L4).toArray 37))
  obtain ⟨V, HV⟩ : ∃ V, Hid (V = w.alloc (.cells (cellsP L4).toArray 37)) := ⟨_, Lib.hid rfl⟩
  rw [← HV.out] at hPL hB0
  have HP4 : Hid (∀ W, Below V.heap.size V W → PairsAt W (some ⟨w.heap.size, 0, none⟩) L4) := Lib.hid (fun W h => hPL.out.kept h)
  have HP2 : Hid (∀ W, Below V.heap.size V W → PairsAt W (some ⟨w.heap.size, 0, none⟩) [(2, 0), (0, 1)]) := Lib.hid (fun W h => (hPL.out.kept h).less 2)
  have CI : Hid (∀ ao bo ca cb (xs : List Int) W, xs.length ≤ 4 → IntsAt W ao xs → IntsAt W bo xs → Calls Try.prog 19 #[.slice ao xs.length ca, .slice bo xs.length cb] W fun e w' => e = .returned (.bool true) ∧ Below W.heap.size W w') := Lib.hid (fun ao bo ca cb xs W hl h1 h2 => by have := ints_any ao bo ca cb xs xs W (by omega) h1 h2; rwa [show sameL xs xs = true from by simp [sameL]] at this)
  have CP : Hid (∀ ao bo ca cb (xs : PL) W, xs.length ≤ 4 → PairsAt W ao xs → PairsAt W bo xs → Calls Try.prog 11 #[.slice ao xs.length ca, .slice bo xs.length cb] W fun e w' => e = .returned (.bool true) ∧ Below W.heap.size W w') := Lib.hid (fun ao bo ca cb xs W hl h1 h2 => by have := psameR_any ao bo ca cb xs xs W (by omega) h1 h2; rwa [show sameL xs xs = true from by simp [sameL]] at this)
  have S1 : Hid (∀ W, Below V.heap.size V W → Calls Try.prog 20 #[.slice (some ⟨w.heap.size, 0, none⟩) 4 4] W (IntsOut [1, 2, 3] W)) := Lib.hid (fun W h => by have := still_any (some ⟨w.heap.size, 0, none⟩) 4 L4 W (by decide) (HP4.out W h); rwa [show stillL L4 = [1, 2, 3] from by decide] at this)
  have S2 : Hid (∀ ao W, PairsAt W ao [(1, 0), (0, 0)] → Calls Try.prog 20 #[.slice ao 2 2] W (IntsOut [0] W)) := Lib.hid (fun ao W h => by have := still_any ao 2 [(1, 0), (0, 0)] W (by decide) h; rwa [show stillL [(1, 0), (0, 0)] = [0] from by decide] at this)
  have S3 : Hid (∀ W, Below V.heap.size V W → Calls Try.prog 15 #[.slice (some ⟨w.heap.size, 0, none⟩) 2 4] W (PairsOut [(1, 0), (0, 2)] W)) := Lib.hid (fun W h => by have := turn_of 19 stable_small (some ⟨w.heap.size, 0, none⟩) 4 [(2, 0), (0, 1)] W (by decide) (by decide) (HP2.out W h); rwa [show turnL [(2, 0), (0, 1)] = [(1, 0), (0, 2)] from by decide] at this)
  have okL2 : okP [(2, 0), (0, 1)] := fun p hp => okL4 p (by simp at hp; rcases hp with rfl | rfl <;> simp [L4])
  have S4 : Hid (∀ W, Below V.heap.size V W → Calls Try.prog 22 #[.slice (some ⟨w.heap.size, 0, none⟩) 2 4, .int .i64 3] W (IntsOut [1] W)) := Lib.hid (fun W h => by have := restA_any (some ⟨w.heap.size, 0, none⟩) 4 L2 3 W (by decide) okL2 (HP2.out W h) (by decide) (by decide); rwa [show outOf (L2.map Prod.fst) (3 : Int).toNat = [1] from by decide] at this)
  have S5 : Hid (∀ W, Below V.heap.size V W → Calls Try.prog 24 #[.slice (some ⟨w.heap.size, 0, none⟩) 2 4, .int .i64 3] W (IntsOut [2] W)) := Lib.hid (fun W h => by have := restB_any (some ⟨w.heap.size, 0, none⟩) 4 L2 3 W (by decide) okL2 (HP2.out W h) (by decide) (by decide); rwa [show outOf (L2.map Prod.snd) (3 : Int).toNat = [2] from by decide] at this)
  have S6 : Hid (∀ bo W, Below V.heap.size V W → PairsAt W bo [(1, 7)] → Calls Try.prog 17 #[.slice (some ⟨w.heap.size, 0, none⟩) 2 4, .slice bo 1 1] W (PairsOut [(0, 7)] W)) := Lib.hid (fun bo W h k => by have := through_any (some ⟨w.heap.size, 0, none⟩) bo 4 1 [(2, 0), (0, 1)] [(1, 7)] W (by decide) (by decide) okL2 (fun p hp => by simp at hp; subst hp; exact ⟨by decide, by decide⟩) (HP2.out W h) k; rwa [show throughL [(2, 0), (0, 1)] [(1, 7)] = [(0, 7)] from by decide] at this)
  have S7 : Hid (∀ W, Below V.heap.size V W → Calls Try.prog 12 #[.slice (some ⟨w.heap.size, 0, none⟩) 4 4, .int .i64 4, .int .i64 4] W fun e w' => e = .returned (.int .i64 0) ∧ Below W.heap.size W w') := Lib.hid (fun W h => by have := pcheck_any (some ⟨w.heap.size, 0, none⟩) 4 L4 4 4 W (by decide) okL4 (HP4.out W h); rwa [show checkP L4 4 4 = 0 from by decide] at this)
  have S8 : Hid (∀ W, Below V.heap.size V W → Calls Try.prog 12 #[.slice (some ⟨w.heap.size, 0, none⟩) 4 4, .int .i64 3, .int .i64 4] W fun e w' => e = .returned (.int .i64 11) ∧ Below W.heap.size W w') := Lib.hid (fun W h => by have := pcheck_any (some ⟨w.heap.size, 0, none⟩) 4 L4 3 4 W (by decide) okL4 (HP4.out W h); rwa [show checkP L4 3 4 = 11 from by decide] at this)
  have S9 : Hid (∀ W, Below V.heap.size V W → Calls Try.prog 14 #[.slice (some ⟨w.heap.size, 0, none⟩) 4 4, .slice (some ⟨w.heap.size, 0, none⟩) 4 4] W fun e w' => e = .returned (.bool true) ∧ Below W.heap.size W w') := Lib.hid (fun W h => by have := psame_any (some ⟨w.heap.size, 0, none⟩) (some ⟨w.heap.size, 0, none⟩) 4 4 L4 L4 W (by decide) (HP4.out W h) (HP4.out W h); rwa [show sameL L4 L4 = true from by decide] at this)
  have S10 : Hid (∀ W, Below V.heap.size V W → Calls Try.prog 14 #[.slice (some ⟨w.heap.size, 0, none⟩) 4 4, .slice none 0 0] W fun e w' => e = .returned (.bool false) ∧ Below W.heap.size W w') := Lib.hid (fun W h => by have := psame_any (some ⟨w.heap.size, 0, none⟩) none 4 0 L4 [] W (by decide) (HP4.out W h) (.inl rfl); rwa [show sameL L4 [] = false from by decide] at this)
  clear HP4 HP2 hPL okL2
  go_enter Try.func10, Try.ntmps10
  go_upto_region 2 with fail
  rw [show w.alloc (.cells #[.int .i64 2, .int .i64 0, .int .i64 0, .int .i64 1, .int .i64 1, .int .i64 2, .int .i64 3, .int .i64 3] 37) = V from HV.out.symm]
  have B := Lib.hid (Below.refl V.heap.size V)
  go_wp2_with fail
  refine (S1.out _ B.out).mono ?_; rintro e W ⟨ao, ca, rfl, h1, -, -, h2⟩
  have B := Lib.hid (below_up B.out h2)
  have I1 := Lib.hid (CI.out ao (some ⟨W.heap.size, 0, none⟩) ca 3 [1, 2, 3] _ (by decide) (h1.kept (alloc_below W _)) (lit_ints W [1, 2, 3] 3))
  have B := Lib.hid (below_up B.out (alloc_below W (.cells ([1, 2, 3].map (Value.int .i64)).toArray 3)))
  clear h1 h2
  go_wp2_with fail
  refine I1.out.mono ?_; rintro e W1 ⟨rfl, h2⟩
  have B := Lib.hid (below_up B.out h2)
  clear h2 I1
  go_wp2_with fail
  have P1 := Lib.hid (lit_pairs W1 [(1, 0), (0, 0)] 37)
  have B := Lib.hid (below_up B.out (alloc_below W1 (.cells (cellsP [(1, 0), (0, 0)]).toArray 37)))
  refine (S2.out _ _ P1.out).mono ?_; rintro e W2 ⟨ao2, ca2, rfl, h1, -, -, h2⟩
  have B := Lib.hid (below_up B.out h2)
  have I1 := Lib.hid (CI.out ao2 (some ⟨W2.heap.size, 0, none⟩) ca2 1 [0] _ (by decide) (h1.kept (alloc_below W2 _)) (lit_ints W2 [0] 3))
  have B := Lib.hid (below_up B.out (alloc_below W2 (.cells ([0].map (Value.int .i64)).toArray 3)))
  clear h1 h2 P1
  go_wp2_with fail
  refine I1.out.mono ?_; rintro e W3 ⟨rfl, h2⟩
  have B := Lib.hid (below_up B.out h2)
  clear h2 I1
  go_wp2_with fail
  refine (S3.out _ B.out).mono ?_; rintro e W4 ⟨ao4, ca4, rfl, h1, -, -, h2⟩
  have B := Lib.hid (below_up B.out h2)
  have I1 := Lib.hid (CP.out ao4 (some ⟨W4.heap.size, 0, none⟩) ca4 2 [(1, 0), (0, 2)] _ (by decide) (h1.kept (alloc_below W4 _)) (lit_pairs W4 [(1, 0), (0, 2)] 37))
  have B := Lib.hid (below_up B.out (alloc_below W4 (.cells (cellsP [(1, 0), (0, 2)]).toArray 37)))
  clear h1 h2
  go_wp2_with fail
  refine I1.out.mono ?_; rintro e W5 ⟨rfl, h2⟩
  have B := Lib.hid (below_up B.out h2)
  clear h2 I1
  go_wp2_with fail
  refine (S4.out _ B.out).mono ?_; rintro e W6 ⟨ao6, ca6, rfl, h1, -, -, h2⟩
  have B := Lib.hid (below_up B.out h2)
  have I1 := Lib.hid (CI.out ao6 (some ⟨W6.heap.size, 0, none⟩) ca6 1 [1] _ (by decide) (h1.kept (alloc_below W6 _)) (lit_ints W6 [1] 3))
  have B := Lib.hid (below_up B.out (alloc_below W6 (.cells ([1].map (Value.int .i64)).toArray 3)))
  clear h1 h2
  go_wp2_with fail
  refine I1.out.mono ?_; rintro e W7 ⟨rfl, h2⟩
  have B := Lib.hid (below_up B.out h2)
  clear h2 I1
  go_wp2_with fail
  refine (S5.out _ B.out).mono ?_; rintro e W8 ⟨ao8, ca8, rfl, h1, -, -, h2⟩
  have B := Lib.hid (below_up B.out h2)
  have I1 := Lib.hid (CI.out ao8 (some ⟨W8.heap.size, 0, none⟩) ca8 1 [2] _ (by decide) (h1.kept (alloc_below W8 _)) (lit_ints W8 [2] 3))
  have B := Lib.hid (below_up B.out (alloc_below W8 (.cells ([2].map (Value.int .i64)).toArray 3)))
  clear h1 h2
  go_wp2_with fail
  refine I1.out.mono ?_; rintro e W9 ⟨rfl, h2⟩
  have B := Lib.hid (below_up B.out h2)
  clear h2 I1
  have P1 := Lib.hid (lit_pairs W9 [(1, 7)] 37)
  have B := Lib.hid (below_up B.out (alloc_below W9 (.cells (cellsP [(1, 7)]).toArray 37)))
  go_wp2_with fail
  refine (S6.out _ _ B.out P1.out).mono ?_; rintro e WA ⟨aoA, caA, rfl, h1, -, -, h2⟩
  have B := Lib.hid (below_up B.out h2)
  have I1 := Lib.hid (CP.out aoA (some ⟨WA.heap.size, 0, none⟩) caA 1 [(0, 7)] _ (by decide) (h1.kept (alloc_below WA _)) (lit_pairs WA [(0, 7)] 37))
  have B := Lib.hid (below_up B.out (alloc_below WA (.cells (cellsP [(0, 7)]).toArray 37)))
  clear h1 h2 P1
  go_wp2_with fail
  refine I1.out.mono ?_; rintro e WB ⟨rfl, h2⟩
  have B := Lib.hid (below_up B.out h2)
  clear h2 I1
  go_wp2_with fail
  refine (S7.out _ B.out).mono ?_; rintro e WC ⟨rfl, h2⟩
  have B := Lib.hid (below_up B.out h2)
  clear h2
  go_wp2_with fail
  refine (S8.out _ B.out).mono ?_; rintro e WD ⟨rfl, h2⟩
  have B := Lib.hid (below_up B.out h2)
  clear h2
  go_wp2_with fail
  refine (S9.out _ B.out).mono ?_; rintro e WE ⟨rfl, h2⟩
  have B := Lib.hid (below_up B.out h2)
  clear h2
  go_wp2_with fail
  refine (S10.out _ B.out).mono ?_; rintro e WF ⟨rfl, h2⟩
  have B := Lib.hid (below_up hB0.out (below_up B.out h2))
  clear h2
  go_wp2_with fail
  go_ret
  exact ⟨rfl, B.out⟩
end Go.Proofs.Ytpejdnmfagjfhaa
