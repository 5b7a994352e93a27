/-
  What the program's search answers over any row of tests: the first place that a test knows, and what that test tells of it.
  Conditions: each test is asked only where those ahead of it said no.
-/
import Derived.WalkKit
import Derived.WalkMore
import Derived.RegionTactic
import Derived.ChangeAlike
import Derived.Lib.Hide
import Derived.Test.YtacclgfpmkhodaaProg
import Derived.Test.YtacclgfpmkhodaaLexTests
namespace Go.Proofs.Ytacclgfpmkhodaa
open Go.RowKit Go.Shelf

def foundV (k : Nat) (t : Int × Int × Int × Bool) : Value := .tuple #[.int .i64 (k : Int), .agg #[.int .i64 t.1, .int .i64 t.2.1, .int .i64 t.2.2.1], .bool t.2.2.2]

theorem box3 {W : World} {B : Nat} {x y z : Value} {T : TypeId} (h : W.heap[B]? = some (.cells #[x, y, z] T (0, 0))) :
    (W.cell? ⟨B, 0, none⟩ = some x ∧ W.cell? ⟨B, 1, none⟩ = some y ∧ W.cell? ⟨B, 2, none⟩ = some z) ∧ (W.frozen? ⟨B, 0, none⟩ = false ∧ W.frozen? ⟨B, 1, none⟩ = false ∧ W.frozen? ⟨B, 2, none⟩ = false) :=
  ⟨⟨(Lib.cell_of_heap h 0).trans rfl, (Lib.cell_of_heap h 1).trans rfl, (Lib.cell_of_heap h 2).trans rfl⟩, Lib.frozen_of_heap h 0, Lib.frozen_of_heap h 1, Lib.frozen_of_heap h 2⟩
theorem add_block (A : Addr) (j : Nat) : (A.add j).block = A.block := by unfold Addr.add; split <;> rfl
theorem two_new (w : World) (o p : Obj) : ((w.alloc o).alloc p).heap.size = w.heap.size + 2 ∧ ((w.alloc o).alloc p).heap[w.heap.size]? = some o ∧ ((w.alloc o).alloc p).heap[w.heap.size + 1]? = some p := by
  refine ⟨by simp, ?_, ?_⟩
  · rw [Below.heap_alloc _ _ _ (by simp)]; exact World.alloc_heap_new w o
  · have := World.alloc_heap_new (w.alloc o) p
    simpa using this
theorem two_below (w : World) (o p : Obj) : Below w.heap.size w ((w.alloc o).alloc p) := ((Below.refl _ w).alloc (Nat.le_refl _) o).alloc (by simp) p

set_option maxRecDepth 100000 in
set_option maxHeartbeats 4000000 in
theorem find_any (n : Nat) (fn : Nat → FuncId) (caps : Nat → Array Value) (told : Nat → Nat → Int × Int × Int × Bool) (A : Addr) (cap : Nat) (a b : Nat) (w : World)
    (hn : n ≤ 5) (hb : b ≤ 1099511627776) (hA : A.block < w.heap.size)
    (hent : Hid (∀ i, i < n → ∀ args w, (callFunc (fn i) args).run Try.prog w = .ok (.enter (fn i) args) w))
    (hcell : Hid (∀ i : Nat, i < n → w.cell? (A.add i) = some (.func (.func (fn i)) #[] (caps i))))
    (hT : Hid (∀ i k W, i < n → a ≤ k → k ≤ b → (∀ j, j < i → (told j k).2.2.2 = false) → Below w.heap.size w W → Calls Try.prog (fn i) (#[.int .i64 (k : Int)] ++ caps i) W fun e w' => e = .returned (endV (told i k).1 (told i k).2.1 (told i k).2.2.1 (told i k).2.2.2) ∧ Below W.heap.size W w')) :
    Calls Try.prog 51 #[.slice (some A) n cap, .int .i64 a, .int .i64 b] w fun e w' =>
      ((∃ k i, a ≤ k ∧ k ≤ b ∧ i < n ∧ (∀ k', a ≤ k' → k' < k → ∀ j, j < n → (told j k').2.2.2 = false) ∧ (∀ j, j < i → (told j k).2.2.2 = false) ∧ (told i k).2.2.2 = true ∧ e = .returned (foundV k (told i k))) ∨
       ((∀ k', a ≤ k' → k' ≤ b → ∀ j, j < n → (told j k').2.2.2 = false) ∧ e = .returned (foundV 0 (0, 0, 0, false)))) ∧ Below w.heap.size w w' := by
  obtain ⟨w2, hw2⟩ : ∃ w2 : World, w2 = (w.alloc (.cells #[.int .i64 0, .int .i64 0, .int .i64 0] 85)).alloc (.cells #[.int .i64 0, .int .i64 0, .int .i64 0] 85) := ⟨_, rfl⟩
  go_enter Try.func51, Try.ntmps51
  go_wp2_with fail
  go_step3
  go_wp2_with fail
  go_step3
  go_wp2_with fail
  rw [← hw2]
  have hsz : w2.heap.size = w.heap.size + 2 := by rw [hw2]; exact (two_new _ _ _).1
  have h7 : w2.heap[w.heap.size]? = some (.cells #[.int .i64 0, .int .i64 0, .int .i64 0] 85 (0, 0)) := by rw [hw2]; exact (two_new _ _ _).2.1
  have h10 : w2.heap[w.heap.size + 1]? = some (.cells #[.int .i64 0, .int .i64 0, .int .i64 0] 85 (0, 0)) := by rw [hw2]; exact (two_new _ _ _).2.2
  have hb2 : Below w.heap.size w w2 := by rw [hw2]; exact two_below _ _ _
  clear hw2
  have H7 := Lib.hid h7
  have H10 := Lib.hid h10
  have HB2 := Lib.hid hb2
  have HSZ := Lib.hid hsz
  clear h7 h10 hb2 hsz
  go_loopw [9, 11, 12] (fun p q i wr => ∃ k : Nat, a ≤ k ∧ (k ≤ b + 1 ∨ k = a) ∧ p = .int .i64 0 ∧ q = .bool false ∧ i = .int .i64 k ∧ Below w2.heap.size w2 wr ∧ Hid (∀ k', a ≤ k' → k' < k → ∀ j, j < n → (told j k').2.2.2 = false)) (fun _ _ i _ => b + 1 - (intOf i).toNat)
  case atStart => exact ⟨a, Nat.le_refl _, .inr rfl, rfl, rfl, rfl, Below.refl _ _, Lib.hid (fun _ h1 h2 => by omega)⟩
  case round =>
    obtain ⟨k, hak, hk, rfl, rfl, rfl, hbel, HS⟩ := hrel
    by_cases hle : k ≤ b
    · go_wp2_with fail
      obtain ⟨wo, rfl⟩ : ∃ wo : World, wo = wr := ⟨_, rfl⟩
      go_loopw [9, 11, 25] (fun p q i wi => ∃ j : Nat, j ≤ n ∧ p = .int .i64 0 ∧ q = .bool false ∧ i = .int .i64 j ∧ Below w2.heap.size w2 wi ∧ Hid (∀ j', j' < j → (told j' k).2.2.2 = false)) (fun _ _ i _ => n - (intOf i).toNat)
      case atStart => exact ⟨0, Nat.zero_le _, rfl, rfl, rfl, hbel, Lib.hid (fun _ h => absurd h (Nat.not_lt_zero _))⟩
      case round =>
        obtain ⟨j, hjn, rfl, rfl, rfl, hbi, HJ⟩ := hrel
        by_cases hlt : j < n
        · have hc := ((HB2.out.trans (hbi.mono (by rw [HSZ.out]; omega))).cell (p := A.add j) (by rw [add_block]; exact hA)).trans (hcell.out j hlt)
          have he := hent.out j hlt
          have C := Lib.hid (hT.out j k wr hlt hak hle HJ.out (HB2.out.trans (hbi.mono (by rw [HSZ.out]; omega))))
          obtain ⟨t, Ht⟩ : ∃ t, Hid (t = told j k) := ⟨_, Lib.hid rfl⟩
          rw [← Ht.out] at C
          obtain ⟨x, y, z, c⟩ := t
          simp only at C
          have HBI := Lib.hid hbi
          clear hbi hbel
          cases c with
          | false =>
            have HN : Hid (∀ j', j' < j + 1 → (told j' k).2.2.2 = false) := Lib.hid (fun j' h => by
              by_cases e : j' = j
              · rw [e, ← Ht.out]
              · exact HJ.out j' (by omega))
            go_wp2_with fail
            refine C.out.mono ?_; rintro e w3 ⟨rfl, b3⟩
            have B3 := Lib.hid (HBI.out.trans (b3.mono HBI.out.size))
            clear b3
            simp only [endV]
            go_wp2_with fail
            go_roundw
            case rel => exact ⟨j + 1, by omega, rfl, rfl, by go_num, B3.out.alloc B3.out.size _, HN⟩
            case measure => simp [intOf]; omega
          | true =>
            go_wp2_with fail
            refine C.out.mono ?_; rintro e w3 ⟨rfl, b3⟩
            have B3 := Lib.hid (HBI.out.trans (b3.mono HBI.out.size))
            clear b3
            have hw7 := (B3.out.block w.heap.size (by rw [HSZ.out]; omega)).trans H7.out
            have hw10 := (B3.out.block (w.heap.size + 1) (by rw [HSZ.out]; omega)).trans H10.out
            obtain ⟨⟨c70, c71, c72⟩, f70, f71, f72⟩ := box3 hw7
            obtain ⟨⟨c100, c101, c102⟩, f100, f101, f102⟩ := box3 hw10
            have l7 : w.heap.size < w3.heap.size := by have := B3.out.size; rw [HSZ.out] at this; omega
            have l10 : w.heap.size + 1 < w3.heap.size := by have := B3.out.size; rw [HSZ.out] at this; omega
            simp only [endV]
            go_wp2_with fail
            go_region
            all_goals (go_wp2_with fail)
            all_goals go_region
            all_goals (go_wp2_with fail)
            all_goals rw [Exit.noGoto_ret]
            all_goals refine bodyPost_ret (v := foundV k (x, y, z, true)) (by simp [results, foundV, Try.results51, go_sem, c70, c71, c72, l7]) rfl ?_
            all_goals refine ⟨.inl ⟨k, j, hak, hle, hlt, HS.out, HJ.out, by rw [← Ht.out], by rw [← Ht.out]⟩, ?_⟩
            have B := HB2.out.trans (B3.out.mono (by rw [HSZ.out]; omega))
            have Bx := (((B.setCell (p := ⟨w.heap.size + 1, 0, none⟩) (Nat.le_succ _) (.int .i64 x)).setCell (p := ⟨w.heap.size + 1, 1, none⟩) (Nat.le_succ _) (.int .i64 y)).setCell (p := ⟨w.heap.size + 1, 2, none⟩) (Nat.le_succ _) (.int .i64 z))
            have By := (((Bx.setCell (p := ⟨w.heap.size, 0, none⟩) (Nat.le_refl _) (.int .i64 x)).setCell (p := ⟨w.heap.size, 1, none⟩) (Nat.le_refl _) (.int .i64 y)).setCell (p := ⟨w.heap.size, 2, none⟩) (Nat.le_refl _) (.int .i64 z))
            exact ((By.alloc By.size _).drew).drew
        · obtain rfl : j = n := by omega
          have HK : Hid (∀ k', a ≤ k' → k' < k + 1 → ∀ i, i < j → (told i k').2.2.2 = false) := Lib.hid (fun k' h1 h2 i hi => by
            by_cases e : k' = k
            · rw [e]; exact HJ.out i hi
            · exact HS.out k' h1 (by omega) i hi)
          go_wp2_with fail
          go_roundw
          case rel => exact ⟨k + 1, by omega, .inl (by omega), rfl, rfl, by go_num, hbi, HK⟩
          case measure => simp [intOf]; omega
    · have hw7 := (hbel.block w.heap.size (by rw [HSZ.out]; omega)).trans H7.out
      have hw10 := (hbel.block (w.heap.size + 1) (by rw [HSZ.out]; omega)).trans H10.out
      obtain ⟨⟨c70, c71, c72⟩, f70, f71, f72⟩ := box3 hw7
      obtain ⟨⟨c100, c101, c102⟩, f100, f101, f102⟩ := box3 hw10
      go_wp2_with fail
      go_region
      all_goals (go_wp2_with fail)
      all_goals rw [Exit.noGoto_ret]
      all_goals refine bodyPost_ret (v := foundV 0 (0, 0, 0, false)) (by simp [results, foundV, Try.results51, go_sem, c70, c71, c72]) rfl ?_
      all_goals refine ⟨.inr ⟨fun k' h1 h2 => HS.out k' h1 (by omega), rfl⟩, ?_⟩
      all_goals exact ((((HB2.out.trans (hbel.mono (by rw [HSZ.out]; omega))).setCell (p := ⟨w.heap.size, 0, none⟩) (Nat.le_refl _) _).setCell (p := ⟨w.heap.size, 1, none⟩) (Nat.le_refl _) _).setCell (p := ⟨w.heap.size, 2, none⟩) (Nat.le_refl _) _).drew
end Go.Proofs.Ytacclgfpmkhodaa
