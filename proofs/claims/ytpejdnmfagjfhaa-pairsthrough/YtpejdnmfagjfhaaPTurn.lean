/-
  Pairs that are turned: the program's answer, over what the library's stable sort makes.
  Conditions: lists of at most 2^30 pairs.
-/
import Derived.WalkKit
import Derived.WalkMore
import Derived.IntWalk
import Derived.OwnWalk
import Derived.OneCell
import Derived.Lib.Hide
import Derived.Deep.Cut
import Derived.Deep.Onto
import Derived.Test.YtpejdnmfagjfhaaProg
import Derived.Test.YtpejdnmfagjfhaaPIns
import Derived.Test.YtpejdnmfagjfhaaPThrough
namespace Go.Proofs.Ytpejdnmfagjfhaa
open Go.RowKit Go.Shelf
set_option linter.unusedVariables false

/-- what the library's stable sort makes of lists of at most N pairs -/
def SortOK (N : Nat) : Prop := ∀ (base g n : Nat) (l : PL) (w : World), n ≤ N → OwnP w base 42 g n l →
  Calls Try.prog 42 #[.slice (some ⟨g, 0, none⟩) n n, .int .i64 n, .func (.func 30) #[] #[]] w fun e w' => e = .returned (.tuple #[]) ∧ OwnP w' base 42 g n (sortB l) ∧ w.grownBy w' (some g)
theorem insL_all (l : PL) : insL l 0 l.length = sortB l := by simp [insL]

set_option maxRecDepth 100000 in
set_option maxHeartbeats 1000000 in
theorem stable_small : SortOK 19 := fun base g n l w hn hO => by
  have C := Lib.hid (insertion_any base g n l 0 n w (by omega) (Nat.zero_le _) (Nat.le_refl _) hO)
  have hl := hO.len
  rw [show insL l 0 n = sortB l from by rw [← hl]; exact insL_all l] at C
  have h20 : ¬ (20 : Int) ≤ (n : Int) := by omega
  have h21 : ¬ (20 : Int) < (n : Int) := by omega
  clear hO hl
  go_enter Try.func42, Try.ntmps42
  go_wp2_with fail
  go_loopw [7, 8] (fun a b wr => a = .int .i64 0 ∧ b = .int .i64 20 ∧ Hid (wr = w)) (fun _ _ _ => 0)
  case atStart => exact ⟨rfl, rfl, Lib.hid rfl⟩
  case round =>
    obtain ⟨rfl, rfl, HW⟩ := hrel
    go_wp2_with fail
    rw [HW.out]
    refine C.out.mono ?_; rintro e w1 ⟨rfl, h1, h2⟩
    have H1 := Lib.hid h1
    have H2 := Lib.hid h2
    clear h1 h2
    go_wp2_with fail
    go_loopw [6] (fun a wr => a = .int .i64 20 ∧ Hid (wr = w1)) (fun _ _ => 0)
    case atStart => exact ⟨rfl, Lib.hid rfl⟩
    case round =>
      obtain ⟨rfl, HW1⟩ := hrel
      go_wp2_with fail
      go_end0
      rw [HW1.out]
      exact ⟨rfl, H1.out, H2.out⟩
theorem sortStable_of (N : Nat) (hSort : SortOK N) (base g n : Nat) (l : PL) (w : World) (hn : n ≤ N) (hO : OwnP w base 42 g n l) :
    Calls Try.prog 32 #[.slice (some ⟨g, 0, none⟩) n n, .func (.func 30) #[] #[]] w fun e w' => e = .returned (.tuple #[]) ∧ OwnP w' base 42 g n (sortB l) ∧ w.grownBy w' (some g) := by
  have C := Lib.hid (hSort base g n l w hn hO)
  clear hO hSort
  go_enter Try.func32, Try.ntmps32
  go_wp2_with fail
  refine C.out.mono ?_; rintro e w1 ⟨rfl, h1, h2⟩
  have H1 := Lib.hid h1
  have H2 := Lib.hid h2
  clear h1 h2
  go_wp2_with fail
  go_end0
  exact ⟨rfl, H1.out, H2.out⟩
def swapP (p : Int × Int) : Int × Int := (p.2, p.1)
/-- the first k of a list, turned -/
def turnK (l : PL) (k : Nat) : PL := (l.take k).map swapP ++ l.drop k
theorem turnK_at (l : PL) (k : Nat) (p : Int × Int) (h : l[k]? = some p) : (turnK l k)[k]? = some p := by
  obtain ⟨hk, e⟩ := List.getElem?_eq_some_iff.1 h
  unfold turnK
  rw [List.getElem?_append_right (by simp; omega)]
  simp [show min k l.length = k from by omega, hk, e]
theorem turnK_next (l : PL) (k : Nat) (p : Int × Int) (h : l[k]? = some p) : (turnK l k).set k (swapP p) = turnK l (k + 1) := by
  obtain ⟨hk, e⟩ := List.getElem?_eq_some_iff.1 h
  have hd : l.drop k = p :: l.drop (k + 1) := by rw [List.drop_eq_getElem_cons hk, e]
  unfold turnK
  rw [List.set_append_right _ _ (by simp; omega), List.take_succ_eq_append_getElem hk, e, hd]
  simp [show min k l.length = k from by omega]
theorem turnK_all (l : PL) : turnK l l.length = l.map swapP := by simp [turnK]
theorem turnK_zero (l : PL) : turnK l 0 = l := by simp [turnK]
/-- pairs, turned -/
def turnL (l : PL) : PL := sortB (l.map swapP)
theorem turnL_len (l : PL) : (turnL l).length = l.length := by simp [turnL, sortB_len]

set_option maxRecDepth 100000 in
set_option maxHeartbeats 2000000 in
theorem turn_of (N : Nat) (hSort : SortOK N) (ao : Option Addr) (cap : Nat) (xs : PL) (w : World) (hN : xs.length ≤ N) (hn : xs.length ≤ 1073741824) (hR : PairsAt w ao xs) :
    Calls Try.prog 15 #[.slice ao xs.length cap] w (PairsOut (turnL xs) w) := by
  have hinfo : (Try.prog.info? 37).map (fun i => (i.zero, i.size, i.bytes)) = some (some (.agg #[.int .i64 0, .int .i64 0]), 2, 16) := by kernel_rfl
  obtain ⟨i0, hi, hz0, hz1, hz2⟩ := info_parts2 hinfo
  have HI := Lib.hid hi
  have C1 := Lib.hid (list_any ao cap xs w (by omega) hR)
  have HSo := Lib.hid hSort
  have hm : xs.length ≤ maxLen := by unfold maxLen; omega
  clear hi hinfo hR hSort
  go_enter Try.func15, Try.ntmps15
  go_wp2_with fail
  refine C1.out.mono ?_; rintro e w1 ⟨g, rfl, h1, h2⟩
  have HO : Hid (OwnP w1 w.heap.size 42 g xs.length (turnK xs 0)) := Lib.hid (by rw [turnK_zero]; exact h1)
  have HB := Lib.hid h2
  clear h1 h2
  go_wp2_with fail
  go_loopw [13] (fun i wr => ∃ k : Nat, k ≤ xs.length ∧ i = .int .i64 k ∧ Hid (OwnP wr w.heap.size 42 g xs.length (turnK xs k)) ∧ Hid (Below w.heap.size w wr)) (fun i _ => xs.length - (intOf i).toNat)
  case atStart => exact ⟨0, Nat.zero_le _, rfl, HO, HB⟩
  case round =>
    obtain ⟨k, hk, rfl, HO, HB⟩ := hrel
    by_cases hlt : k < xs.length
    · obtain ⟨⟨x1, x2⟩, hx⟩ : ∃ x, xs[k]? = some x := ⟨_, List.getElem?_eq_getElem hlt⟩
      obtain ⟨hc1, hc2⟩ := HO.out.cell k _ (turnK_at xs k _ hx)
      dsimp only at hc1 hc2
      obtain ⟨V, HV⟩ : ∃ V, Hid (V = wr.alloc (.cells #[.int .i64 x1, .int .i64 x2] 42)) := ⟨_, Lib.hid rfl⟩
      have hVh : V.heap[wr.heap.size]? = some (.cells #[.int .i64 x1, .int .i64 x2] 42 (0, 0)) := by rw [HV.out]; exact World.alloc_heap_new _ _
      have v0 : V.cell? ⟨wr.heap.size, 0, none⟩ = some (.int .i64 x1) := (Lib.cell_of_heap hVh 0).trans rfl
      have v1 : V.cell? ⟨wr.heap.size, 1, none⟩ = some (.int .i64 x2) := (Lib.cell_of_heap hVh 1).trans rfl
      have hb0 : Below wr.heap.size wr V := by rw [HV.out]; exact (Below.refl _ wr).alloc (Nat.le_refl _) _
      have HT1 := HO.out.kept hb0
      obtain ⟨z0, z1⟩ := HT1.cell k _ (turnK_at xs k _ hx)
      have f0 := HT1.frozen (k * 2)
      have f1 := HT1.frozen (k * 2 + 1)
      have T2 := HT1.store k x2 x1 hlt
      rw [show (x2, x1) = swapP (x1, x2) from rfl, turnK_next xs k _ hx] at T2
      have HT2 := Lib.hid T2
      have hgl := HO.out.lt.1
      have HB2 := Lib.hid (((below_up HB.out hb0).setCell (p := ⟨g, k * 2, none⟩) hgl (.int .i64 x2)).setCell (p := ⟨g, k * 2 + 1, none⟩) hgl (.int .i64 x1))
      clear hx hb0 hVh HT1 T2 HO HB
      go_upto_region 5 with fail
      rw [← HV.out]
      go_wp2_with fail
      go_roundw
      case rel => exact ⟨k + 1, by omega, by go_num, HT2, HB2⟩
      case measure => simp [intOf]; omega
    · obtain rfl : k = xs.length := by omega
      rw [turnK_all] at HO
      have C2 := Lib.hid (sortStable_of N HSo.out w.heap.size g xs.length _ wr hN HO.out)
      rw [show sortB (xs.map swapP) = turnL xs from rfl] at C2
      have hgl := HO.out.lt.1
      have HLen := Lib.hid (turnL_len xs)
      clear hlt HO HSo
      obtain ⟨S, HS⟩ : ∃ S, Hid (S = turnL xs) := ⟨_, Lib.hid rfl⟩
      rw [← HS.out] at C2 HLen
      go_wp2_with fail
      refine C2.out.mono ?_; rintro e w2 ⟨rfl, h1, h2⟩
      have HO := Lib.hid h1
      have HB2 := Lib.hid (HB.out.grown h2 HB.out.size (fun k h => by cases h; exact hgl))
      have hg2 := h1.lt.2
      clear h1 h2 C2
      go_wp2_with (at_make; refine wpList_make_full _ rfl _ _ 22 rfl w2.heap.size 37 i0 (.agg #[.int .i64 0, .int .i64 0]) 2 Try.underlying22 HI.out hz0 hz1 .i64 .i64 (xs.length : Int) (xs.length : Int) xs.length rfl rfl rfl rfl (by rw [hz2]; omega) hm (Nat.le_refl _) ?_; intro w3 ho hg)
      have b3 : Below w2.heap.size w2 w3 := (Below.refl _ w2).grown hg (Nat.le_refl _) (fun k h => by cases h)
      have HB3 := Lib.hid (below_up HB2.out b3)
      have HO3 := Lib.hid (HO.out.kept b3)
      have HT : Hid (OwnP w3 w2.heap.size 37 w2.heap.size xs.length (copyK S 0)) := Lib.hid ⟨by rw [copyK_len S 0 (Nat.zero_le _), HLen.out], by rw [copyK_zero, HLen.out, ← cellsP_zero]; exact ho⟩
      clear ho hg b3 HB
      go_wp2_with fail
      obtain ⟨wo, rfl⟩ : ∃ wo : World, wo = wr := ⟨_, rfl⟩
      go_loopw [34] (fun i wr => ∃ (k : Nat), k ≤ xs.length ∧ i = .int .i64 k ∧ Hid (Below w.heap.size w wr) ∧ Hid (OwnP wr w.heap.size 42 g xs.length S) ∧ Hid (OwnP wr w2.heap.size 37 w2.heap.size xs.length (copyK S k))) (fun i _ => xs.length - (intOf i).toNat)
      case atStart => exact ⟨0, Nat.zero_le _, rfl, HB3, HO3, HT⟩
      case round =>
        obtain ⟨k, hk, rfl, HB, HO, HT⟩ := hrel
        by_cases hlt : k < xs.length
        · obtain ⟨⟨x1, x2⟩, hx⟩ : ∃ x, S[k]? = some x := ⟨_, List.getElem?_eq_getElem (by rw [HLen.out]; exact hlt)⟩
          obtain ⟨hc1, hc2⟩ := HO.out.cell k _ hx
          dsimp only at hc1 hc2
          obtain ⟨V, HV⟩ : ∃ V, Hid (V = wr.alloc (.cells #[.int .i64 x1, .int .i64 x2] 42)) := ⟨_, Lib.hid rfl⟩
          have hVh : V.heap[wr.heap.size]? = some (.cells #[.int .i64 x1, .int .i64 x2] 42 (0, 0)) := by rw [HV.out]; exact World.alloc_heap_new _ _
          have v0 : V.cell? ⟨wr.heap.size, 0, none⟩ = some (.int .i64 x1) := (Lib.cell_of_heap hVh 0).trans rfl
          have v1 : V.cell? ⟨wr.heap.size, 1, none⟩ = some (.int .i64 x2) := (Lib.cell_of_heap hVh 1).trans rfl
          have hb0 : Below wr.heap.size wr V := by rw [HV.out]; exact (Below.refl _ wr).alloc (Nat.le_refl _) _
          have HT1 := HT.out.kept hb0
          have HO1 := HO.out.kept hb0
          obtain ⟨⟨y1, y2⟩, hy⟩ : ∃ y, (copyK S k)[k]? = some y := ⟨_, List.getElem?_eq_getElem (by rw [copyK_len S k (by rw [HLen.out]; exact hk), HLen.out]; exact hlt)⟩
          obtain ⟨z0, z1⟩ := HT1.cell k _ hy
          have f0 := HT1.frozen (k * 2)
          have f1 := HT1.frozen (k * 2 + 1)
          have T2 := HT1.store k x1 x2 hlt
          rw [copyK_next S k _ hx] at T2
          have HT2 := Lib.hid T2
          have hw2 : w.heap.size ≤ w2.heap.size := HB2.out.size
          have HB4 := Lib.hid (((below_up HB.out hb0).setCell (p := ⟨w2.heap.size, k * 2, none⟩) hw2 (.int .i64 x1)).setCell (p := ⟨w2.heap.size, k * 2 + 1, none⟩) hw2 (.int .i64 x2))
          have HO4 : Hid (OwnP ((V.setCell ⟨w2.heap.size, k * 2, none⟩ (.int .i64 x1)).setCell ⟨w2.heap.size, k * 2 + 1, none⟩ (.int .i64 x2)) w.heap.size 42 g xs.length S) := Lib.hid ⟨HO1.len, ownsRow_setCell_other (ownsRow_setCell_other HO1.own (by simp [Value.ownBlock]; omega) _) (by simp [Value.ownBlock]; omega) _⟩
          clear hx hb0 hVh HT1 HO1 hy T2 HT HO HB
          go_upto_region 12 with fail
          rw [← HV.out]
          go_wp2_with fail
          go_roundw
          case rel => exact ⟨k + 1, by omega, by go_num, HB4, HO4, HT2⟩
          case measure => simp [intOf]; omega
        · obtain rfl : k = xs.length := by omega
          have T2 := HT.out
          rw [← HLen.out, copyK_all] at T2
          have HT2 := Lib.hid T2.pairs
          clear T2 HT HO
          go_wp2_with fail
          go_ret
          rw [← HS.out]
          exact ⟨_, xs.length, by rw [HLen.out]; rfl, HT2.out, (fun e => by cases e), by rw [HLen.out]; exact Nat.le_refl _, HB.out⟩
end Go.Proofs.Ytpejdnmfagjfhaa
