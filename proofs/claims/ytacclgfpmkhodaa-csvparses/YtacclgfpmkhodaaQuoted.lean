/-
  What the program and the document's reference answer for a cell in quotes.
  Conditions: the text is at most 2^40 bytes long (the statements ask about far shorter ones).
-/
import Derived.WalkKit
import Derived.WalkMore
import Derived.Lib.Hide
import Derived.Deep.LoopGhost
import Derived.Test.YtacclgfpmkhodaaProg
import Derived.Test.YtacclgfpmkhodaaPlain
import Derived.Test.YtacclgfpmkhodaaShelf
namespace Go.Proofs.Ytacclgfpmkhodaa
open Go.RowKit Go.Shelf

theorem ret_int {k : IntKind} {a b : Int} (h : a = b) : Ending.returned (.int k a) = .returned (.int k b) := by rw [h]

set_option maxHeartbeats 400000 in
theorem quotedSize_any (s : ByteArray) (w : World) (hs : s.size ≤ 1099511627776) :
    Calls Try.prog 56 #[.string s] w fun e w' => e = .returned (.int .i64 ((s.size : Int) + (cnt s.data.toList : Int) + 2)) ∧ Below w.heap.size w w' := by
  have hc := cnt_le s.data.toList
  have hl : s.data.toList.length = s.size := by simp
  rw [hl] at hc
  clear hl
  go_enter Try.func56, Try.ntmps56
  go_wp2_with fail
  refine (count_any _ (by omega) _).mono ?_
  rintro e w1 ⟨rfl, hb1⟩
  go_wp2_with fail
  go_ret
  exact ⟨rfl, hb1⟩

theorem growAny (B b : Nat) (n : Int) (w : World) (hB : B ≤ b) (hbk : w.heap[b]? = some (.cells #[.pointer none, .slice none 0 0] 63 (0, 0))) (hBw : B ≤ w.heap.size) (h0 : 0 ≤ n) (hn : n ≤ 281474976710656) :
    Calls Try.prog 55 #[.pointer (some ⟨b, 0, none⟩), .int .i64 n] w fun e w' => e = .returned (.tuple #[]) ∧ (Lib.IsBuilder 63 5 B b (Lib.byteCells []) w' ∧ Below B w w') := by
  obtain ⟨m, rfl⟩ := Int.eq_ofNat_of_zero_le h0
  exact (growFresh B b m w hB hbk hBw (by omega)).mono fun e w' ⟨he, hA, hb⟩ => ⟨he, Or.inr hA, hb⟩
theorem writeC (B b : Nat) (l : List UInt8) (c : UInt8) (w : World) (h : Lib.IsBuilder 63 5 B b (Lib.byteCells l) w) (hlen : l.length + 1 ≤ 140737488355328) (hBw : B ≤ w.heap.size) :
    Calls Try.prog 37 #[.pointer (some ⟨b, 0, none⟩), .int .u8 (c.toNat : Int)] w fun e w' => e = .returned .nilIface ∧ (Lib.IsBuilder 63 5 B b (Lib.byteCells (l ++ [c])) w' ∧ Below B w w') := by
  refine (writeByte B b _ _ w h (by simpa [Lib.byteCells] using hlen) hBw).mono ?_
  rintro e w' ⟨he, hA, hb⟩
  exact ⟨he, Or.inr (by simpa [Lib.byteCells] using hA), hb⟩
theorem write34 (B b : Nat) (l : List UInt8) (w : World) (h : Lib.IsBuilder 63 5 B b (Lib.byteCells l) w) (hlen : l.length + 1 ≤ 140737488355328) (hBw : B ≤ w.heap.size) :
    Calls Try.prog 37 #[.pointer (some ⟨b, 0, none⟩), .int .u8 34] w fun e w' => e = .returned .nilIface ∧ (Lib.IsBuilder 63 5 B b (Lib.byteCells (l ++ [34])) w' ∧ Below B w w') :=
  writeC B b l 34 w h hlen hBw

theorem byteCells_snoc (l : List UInt8) (c : UInt8) : Lib.byteCells (l ++ [c]) = Lib.byteCells l ++ [Value.int .u8 (c.toNat : Int)] := by simp [Lib.byteCells]

theorem twice_snoc (s : ByteArray) (k : Nat) (h : k < s.size) : twice (s.data.toList.take (k + 1)) = twice (s.data.toList.take k) ++ (if s[k] = 34 then [34, 34] else [s[k]]) := by
  rw [take_snoc s k h, twice_append]; rfl

set_option maxHeartbeats 1000000 in
theorem quoted_any (s : ByteArray) (w : World) (hs : s.size ≤ 1099511627776) :
    Calls Try.prog 48 #[.string s] w fun e w' => e = .returned (.string ⟨(quoted s.data.toList).toArray⟩) ∧ Below w.heap.size w w' := by
  go_enter Try.func48, Try.ntmps48
  go_wp2_with fail
  go_step3
  go_wp2_with fail
  refine (quotedSize_any _ _ hs).mono ?_
  rintro e w1 ⟨rfl, hb1⟩
  have hbk1 : w1.heap[w.heap.size]? = some (.cells #[.pointer none, .slice none 0 0] 63 (0, 0)) := (hb1.block _ (by simp)).trans (World.alloc_heap_new w _)
  have hB1 : Below w.heap.size w w1 := ((Below.refl _ w).alloc (Nat.le_refl _) _).trans (hb1.mono (by simp))
  clear hb1
  have hz1 : w.heap.size ≤ w1.heap.size := hB1.size
  have hc := cnt_le s.data.toList
  rw [show s.data.toList.length = s.size by simp] at hc
  have HBK := Lib.hid hbk1; clear hbk1
  go_wp2_with fail
  refine (growAny w.heap.size w.heap.size _ _ (Nat.le_refl _) HBK.out hz1 (by omega) (by omega)).mono ?_
  rintro e w2 ⟨rfl, hA2, hb2⟩
  have hB2 := hB1.trans hb2
  clear hB1 hb2 HBK hz1
  go_wp2_with fail
  refine (write34 w.heap.size w.heap.size [] _ hA2 (by simp) hB2.size).mono ?_
  rintro e w3 ⟨rfl, hA3, hb3⟩
  have hB3 := hB2.trans hb3
  clear hB2 hb3 hA2
  go_wp2_with fail
  go_step3
  go_wp2_with fail
  go_loopw [11] (fun i wr => ∃ k : Nat, k ≤ s.size ∧ i = .int .i64 k ∧ Lib.IsBuilder 63 5 w.heap.size w.heap.size (Lib.byteCells (34 :: twice (s.data.toList.take k))) wr ∧ Below w.heap.size w wr) (fun i _ => s.size - (intOf i).toNat)
  case atStart => exact ⟨0, Nat.zero_le _, rfl, hA3, hB3⟩
  case round =>
    obtain ⟨k, hk, rfl, hA, hB⟩ := hrel
    have hlk : (34 :: twice (s.data.toList.take k)).length ≤ 2 * s.size + 1 := by
      have h1 := twice_length (s.data.toList.take k); have h2 := cnt_le (s.data.toList.take k); simp at h1 h2 ⊢; omega
    by_cases hlt : k < s.size
    · have HS := Lib.hid (twice_snoc s k hlt)
      go_wp2_with fail
      refine (writeC w.heap.size w.heap.size _ s[k] _ hA (by omega) hB.size).mono ?_
      rintro e w4 ⟨rfl, hA4, hb4⟩
      have hB4 := hB.trans hb4
      clear hb4 hA
      by_cases hq : s[k] = 34
      · have hq1 : ((s[k].toNat : Int) != 34) = false := by rw [hq]; rfl
        have HQ := Lib.hid hq; clear hq
        go_wp2_with fail
        refine (write34 w.heap.size w.heap.size _ _ hA4 (by simp at hlk ⊢; omega) hB4.size).mono ?_
        rintro e w5 ⟨rfl, hA5, hb5⟩
        have hB5 := hB4.trans hb5
        clear hb5 hA4
        go_wp2_with fail
        go_roundw
        case rel => exact ⟨k + 1, by omega, by go_num, by rw [HS.out, if_pos HQ.out]; rw [HQ.out] at hA5; simpa using hA5, hB5⟩
        case measure => simp [intOf]; omega
      · have hq1 : ((s[k].toNat : Int) != 34) = true := by
          rw [bne_iff_ne]; intro e; exact hq (UInt8.toNat_inj.1 (by show s[k].toNat = 34; omega))
        have HQ := Lib.hid hq; clear hq
        go_wp2_with fail
        go_roundw
        case rel => exact ⟨k + 1, by omega, by go_num, by rw [HS.out, if_neg HQ.out]; simpa using hA4, hB4⟩
        case measure => simp [intOf]; omega
    · have hA' : Lib.IsBuilder 63 5 w.heap.size w.heap.size (Lib.byteCells (34 :: twice s.data.toList)) wr := by rw [List.take_of_length_le (by simp; omega)] at hA; exact hA
      have hlk' : (34 :: twice s.data.toList).length ≤ 2 * s.size + 1 := by
        have h1 := twice_length s.data.toList; have h2 := cnt_le s.data.toList; simp at h1 h2 ⊢; omega
      clear hA
      go_wp2_with fail
      refine (write34 w.heap.size w.heap.size _ _ hA' (by omega) hB.size).mono ?_
      rintro e w4 ⟨rfl, hA4, hb4⟩
      have hB4 := hB.trans hb4
      go_wp2_with fail
      refine (bString w.heap.size w.heap.size _ _ hA4 hB4.size).mono ?_
      rintro e w5 ⟨rfl, hb5⟩
      have hB5 := hB4.trans hb5
      go_wp2_with fail
      try rw [Exit.noGoto_ret]
      go_ret
      exact ⟨rfl, hB5⟩
end Go.Proofs.Ytacclgfpmkhodaa
