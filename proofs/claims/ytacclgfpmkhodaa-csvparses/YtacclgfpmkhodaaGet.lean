/-
  What the program and the document's reference answer for what stands in quotes.
  Conditions: the text is at most 2^40 bytes long (the statements ask about far shorter ones).
-/
import Derived.WalkKit
import Derived.WalkMore
import Derived.Lib.Hide
import Derived.Test.YtacclgfpmkhodaaProg
import Derived.Test.YtacclgfpmkhodaaRef
namespace Go.Proofs.Ytacclgfpmkhodaa
open Go.RowKit Go.Shelf

theorem byte_yes (c : UInt8) (h : c = 34) : ((c.toNat : Int) == 34) = true ∧ ((c.toNat : Int) != 34) = false := by subst h; exact ⟨rfl, rfl⟩
theorem byte_no (c : UInt8) (h : c ≠ 34) : ((c.toNat : Int) == 34) = false ∧ ((c.toNat : Int) != 34) = true := by
  have : ((c.toNat : Int) == 34) = false := by
    rw [beq_eq_false_iff_ne]; intro e; exact h (UInt8.toNat_inj.1 (by show c.toNat = 34; omega))
  exact ⟨this, by simp only [bne, this]; rfl⟩
theorem la_other (s : ByteArray) (k : Nat) (h : k < s.size) (hc : s[k] ≠ 34) : lastAt s.data.toList k = lastAt s.data.toList (k + 1) := lastAt_other s.data.toList k (by rw [ba_size]; exact h) hc
theorem la_two (s : ByteArray) (k : Nat) (h : k + 1 < s.size) (hc : s[k] = 34) (hd : s[k + 1] = 34) : lastAt s.data.toList k = lastAt s.data.toList (k + 2) := lastAt_two s.data.toList k (by rw [ba_size]; exact h) hc hd
theorem la_close (s : ByteArray) (k : Nat) (h : k + 1 < s.size) (hc : s[k] = 34) (hd : s[k + 1] ≠ 34) : lastAt s.data.toList k = k := lastAt_close s.data.toList k (by rw [ba_size]; exact h) hc hd
theorem la_last (s : ByteArray) (k : Nat) (h : k + 1 = s.size) (hc : s[k] = 34) : lastAt s.data.toList k = k := lastAt_last s.data.toList k (by rw [ba_size]; exact h) hc

set_option maxHeartbeats 1000000 in
theorem lastQuote_any (s : ByteArray) (w : World) (hs : s.size ≤ 1099511627776) (hpos : 0 < s.size) :
    Calls Try.prog 57 #[.string s] w fun e w' => e = .returned (.int .i64 (lastAt s.data.toList 1 : Int)) ∧ w = w' := by
  go_enter Try.func57, Try.ntmps57
  go_wp2_with fail
  go_step3
  go_wp2_with fail
  go_step3
  go_wp2_with fail
  go_loop [3, 4] (fun p i => ∃ k : Nat, 1 ≤ k ∧ k ≤ s.size ∧ p = .int .i64 0 ∧ i = .int .i64 k ∧ Hid (lastAt s.data.toList 1 = lastAt s.data.toList k)) (fun _ i => s.size - (intOf i).toNat)
  case atStart => exact ⟨1, Nat.le_refl _, hpos, rfl, rfl, Lib.hid rfl⟩
  case round =>
    obtain ⟨k, hk1, hk, rfl, rfl, HP⟩ := hrel
    by_cases hlt : k < s.size
    · by_cases hc : s[k] = 34
      · obtain ⟨q1, q2⟩ := byte_yes _ hc
        by_cases hn : k + 1 < s.size
        · by_cases hd : s[k + 1] = 34
          · obtain ⟨q3, q4⟩ := byte_yes _ hd
            have HN := Lib.hid (HP.out.trans (la_two s k hn hc hd))
            clear hc hd HP
            go_wp2_with fail
            go_round
            case rel => exact ⟨k + 2, by omega, by omega, rfl, by go_num, HN⟩
            case measure => simp [intOf]; omega
          · obtain ⟨q3, q4⟩ := byte_no _ hd
            have HN := Lib.hid (HP.out.trans (la_close s k hn hc hd))
            clear hc hd HP
            go_wp2_with fail
            try rw [Exit.noGoto_ret]
            go_ret
            exact ⟨ret_int (by rw [HN.out]), rfl⟩
        · have HN := Lib.hid (HP.out.trans (la_last s k (by omega) hc))
          clear hc HP
          go_wp2_with fail
          try rw [Exit.noGoto_ret]
          go_ret
          exact ⟨ret_int (by rw [HN.out]), rfl⟩
      · obtain ⟨q1, q2⟩ := byte_no _ hc
        have HN := Lib.hid (HP.out.trans (la_other s k hlt hc))
        clear hc HP
        go_wp2_with fail
        go_round
        case rel => exact ⟨k + 1, by omega, by omega, rfl, by go_num, HN⟩
        case measure => simp [intOf]; omega
    · have HN := Lib.hid (HP.out.trans (lastAt_end s.data.toList k (by rw [ba_size]; omega)))
      clear HP
      go_wp2_with fail
      try rw [Exit.noGoto_ret]
      go_ret
      exact ⟨ret_int (by rw [HN.out]; rfl), rfl⟩

theorem ha_snoc (s : ByteArray) (k : Nat) (h : k < s.size) : haTo (s.data.toList.take (k + 1)) = haStep (haTo (s.data.toList.take k)) s[k] := by
  rw [take_snoc s k h, haTo_snoc]

set_option maxHeartbeats 1000000 in
theorem halved_any (s : ByteArray) (w : World) (hs : s.size ≤ 1099511627776) :
    Calls Try.prog 58 #[.string s] w fun e w' => e = .returned (.string ⟨(haTo s.data.toList).1.toArray⟩) ∧ Below w.heap.size w w' := by
  have hcnt := cnt_le s.data.toList
  rw [ba_size] at hcnt
  go_enter Try.func58, Try.ntmps58
  go_wp2_with fail
  go_step3
  go_wp2_with fail
  refine (count_any _ (by omega) _).mono ?_
  rintro e w1 ⟨rfl, hb1⟩
  have hbk1 : w1.heap[w.heap.size]? = some (.cells #[.pointer none, .slice none 0 0] 63 (0, 0)) := (hb1.block _ (by simp)).trans (World.alloc_heap_new w _)
  have hB1 : Below w.heap.size w w1 := ((Below.refl _ w).alloc (Nat.le_refl _) _).trans (hb1.mono (by simp))
  clear hb1
  have hz1 : w.heap.size ≤ w1.heap.size := hB1.size
  have HBK := Lib.hid hbk1; clear hbk1
  go_wp2_with fail
  refine (growAny w.heap.size w.heap.size _ _ (Nat.le_refl _) HBK.out hz1 (by omega) (by omega)).mono ?_
  rintro e w2 ⟨rfl, hA2, hb2⟩
  have hB2 := hB1.trans hb2
  clear hB1 hb2 HBK hz1 hcnt
  go_wp2_with fail
  go_step3
  go_wp2_with fail
  go_loopw [4, 15] (fun b i wr => ∃ (k : Nat) (o : List UInt8) (sec : Bool), k ≤ s.size ∧ b = .bool sec ∧ i = .int .i64 k ∧ Hid (haTo (s.data.toList.take k) = (o, sec)) ∧ o.length ≤ k ∧ Lib.IsBuilder 63 5 w.heap.size w.heap.size (Lib.byteCells o) wr ∧ Below w.heap.size w wr) (fun _ i _ => s.size - (intOf i).toNat)
  case atStart => exact ⟨0, [], false, Nat.zero_le _, rfl, rfl, Lib.hid rfl, Nat.le_refl _, hA2, hB2⟩
  case round =>
    obtain ⟨k, o, sec, hk, rfl, rfl, HP, hol, hA, hB⟩ := hrel
    by_cases hlt : k < s.size
    · have HS := Lib.hid (ha_snoc s k hlt)
      by_cases hc : s[k] = 34
      · obtain ⟨q1, q2⟩ := byte_yes _ hc
        have HC := Lib.hid hc; clear hc
        cases sec with
        | true =>
          go_wp2_with fail
          go_roundw
          case rel => exact ⟨k + 1, o, false, by omega, rfl, by go_num, Lib.hid (by rw [HS.out, HP.out]; simp [haStep, HC.out]), by omega, hA, hB⟩
          case measure => simp [intOf]; omega
        | false =>
          go_wp2_with fail
          refine (writeC w.heap.size w.heap.size _ s[k] _ hA (by omega) hB.size).mono ?_
          rintro e w4 ⟨rfl, hA4, hb4⟩
          have hB4 := hB.trans hb4
          clear hb4 hA
          go_wp2_with fail
          go_roundw
          case rel => exact ⟨k + 1, o ++ [s[k]], true, by omega, rfl, by go_num, Lib.hid (by rw [HS.out, HP.out]; simp [haStep, HC.out]), by simp; omega, hA4, hB4⟩
          case measure => simp [intOf]; omega
      · obtain ⟨q1, q2⟩ := byte_no _ hc
        have HC := Lib.hid hc; clear hc
        go_wp2_with fail
        refine (writeC w.heap.size w.heap.size _ s[k] _ hA (by omega) hB.size).mono ?_
        rintro e w4 ⟨rfl, hA4, hb4⟩
        have hB4 := hB.trans hb4
        clear hb4 hA
        go_wp2_with fail
        go_roundw
        case rel => exact ⟨k + 1, o ++ [s[k]], false, by omega, rfl, by go_num, Lib.hid (by rw [HS.out, HP.out]; simp [haStep, HC.out]), by simp; omega, hA4, hB4⟩
        case measure => simp [intOf]; omega
    · have HF : Hid (haTo s.data.toList = (o, sec)) := Lib.hid (by rw [← HP.out, List.take_of_length_le (by rw [ba_size]; omega)])
      clear HP
      go_wp2_with fail
      refine (bString w.heap.size w.heap.size _ _ hA hB.size).mono ?_
      rintro e w5 ⟨rfl, hb5⟩
      have hB5 := hB.trans hb5
      go_wp2_with fail
      try rw [Exit.noGoto_ret]
      go_ret
      exact ⟨ret_str (by rw [HF.out]), hB5⟩
end Go.Proofs.Ytacclgfpmkhodaa
