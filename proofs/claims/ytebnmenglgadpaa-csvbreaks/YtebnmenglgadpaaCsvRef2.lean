/-
  What the document's reference answers for the text of records.
  Conditions: records that are few and short (the statements ask about these alone).
-/
import Derived.WalkKit
import Derived.WalkMore
import Derived.Lib.Hide
import Derived.Test.YtebnmenglgadpaaProg
import Derived.Test.YtebnmenglgadpaaCsvRef
namespace Go.Proofs.Ytebnmenglgadpaa
open Go.RowKit Go.Shelf

theorem few_row (r : List ByteArray) (h : r.length ≤ 60) : decide (128 < r.length) = false := decide_eq_false (by omega)
theorem any_next (r : List ByteArray) (j : Nat) (c : ByteArray) (h : r[j]? = some c) : ((r.take (j + 1)).any fun c => decide (4096 < c.size)) = (((r.take j).any fun c => decide (4096 < c.size)) || decide (4096 < c.size)) := by
  obtain ⟨hk, e⟩ := List.getElem?_eq_some_iff.1 h
  rw [List.take_succ_eq_append_getElem hk, e]; simp
theorem any_rows (rs : List (List ByteArray)) (k : Nat) (r : List ByteArray) (h : rs[k]? = some r) (p : List ByteArray → Bool) : (rs.take (k + 1)).any p = ((rs.take k).any p || p r) := by
  obtain ⟨hk, e⟩ := List.getElem?_eq_some_iff.1 h
  rw [List.take_succ_eq_append_getElem hk, e]; simp
theorem print_bare (rs : List (List ByteArray)) (d : UInt8) (crlf : Bool) (hg : goodI (d.toNat : Int) = true) (k : Nat) (r : List ByteArray) (h : rs[k]? = some r) (h0 : r.length = 0) : printL rs d crlf = ([], 1) := by
  unfold printL; rw [if_neg (by simp [hg]), if_pos]
  exact List.any_eq_true.2 ⟨r, List.mem_of_getElem? h, by simp [bareRow, h0]⟩

set_option maxRecDepth 100000 in
set_option maxHeartbeats 4000000 in
theorem rprint_any (d : UInt8) (crlf : Bool) (ao : Option Addr) (cap : Nat) (rs : List (List ByteArray)) (w : World) (hF : fewP rs) (hR : RowsAt w ao rs) :
    Calls Try.prog 17 #[.slice ao rs.length cap, .int .u8 (d.toNat : Int), .bool crlf] w fun e w' => e = .returned (printV (printL rs d crlf)) ∧ Below w.heap.size w w' := by
  have G := Lib.hid (fun w => rgood_any (d.toNat : Int) w)
  obtain ⟨y, HP⟩ : ∃ y, Hid (y = printL rs d crlf) := ⟨_, Lib.hid rfl⟩
  rw [← HP.out]
  have HRo := Lib.hid hR
  have hn := hF.1
  have HSm := Lib.hid (few_small rs hF)
  have HTx := Lib.hid (fun k => Nat.le_trans (text_part rs k d crlf) (few_text d crlf rs hF))
  clear hR hF
  by_cases hg : goodI (d.toNat : Int) = false
  · have E := Lib.hid (show y = ([], 2) by rw [HP.out]; unfold printL; rw [if_pos hg])
    rw [hg] at G
    clear hg
    go_enter Try.func17, Try.ntmps17
    go_wp2_with fail
    refine (G.out _).mono ?_; rintro e w' ⟨rfl, rfl⟩
    go_wp2_with fail
    go_ret2
    exact ⟨ret_print (by rw [E.out]) (by rw [E.out]; rfl), Below.refl _ _⟩
  have hg' : goodI (d.toNat : Int) = true := by simpa using hg
  have HBare := Lib.hid (fun k r h h0 => (HP.out.trans (print_bare rs d crlf hg' k r h h0)))
  have HEnd : Hid ((∀ (j : Nat) r, j < rs.length → rs[j]? = some r → r.length ≠ 0) → y = if (rs.any largeRow || decide (4194304 < (textL (recsOf rs) d crlf).length)) = true then ([], 7) else (textL (recsOf rs) d crlf, 0)) := Lib.hid (fun h => by
    rw [HP.out]; unfold printL tooLarge
    rw [if_neg hg, if_neg (by
      intro hb
      obtain ⟨r, hr, h0⟩ := List.any_eq_true.1 hb
      obtain ⟨i, hi, rfl⟩ := List.getElem_of_mem hr
      exact h i _ hi (List.getElem?_eq_getElem hi) (by simpa [bareRow] using h0)), decide_eq_false (show ¬ 2048 < rs.length by omega), Bool.false_or]
    cases h1 : rs.any largeRow with
    | true => simp
    | false => simp)
  rw [hg'] at G
  clear hg hg' HP
  go_enter Try.func17, Try.ntmps17
  go_wp2_with fail
  refine (G.out _).mono ?_; rintro e w' ⟨rfl, rfl⟩
  clear G
  have hq : decide ((2048 : Int) < (rs.length : Int)) = false := decide_eq_false (by omega)
  go_wp2_with fail
  go_loopw [8, 9, 10] (fun p q i wr => ∃ (k : Nat) (t : ByteArray) (b : Bool), k ≤ rs.length ∧ t.size ≤ 24120 ∧ p = .bool b ∧ q = .string t ∧ i = .int .i64 k ∧ Hid (b = (rs.take k).any largeRow) ∧ Hid (t.data.toList = textL (recsOf (rs.take k)) d crlf) ∧
    Hid (∀ (j : Nat) r, j < k → rs[j]? = some r → r.length ≠ 0) ∧ Hid (Below w.heap.size w wr)) (fun _ _ i _ => rs.length - (intOf i).toNat)
  case atStart => exact ⟨0, ⟨#[]⟩, false, Nat.zero_le _, by decide, rfl, rfl, rfl, Lib.hid rfl, Lib.hid rfl, Lib.hid (fun j r h _ => by omega), Lib.hid (Below.refl _ _)⟩
  case round =>
    obtain ⟨k, t, b, hk, ht, rfl, rfl, rfl, HB1, HT, HA, HB⟩ := hrel
    by_cases hlt : k < rs.length
    · obtain ⟨r, hr⟩ : ∃ r, rs[k]? = some r := ⟨_, List.getElem?_eq_getElem hlt⟩
      have HN := Lib.hid (text_next rs k r hr d crlf)
      have HAn := Lib.hid (any_rows rs k r hr largeRow)
      obtain ⟨hr60, hr8⟩ := HSm.out r (List.mem_of_getElem? hr)
      have HR8 := Lib.hid hr8
      have Hr := Lib.hid hr
      rcases HRo.out.kept HB.out with h0 | ⟨A, rfl, hA, hcell⟩
      · rw [h0] at hlt; simp at hlt
      obtain ⟨ro, rc, hc, hs⟩ := hcell k r hr
      have HSr := Lib.hid hs
      have HTk := HTx.out (k + 1)
      clear hcell hs hr8
      by_cases hr0 : r.length = 0
      · have E := Lib.hid (HBare.out k r hr hr0)
        clear hr
        go_wp2_with fail
        go_ret2
        exact ⟨ret_print (by rw [E.out]) (by rw [E.out]; rfl), HB.out⟩
      · have HA' : Hid (∀ (j : Nat) x, j < k + 1 → rs[j]? = some x → x.length ≠ 0) := Lib.hid (fun j x hj hx' => by
          by_cases e : j = k
          · subst e; rw [Hr.out] at hx'; cases hx'; exact hr0
          · exact HA.out j x (by omega) hx')
        have hz : ((r.length : Int) == 0) = false := by rw [beq_eq_false_iff_ne]; omega
        have hq2 : decide ((128 : Int) < (r.length : Int)) = false := decide_eq_false (by omega)
        have HLr : Hid (largeRow r = r.any fun c => decide (4096 < c.size)) := Lib.hid (by unfold largeRow; rw [few_row r hr60]; rfl)
        clear hr hr0
        cases b with
        | true =>
          go_wp2_with fail
          obtain ⟨wo, rfl⟩ : ∃ wo : World, wo = wr := ⟨_, rfl⟩
          go_loopw [8, 11] (fun p i wi => ∃ (j : Nat) (c : Bool), j ≤ r.length ∧ p = .bool c ∧ i = .int .i64 j ∧ wi = wo ∧ Hid (c = (true || (r.take j).any fun c => decide (4096 < c.size)))) (fun _ i _ => r.length - (intOf i).toNat)
          case atStart => exact ⟨0, true, Nat.zero_le _, rfl, rfl, rfl, Lib.hid (by simp)⟩
          case round =>
            obtain ⟨j, c, hj, rfl, rfl, hwi, HC⟩ := hrel
            subst hwi
            by_cases hjl : j < r.length
            · obtain ⟨x, hx⟩ : ∃ x, r[j]? = some x := ⟨_, List.getElem?_eq_getElem hjl⟩
              have HJ := Lib.hid (any_next r j x hx)
              have hx8 := HR8.out x (List.mem_of_getElem? hx)
              rcases HSr.out with h0 | ⟨D, rfl, hD, hcell⟩
              · rw [h0] at hjl; simp at hjl
              have hcx := hcell j x hx
              clear hcell hx
              cases c with
              | true =>
                have HC' : Hid (true = (true || (r.take (j + 1)).any fun c => decide (4096 < c.size))) := Lib.hid (by rw [HJ.out, ← Bool.or_assoc, ← HC.out]; rfl)
                go_wp2_with fail
                go_roundw
                case rel => exact ⟨j + 1, true, by omega, rfl, by go_num, by first | rfl | trivial, HC'⟩
                case measure => simp [intOf]; omega
              | false =>
                have HC' : Hid (decide (4096 < x.size) = (true || (r.take (j + 1)).any fun c => decide (4096 < c.size))) := Lib.hid (by rw [HJ.out, ← Bool.or_assoc, ← HC.out]; rfl)
                have HD := Lib.hid (dgt x.size 4096)
                go_wp2_with fail
                go_roundw
                case rel => exact ⟨j + 1, decide (4096 < x.size), by omega, by rw [← HD.out]; rfl, by go_num, by first | rfl | trivial, HC'⟩
                case measure => simp [intOf]; omega
            · obtain rfl : j = r.length := by omega
              have Wc := Lib.hid (rwrite_any d crlf ro rc r wr (by omega) (fun c hc => by have := HR8.out c hc; omega) HSr.out)
              obtain ⟨T, HTT, hT⟩ : ∃ T : ByteArray, Hid (T.data.toList = writeL (bytesOf r) d crlf) ∧ T = ⟨(writeL (bytesOf r) d crlf).toArray⟩ := ⟨_, Lib.hid rfl, rfl⟩
              rw [← hT] at Wc
              clear hT
              have hsum : t.size + T.size ≤ 24120 := by
                have h1 := HTk
                rw [HN.out, ← HT.out, ← HTT.out, List.length_append, ba_size, ba_size] at h1
                exact h1
              have HC' : Hid (c = (rs.take (k + 1)).any largeRow) := Lib.hid (by rw [HAn.out, ← HB1.out, HLr.out, HC.out, List.take_length])
              have HT' : Hid ((t ++ T).data.toList = textL (recsOf (rs.take (k + 1))) d crlf) := Lib.hid (by rw [ba_app, HN.out, ← HT.out, ← HTT.out])
              go_wp2_with fail
              refine Wc.out.mono ?_; rintro e w1 ⟨rfl, b1⟩
              have HB' := Lib.hid (below_up HB.out b1)
              clear b1 hc Wc
              go_wp2_with fail
              go_roundw
              case rel => exact ⟨k + 1, t ++ T, c, by omega, by rw [ByteArray.size_append]; exact hsum, rfl, rfl, by go_num, HC', HT', HA', HB'⟩
              case measure => simp [intOf]; omega
        | false =>
          go_wp2_with fail
          obtain ⟨wo, rfl⟩ : ∃ wo : World, wo = wr := ⟨_, rfl⟩
          go_loopw [8, 11] (fun p i wi => ∃ (j : Nat) (c : Bool), j ≤ r.length ∧ p = .bool c ∧ i = .int .i64 j ∧ wi = wo ∧ Hid (c = (false || (r.take j).any fun c => decide (4096 < c.size)))) (fun _ i _ => r.length - (intOf i).toNat)
          case atStart => exact ⟨0, false, Nat.zero_le _, rfl, rfl, rfl, Lib.hid (by simp)⟩
          case round =>
            obtain ⟨j, c, hj, rfl, rfl, hwi, HC⟩ := hrel
            subst hwi
            by_cases hjl : j < r.length
            · obtain ⟨x, hx⟩ : ∃ x, r[j]? = some x := ⟨_, List.getElem?_eq_getElem hjl⟩
              have HJ := Lib.hid (any_next r j x hx)
              have hx8 := HR8.out x (List.mem_of_getElem? hx)
              rcases HSr.out with h0 | ⟨D, rfl, hD, hcell⟩
              · rw [h0] at hjl; simp at hjl
              have hcx := hcell j x hx
              clear hcell hx
              cases c with
              | true =>
                have HC' : Hid (true = (false || (r.take (j + 1)).any fun c => decide (4096 < c.size))) := Lib.hid (by rw [HJ.out, ← Bool.or_assoc, ← HC.out]; rfl)
                go_wp2_with fail
                go_roundw
                case rel => exact ⟨j + 1, true, by omega, rfl, by go_num, by first | rfl | trivial, HC'⟩
                case measure => simp [intOf]; omega
              | false =>
                have HC' : Hid (decide (4096 < x.size) = (false || (r.take (j + 1)).any fun c => decide (4096 < c.size))) := Lib.hid (by rw [HJ.out, ← Bool.or_assoc, ← HC.out]; rfl)
                have HD := Lib.hid (dgt x.size 4096)
                go_wp2_with fail
                go_roundw
                case rel => exact ⟨j + 1, decide (4096 < x.size), by omega, by rw [← HD.out]; rfl, by go_num, by first | rfl | trivial, HC'⟩
                case measure => simp [intOf]; omega
            · obtain rfl : j = r.length := by omega
              have Wc := Lib.hid (rwrite_any d crlf ro rc r wr (by omega) (fun c hc => by have := HR8.out c hc; omega) HSr.out)
              obtain ⟨T, HTT, hT⟩ : ∃ T : ByteArray, Hid (T.data.toList = writeL (bytesOf r) d crlf) ∧ T = ⟨(writeL (bytesOf r) d crlf).toArray⟩ := ⟨_, Lib.hid rfl, rfl⟩
              rw [← hT] at Wc
              clear hT
              have hsum : t.size + T.size ≤ 24120 := by
                have h1 := HTk
                rw [HN.out, ← HT.out, ← HTT.out, List.length_append, ba_size, ba_size] at h1
                exact h1
              have HC' : Hid (c = (rs.take (k + 1)).any largeRow) := Lib.hid (by rw [HAn.out, ← HB1.out, HLr.out, HC.out, List.take_length])
              have HT' : Hid ((t ++ T).data.toList = textL (recsOf (rs.take (k + 1))) d crlf) := Lib.hid (by rw [ba_app, HN.out, ← HT.out, ← HTT.out])
              go_wp2_with fail
              refine Wc.out.mono ?_; rintro e w1 ⟨rfl, b1⟩
              have HB' := Lib.hid (below_up HB.out b1)
              clear b1 hc Wc
              go_wp2_with fail
              go_roundw
              case rel => exact ⟨k + 1, t ++ T, c, by omega, by rw [ByteArray.size_append]; exact hsum, rfl, rfl, by go_num, HC', HT', HA', HB'⟩
              case measure => simp [intOf]; omega
    · obtain rfl : k = rs.length := by omega
      have E := Lib.hid (HEnd.out HA.out)
      have hb' := HB1.out
      have ht' := HT.out
      rw [List.take_length] at hb' ht'
      rw [← hb', ← ht', ba_size] at E
      have hds : decide ((4194304 : Int) < (t.size : Int)) = false := decide_eq_false (by omega)
      have hdn : decide (4194304 < t.size) = false := decide_eq_false (by omega)
      rw [hdn, Bool.or_false] at E
      clear hb' ht' hdn
      cases b with
      | true =>
        go_wp2_with fail
        go_ret2
        exact ⟨ret_print (by rw [E.out]; rfl) (by rw [E.out]; rfl), HB.out⟩
      | false =>
        go_wp2_with fail
        go_ret2
        exact ⟨ret_print (by rw [E.out]; rfl) (by rw [E.out]; rfl), HB.out⟩
end Go.Proofs.Ytebnmenglgadpaa
