/-
  What the document's reference answers: whether records are few and short; the text of records.
  Conditions: slices and texts are Go values (no longer than the model lets them be); the text of records: of records that are few and short (the statements ask about these alone).
-/
import Derived.WalkKit
import Derived.WalkMore
import Derived.Lib.Hide
import Derived.Test.YtebnmenglgadpaaProg
import Derived.Test.YtebnmenglgadpaaCsvMath2
namespace Go.Proofs.Ytebnmenglgadpaa
open Go.RowKit Go.Shelf

def rowTot (r : List ByteArray) : Nat := (r.map fun c => c.size + 1).sum
def tot (rs : List (List ByteArray)) : Nat := (rs.map rowTot).sum
def fewP (rs : List (List ByteArray)) : Prop := rs.length ≤ 60 ∧ (∀ r ∈ rs, r.length ≤ 60) ∧ tot rs ≤ 8000
theorem rowTot_next (r : List ByteArray) (j : Nat) (c : ByteArray) (h : r[j]? = some c) : rowTot (r.take (j + 1)) = rowTot (r.take j) + (c.size + 1) := by
  obtain ⟨hk, e⟩ := List.getElem?_eq_some_iff.1 h
  rw [List.take_succ_eq_append_getElem hk, e]; simp [rowTot]
theorem tot_next (rs : List (List ByteArray)) (k : Nat) (r : List ByteArray) (h : rs[k]? = some r) : tot (rs.take (k + 1)) = tot (rs.take k) + rowTot r := by
  obtain ⟨hk, e⟩ := List.getElem?_eq_some_iff.1 h
  rw [List.take_succ_eq_append_getElem hk, e]; simp [tot]
theorem cell_tot (r : List ByteArray) (c : ByteArray) (h : c ∈ r) : c.size + 1 ≤ rowTot r := by
  induction r with
  | nil => cases h
  | cons x r ih =>
    simp only [rowTot, List.map_cons, List.sum_cons] at ih ⊢
    rcases List.mem_cons.1 h with rfl | h
    · omega
    · have := ih h; omega
theorem row_tot (rs : List (List ByteArray)) (r : List ByteArray) (h : r ∈ rs) : rowTot r ≤ tot rs := by
  induction rs with
  | nil => cases h
  | cons x rs ih =>
    simp only [tot, List.map_cons, List.sum_cons] at ih ⊢
    rcases List.mem_cons.1 h with rfl | h
    · omega
    · have := ih h; omega
theorem few_small (rs : List (List ByteArray)) (h : fewP rs) : ∀ r ∈ rs, r.length ≤ 60 ∧ ∀ c ∈ r, c.size ≤ 8000 := fun r hr => ⟨h.2.1 r hr, fun c hc => by
  have h1 := cell_tot r c hc
  have h2 := row_tot rs r hr
  have := h.2.2
  omega⟩
theorem sumL_le (d : UInt8) (r : List ByteArray) : sumL d (bytesOf r) + r.length ≤ 3 * rowTot r := by
  induction r with
  | nil => simp [sumL, bytesOf, rowTot]
  | cons c r ih =>
    have h1 := putL_le c.data.toList (d.toNat : Int)
    rw [ba_size] at h1
    simp only [sumL, bytesOf, rowTot, List.map_cons, List.sum_cons, List.length_cons] at ih ⊢
    omega
theorem text_le (d : UInt8) (crlf : Bool) (rs : List (List ByteArray)) : (textL (recsOf rs) d crlf).length ≤ 3 * tot rs + 2 * rs.length := by
  induction rs with
  | nil => simp [textL, recsOf]
  | cons r rs ih =>
    have h1 := write_sum d crlf (bytesOf r)
    have h2 := sumL_le d r
    have h3 : (brkL crlf).length ≤ 2 := by cases crlf <;> decide
    have h4 : (bytesOf r).length = r.length := by simp [bytesOf]
    have h5 : textL (recsOf (r :: rs)) d crlf = writeL (bytesOf r) d crlf ++ textL (recsOf rs) d crlf := by simp [textL, recsOf]
    have h6 : tot (r :: rs) = rowTot r + tot rs := by simp [tot]
    rw [h5, List.length_append, h1, h6, List.length_cons, h4]
    omega
theorem few_text (d : UInt8) (crlf : Bool) (rs : List (List ByteArray)) (h : fewP rs) : (textL (recsOf rs) d crlf).length ≤ 24120 := by
  have h1 := text_le d crlf rs
  have h2 := h.1
  have h3 := h.2.2
  omega

/-- a cell that no record may have -/
def huge (rs : List (List ByteArray)) : Prop := ∃ r ∈ rs, ∃ c ∈ r, 4096 < c.size
/-- what is known when so few are told: a cell of more than 2^62 bytes can hide in a sum that runs over -/
def fewQ (rs : List (List ByteArray)) : Prop := rs.length ≤ 60 ∧ (∀ r ∈ rs, r.length ≤ 60) ∧ (tot rs ≤ 8000 ∨ huge rs)

set_option maxRecDepth 100000 in
set_option maxHeartbeats 4000000 in
theorem few_any (ao : Option Addr) (cap : Nat) (rs : List (List ByteArray)) (w : World) (hn : rs.length ≤ maxLen) (hx : ∀ r ∈ rs, r.length ≤ maxLen ∧ ∀ c ∈ r, c.size ≤ maxLen) (hR : RowsAt w ao rs) :
    Calls Try.prog 15 #[.slice ao rs.length cap] w fun e w' => ∃ b, e = .returned (.bool b) ∧ (b = true → fewQ rs) ∧ w = w' := by
  have HX := Lib.hid hx
  have HRo := Lib.hid hR
  unfold maxLen at hn
  clear hx hR
  by_cases h60 : rs.length ≤ 60
  · go_enter Try.func15, Try.ntmps15
    go_wp2_with fail
    go_loopw [3, 4] (fun p i wr => ∃ (k : Nat) (n : Int), k ≤ rs.length ∧ p = .int .i64 n ∧ i = .int .i64 k ∧ wr = w ∧ Hid ((n = (tot (rs.take k) : Int) ∧ n ≤ 8000) ∨ huge rs) ∧ Hid (∀ (j : Nat) r, j < k → rs[j]? = some r → r.length ≤ 60)) (fun _ i _ => rs.length - (intOf i).toNat)
    case atStart => exact ⟨0, 0, Nat.zero_le _, rfl, rfl, rfl, Lib.hid (.inl ⟨rfl, by decide⟩), Lib.hid (fun j r h _ => by omega)⟩
    case round =>
      obtain ⟨k, n, hk, rfl, rfl, hww, HT, HA⟩ := hrel
      subst hww
      by_cases hlt : k < rs.length
      · obtain ⟨r, hr⟩ : ∃ r, rs[k]? = some r := ⟨_, List.getElem?_eq_getElem hlt⟩
        have HN := Lib.hid (tot_next rs k r hr)
        have HXr := HX.out r (List.mem_of_getElem? hr)
        have hrl := HXr.1
        unfold maxLen at hrl
        have HC := Lib.hid HXr.2
        have Hr := Lib.hid hr
        rcases HRo.out with h0 | ⟨A, rfl, hA, hcell⟩
        · rw [h0] at hlt; simp at hlt
        obtain ⟨ro, rc, hc, hs⟩ := hcell k r hr
        have HSr := Lib.hid hs
        clear hcell hs hr HXr
        by_cases hr60 : r.length ≤ 60
        · have HA' : Hid (∀ (j : Nat) x, j < k + 1 → rs[j]? = some x → x.length ≤ 60) := Lib.hid (fun j x hj hx' => by
            by_cases e : j = k
            · subst e; rw [Hr.out] at hx'; cases hx'; exact hr60
            · exact HA.out j x (by omega) hx')
          go_wp2_with fail
          obtain ⟨wo, rfl⟩ : ∃ wo : World, wo = wr := ⟨_, rfl⟩
          go_loopw [3, 5] (fun p i wi => ∃ (j : Nat) (m : Int), j ≤ r.length ∧ p = .int .i64 m ∧ i = .int .i64 j ∧ wi = wo ∧ Hid ((m = ((tot (rs.take k) + rowTot (r.take j) : Nat) : Int) ∧ m ≤ 8000) ∨ huge rs)) (fun _ i _ => r.length - (intOf i).toNat)
          case atStart => exact ⟨0, n, Nat.zero_le _, rfl, rfl, rfl, Lib.hid (by rcases HT.out with ⟨h1, h2⟩ | h; exact .inl ⟨by rw [h1]; simp [rowTot], h2⟩; exact .inr h)⟩
          case round =>
            obtain ⟨j, m, hj, rfl, rfl, hwi, HM⟩ := hrel
            subst hwi
            by_cases hjl : j < r.length
            · obtain ⟨x, hx⟩ : ∃ x, r[j]? = some x := ⟨_, List.getElem?_eq_getElem hjl⟩
              have HJ := Lib.hid (rowTot_next r j x hx)
              have hxs := HC.out x (List.mem_of_getElem? hx)
              unfold maxLen at hxs
              have HU : Hid (4096 < x.size → huge rs) := Lib.hid (fun h => ⟨r, List.mem_of_getElem? Hr.out, x, List.mem_of_getElem? hx, h⟩)
              rcases HSr.out with h0 | ⟨D, rfl, hD, hcell⟩
              · rw [h0] at hjl; simp at hjl
              have hcx := hcell j x hx
              clear hcell hx
              by_cases hu : huge rs
              · have HU' := Lib.hid hu
                clear hu HU
                go_wp2_with fail
                · go_ret
                  exact ⟨false, rfl, (fun h => by cases h), rfl⟩
                · exact ⟨⟨j + 1, _, by omega, rfl, by go_num, by first | rfl | trivial, Lib.hid (.inr HU'.out)⟩, by simp [intOf]; omega⟩
              · obtain ⟨m', hm', rfl⟩ : ∃ m' : Nat, m' ≤ 8000 ∧ m = (m' : Int) := by
                  rcases HM.out with ⟨h1, h2⟩ | h
                  · exact ⟨_, by omega, h1⟩
                  · exact absurd h hu
                have hx4 : x.size ≤ 4096 := by
                  rcases Nat.lt_or_ge 4096 x.size with h | h
                  · exact absurd (HU.out h) hu
                  · exact h
                have HUn := Lib.hid hu
                clear hu HU
                by_cases h8 : m' + x.size + 1 ≤ 8000
                · have HM' : Hid ((((m' + x.size + 1 : Nat) : Int) = ((tot (rs.take k) + rowTot (r.take (j + 1)) : Nat) : Int) ∧ ((m' + x.size + 1 : Nat) : Int) ≤ 8000) ∨ huge rs) := Lib.hid (.inl ⟨by
                    rcases HM.out with ⟨h1, h2⟩ | h
                    · rw [HJ.out]; omega
                    · exact absurd h HUn.out, by omega⟩)
                  go_wp2_with fail
                  go_roundw
                  case rel => exact ⟨j + 1, ((m' + x.size + 1 : Nat) : Int), by omega, by go_num, by go_num, by first | rfl | trivial, HM'⟩
                  case measure => simp [intOf]; omega
                · go_wp2_with fail
                  go_ret
                  exact ⟨false, rfl, (fun h => by cases h), rfl⟩
            · obtain rfl : j = r.length := by omega
              have HM' : Hid ((m = (tot (rs.take (k + 1)) : Int) ∧ m ≤ 8000) ∨ huge rs) := Lib.hid (by
                rcases HM.out with ⟨h1, h2⟩ | h
                · exact .inl ⟨by rw [HN.out, h1, List.take_length], h2⟩
                · exact .inr h)
              go_wp2_with fail
              go_roundw
              case rel => exact ⟨k + 1, m, by omega, rfl, by go_num, by first | rfl | trivial, HM', HA'⟩
              case measure => simp [intOf]; omega
        · go_wp2_with fail
          go_ret
          exact ⟨false, rfl, (fun h => by cases h), rfl⟩
      · obtain rfl : k = rs.length := by omega
        have F : Hid (fewQ rs) := Lib.hid ⟨h60, fun r hr => by
          obtain ⟨i, hi, rfl⟩ := List.getElem_of_mem hr
          exact HA.out i _ hi (List.getElem?_eq_getElem hi), by
            rcases HT.out with ⟨h1, h2⟩ | h
            · rw [List.take_length] at h1; exact .inl (by omega)
            · exact .inr h⟩
        go_wp2_with fail
        go_ret
        exact ⟨true, rfl, fun _ => F.out, rfl⟩
  · go_enter Try.func15, Try.ntmps15
    go_wp2_with fail
    go_ret
    exact ⟨false, rfl, (fun h => by cases h), rfl⟩
end Go.Proofs.Ytebnmenglgadpaa
