/-
  The walk of the statement LexWrites: at every record, every byte between fields and either break it answers true.
  Conditions: none but that the record is a Go slice of strings.
-/
import Derived.WalkKit
import Derived.WalkSmall
import Derived.Lib.Hide
import Derived.Test.YtijjfklcmgdchaaProg
import Derived.Test.YtijjfklcmgdchaaWLexFields
import Derived.Test.YtijjfklcmgdchaaLexMath3
namespace Go.Proofs.Ytijjfklcmgdchaa
open Go.RowKit Go.Shelf

theorem u8_wf (d : Int) (h : (Lit.int .u8 d).wf = true) : ∃ u : UInt8, d = (u.toNat : Int) := by
  simp [Lit.wf] at h
  have e1 : IntKind.u8.min = 0 := by decide
  have e2 : IntKind.u8.max = 255 := by decide
  refine ⟨UInt8.ofNat d.toNat, ?_⟩
  rw [UInt8.toNat_ofNat']
  omega
theorem sum_next (d : UInt8) (xs : List ByteArray) (k : Nat) (hk : k < xs.length) : sumL d (bytesOf (xs.take (k + 1))) = sumL d (bytesOf (xs.take k)) + (putL xs[k].data.toList (d.toNat : Int)).length := by
  rw [bytes_take xs k xs[k] (List.getElem?_eq_getElem hk), sumL_snoc]
theorem take_all (xs : List ByteArray) (k : Nat) (n : Nat) (h : ∀ i, i < k → ∀ hi : i < xs.length, xs[i].size ≤ n) (hk : xs.length ≤ k) : ∀ c ∈ xs, c.size ≤ n := by
  intro c hc
  obtain ⟨i, hi, rfl⟩ := List.mem_iff_getElem.1 hc
  exact h i (by omega) hi

set_option maxRecDepth 100000 in
set_option maxHeartbeats 4000000 in
theorem walkLexWrites (ao : Option Addr) (cap : Nat) (xs : List ByteArray) (d : Int) (crlf : Bool) (w : World) (hx : xs.length ≤ maxLen) (hR : StrRow w ao xs) (hm : ∀ c ∈ xs, c.size ≤ maxLen) (hd : (Lit.int .u8 d).wf = true) :
    Calls Try.prog 4 #[.slice ao xs.length cap, .int .u8 d, .bool crlf] w fun e w' => e = .returned (.bool true) ∧ Below w.heap.size w w' := by
  unfold maxLen at hx
  obtain ⟨u, rfl⟩ := u8_wf d hd
  clear hd
  have HR := Lib.hid hR
  have HM := Lib.hid hm
  clear hR hm
  go_enter Try.func4, Try.ntmps4
  go_wp2_with fail
  refine (lworks_any _).mono ?_; rintro e w1 ⟨rfl, b1⟩
  have B1 := Lib.hid b1
  clear b1
  go_wp2_with fail
  go_loopw [8, 9] (fun p i wr => ∃ (k n : Nat), k ≤ xs.length ∧ k ≤ 41 ∧ n ≤ 1002 * k ∧ p = .int .i64 n ∧ i = .int .i64 k ∧ Hid (n = sumL u (bytesOf (xs.take k))) ∧ Hid (∀ i, i < k → ∀ hi : i < xs.length, xs[i].size ≤ 500) ∧ Hid (Below w.heap.size w wr)) (fun _ i _ => xs.length - (intOf i).toNat)
  case atStart => exact ⟨0, 0, Nat.zero_le _, by omega, by omega, rfl, rfl, Lib.hid rfl, Lib.hid (fun i h => absurd h (Nat.not_lt_zero _)), B1⟩
  case round =>
    obtain ⟨k, n, hk, hk2, hn, rfl, rfl, HN, HS, HB⟩ := hrel
    by_cases hlt : k < xs.length
    · obtain ⟨A, rfl, hA, hcell⟩ : ∃ A, ao = some A ∧ A.block < wr.heap.size ∧ ∀ i c, xs[i]? = some c → wr.cell? (A.add i) = some (.string c) := by
        rcases HR.out.kept HB.out with h | h
        · rw [h] at hlt; exact absurd hlt (Nat.not_lt_zero _)
        · exact h
      have hc := hcell k xs[k] (List.getElem?_eq_getElem hlt)
      clear hcell
      by_cases h40 : 40 < k
      · go_wp2_with fail
        go_ret
        exact ⟨rfl, HB.out⟩
      · have HN2 := Lib.hid (sum_next u xs k hlt)
        have HS2 : Hid (xs[k].size ≤ 500 → ∀ i, i < k + 1 → ∀ hi : i < xs.length, xs[i].size ≤ 500) := Lib.hid (fun h i h1 hi => by
          by_cases e : i = k
          · subst e; exact h
          · exact HS.out i (by omega) hi)
        have hmx := HM.out xs[k] (List.getElem_mem hlt)
        unfold maxLen at hmx
        generalize xs[k] = x at hc HN2 HS2 hmx
        by_cases hsz : 500 < x.size
        · clear HN2 HS2
          go_wp2_with fail
          go_ret
          exact ⟨rfl, HB.out⟩
        · have Z := Lib.hid (fun w => size_any x (u.toNat : Int) w (by omega))
          have hp := putL_le x.data.toList (u.toNat : Int)
          rw [ba_size] at hp
          generalize (putL x.data.toList (u.toNat : Int)).length = m at Z HN2 hp
          go_wp2_with fail
          refine (Z.out _).mono ?_; rintro e w2 ⟨rfl, b2⟩
          have B2 := Lib.hid (below_up HB.out b2)
          clear b2 hc Z
          go_wp2_with fail
          go_roundw
          case rel => exact ⟨k + 1, n + m, by omega, by omega, by omega, by go_num, by go_num, Lib.hid (by rw [HN2.out, HN.out]), Lib.hid (HS2.out (by omega)), B2⟩
          case measure => simp [intOf]; omega
    · obtain rfl : k = xs.length := by omega
      have hall := take_all xs xs.length 500 HS.out (Nat.le_refl _)
      have hall' : ∀ c ∈ xs, c.size ≤ 1000 := fun c hc => Nat.le_trans (hall c hc) (by omega)
      have C1 := Lib.hid (fun wq (hq : Below w.heap.size w wq) => write_any u crlf ao cap xs wq (by omega) hall' (HR.out.kept hq))
      have C2 := Lib.hid (fun wq (hq : Below w.heap.size w wq) => rwrite_any u crlf ao cap xs wq (by omega) hall' (HR.out.kept hq))
      have hlen := write_sum u crlf (bytesOf xs)
      have hrl := rec_le u xs xs.length (by omega) hall'
      have hbr := write_brk u crlf (bytesOf xs)
      have hwl : (writeL (bytesOf xs) u crlf).length = (recL u (bytesOf xs)).length + (brkL crlf).length := by unfold writeL; simp
      have hbl : (bytesOf xs).length = xs.length := by simp [bytesOf]
      have hn' := HN.out
      rw [List.take_length] at hn' hrl
      rw [← hn', hbl] at hlen
      clear hall hall' hn'
      obtain ⟨S, hS⟩ : ∃ S : ByteArray, S = ⟨(writeL (bytesOf xs) u crlf).toArray⟩ := ⟨_, rfl⟩
      have hSl : S.data.toList = writeL (bytesOf xs) u crlf := by rw [hS]
      have hSs : S.size = (writeL (bytesOf xs) u crlf).length := by rw [← ba_size, hSl]
      rw [← hS] at C1 C2
      rw [← hSl] at hbr
      generalize recL u (bytesOf xs) = r at hrl hbr hwl
      rw [← hSs] at hlen hwl
      clear hS hSl hSs hbl
      have A3 := Lib.hid (fun w => break_any S (r.length : Int) w (by cases crlf <;> simp [brkL] at hwl <;> omega) (by omega) (by omega))
      rw [brkI_nat, hbr] at A3
      clear hbr
      have hmax : max ((xs.length : Int) - 1) 0 = ((xs.length - 1 : Nat) : Int) := by omega
      cases crlf with
      | true =>
        have hb2 : (brkL true).length = 2 := rfl
        rw [hb2] at hlen hwl A3
        have hr : (r.length : Int) = (n : Int) + ((xs.length - 1 : Nat) : Int) := by omega
        rw [hr] at A3
        clear hr hwl hrl hb2
        go_wp2_with fail
        refine (C1.out _ HB.out).mono ?_; rintro e w2 ⟨rfl, b2⟩
        have B2 := Lib.hid (below_up HB.out b2)
        clear b2 HB
        go_wp2_with fail
        refine (C2.out _ B2.out).mono ?_; rintro e w3 ⟨rfl, b3⟩
        have B3 := Lib.hid (below_up B2.out b3)
        clear b3 B2
        go_wp2_with fail
        refine (A3.out _).mono ?_; rintro e _ ⟨rfl, rfl⟩
        go_wp2_with fail
        go_ret
        exact ⟨rfl, B3.out⟩
      | false =>
        have hb2 : (brkL false).length = 1 := rfl
        rw [hb2] at hlen hwl A3
        have hr : (r.length : Int) = (n : Int) + ((xs.length - 1 : Nat) : Int) := by omega
        rw [hr] at A3
        clear hr hwl hrl hb2
        go_wp2_with fail
        refine (C1.out _ HB.out).mono ?_; rintro e w2 ⟨rfl, b2⟩
        have B2 := Lib.hid (below_up HB.out b2)
        clear b2 HB
        go_wp2_with fail
        refine (C2.out _ B2.out).mono ?_; rintro e w3 ⟨rfl, b3⟩
        have B3 := Lib.hid (below_up B2.out b3)
        clear b3 B2
        go_wp2_with fail
        refine (A3.out _).mono ?_; rintro e _ ⟨rfl, rfl⟩
        go_wp2_with fail
        go_ret
        exact ⟨rfl, B3.out⟩
end Go.Proofs.Ytijjfklcmgdchaa
