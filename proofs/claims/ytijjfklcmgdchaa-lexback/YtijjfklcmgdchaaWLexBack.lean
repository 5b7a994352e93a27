/-
  The walk of the statement LexBack: at every record, every byte between fields, either break and whatever stands behind it, it answers true.
  Conditions: none but that the record is a Go slice of strings.
-/
import Derived.WalkKit
import Derived.WalkSmall
import Derived.Lib.Hide
import Derived.Test.YtijjfklcmgdchaaProg
import Derived.Test.YtijjfklcmgdchaaWLexWrites
namespace Go.Proofs.Ytijjfklcmgdchaa
open Go.RowKit Go.Shelf

theorem ba_again (x : ByteArray) : (⟨x.data.toList.toArray⟩ : ByteArray) = x := ba_eq rfl
theorem str_same (x : ByteArray) : (x.toList != x.toList) = false := by simp

theorem back_xs (xs : List ByteArray) (u : UInt8) (crlf : Bool) (S b : ByteArray) (hS : S.data.toList = writeL (bytesOf xs) u crlf) (hg : goodI (u.toNat : Int) = true) (k : Nat) (hk : k < xs.length) :
    fieldOut (S ++ b).data.toList (posOf (bytesOf xs) u crlf k : Int) (u.toNat : Int) = (xs[k].data.toList, (posOf (bytesOf xs) u crlf (k + 1) : Int), if k + 1 = xs.length then 2 else 1, 0) ∧ posOf (bytesOf xs) u crlf k < posOf (bytesOf xs) u crlf (k + 1) := by
  have hbl : (bytesOf xs).length = xs.length := by simp [bytesOf]
  obtain ⟨h1, h2⟩ := back_step (bytesOf xs) u crlf b.data.toList hg k (by rw [hbl]; exact hk)
  refine ⟨?_, h2⟩
  rw [ba_app, hS, h1]
  have e2 : (bytesOf xs)[k]'(by rw [hbl]; exact hk) = xs[k].data.toList := by simp [bytesOf]
  rw [e2]
  simp only [hbl]

set_option maxRecDepth 100000 in
set_option maxHeartbeats 4000000 in
theorem walkLexBack (ao : Option Addr) (cap : Nat) (xs : List ByteArray) (d : Int) (crlf : Bool) (b : ByteArray) (w : World) (hx : xs.length ≤ maxLen) (hR : StrRow w ao xs) (hm : ∀ c ∈ xs, c.size ≤ maxLen) (hd : (Lit.int .u8 d).wf = true) (hbm : b.size ≤ maxLen) :
    Calls Try.prog 5 #[.slice ao xs.length cap, .int .u8 d, .bool crlf, .string b] w fun e w' => e = .returned (.bool true) ∧ Below w.heap.size w w' := by
  unfold maxLen at hx hbm
  obtain ⟨u, rfl⟩ := u8_wf d hd
  clear hd
  have HR := Lib.hid hR
  have HM := Lib.hid hm
  clear hR hm
  by_cases h20 : 20 < xs.length
  · go_enter Try.func5, Try.ntmps5
    go_wp2_with fail
    refine (lworks_any _).mono ?_; rintro e w1 ⟨rfl, b1⟩
    go_wp2_with fail
    go_ret
    exact ⟨rfl, b1⟩
  by_cases h0 : xs.length = 0
  · have h0' : ((xs.length : Int) == 0) = true := by rw [h0]; rfl
    have H0 := Lib.hid h0
    clear h0
    go_enter Try.func5, Try.ntmps5
    go_wp2_with fail
    refine (lworks_any _).mono ?_; rintro e w1 ⟨rfl, b1⟩
    go_wp2_with fail
    go_ret
    exact ⟨rfl, b1⟩
  have h0' : ((xs.length : Int) == 0) = false := by rw [beq_eq_false_iff_ne]; omega
  by_cases hb5 : 500 < b.size
  · go_enter Try.func5, Try.ntmps5
    go_wp2_with fail
    refine (lworks_any _).mono ?_; rintro e w1 ⟨rfl, b1⟩
    go_wp2_with fail
    go_ret
    exact ⟨rfl, b1⟩
  have G := Lib.hid (fun w => good_any (u.toNat : Int) w)
  cases hg : goodI (u.toNat : Int) with
  | false =>
    rw [hg] at G
    go_enter Try.func5, Try.ntmps5
    go_wp2_with fail
    refine (lworks_any _).mono ?_; rintro e w1 ⟨rfl, b1⟩
    go_wp2_with fail
    refine (G.out _).mono ?_; rintro e _ ⟨rfl, rfl⟩
    go_wp2_with fail
    go_ret
    exact ⟨rfl, b1⟩
  | true =>
    rw [hg] at G
    have HG := Lib.hid hg
    clear hg
    go_enter Try.func5, Try.ntmps5
    go_wp2_with fail
    refine (lworks_any _).mono ?_; rintro e w1 ⟨rfl, b1⟩
    have B1 := Lib.hid b1
    clear b1
    go_wp2_with fail
    refine (G.out _).mono ?_; rintro e _ ⟨rfl, rfl⟩
    go_wp2_with fail
    go_loopw [10] (fun i wr => ∃ k : Nat, k ≤ xs.length ∧ i = .int .i64 k ∧ Hid (∀ i, i < k → ∀ hi : i < xs.length, xs[i].size ≤ 500) ∧ Hid (Below w.heap.size w wr)) (fun i _ => xs.length - (intOf i).toNat)
    case atStart => exact ⟨0, Nat.zero_le _, rfl, Lib.hid (fun i h => absurd h (Nat.not_lt_zero _)), B1⟩
    case round =>
      obtain ⟨k, hk, rfl, HS, HB⟩ := hrel
      by_cases hlt : k < xs.length
      · obtain ⟨A, rfl, hA, hcell⟩ : ∃ A, ao = some A ∧ A.block < wr.heap.size ∧ ∀ i c, xs[i]? = some c → wr.cell? (A.add i) = some (.string c) := by
          rcases HR.out.kept HB.out with h | h
          · rw [h] at hlt; exact absurd hlt (Nat.not_lt_zero _)
          · exact h
        have hc := hcell k xs[k] (List.getElem?_eq_getElem hlt)
        clear hcell
        have HS2 : Hid (xs[k].size ≤ 500 → ∀ i, i < k + 1 → ∀ hi : i < xs.length, xs[i].size ≤ 500) := Lib.hid (fun h i h1 hi => by
          by_cases e : i = k
          · subst e; exact h
          · exact HS.out i (by omega) hi)
        have hmx := HM.out xs[k] (List.getElem_mem hlt)
        unfold maxLen at hmx
        generalize xs[k] = x at hc HS2 hmx
        by_cases hsz : 500 < x.size
        · go_wp2_with fail
          go_ret
          exact ⟨rfl, HB.out⟩
        · go_wp2_with fail
          go_roundw
          case rel => exact ⟨k + 1, by omega, by go_num, Lib.hid (HS2.out (by omega)), HB⟩
          case measure => simp [intOf]; omega
      · obtain rfl : k = xs.length := by omega
        have hall := take_all xs xs.length 500 HS.out (Nat.le_refl _)
        have hall' : ∀ c ∈ xs, c.size ≤ 1000 := fun c hc => Nat.le_trans (hall c hc) (by omega)
        have C1 := Lib.hid (write_any u crlf ao cap xs wr (by omega) hall' (HR.out.kept HB.out))
        have hrl := rec_le u xs xs.length (by omega) hall'
        rw [List.take_length] at hrl
        have hwl : (writeL (bytesOf xs) u crlf).length = (recL u (bytesOf xs)).length + (brkL crlf).length := by unfold writeL; simp
        have hb2 : (brkL crlf).length ≤ 2 := by cases crlf <;> decide
        have hbl : (bytesOf xs).length = xs.length := by simp [bytesOf]
        clear hall hall'
        obtain ⟨S, hS⟩ : ∃ S : ByteArray, S = ⟨(writeL (bytesOf xs) u crlf).toArray⟩ := ⟨_, rfl⟩
        have hSl : S.data.toList = writeL (bytesOf xs) u crlf := by rw [hS]
        have hSs : S.size = (writeL (bytesOf xs) u crlf).length := by rw [← ba_size, hSl]
        have hSm : S.size ≤ 2003002 := by omega
        rw [← hS] at C1
        have hstep : Hid (∀ k (hk : k < xs.length), fieldOut (S ++ b).data.toList (posOf (bytesOf xs) u crlf k : Int) (u.toNat : Int) = (xs[k].data.toList, (posOf (bytesOf xs) u crlf (k + 1) : Int), if k + 1 = xs.length then 2 else 1, 0) ∧ posOf (bytesOf xs) u crlf k < posOf (bytesOf xs) u crlf (k + 1)) := Lib.hid (fun k hk => back_xs xs u crlf S b hSl HG.out k hk)
        have hpos0 : Hid (posOf (bytesOf xs) u crlf 0 = 0) := Lib.hid (pos_zero _ _ _ (by omega))
        have hposn : Hid (posOf (bytesOf xs) u crlf xs.length = S.size) := Lib.hid (by have h := pos_end (bytesOf xs) u crlf; rw [hbl] at h; rw [h, hSs])
        have hposl : Hid (∀ k, k ≤ xs.length → posOf (bytesOf xs) u crlf k ≤ S.size) := Lib.hid (fun k hk => by
          have h : ∀ m, m ≤ xs.length → posOf (bytesOf xs) u crlf (xs.length - m) ≤ S.size := by
            intro m
            induction m with
            | zero => intro _; rw [Nat.sub_zero, hposn.out]; exact Nat.le_refl _
            | succ m ih =>
              intro hm
              have h1 := ih (by omega)
              have h2 := (hstep.out (xs.length - (m + 1)) (by omega)).2
              have e : xs.length - (m + 1) + 1 = xs.length - m := by omega
              rw [e] at h2; omega
          have := h (xs.length - k) (by omega)
          rwa [Nat.sub_sub_self hk] at this)
        generalize posOf (bytesOf xs) u crlf = pos at hstep hpos0 hposn hposl
        clear hS hSl hSs hbl hwl hrl hb2
        go_wp2_with fail
        refine C1.out.mono ?_; rintro e w2 ⟨rfl, b2⟩
        have B2 := Lib.hid (below_up HB.out b2)
        clear b2 HB C1
        go_wp2_with fail
        go_loopw [12, 13] (fun p i wr => ∃ k : Nat, k ≤ xs.length ∧ p = .int .i64 (pos k : Int) ∧ i = .int .i64 k ∧ Hid (Below w.heap.size w wr)) (fun _ i _ => xs.length - (intOf i).toNat)
        case atStart => exact ⟨0, Nat.zero_le _, by rw [hpos0.out]; rfl, rfl, B2⟩
        case round =>
          obtain ⟨k, hk, rfl, rfl, HB⟩ := hrel
          by_cases hlt2 : k < xs.length
          · obtain ⟨A, rfl, hA, hcell⟩ : ∃ A, ao = some A ∧ A.block < wr.heap.size ∧ ∀ i c, xs[i]? = some c → wr.cell? (A.add i) = some (.string c) := by
              rcases HR.out.kept HB.out with h | h
              · rw [h] at hlt2; exact absurd hlt2 (Nat.not_lt_zero _)
              · exact h
            obtain ⟨hf, hp⟩ := hstep.out k hlt2
            have hp1 := hposl.out k hk
            have hp2 := hposl.out (k + 1) hlt2
            have hSb : (S ++ b).size = S.size + b.size := ByteArray.size_append
            have A1 := Lib.hid (fun w => field_any (S ++ b) (pos k : Int) (u.toNat : Int) w (by omega) (by omega) (by omega))
            rw [hf] at A1
            have hc := hcell k xs[k] (List.getElem?_eq_getElem hlt2)
            clear hcell hf
            have A2 : Hid (∀ w, Calls Try.prog 8 #[.string (S ++ b), .int .i64 (pos k : Int), .int .u8 (u.toNat : Int)] w fun e w' => e = .returned (.tuple #[.string xs[k], .int .i64 (pos (k + 1) : Int), .int .i64 ((if k + 1 = xs.length then 2 else 1 : Nat) : Int), .int .i64 0]) ∧ Below w.heap.size w w') := by
              have e := ba_again xs[k]
              simp only [fieldV, e] at A1
              exact A1
            clear A1
            generalize xs[k] = x at hc A2
            have hss := str_same x
            obtain ⟨q, hq⟩ : ∃ q, q = pos (k + 1) := ⟨_, rfl⟩
            obtain ⟨p, hpp⟩ : ∃ p, p = pos k := ⟨_, rfl⟩
            rw [← hq] at A2 hp hp2
            rw [← hpp] at A2 hp hp1
            have HQ := Lib.hid hq
            have HPP := Lib.hid hpp
            rw [← hpp]
            clear hq hpp
            by_cases hl : k + 1 = xs.length
            · rw [if_pos hl] at A2
              have t1 : ((k : Int) == (xs.length : Int) - 1) = true := by rw [beq_iff_eq]; omega
              have t2 : ¬ (k : Int) < (xs.length : Int) - 1 := by omega
              have HL := Lib.hid hl
              clear hl
              go_wp2_with fail
              refine (A2.out _).mono ?_; rintro e w3 ⟨rfl, b3⟩
              have hc3 := (b3.cell (p := A.add k) (by rw [add_block]; exact hA)).trans hc
              have B3 := Lib.hid (below_up HB.out b3)
              clear b3 hc HB A2
              go_wp2_with fail
              go_roundw
              case rel => exact ⟨k + 1, by omega, by rw [HQ.out], by go_num, B3⟩
              case measure => simp [intOf]; omega
            · rw [if_neg hl] at A2
              have t1 : ((k : Int) == (xs.length : Int) - 1) = false := by rw [beq_eq_false_iff_ne]; omega
              have t2 : (k : Int) < (xs.length : Int) - 1 := by omega
              have HL := Lib.hid hl
              clear hl
              go_wp2_with fail
              refine (A2.out _).mono ?_; rintro e w3 ⟨rfl, b3⟩
              have hc3 := (b3.cell (p := A.add k) (by rw [add_block]; exact hA)).trans hc
              have B3 := Lib.hid (below_up HB.out b3)
              clear b3 hc HB A2
              go_wp2_with fail
              go_roundw
              case rel => exact ⟨k + 1, by omega, by rw [HQ.out], by go_num, B3⟩
              case measure => simp [intOf]; omega
          · obtain rfl : k = xs.length := by omega
            have e1 := hposn.out
            rw [e1]
            clear e1
            go_wp2_with fail
            go_ret
            exact ⟨rfl, HB.out⟩
end Go.Proofs.Ytijjfklcmgdchaa
