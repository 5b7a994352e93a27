/-
  What the document's reference answers for a break, for what ends a field, and for a field.
  Conditions: the text is at most 2^40 bytes long (the statements ask about far shorter ones).
-/
import Derived.WalkKit
import Derived.WalkMore
import Derived.Lib.Hide
import Derived.Test.YtacclgfpmkhodaaProg
import Derived.Test.YtacclgfpmkhodaaGot
import Derived.Test.YtacclgfpmkhodaaLexMath
namespace Go.Proofs.Ytacclgfpmkhodaa
open Go.RowKit Go.Shelf

theorem results_tmp4 {fn : Func} {t u v x : Tmp} (h : fn.results = #[.tmp t, .tmp u, .tmp v, .tmp x]) (tmps : Array Value) (P : Program) (w : World) :
    (results fn tmps).run P w = .ok (.tuple #[tmps.getD t undef, tmps.getD u undef, tmps.getD v undef, tmps.getD x undef]) w := by
  simp [results, h]

theorem byte_eq (c k : UInt8) (h : c = k) : ((c.toNat : Int) == (k.toNat : Int)) = true ∧ ((c.toNat : Int) != (k.toNat : Int)) = false := by
  subst h; simp
theorem byte_ne (c k : UInt8) (h : c ≠ k) : ((c.toNat : Int) == (k.toNat : Int)) = false ∧ ((c.toNat : Int) != (k.toNat : Int)) = true := by
  have : ((c.toNat : Int) == (k.toNat : Int)) = false := by
    rw [beq_eq_false_iff_ne]; intro e; exact h (UInt8.toNat_inj.1 (by omega))
  exact ⟨this, by rw [bne, this]; rfl⟩
theorem b10y (c : UInt8) (h : c = 10) : ((c.toNat : Int) == 10) = true := (byte_eq c 10 h).1
theorem b10n (c : UInt8) (h : c ≠ 10) : ((c.toNat : Int) == 10) = false := (byte_ne c 10 h).1
theorem b13y (c : UInt8) (h : c = 13) : ((c.toNat : Int) == 13) = true := (byte_eq c 13 h).1
theorem b13n (c : UInt8) (h : c ≠ 13) : ((c.toNat : Int) == 13) = false := (byte_ne c 13 h).1
theorem brk_out (s : ByteArray) (k : Nat) (h : s.size ≤ k) : brk s.data.toList k = 0 := by
  unfold brk; rw [List.getElem?_eq_none (by rw [ba_size]; exact h)]
theorem brk_feed (s : ByteArray) (k : Nat) (h : k < s.size) (hc : s[k] = 10) : brk s.data.toList k = 1 := by
  unfold brk; rw [bget s k h, hc]; rfl
theorem brk_two (s : ByteArray) (k : Nat) (h : k + 1 < s.size) (hc : s[k] = 13) (hd : s[k + 1] = 10) : brk s.data.toList k = 2 := by
  unfold brk; rw [bget s k (by omega), bget s (k + 1) h, hc, hd]; rfl
theorem brk_lone (s : ByteArray) (k : Nat) (h : k + 1 = s.size) (hc : s[k] = 13) : brk s.data.toList k = 0 := by
  unfold brk; rw [bget s k (by omega), hc, List.getElem?_eq_none (show s.data.toList.length ≤ k + 1 by rw [ba_size]; omega)]; rfl
theorem brk_other (s : ByteArray) (k : Nat) (h : k + 1 < s.size) (hc : s[k] = 13) (hd : s[k + 1] ≠ 10) : brk s.data.toList k = 0 := by
  unfold brk; rw [bget s k (by omega), bget s (k + 1) h, hc]; simp [hd]
theorem brk_none (s : ByteArray) (k : Nat) (h : k < s.size) (hc : s[k] ≠ 10) (hd : s[k] ≠ 13) : brk s.data.toList k = 0 := by
  unfold brk; rw [bget s k h]; simp [hc, hd]

theorem brkI_neg (l : List UInt8) (a : Int) (h : a < 0) : brkI l a = 0 := by simp [brkI, h]
theorem brkI_nat (l : List UInt8) (k : Nat) : brkI l (k : Int) = brk l k := by simp [brkI]; omega

set_option maxHeartbeats 1000000 in
theorem rbreak_any (s : ByteArray) (a : Int) (w : World) (hs : s.size ≤ 1099511627776) (ha : -9223372036854775808 ≤ a) (ha' : a ≤ 9223372036854775807) :
    Calls Try.prog 29 #[.string s, .int .i64 a] w fun e w' => e = .returned (.int .i64 (brkI s.data.toList a : Int)) ∧ w = w' := by
  by_cases h0 : a < 0
  · have H := Lib.hid (brkI_neg s.data.toList a h0)
    go_enter Try.func29, Try.ntmps29
    go_wp2_with fail
    go_ret
    exact ⟨ret_int (by rw [H.out]; rfl), rfl⟩
  obtain ⟨k, rfl⟩ : ∃ k : Nat, a = (k : Int) := ⟨a.toNat, by omega⟩
  rw [brkI_nat]
  clear h0 ha
  by_cases h1 : s.size ≤ k
  · have H := Lib.hid (brk_out s k h1)
    go_enter Try.func29, Try.ntmps29
    go_wp2_with fail
    go_ret
    exact ⟨ret_int (by rw [H.out]; rfl), rfl⟩
  have hlt : k < s.size := by omega
  clear h1 ha'
  by_cases hc : s[k] = 10
  · have H := Lib.hid (brk_feed s k hlt hc)
    have q1 := b10y _ hc
    clear hc
    go_enter Try.func29, Try.ntmps29
    go_wp2_with fail
    go_ret
    exact ⟨ret_int (by rw [H.out]; rfl), rfl⟩
  have q1 := b10n _ hc
  by_cases hd : s[k] = 13
  · have q2 := b13y _ hd
    by_cases h2 : k + 1 < s.size
    · by_cases he : s[k + 1] = 10
      · have H := Lib.hid (brk_two s k h2 hd he)
        have q3 := b10y _ he
        clear hc hd he
        go_enter Try.func29, Try.ntmps29
        go_wp2_with fail
        go_ret
        exact ⟨ret_int (by rw [H.out]; rfl), rfl⟩
      · have H := Lib.hid (brk_other s k h2 hd he)
        have q3 := b10n _ he
        clear hc hd he
        go_enter Try.func29, Try.ntmps29
        go_wp2_with fail
        go_ret
        exact ⟨ret_int (by rw [H.out]; rfl), rfl⟩
    · have H := Lib.hid (brk_lone s k (by omega) hd)
      clear hc hd
      go_enter Try.func29, Try.ntmps29
      go_wp2_with fail
      go_ret
      exact ⟨ret_int (by rw [H.out]; rfl), rfl⟩
  · have H := Lib.hid (brk_none s k hlt hc hd)
    have q2 := b13n _ hd
    clear hc hd
    go_enter Try.func29, Try.ntmps29
    go_wp2_with fail
    go_ret
    exact ⟨ret_int (by rw [H.out]; rfl), rfl⟩
end Go.Proofs.Ytacclgfpmkhodaa
