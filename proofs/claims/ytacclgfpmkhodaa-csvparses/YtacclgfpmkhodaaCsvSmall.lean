/-
  What the program's small functions of records answer: what is too large, what has no cell, whether a slice has an element of which something is so, whether two slices of strings, or of records, are alike.
  Conditions: slices and texts of at most 2^40 elements (the statements ask about far smaller ones).
-/
import Derived.WalkKit
import Derived.WalkMore
import Derived.Lib.Hide
import Derived.Deep.RegionWith
import Derived.Test.YtacclgfpmkhodaaProg
import Derived.Test.YtacclgfpmkhodaaLexRec2
import Derived.Test.YtacclgfpmkhodaaCsvMath
namespace Go.Proofs.Ytacclgfpmkhodaa
open Go.RowKit Go.Shelf

def recsOf (rs : List (List ByteArray)) : Recs := rs.map bytesOf
/-- the records behind a slice of slices of strings -/
def RowsAt (w : World) (ao : Option Addr) (rs : List (List ByteArray)) : Prop :=
  rs = [] ∨ ∃ A, ao = some A ∧ A.block < w.heap.size ∧ ∀ i r, rs[i]? = some r → ∃ ro cap, w.cell? (A.add i) = some (.slice ro r.length cap) ∧ StrRow w ro r
theorem RowsAt.kept {w w' : World} {ao : Option Addr} {rs : List (List ByteArray)} (h : RowsAt w ao rs) (hB : Below w.heap.size w w') : RowsAt w' ao rs := by
  rcases h with h | ⟨A, h1, h2, h3⟩
  · exact .inl h
  · refine .inr ⟨A, h1, Nat.lt_of_lt_of_le h2 hB.size, fun i r hr => ?_⟩
    obtain ⟨ro, cap, h4, h5⟩ := h3 i r hr
    exact ⟨ro, cap, (hB.cell (p := A.add i) (by rw [add_block]; exact h2)).trans h4, h5.kept hB⟩
theorem dgt (n m : Nat) : decide ((m : Int) < (n : Int)) = decide (m < n) := by
  by_cases h : m < n
  · rw [decide_eq_true h]; exact decide_eq_true (by omega)
  · rw [decide_eq_false h]; exact decide_eq_false (by omega)

theorem largeS_any (s : ByteArray) (m k : Nat) (w : World) (hs : s.size + m ≤ 9223372036854775807) :
    Calls Try.prog 11 #[.string s, .int .i64 m, .int .i64 k] w fun e w' => e = .returned (.bool (decide (k < s.size + m))) ∧ w = w' := by
  have H := Lib.hid (dgt (s.size + m) k)
  go_enter Try.func11, Try.ntmps11
  go_wp2_with fail
  go_ret
  exact ⟨by rw [← H.out]; simp, rfl⟩
theorem largeR_any (ao : Option Addr) (n cap m k : Nat) (w : World) (hs : n ≤ 1099511627776) (hm : m ≤ 1099511627776) :
    Calls Try.prog 27 #[.slice ao n cap, .int .i64 m, .int .i64 k] w fun e w' => e = .returned (.bool (decide (k < n + m))) ∧ w = w' := by
  have H := Lib.hid (dgt (n + m) k)
  go_enter Try.func27, Try.ntmps27
  go_wp2_with fail
  go_ret
  exact ⟨by rw [← H.out]; simp, rfl⟩
theorem largeL_any (ao : Option Addr) (n cap m k : Nat) (w : World) (hs : n ≤ 1099511627776) (hm : m ≤ 1099511627776) :
    Calls Try.prog 13 #[.slice ao n cap, .int .i64 m, .int .i64 k] w fun e w' => e = .returned (.bool (decide (k < n + m))) ∧ w = w' := by
  have H := Lib.hid (dgt (n + m) k)
  go_enter Try.func13, Try.ntmps13
  go_wp2_with fail
  go_ret
  exact ⟨by rw [← H.out]; simp, rfl⟩
theorem largeB_any (ao : Option Addr) (n cap m k : Nat) (w : World) (hs : n ≤ 1099511627776) (hm : m ≤ 1099511627776) :
    Calls Try.prog 23 #[.slice ao n cap, .int .i64 m, .int .i64 k] w fun e w' => e = .returned (.bool (decide (k < n + m))) ∧ w = w' := by
  have H := Lib.hid (dgt (n + m) k)
  go_enter Try.func23, Try.ntmps23
  go_wp2_with fail
  go_ret
  exact ⟨by rw [← H.out]; simp, rfl⟩
theorem bare_any (ao : Option Addr) (n cap : Nat) (w : World) (hs : n ≤ 1099511627776) :
    Calls Try.prog 20 #[.slice ao n cap] w fun e w' => e = .returned (.bool (decide (n = 0))) ∧ w = w' := by
  go_enter Try.func20, Try.ntmps20
  go_wp2_with fail
  go_ret
  refine ⟨?_, rfl⟩
  by_cases h : n = 0
  · subst h; rfl
  · rw [show ((n : Int) == 0) = false from by rw [beq_eq_false_iff_ne]; omega, decide_eq_false h]; rfl
theorem largeCell_any (s : ByteArray) (w : World) (hs : s.size ≤ 9223372036854775807) :
    Calls Try.prog 34 #[.string s] w fun e w' => e = .returned (.bool (decide (4096 < s.size))) ∧ w = w' := by
  have C := Lib.hid (fun W => largeS_any s 0 4096 W hs)
  go_enter Try.func34, Try.ntmps34
  go_wp2_with fail
  refine (C.out _).mono ?_; rintro e w' ⟨rfl, rfl⟩
  go_wp2_with fail
  go_ret
  exact ⟨by simp, rfl⟩

/-- the first place, from k on, of which something is so; -1: none -/
def firstAt {α : Type} (p : α → Bool) (l : List α) : Int := match l.findIdx? p with | some i => (i : Int) | none => -1
theorem any_at {α : Type} (p : α → Bool) (l : List α) : decide (0 ≤ firstAt p l) = l.any p := by
  unfold firstAt
  cases h : l.findIdx? p with
  | none =>
    have := List.findIdx?_eq_none_iff.1 h
    rw [List.any_eq_false.2 (fun x hx => by have := this x hx; simp [this])]; rfl
  | some i =>
    obtain ⟨hi, h1, _⟩ := List.findIdx?_eq_some_iff_getElem.1 h
    rw [List.any_eq_true.2 ⟨l[i], List.getElem_mem hi, h1⟩]
    exact decide_eq_true (show (0 : Int) ≤ (i : Int) by omega)
theorem firstAt_none {α : Type} (p : α → Bool) (l : List α) (h : ∀ (j : Nat) (c : α), l[j]? = some c → p c = false) : firstAt p l = -1 := by
  unfold firstAt
  rw [List.findIdx?_eq_none_iff.2 (fun x hx => by
    obtain ⟨i, hi, rfl⟩ := List.getElem_of_mem hx
    have := h i l[i] (List.getElem?_eq_getElem hi)
    simpa using this)]
theorem firstAt_some {α : Type} (p : α → Bool) (l : List α) (k : Nat) (c : α) (hc : l[k]? = some c) (hp : p c = true) (h : ∀ (j : Nat) (c : α), j < k → l[j]? = some c → p c = false) : firstAt p l = (k : Int) := by
  unfold firstAt
  obtain ⟨hk, e⟩ := List.getElem?_eq_some_iff.1 hc
  rw [List.findIdx?_eq_some_iff_getElem.2 ⟨hk, by rw [e]; exact hp, fun j hj => by
    have := h j l[j] hj (List.getElem?_eq_getElem (by omega))
    simpa using this⟩]

set_option maxRecDepth 100000 in
set_option maxHeartbeats 2000000 in
theorem indexCell_any (G : FuncId) (p : ByteArray → Bool) (ao : Option Addr) (cap : Nat) (xs : List ByteArray) (w : World) (hn : xs.length ≤ 1099511627776) (hR : StrRow w ao xs)
    (hent : ∀ args w, (callFunc G args).run Try.prog w = .ok (.enter G args) w) (hG : ∀ c ∈ xs, Calls Try.prog G #[.string c] w fun e w' => e = .returned (.bool (p c)) ∧ w = w') :
    Calls Try.prog 40 #[.slice ao xs.length cap, .func (.func G) #[] #[]] w fun e w' => e = .returned (.int .i64 (firstAt p xs)) ∧ w = w' := by
  have HG := Lib.hid hG
  have HRo := Lib.hid hR
  have HF := Lib.hid (firstAt_none p xs)
  have HS := Lib.hid (firstAt_some p xs)
  clear hG hR
  generalize firstAt p xs = F at HF HS ⊢
  go_enter Try.func40, Try.ntmps40
  go_wp2_with fail
  go_loopw [8] (fun i wr => ∃ k : Nat, k ≤ xs.length ∧ i = .int .i64 k ∧ wr = w ∧ Hid (∀ j c, j < k → xs[j]? = some c → p c = false)) (fun i _ => xs.length - (intOf i).toNat)
  case atStart => exact ⟨0, Nat.zero_le _, rfl, rfl, Lib.hid (fun j c h _ => by omega)⟩
  case round =>
    obtain ⟨k, hk, rfl, rfl, HN⟩ := hrel
    by_cases hlt : k < xs.length
    · obtain ⟨x, hx⟩ : ∃ x, xs[k]? = some x := ⟨_, List.getElem?_eq_getElem hlt⟩
      have C := Lib.hid (HG.out x (List.mem_of_getElem? hx))
      have HX := Lib.hid hx
      rcases HRo.out with h0 | ⟨A, rfl, hA, hcell⟩
      · rw [h0] at hlt; simp at hlt
      have hc := hcell k x hx
      clear hcell hx
      cases hp : p x with
      | true =>
        rw [hp] at C
        have E := Lib.hid (HS.out k x HX.out hp HN.out)
        go_wp2_with fail
        refine C.out.mono ?_; rintro e w' ⟨rfl, rfl⟩
        go_wp2_with fail
        go_ret
        exact ⟨by rw [E.out]; rfl, rfl⟩
      | false =>
        rw [hp] at C
        have HN' : Hid (∀ j c, j < k + 1 → xs[j]? = some c → p c = false) := Lib.hid (fun j c hj hc' => by
          by_cases e : j = k
          · subst e; rw [HX.out] at hc'; cases hc'; exact hp
          · exact HN.out j c (by omega) hc')
        go_wp2_with fail
        refine C.out.mono ?_; rintro e w' ⟨rfl, rfl⟩
        go_wp2_with fail
        go_roundw
        case rel => exact ⟨k + 1, by omega, by go_num, by first | rfl | trivial, HN'⟩
        case measure => simp [intOf]; omega
    · obtain rfl : k = xs.length := by omega
      have E := Lib.hid (HF.out (fun j c hc => HN.out j c (by obtain ⟨h, _⟩ := List.getElem?_eq_some_iff.1 hc; exact h) hc))
      go_wp2_with fail
      go_ret
      exact ⟨by rw [E.out]; rfl, rfl⟩
theorem hasCell_any (G : FuncId) (p : ByteArray → Bool) (ao : Option Addr) (cap : Nat) (xs : List ByteArray) (w : World) (hn : xs.length ≤ 1099511627776) (hR : StrRow w ao xs)
    (hent : ∀ args w, (callFunc G args).run Try.prog w = .ok (.enter G args) w) (hG : ∀ c ∈ xs, Calls Try.prog G #[.string c] w fun e w' => e = .returned (.bool (p c)) ∧ w = w') :
    Calls Try.prog 33 #[.slice ao xs.length cap, .func (.func G) #[] #[]] w fun e w' => e = .returned (.bool (xs.any p)) ∧ w = w' := by
  have C := Lib.hid (indexCell_any G p ao cap xs w hn hR hent hG)
  have E := Lib.hid (any_at p xs)
  clear hG hR hent
  generalize firstAt p xs = F at C E
  go_enter Try.func33, Try.ntmps33
  go_wp2_with fail
  refine C.out.mono ?_; rintro e w' ⟨rfl, rfl⟩
  go_wp2_with fail
  go_ret
  exact ⟨by rw [← E.out]; simp, rfl⟩
def largeRow (r : List ByteArray) : Bool := decide (128 < r.length) || r.any fun c => decide (4096 < c.size)
theorem largeRecord_any (ao : Option Addr) (cap : Nat) (xs : List ByteArray) (w : World) (hn : xs.length ≤ 1099511627776) (hx : ∀ c ∈ xs, c.size ≤ 9223372036854775807) (hR : StrRow w ao xs) :
    Calls Try.prog 21 #[.slice ao xs.length cap] w fun e w' => e = .returned (.bool (largeRow xs)) ∧ w = w' := by
  have C := Lib.hid (fun W => largeR_any ao xs.length cap 0 128 W hn (by decide))
  have D := Lib.hid (hasCell_any 34 (fun c => decide (4096 < c.size)) ao cap xs w hn hR (enters_of Try.func34 (by kernel_rfl) rfl) (fun c hc => largeCell_any c w (hx c hc)))
  have E := Lib.hid (show largeRow xs = (decide (128 < xs.length + 0) || xs.any fun c => decide (4096 < c.size)) from rfl)
  clear hR hx
  generalize largeRow xs = L at E ⊢
  generalize (xs.any fun c => decide (4096 < c.size)) = B at D E
  go_enter Try.func21, Try.ntmps21
  cases hb : decide (128 < xs.length + 0) with
  | true =>
    rw [hb] at C E
    go_wp2_with fail
    refine (C.out _).mono ?_; rintro e w' ⟨rfl, rfl⟩
    go_wp2_with fail
    go_ret
    exact ⟨by rw [E.out]; rfl, rfl⟩
  | false =>
    rw [hb] at C E
    go_wp2_with fail
    refine (C.out _).mono ?_; rintro e w' ⟨rfl, rfl⟩
    go_wp2_with fail
    refine D.out.mono ?_; rintro e w' ⟨rfl, rfl⟩
    go_wp2_with fail
    go_ret
    exact ⟨by rw [E.out]; simp, rfl⟩
end Go.Proofs.Ytacclgfpmkhodaa
