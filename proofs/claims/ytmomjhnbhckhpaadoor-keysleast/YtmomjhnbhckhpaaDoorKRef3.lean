/-
  The reference: whether a text is among some.
  Conditions: lists of at most 2^40 texts.
-/
import Derived.Deep.OwnRows
import Derived.Deep.RegionHeld3
import Derived.WalkKit
import Derived.WalkMore
import Derived.IntWalk
import Derived.WalkArith
import Derived.OwnWalk
import Derived.Lib.Hide
import Derived.Test.YtmomjhnbhckhpaaDoorProg
import Derived.Test.YtmomjhnbhckhpaaDoorKRef2
import Derived.Test.YtmomjhnbhckhpaaDoorKMath2
namespace Go.Proofs.YtmomjhnbhckhpaaDoor
open Go.RowKit Go.Shelf Go.Deep
set_option linter.unusedVariables false

set_option maxRecDepth 100000 in
set_option maxHeartbeats 4000000 in
theorem rinK_any (ao : Option Addr) (cap n : Nat) (xs : List ByteArray) (s : ByteArray) (w : World) (hl : xs.length = n) (hn : n ≤ 1099511627776) (hH : StrRow w ao xs) :
    Calls Tryd.prog 45 #[.slice ao n cap, .string s] w fun e w' => e = .returned (.bool (decide (s.data.toList ∈ bytesOf xs))) ∧ w = w' := by
  subst hl
  have HHo := Lib.hid hH
  have HF : Hid ((∀ (j : Nat) c, xs[j]? = some c → ¬ c.data.toList = s.data.toList) → decide (s.data.toList ∈ bytesOf xs) = false) := Lib.hid (fun h => decide_eq_false (fun hm => by
    obtain ⟨i, hi⟩ := List.mem_iff_getElem?.1 ((mem_bytes _ _).1 hm)
    exact h i s hi rfl))
  have HS : Hid (∀ (j : Nat) c, xs[j]? = some c → c.data.toList = s.data.toList → decide (s.data.toList ∈ bytesOf xs) = true) := Lib.hid (fun j c h e => decide_eq_true ((mem_bytes _ _).2 (by rw [← ba_eq e]; exact List.mem_of_getElem? h)))
  clear hH
  generalize decide (s.data.toList ∈ bytesOf xs) = F at HF HS ⊢
  go_enter Tryd.func45, Tryd.ntmps45
  go_wp2_with fail
  go_loopw [5] (fun i wr => ∃ k : Nat, k ≤ xs.length ∧ i = .int .i64 k ∧ wr = w ∧ Hid (∀ (j : Nat) c, j < k → xs[j]? = some c → ¬ c.data.toList = s.data.toList)) (fun i _ => xs.length - (intOf i).toNat)
  case atStart => exact ⟨0, Nat.zero_le _, rfl, rfl, Lib.hid (fun j c h _ => by omega)⟩
  case round =>
    obtain ⟨k, hk, rfl, rfl, HN⟩ := hrel
    by_cases hlt : k < xs.length
    · obtain ⟨x, hx⟩ : ∃ x, xs[k]? = some x := ⟨_, List.getElem?_eq_getElem hlt⟩
      have HX := Lib.hid hx
      have hbe := str_beq x s
      rcases HHo.out with h0 | ⟨A, rfl, hA, hcell⟩
      · rw [h0] at hlt; simp at hlt
      have hcx := hcell k x hx
      clear hcell hx
      by_cases hp : x.data.toList = s.data.toList
      · have E := Lib.hid (HS.out k x HX.out hp)
        rw [decide_eq_true hp] at hbe
        clear hp
        go_wp2_with fail
        go_ret
        exact ⟨by rw [E.out]; rfl, rfl⟩
      · have HN' : Hid (∀ (j : Nat) c, j < k + 1 → xs[j]? = some c → ¬ c.data.toList = s.data.toList) := Lib.hid (fun j c hj hc' => by
          by_cases e : j = k
          · subst e; rw [HX.out] at hc'; cases hc'; exact hp
          · exact HN.out j c (by omega) hc')
        rw [decide_eq_false hp] at hbe
        clear hp
        go_wp2_with fail
        go_roundw
        case rel => exact ⟨k + 1, by omega, by go_num, by first | rfl | trivial, HN'⟩
        case measure => simp [intOf]; omega
    · obtain rfl : k = xs.length := by omega
      have E := Lib.hid (HF.out (fun j c hc => HN.out j c (by obtain ⟨h, _⟩ := List.getElem?_eq_some_iff.1 hc; exact h) hc))
      go_wp2_with fail
      go_ret
      exact ⟨by rw [E.out]; rfl, rfl⟩
theorem row_take {w : World} {ao : Option Addr} {xs : List ByteArray} (h : StrRow w ao xs) (k : Nat) : StrRow w ao (xs.take k) := by
  rcases h with rfl | ⟨A, h1, h2, h3⟩
  · exact .inl (by simp)
  · refine .inr ⟨A, h1, h2, fun i c hc => h3 i c ?_⟩
    rw [List.getElem?_take] at hc
    split at hc
    · exact hc
    · cases hc

/-! what the reference asks, one by one -/
theorem usable_twice (ts : List Tab) (names : List ByteArray) (k : Nat) (x : ByteArray) (hx : names[k]? = some x) (h : x ∈ names.take k) : usableC ts names = false := by
  cases hu : usableC ts names with
  | false => rfl
  | true =>
    obtain ⟨-, hn, -⟩ := (usable_iff ts names).1 hu
    have hs := List.take_append_drop k names
    rw [← hs, List.nodup_append] at hn
    obtain ⟨hk, e⟩ := List.getElem?_eq_some_iff.1 hx
    exact absurd rfl (hn.2.2 x h x (by rw [List.drop_eq_getElem_cons hk, e]; exact List.mem_cons_self))
theorem usable_out (ts : List Tab) (names : List ByteArray) (i : Nat) (t : Tab) (ht : ts[i]? = some t) (h : inAll t.1 names = false) : usableC ts names = false := by
  cases hu : usableC ts names with
  | false => rfl
  | true =>
    obtain ⟨-, -, h3⟩ := (usable_iff ts names).1 hu
    have h4 := (h3 t (List.mem_of_getElem? ht)).1
    unfold inAll at h
    rw [List.all_eq_false] at h
    obtain ⟨c, hc, hf⟩ := h
    exact absurd (decide_eq_true (h4 c hc)) hf
theorem usable_same (ts : List Tab) (names : List ByteArray) (i : Nat) (t : Tab) (ht : ts[i]? = some t) (h : uniqL t.1.length t.2 (names.map (findL t.1)) = false) : usableC ts names = false := by
  cases hu : usableC ts names with
  | false => rfl
  | true =>
    obtain ⟨-, -, h3⟩ := (usable_iff ts names).1 hu
    have h4 := (h3 t (List.mem_of_getElem? ht)).2
    unfold placeL at h4
    rw [h] at h4; cases h4
theorem usable_yes (ts : List Tab) (names : List ByteArray) (h1 : ∀ (k : Nat) x, names[k]? = some x → ¬ x ∈ names.take k) (h2 : ∀ (i : Nat) t, ts[i]? = some t → inAll t.1 names = true ∧ uniqL t.1.length t.2 (names.map (findL t.1)) = true) : usableC ts names = decide (0 < names.length) := by
  by_cases h0 : 0 < names.length
  · rw [decide_eq_true h0, usable_iff]
    refine ⟨by intro e; rw [e] at h0; simp at h0, ?_, fun t ht => ?_⟩
    · unfold List.Nodup
      rw [List.pairwise_iff_getElem]
      intro i j hi hj hij e
      refine h1 j names[j] (List.getElem?_eq_getElem hj) (List.mem_iff_getElem?.2 ⟨i, ?_⟩)
      rw [List.getElem?_take, if_pos hij, List.getElem?_eq_getElem hi, e]
    · obtain ⟨i, hi⟩ := List.mem_iff_getElem?.1 ht
      obtain ⟨q1, q2⟩ := h2 i t hi
      refine ⟨fun s hs => ?_, q2⟩
      unfold inAll at q1
      rw [List.all_eq_true] at q1
      exact of_decide_eq_true (q1 s hs)
  · rw [decide_eq_false h0]
    have : names = [] := List.eq_nil_of_length_eq_zero (by omega)
    subst this; rfl
end Go.Proofs.YtmomjhnbhckhpaaDoor
