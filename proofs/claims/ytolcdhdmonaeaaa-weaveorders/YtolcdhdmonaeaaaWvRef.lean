/-
  Parts of weaving, as the document's reference has them: is a number in a list, where does a gone one stand, the As of what is still, all that have a B.
  Conditions: lists of at most 2^20 pairs of Go integers.
-/
import Derived.IntWalk
import Derived.WalkArith
import Derived.OwnWalk
import Derived.Deep.Cut
import Derived.Deep.Onto
import Derived.BigQuiet
import Derived.Deep.QuietTactic
import Derived.Test.YtolcdhdmonaeaaaProg
import Derived.Test.YtolcdhdmonaeaaaWvTake
import Derived.Test.YtolcdhdmonaeaaaWvMathO
import Derived.Test.YtolcdhdmonaeaaaPStillR
namespace Go.Proofs.Ytolcdhdmonaeaaa
open Go.RowKit Go.Shelf
set_option linter.unusedVariables false

set_option maxRecDepth 100000 in
set_option maxHeartbeats 1000000 in
theorem rinL_any (so : Option Addr) (sc : Nat) (S : List Int) (x : Int) (w : World) (hn : S.length ≤ 1099511627776) (hS : IntsAt w so S) :
    Calls Try.prog 35 #[.slice so S.length sc, .int .i64 x] w fun e w' => e = .returned (.bool (decide (x ∈ S))) ∧ Below w.heap.size w w' := by
  have HS := Lib.hid hS
  obtain ⟨D, HD⟩ : ∃ D, Hid (D = decide (x ∈ S)) := ⟨_, Lib.hid rfl⟩
  rw [← HD.out]
  clear hS
  go_enter Try.func35, Try.ntmps35
  go_wp2_with fail
  go_loopw [5] (fun i wr => ∃ k : Nat, k ≤ S.length ∧ i = .int .i64 k ∧ Hid (x ∉ S.take k) ∧ Hid (Below w.heap.size w wr)) (fun i _ => S.length - (intOf i).toNat)
  case atStart => exact ⟨0, Nat.zero_le _, rfl, Lib.hid (by simp), Lib.hid (Below.refl _ _)⟩
  case round =>
    obtain ⟨k, hk, rfl, HN, HB⟩ := hrel
    by_cases hlt : k < S.length
    · obtain ⟨y, hy⟩ : ∃ y, S[k]? = some y := ⟨_, List.getElem?_eq_getElem hlt⟩
      rcases (HS.out.kept HB.out) with h0 | ⟨A, rfl, hA, hcell⟩
      · rw [h0] at hlt; simp at hlt
      have hc := hcell k _ hy
      have HY := Lib.hid hy
      clear hcell hy
      by_cases he : y = x
      · have hb : ((y == x) = true) := by simp [he]
        have E : Hid (D = true) := Lib.hid (by rw [HD.out]; exact decide_eq_true (by rw [← he]; exact List.mem_of_getElem? HY.out))
        clear he
        go_wp2_with fail
        go_ret
        exact ⟨by rw [E.out]; rfl, HB.out⟩
      · have hb : ((y == x) = false) := by simp [he]
        have HN2 : Hid (x ∉ S.take (k + 1)) := Lib.hid (fun h => by
          obtain ⟨hk', e⟩ := List.getElem?_eq_some_iff.1 HY.out
          rw [List.take_succ_eq_append_getElem hk', e] at h
          rcases List.mem_append.1 h with h | h
          · exact HN.out h
          · simp at h; exact he h.symm)
        clear he
        go_wp2_with fail
        go_roundw
        case rel => exact ⟨k + 1, by omega, by go_num, HN2, HB⟩
        case measure => simp [intOf]; omega
    · obtain rfl : k = S.length := by omega
      have E : Hid (D = false) := Lib.hid (by rw [HD.out]; have := HN.out; rw [List.take_length] at this; exact decide_eq_false this)
      go_wp2_with fail
      go_ret
      exact ⟨by rw [E.out]; rfl, HB.out⟩

theorem tw_at {p : Int × Int → Bool} {l : PL} {k : Nat} {x : Int × Int} (h : ∀ a ∈ l.take k, p a = true) (hx : l[k]? = some x) (hp : p x = false) : l.takeWhile p = l.take k ∧ l.dropWhile p = l.drop k := by
  obtain ⟨hk, e⟩ := List.getElem?_eq_some_iff.1 hx
  have hs : l = l.take k ++ x :: l.drop (k + 1) := by rw [← e, List.getElem_cons_drop hk, List.take_append_drop]
  constructor
  · conv => lhs; rw [hs]
    rw [List.takeWhile_append_of_pos h, List.takeWhile_cons_of_neg (by simp [hp])]; simp
  · conv => lhs; rw [hs]
    rw [List.dropWhile_append_of_pos h, List.dropWhile_cons_of_neg (by simp [hp]), ← e, List.getElem_cons_drop hk]
theorem tw_every {p : Int × Int → Bool} {l : PL} (h : ∀ a ∈ l, p a = true) : l.takeWhile p = l := by
  have h1 := List.takeWhile_append_of_pos (l₂ := []) h
  simpa using h1
def placeL (S : List Int) (l : PL) (a : Int) : Nat := (l.takeWhile (fun p => !hitW S a p)).length
theorem place_le (S : List Int) (l : PL) (a : Int) : placeL S l a ≤ l.length := (List.takeWhile_sublist _).length_le
theorem place_is (S : List Int) (l : PL) (a : Int) : insW S l a = l.take (placeL S l a) ++ (a, -1) :: l.drop (placeL S l a) := by
  have h := List.takeWhile_append_dropWhile (p := fun p => !hitW S a p) (l := l)
  have key : ∀ (T D l : PL), T ++ D = l → T = l.take T.length ∧ D = l.drop T.length := fun T D l h => by subst h; simp
  obtain ⟨k1, k2⟩ := key _ _ _ h
  unfold insW placeL
  rw [← k1, ← k2]

set_option maxRecDepth 100000 in
set_option maxHeartbeats 1000000 in
theorem rplace_any (ao : Option Addr) (ca : Nat) (l : PL) (so : Option Addr) (sc : Nat) (S : List Int) (a : Int) (w : World) (hn : l.length ≤ 1099511627776) (hm : S.length ≤ 1099511627776) (hR : PairsAt w ao l) (hS : IntsAt w so S) :
    Calls Try.prog 24 #[.slice ao l.length ca, .slice so S.length sc, .int .i64 a] w fun e w' => e = .returned (.int .i64 (placeL S l a)) ∧ Below w.heap.size w w' := by
  have HR := Lib.hid hR
  have C := Lib.hid (fun x W (h : Below w.heap.size w W) => rinL_any so sc S x W hm (hS.kept h))
  obtain ⟨D, HD⟩ : ∃ D, Hid (D = placeL S l a) := ⟨_, Lib.hid rfl⟩
  rw [← HD.out]
  have HE1 : Hid (∀ (k : Nat) x1 x2, l[k]? = some (x1, x2) → (∀ q ∈ l.take k, hitW S a q = false) → decide (x1 ∈ S) = true → 0 ≤ x2 → a < x1 → D = k) := Lib.hid (fun k x1 x2 hx h h1 h2 h3 => by
    rw [HD.out]; unfold placeL
    have hk := (List.getElem?_eq_some_iff.1 hx).1
    rw [(tw_at (p := fun p => !hitW S a p) (fun q hq => by simp [h q hq]) hx (by simp only [hitW, h1, decide_eq_true h2, decide_eq_true h3]; rfl)).1, List.length_take, Nat.min_eq_left (by omega)])
  have HE2 : Hid ((∀ q ∈ l.take l.length, hitW S a q = false) → D = l.length) := Lib.hid (fun h => by
    rw [List.take_length] at h
    rw [HD.out]; unfold placeL
    rw [tw_every (p := fun p => !hitW S a p) (fun q hq => by simp [h q hq])])
  have HNX : Hid (∀ (k : Nat) x1 x2, l[k]? = some (x1, x2) → (∀ q ∈ l.take k, hitW S a q = false) → hitW S a (x1, x2) = false → ∀ q ∈ l.take (k + 1), hitW S a q = false) := Lib.hid (fun k x1 x2 hx h h1 q hq => by
    obtain ⟨hk, e⟩ := List.getElem?_eq_some_iff.1 hx
    rw [List.take_succ_eq_append_getElem hk, e] at hq
    rcases List.mem_append.1 hq with h' | h'
    · exact h q h'
    · simp at h'; subst h'; exact h1)
  clear hR hS HD
  go_enter Try.func24, Try.ntmps24
  go_wp2_with fail
  go_loopw [7] (fun i wr => ∃ k : Nat, k ≤ l.length ∧ i = .int .i64 k ∧ Hid (∀ q ∈ l.take k, hitW S a q = false) ∧ Hid (Below w.heap.size w wr)) (fun i _ => l.length - (intOf i).toNat)
  case atStart => exact ⟨0, Nat.zero_le _, rfl, Lib.hid (by simp), Lib.hid (Below.refl _ _)⟩
  case round =>
    obtain ⟨k, hk, rfl, HN, HB⟩ := hrel
    by_cases hlt : k < l.length
    · obtain ⟨⟨x1, x2⟩, hx⟩ : ∃ x, l[k]? = some x := ⟨_, List.getElem?_eq_getElem hlt⟩
      rcases HR.out with h0 | ⟨b, o, rfl, hA, hcell⟩
      · rw [h0] at hlt; simp at hlt
      have G : Hid (∀ V, Below w.heap.size w V → V.cell? ⟨b, o + k * 2, none⟩ = some (.int .i64 x1) ∧ V.cell? ⟨b, o + k * 2 + 1, none⟩ = some (.int .i64 x2)) := Lib.hid (fun V h => ⟨(h.cell (p := ⟨b, o + k * 2, none⟩) hA).trans (hcell k _ hx).1, (h.cell (p := ⟨b, o + k * 2 + 1, none⟩) hA).trans (hcell k _ hx).2⟩)
      have HX1 := Lib.hid (fun h1 h2 h3 => HE1.out k x1 x2 hx HN.out h1 h2 h3)
      have HX2 := Lib.hid (HNX.out k x1 x2 hx HN.out)
      have C1 := Lib.hid (C.out x1 wr HB.out)
      have HH : Hid (hitW S a (x1, x2) = (decide (x1 ∈ S) && decide (0 ≤ x2) && decide (a < x1))) := Lib.hid rfl
      obtain ⟨c1, c2⟩ := G.out wr HB.out
      generalize decide (x1 ∈ S) = t at C1 HX1 HH
      clear hcell hx
      go_wp2_with fail
      refine C1.out.mono ?_; rintro e w2 ⟨rfl, b1⟩
      have HB2 := Lib.hid (below_up HB.out b1)
      obtain ⟨d1, d2⟩ := G.out w2 HB2.out
      clear b1 C1 c1 c2 HB
      cases t with
      | false =>
        have HN2 := Lib.hid (HX2.out (by rw [HH.out]; rfl))
        go_wp2_with fail
        go_roundw
        case rel => exact ⟨k + 1, by omega, by go_num, HN2, HB2⟩
        case measure => simp [intOf]; omega
      | true =>
        by_cases h2 : 0 ≤ x2
        · have g2 : (decide (0 ≤ x2) = true) := by simp [h2]
          by_cases h3 : a < x1
          · have g3 : (decide (a < x1) = true) := by simp [h3]
            have E := Lib.hid (HX1.out rfl h2 h3)
            go_wp2_with fail
            go_ret
            exact ⟨by rw [E.out]; rfl, HB2.out⟩
          · have g3 : (decide (a < x1) = false) := by simpa using h3
            have HN2 := Lib.hid (HX2.out (by rw [HH.out, g3]; simp))
            go_wp2_with fail
            go_roundw
            case rel => exact ⟨k + 1, by omega, by go_num, HN2, HB2⟩
            case measure => simp [intOf]; omega
        · have g2 : (decide (0 ≤ x2) = false) := by simpa using h2
          have HN2 := Lib.hid (HX2.out (by rw [HH.out, g2]; simp))
          go_wp2_with fail
          go_roundw
          case rel => exact ⟨k + 1, by omega, by go_num, HN2, HB2⟩
          case measure => simp [intOf]; omega
    · obtain rfl : k = l.length := by omega
      have E := Lib.hid (HE2.out HN.out)
      go_wp2_with fail
      go_ret
      exact ⟨by rw [E.out]; rfl, HB.out⟩
end Go.Proofs.Ytolcdhdmonaeaaa
