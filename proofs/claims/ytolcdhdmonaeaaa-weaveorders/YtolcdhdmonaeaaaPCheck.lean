/-
  Whether they may be pairs: the program's answer, and the document's reference's.
  Conditions: lists of at most 2^38 pairs of Go integers.
-/
import Derived.WalkKit
import Derived.WalkMore
import Derived.IntWalk
import Derived.Lib.Hide
import Derived.StillTailTactics
import Derived.Deep.QuietTactic
import Derived.BigQuiet
import Derived.Deep.Cut
import Derived.Test.YtolcdhdmonaeaaaProg
import Derived.Test.YtolcdhdmonaeaaaPSort
import Derived.Test.YtolcdhdmonaeaaaPTwice
import Derived.Test.YtolcdhdmonaeaaaPWithin
namespace Go.Proofs.Ytolcdhdmonaeaaa
open Go.RowKit Go.Shelf
set_option linter.unusedVariables false

/-- what is wrong with pairs; 0: nothing -/
def checkP (l : PL) (na nb : Int) : Int := if na < 0 ∨ nb < 0 then 1 else if l.any (badP na nb) then 11 else if twiceL l then 10 else if risesB l then 0 else 12
theorem checkP1 {l : PL} {na nb : Int} (h : na < 0 ∨ nb < 0) : checkP l na nb = 1 := by unfold checkP; rw [if_pos h]
theorem checkP2 {l : PL} {na nb : Int} (h : ¬ (na < 0 ∨ nb < 0)) (k : l.any (badP na nb) = true) : checkP l na nb = 11 := by unfold checkP; rw [if_neg h, if_pos k]
theorem checkP3 {l : PL} {na nb : Int} (h : ¬ (na < 0 ∨ nb < 0)) (k : l.any (badP na nb) = false) (m : twiceL l = true) : checkP l na nb = 10 := by unfold checkP; rw [if_neg h, k, m]; rfl
theorem checkP4 {l : PL} {na nb : Int} (h : ¬ (na < 0 ∨ nb < 0)) (k : l.any (badP na nb) = false) (m : twiceL l = false) (r : risesB l = false) : checkP l na nb = 12 := by unfold checkP; rw [if_neg h, k, m, r]; rfl
theorem checkP5 {l : PL} {na nb : Int} (h : ¬ (na < 0 ∨ nb < 0)) (k : l.any (badP na nb) = false) (m : twiceL l = false) (r : risesB l = true) : checkP l na nb = 0 := by unfold checkP; rw [if_neg h, k, m, r]; rfl

set_option maxRecDepth 100000 in
set_option maxHeartbeats 1000000 in
theorem pcheck_any (ao : Option Addr) (cap : Nat) (xs : PL) (na nb : Int) (w : World) (hn : xs.length ≤ 274877906944) (hs : okP xs) (hR : PairsAt w ao xs) :
    Calls Try.prog 11 #[.slice ao xs.length cap, .int .i64 na, .int .i64 nb] w fun e w' => e = .returned (.int .i64 (checkP xs na nb)) ∧ Below w.heap.size w w' := by
  have C1 := Lib.hid (within_any ao cap xs na nb w (by omega) hR)
  have C2 := Lib.hid (fun W (h : Below w.heap.size w W) => ptwice_any ao cap xs W (by omega) hs (hR.kept h))
  have C3 := Lib.hid (fun W (h : Below w.heap.size w W) => list_any ao cap xs W hn (hR.kept h))
  have C4 := Lib.hid (fun W g (h : PairsAt W (some ⟨g, 0, none⟩) xs) => isSorted_any g 0 xs.length xs W hn h)
  have E1 := Lib.hid (@checkP1 xs na nb)
  have E2 := Lib.hid (@checkP2 xs na nb)
  have E3 := Lib.hid (@checkP3 xs na nb)
  have E4 := Lib.hid (@checkP4 xs na nb)
  have E5 := Lib.hid (@checkP5 xs na nb)
  clear hs hR
  generalize checkP xs na nb = F at E1 E2 E3 E4 E5 ⊢
  generalize xs.any (badP na nb) = b1 at C1 E2 E3 E4 E5
  generalize twiceL xs = b2 at C2 E3 E4 E5
  generalize risesB xs = b3 at C4 E4 E5
  by_cases ha : na < 0
  · have E := Lib.hid (E1.out (.inl ha))
    go_enter Try.func11, Try.ntmps11
    go_wp2_with fail
    go_ret
    exact ⟨by rw [E.out]; rfl, Below.refl _ _⟩
  by_cases hb : nb < 0
  · have E := Lib.hid (E1.out (.inr hb))
    go_enter Try.func11, Try.ntmps11
    go_wp2_with fail
    go_ret
    exact ⟨by rw [E.out]; rfl, Below.refl _ _⟩
  have hab : ¬ (na < 0 ∨ nb < 0) := fun h => h.elim ha hb
  cases b1 with
  | true =>
    have E := Lib.hid (E2.out hab (by trivial))
    go_enter Try.func11, Try.ntmps11
    go_wp2_with fail
    refine C1.out.mono ?_; rintro e w1 ⟨rfl, h1⟩
    go_wp2_with fail
    go_ret
    exact ⟨by rw [E.out]; rfl, h1⟩
  | false =>
    cases b2 with
    | true =>
      have E := Lib.hid (E3.out hab (by trivial) (by trivial))
      go_enter Try.func11, Try.ntmps11
      go_wp2_with fail
      refine C1.out.mono ?_; rintro e w1 ⟨rfl, h1⟩
      have H1 := Lib.hid h1
      clear h1
      go_wp2_with fail
      refine (C2.out _ H1.out).mono ?_; rintro e w2 ⟨rfl, h2⟩
      have H2 := Lib.hid (below_up H1.out h2)
      clear h2
      go_wp2_with fail
      go_ret
      exact ⟨by rw [E.out]; rfl, H2.out⟩
    | false =>
      go_enter Try.func11, Try.ntmps11
      go_wp2_with fail
      refine C1.out.mono ?_; rintro e w1 ⟨rfl, h1⟩
      have H1 := Lib.hid h1
      clear h1
      go_wp2_with fail
      refine (C2.out _ H1.out).mono ?_; rintro e w2 ⟨rfl, h2⟩
      have H2 := Lib.hid (below_up H1.out h2)
      clear h2
      go_wp2_with fail
      refine (C3.out _ H2.out).mono ?_; rintro e w3 ⟨g, rfl, h3, h4⟩
      have H3 := Lib.hid (below_up H2.out h4)
      have HP := Lib.hid h3.pairs
      clear h3 h4
      go_wp2_with fail
      refine (C4.out _ g HP.out).mono ?_; rintro e w4 ⟨rfl, h5⟩
      have H4 := Lib.hid (below_up H3.out h5)
      clear h5
      cases b3 with
      | true =>
        have E := Lib.hid (E5.out hab (by trivial) (by trivial) (by trivial))
        go_wp2_with fail
        go_ret
        exact ⟨by rw [E.out]; rfl, H4.out⟩
      | false =>
        have E := Lib.hid (E4.out hab (by trivial) (by trivial) (by trivial))
        go_wp2_with fail
        go_ret
        exact ⟨by rw [E.out]; rfl, H4.out⟩

theorem any_no (f : Int × Int → Bool) (l : PL) (h : ∀ (j : Nat) p, j < l.length → l[j]? = some p → f p = false) : l.any f = false :=
  List.any_eq_false.2 (fun p hp => by
    obtain ⟨i, hi, rfl⟩ := List.getElem_of_mem hp
    rw [h i _ hi (List.getElem?_eq_getElem hi)]; simp)
theorem any_yes (f : Int × Int → Bool) (l : PL) (k : Nat) (p : Int × Int) (hp : l[k]? = some p) (h : f p = true) : l.any f = true :=
  List.any_eq_true.2 ⟨p, List.mem_of_getElem? hp, h⟩
theorem notin_next {α : Type} (xs : List α) (k : Nat) (x y : α) (hy : xs[k]? = some y) (h : x ∉ xs.take k) (hne : ¬ y = x) : x ∉ xs.take (k + 1) := by
  obtain ⟨hk, e⟩ := List.getElem?_eq_some_iff.1 hy
  rw [List.take_succ_eq_append_getElem hk, e, List.mem_append]
  rintro (h' | h')
  · exact h h'
  · simp at h'; exact hne h'.symm
theorem in_take {α : Type} (xs : List α) (k i : Nat) (x : α) (hx : xs[k]? = some x) (h : k < i) : x ∈ xs.take i := by
  refine List.mem_of_getElem? (i := k) ?_
  rw [List.getElem?_take, if_pos h, hx]

set_option maxRecDepth 100000 in
set_option maxHeartbeats 4000000 in
theorem rcheck_any (ao : Option Addr) (cap : Nat) (xs : PL) (na nb : Int) (w : World) (hn : xs.length ≤ 274877906944) (hR : PairsAt w ao xs) :
    Calls Try.prog 20 #[.slice ao xs.length cap, .int .i64 na, .int .i64 nb] w fun e w' => e = .returned (.int .i64 (checkP xs na nb)) ∧ Below w.heap.size w w' := by
  have HRo := Lib.hid hR
  have E1 := Lib.hid (@checkP1 xs na nb)
  have E2 := Lib.hid (@checkP2 xs na nb)
  have E3 := Lib.hid (@checkP3 xs na nb)
  have E4 := Lib.hid (@checkP4 xs na nb)
  have E5 := Lib.hid (@checkP5 xs na nb)
  clear hR
  generalize checkP xs na nb = F at E1 E2 E3 E4 E5 ⊢
  by_cases ha : na < 0
  · have E := Lib.hid (E1.out (.inl ha))
    go_enter Try.func20, Try.ntmps20
    go_wp2_with fail
    go_ret
    exact ⟨by rw [E.out]; rfl, Below.refl _ _⟩
  by_cases hb : nb < 0
  · have E := Lib.hid (E1.out (.inr hb))
    go_enter Try.func20, Try.ntmps20
    go_wp2_with fail
    go_ret
    exact ⟨by rw [E.out]; rfl, Below.refl _ _⟩
  have hab : Hid (¬ (na < 0 ∨ nb < 0)) := Lib.hid (fun h => h.elim ha hb)
  have HAny := Lib.hid (any_yes (badP na nb) xs)
  have HNone := Lib.hid (any_no (badP na nb) xs)
  go_enter Try.func20, Try.ntmps20
  go_wp2_with fail
  clear ha hb
  go_loopw [7] (fun i wr => ∃ k : Nat, k ≤ xs.length ∧ i = .int .i64 k ∧ Hid (Below w.heap.size w wr) ∧ Hid (∀ (j : Nat) p, j < k → xs[j]? = some p → badP na nb p = false)) (fun i _ => xs.length - (intOf i).toNat)
  case atStart => exact ⟨0, Nat.zero_le _, rfl, Lib.hid (Below.refl _ _), Lib.hid (fun j p h _ => by omega)⟩
  case round =>
    obtain ⟨k, hk, rfl, HB, HJ⟩ := hrel
    by_cases hlt : k < xs.length
    · obtain ⟨⟨x1, x2⟩, hx⟩ : ∃ x, xs[k]? = some x := ⟨_, List.getElem?_eq_getElem hlt⟩
      rcases (HRo.out.kept HB.out) with h0 | ⟨b, o, rfl, hA, hcell⟩
      · rw [h0] at hlt; simp at hlt
      obtain ⟨hc1, hc2⟩ := hcell k _ hx
      dsimp only at hc1 hc2
      have HX := Lib.hid hx
      clear hcell hx
      have HBad : Hid (badP na nb (x1, x2) = (decide (x1 < 0) || decide (na ≤ x1) || decide (x2 < 0) || decide (nb ≤ x2))) := Lib.hid rfl
      have HE : Hid (badP na nb (x1, x2) = true → F = 11) := Lib.hid (fun h => E2.out hab.out (HAny.out k _ HX.out h))
      by_cases k1 : x1 < 0
      · have E := Lib.hid (HE.out (by rw [HBad.out]; simp [k1]))
        go_wp2_with fail
        go_ret
        exact ⟨by rw [E.out]; rfl, HB.out⟩
      by_cases k2 : na ≤ x1
      · have E := Lib.hid (HE.out (by rw [HBad.out]; simp [k2]))
        go_wp2_with fail
        go_ret
        exact ⟨by rw [E.out]; rfl, HB.out⟩
      by_cases k3 : x2 < 0
      · have E := Lib.hid (HE.out (by rw [HBad.out]; simp [k3]))
        go_wp2_with fail
        go_ret
        exact ⟨by rw [E.out]; rfl, HB.out⟩
      by_cases k4 : nb ≤ x2
      · have E := Lib.hid (HE.out (by rw [HBad.out]; simp [k4]))
        go_wp2_with fail
        go_ret
        exact ⟨by rw [E.out]; rfl, HB.out⟩
      have HJ' : Hid (∀ (j : Nat) p, j < k + 1 → xs[j]? = some p → badP na nb p = false) := Lib.hid (fun j p hj hp => by
        by_cases e : j = k
        · subst e; rw [HX.out] at hp; cases hp; rw [HBad.out]; simp [k1, k2, k3, k4]
        · exact HJ.out j p (by omega) hp)
      go_wp2_with fail
      go_roundw
      case rel => exact ⟨k + 1, by omega, by go_num, HB, HJ'⟩
      case measure => simp [intOf]; omega
    · obtain rfl : k = xs.length := by omega
      have HNo := Lib.hid (HNone.out HJ.out)
      have HT := Lib.hid (twice_yes xs)
      have HTn := Lib.hid (twice_no xs)
      clear hlt HJ HAny HNone E1 E2
      go_wp2_with fail
      go_loopw [8] (fun i wr => ∃ k : Nat, k ≤ xs.length ∧ i = .int .i64 k ∧ Hid (Below w.heap.size w wr) ∧ Hid (((xs.map Prod.fst).take k).Nodup) ∧ Hid (((xs.map Prod.snd).take k).Nodup)) (fun i _ => xs.length - (intOf i).toNat)
      case atStart => exact ⟨0, Nat.zero_le _, rfl, HB, Lib.hid (by simp), Lib.hid (by simp)⟩
      case round =>
        obtain ⟨i, hi, rfl, HB, HD1, HD2⟩ := hrel
        by_cases hlt : i < xs.length
        · obtain ⟨⟨x1, x2⟩, hx⟩ : ∃ x, xs[i]? = some x := ⟨_, List.getElem?_eq_getElem hlt⟩
          have HX := Lib.hid hx
          clear hx
          go_wp2_with fail
          obtain ⟨wo, rfl⟩ : ∃ wo : World, wo = wr := ⟨_, rfl⟩
          go_loopw [9] (fun q wr => ∃ k : Nat, k ≤ i ∧ q = .int .i64 k ∧ Hid (Below w.heap.size w wr) ∧ Hid (x1 ∉ (xs.map Prod.fst).take k) ∧ Hid (x2 ∉ (xs.map Prod.snd).take k)) (fun q _ => i - (intOf q).toNat)
          case atStart => exact ⟨0, Nat.zero_le _, rfl, HB, Lib.hid (by simp), Lib.hid (by simp)⟩
          case round =>
            obtain ⟨k, hk, rfl, HB, HM1, HM2⟩ := hrel
            by_cases hki : k < i
            · obtain ⟨⟨y1, y2⟩, hy⟩ : ∃ x, xs[k]? = some x := ⟨_, List.getElem?_eq_getElem (by omega)⟩
              rcases (HRo.out.kept HB.out) with h0 | ⟨b, o, rfl, hA, hcell⟩
              · rw [h0] at hlt; simp at hlt
              obtain ⟨hc1, hc2⟩ := hcell i _ HX.out
              obtain ⟨hd1, hd2⟩ := hcell k _ hy
              dsimp only at hc1 hc2 hd1 hd2
              have hkl : k < xs.length := by omega
              have HY := Lib.hid hy
              clear hcell hy
              by_cases e1 : y1 = x1
              · have E := Lib.hid (E3.out hab.out HNo.out (HT.out i _ HX.out (.inl (in_take _ k i x1 (by rw [List.getElem?_map, HY.out, ← e1]; rfl) hki))))
                go_wp2_with fail
                go_quiet (fail)
                go_wp2_with fail
                go_ret
                exact ⟨by rw [E.out]; rfl, bdn HB.out⟩
              by_cases e2 : y2 = x2
              · have E := Lib.hid (E3.out hab.out HNo.out (HT.out i _ HX.out (.inr (in_take _ k i x2 (by rw [List.getElem?_map, HY.out, ← e2]; rfl) hki))))
                go_wp2_with fail
                go_quiet (fail)
                go_wp2_with fail
                go_ret
                exact ⟨by rw [E.out]; rfl, bdn HB.out⟩
              have HM1' := Lib.hid (notin_next _ k x1 y1 (by rw [List.getElem?_map, HY.out]; rfl) HM1.out e1)
              have HM2' := Lib.hid (notin_next _ k x2 y2 (by rw [List.getElem?_map, HY.out]; rfl) HM2.out e2)
              have hb1 : (y1 == x1) = false := by simp [e1]
              have hb2 : (y2 == x2) = false := by simp [e2]
              go_wp2_with fail
              go_quiet (fail)
              have HB' : Hid (Below w.heap.size w (wr.drewN nq)) := Lib.hid (bdn HB.out)
              go_wp2_with fail
              go_roundw
              case rel => exact ⟨k + 1, by omega, by go_num, HB', HM1', HM2'⟩
              case measure => simp [intOf]; omega
            · obtain rfl : k = i := by omega
              have HD1' := Lib.hid (nodup_next _ k x1 (by rw [List.getElem?_map, HX.out]; rfl) HD1.out HM1.out)
              have HD2' := Lib.hid (nodup_next _ k x2 (by rw [List.getElem?_map, HX.out]; rfl) HD2.out HM2.out)
              go_wp2_with fail
              go_roundw
              case rel => exact ⟨k + 1, by omega, by go_num, HB, HD1', HD2'⟩
              case measure => simp [intOf]; omega
        · obtain rfl : i = xs.length := by omega
          have HTw := Lib.hid (HTn.out (by rw [List.map_take]; exact HD1.out) (by rw [List.map_take]; exact HD2.out))
          have HRn := Lib.hid (rises_no xs)
          have HRy := Lib.hid (rises_yes xs)
          clear hlt HD1 HD2 HT HTn E3
          go_wp2_with fail
          go_loopw [10] (fun q wr => ∃ k : Nat, 1 ≤ k ∧ k ≤ xs.length + 1 ∧ q = .int .i64 k ∧ Hid (Below w.heap.size w wr) ∧ Hid (∀ (j : Nat) p q, j + 1 < k → xs[j]? = some p → xs[j + 1]? = some q → p.2 ≤ q.2)) (fun q _ => xs.length - (intOf q).toNat)
          case atStart => exact ⟨1, Nat.le_refl _, by omega, rfl, HB, Lib.hid (fun j p q h _ _ => by omega)⟩
          case round =>
            obtain ⟨n, hk1, hk2, rfl, HB, HJ⟩ := hrel
            by_cases hlt : n < xs.length
            · obtain ⟨m, hmk⟩ : ∃ m, n = m + 1 := ⟨n - 1, by omega⟩
              obtain ⟨⟨x1, x2⟩, hx⟩ : ∃ x, xs[m]? = some x := ⟨_, List.getElem?_eq_getElem (by omega)⟩
              obtain ⟨⟨y1, y2⟩, hy⟩ : ∃ x, xs[n]? = some x := ⟨_, List.getElem?_eq_getElem (by omega)⟩
              rcases (HRo.out.kept HB.out) with h0 | ⟨b, o, rfl, hA, hcell⟩
              · rw [h0] at hlt; simp at hlt
              obtain ⟨hc1, hc2⟩ := hcell m _ hx
              obtain ⟨hd1, hd2⟩ := hcell n _ hy
              dsimp only at hc1 hc2 hd1 hd2
              have HX := Lib.hid hx
              have HYY : Hid (xs[m + 1]? = some (y1, y2)) := Lib.hid (by rw [← hmk]; exact hy)
              have hsub : (n : Int) - 1 = (m : Int) := by omega
              have hwr : IntKind.i64.wrap ((n : Int) - 1) = (m : Int) := by rw [IntWalk.i64_in _ (by omega)]; exact hsub
              have hwm : IntKind.i64.wrap (m : Int) = (m : Int) := IntWalk.i64_in _ (by omega)
              have hlm : m < xs.length := by omega
              have HM := Lib.hid hmk
              clear hcell hx hy hmk
              by_cases hyx : y2 < x2
              · have E := Lib.hid (E4.out hab.out HNo.out HTw.out (HRn.out m _ _ HX.out HYY.out hyx))
                go_wp2_with fail
                go_quiet (fail)
                go_wp2_with fail
                go_ret
                exact ⟨by rw [E.out]; rfl, bdn HB.out⟩
              have HJ' : Hid (∀ (j : Nat) p q, j + 1 < n + 1 → xs[j]? = some p → xs[j + 1]? = some q → p.2 ≤ q.2) := Lib.hid (fun j p q hj hp hq => by
                by_cases e : j = m
                · subst e; rw [HX.out] at hp; rw [HYY.out] at hq; cases hp; cases hq; show x2 ≤ y2; omega
                · exact HJ.out j p q (by have := HM.out; omega) hp hq)
              go_wp2_with fail
              go_quiet (fail)
              have HB' : Hid (Below w.heap.size w (wr.drewN nq)) := Lib.hid (bdn HB.out)
              go_wp2_with fail
              go_roundw
              case rel => exact ⟨n + 1, by omega, by omega, by go_num, HB', HJ'⟩
              case measure => simp [intOf]; omega
            · have E := Lib.hid (E5.out hab.out HNo.out HTw.out (HRy.out (fun j p q _ hp hq => HJ.out j p q (by have := (List.getElem?_eq_some_iff.1 hq).1; omega) hp hq)))
              go_wp2_with fail
              go_ret
              exact ⟨by rw [E.out]; rfl, HB.out⟩
end Go.Proofs.Ytolcdhdmonaeaaa
