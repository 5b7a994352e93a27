/-
  The walk of the statement WeaveRises.
  Conditions: none beyond the form of claims.
-/
import Derived.WalkKit
import Derived.WalkMore
import Derived.IntWalk
import Derived.Lib.Hide
import Derived.BigQuiet
import Derived.Deep.QuietTactic
import Derived.Test.YtolcdhdmonaeaaaProg
import Derived.Test.YtolcdhdmonaeaaaPOpen
import Derived.Test.YtolcdhdmonaeaaaWvWorks
import Derived.Test.YtolcdhdmonaeaaaWvMathR
import Derived.Test.YtolcdhdmonaeaaaWWeaveAll
namespace Go.Proofs.Ytolcdhdmonaeaaa
open Go.RowKit Go.Shelf
set_option linter.unusedVariables false

theorem rise_places (al : List Int) (fr : Nat) (last : Option Int) (st : List Int) (h : Rise al fr last st) : ∀ (k : Nat) s, st[k]? = some s → ∃ (j : Nat) (x : Int), s = (j : Int) ∧ al[j]? = some x := by
  induction st generalizing fr last with
  | nil => intro k s hs; cases k <;> cases hs
  | cons p c ih =>
    obtain ⟨j, x, e, h1, h2, h3, h4⟩ := h
    intro k s hs
    cases k with
    | zero => cases hs; exact ⟨j, x, e, h2⟩
    | succ k => exact ih (j + 1) (some x) h4 k s hs
theorem still_at (xs : PL) : ∀ (k : Nat) s, (stillL xs)[k]? = some s → ∃ (j : Nat) (p : Int × Int), s = (j : Int) ∧ xs[j]? = some p ∧ (atP xs (stillL xs))[k]? = some p := by
  intro k s hs
  obtain ⟨j, x, e, h⟩ := rise_places _ _ _ _ (still_best xs).2.1 k s hs
  rw [List.getElem?_map] at h
  obtain ⟨p, hp, _⟩ := Option.map_eq_some_iff.1 h
  refine ⟨j, p, e, hp, ?_⟩
  unfold atP
  rw [List.getElem?_map, hs]
  simp [e, List.getD_eq_getElem?_getD, hp]
theorem take_more {α : Type} (l : List α) (k : Nat) (p : α) (h : l[k]? = some p) : l.take (k + 1) = l.take k ++ [p] := by
  obtain ⟨hk, e⟩ := List.getElem?_eq_some_iff.1 h
  rw [List.take_succ_eq_append_getElem hk, e]

set_option maxRecDepth 100000 in
set_option maxHeartbeats 4000000 in
theorem walkWeaveRises (ao : Option Addr) (ca : Nat) (xs : PL) (na nb : Int) (w : World)
    (hA : PairsArg w ao ca xs) (ha : (Lit.int .i64 na).wf = true) (hb : (Lit.int .i64 nb).wf = true) :
    Calls Try.prog 5 #[.slice ao xs.length ca, .int .i64 na, .int .i64 nb] w fun e w' => e = .returned (.bool true) ∧ Below w.heap.size w w' := by
  have HA := Lib.hid hA
  have C0 := Lib.hid (wworks_any w)
  have HWa := Lib.hid (wf_lo ha)
  have HWb := Lib.hid (wf_lo hb)
  clear hA ha hb
  go_enter Try.func5, Try.ntmps5
  go_wp2_with fail
  refine C0.out.mono ?_; rintro e W ⟨rfl, b0⟩
  have B := Lib.hid b0
  clear b0 C0
  by_cases h1 : 60 < xs.length
  · go_wp2_with fail
    go_ret
    exact ⟨rfl, B.out⟩
  by_cases h2 : 60 < na
  · go_wp2_with fail
    go_ret
    exact ⟨rfl, B.out⟩
  by_cases h3 : 60 < nb
  · go_wp2_with fail
    go_ret
    exact ⟨rfl, B.out⟩
  have C1 := Lib.hid (fun V (h : Below w.heap.size w V) => order_any ao ca xs na nb V (by omega) HA.out.ok (HA.out.pairs.kept h) ⟨HWa.out.1, by omega⟩ ⟨HWb.out.1, by omega⟩)
  by_cases hM : checkP xs na nb = 0
  · have M := may_of xs na nb hM
    have hcnt := weave_count M
    have hoP : orderP xs na nb = weaveL xs na nb := by unfold orderP; rw [if_pos hM]
    rw [hoP, hM] at C1
    have HRW := Lib.hid (rises_woven M)
    have HSt := Lib.hid (still_at xs)
    have hSl : (atP xs (stillL xs)).length = (stillL xs).length := by unfold atP; rw [List.length_map]
    have C2 := Lib.hid (fun V (h : Below w.heap.size w V) => still_any ao ca xs V (by omega) (HA.out.pairs.kept h))
    have hsl : (stillL xs).length ≤ 60 := by
      have := pick_le (longs (xs.map Prod.fst)) 0 (most (longs (xs.map Prod.fst)))
      rw [longs_len, List.length_map] at this
      unfold stillL; omega
    have M0 := M.a0
    have N0 := M.b0
    clear M hM hoP
    generalize weaveL xs na nb = L at C1 HRW hcnt
    generalize atP xs (stillL xs) = S at HRW HSt hSl
    generalize stillL xs = st at HSt hSl C2 hsl
    have hLl : L.length ≤ 120 := by omega
    clear hcnt
    go_wp2_with fail
    refine (C1.out _ B.out).mono ?_; rintro e W1 ⟨o1, c1, rfl, i1, -, -, b1⟩
    have B := Lib.hid (below_up B.out b1)
    have I1 := Lib.hid i1
    clear b1 i1
    go_wp2_with fail
    refine (C2.out _ B.out).mono ?_; rintro e W2 ⟨so, sc, rfl, i2, -, -, b1⟩
    have B := Lib.hid (below_up B.out b1)
    have I1 := Lib.hid (I1.out.kept b1)
    have I2 := Lib.hid i2
    have IX := Lib.hid (HA.out.pairs.kept B.out)
    clear b1 i2 C1 C2
    have HR0 : Hid (riseW S (L.drop 0) (-1) 0 = some nb) := Lib.hid HRW.out
    clear HRW
    go_wp2_with fail
    go_loopw [11, 12, 13] (fun va vb vi wr => ∃ (i : Nat) (a b : Int), i ≤ L.length ∧ vi = .int .i64 i ∧ va = .int .i64 a ∧ vb = .int .i64 b ∧ 0 ≤ b ∧ b ≤ i ∧ Hid (riseW S (L.drop i) a b = some nb) ∧ Hid (Below W2.heap.size W2 wr)) (fun _ _ i _ => L.length - (intOf i).toNat)
    case atStart => exact ⟨0, -1, 0, Nat.zero_le _, rfl, rfl, rfl, Int.le_refl _, Int.le_refl _, HR0, Lib.hid (Below.refl _ _)⟩
    case round =>
      clear HR0
      obtain ⟨i, a, b, hi, rfl, rfl, rfl, hb0, hbi, HR, HB⟩ := hrel
      by_cases hlt : i < L.length
      · obtain ⟨⟨y1, y2⟩, hy⟩ : ∃ y, L[i]? = some y := ⟨_, List.getElem?_eq_getElem hlt⟩
        have hdr : L.drop i = (y1, y2) :: L.drop (i + 1) := drop_at L i _ hy
        rw [hdr, rise_cons] at HR
        dsimp only at HR
        rcases I1.out with h0 | ⟨bL, oL, rfl, hAL, hcL⟩
        · rw [h0] at hlt; simp at hlt
        have GL : Hid (∀ V, Below W2.heap.size W2 V → V.cell? ⟨bL, oL + i * 2, none⟩ = some (.int .i64 y1) ∧ V.cell? ⟨bL, oL + i * 2 + 1, none⟩ = some (.int .i64 y2)) := Lib.hid (fun V h => ⟨(h.cell (p := ⟨bL, oL + i * 2, none⟩) hAL).trans (hcL i _ hy).1, (h.cell (p := ⟨bL, oL + i * 2 + 1, none⟩) hAL).trans (hcL i _ hy).2⟩)
        obtain ⟨d1, d2⟩ := GL.out wr HB.out
        clear hcL hy hdr
        obtain ⟨wo, rfl⟩ : ∃ wo : World, wo = wr := ⟨_, rfl⟩
        by_cases hB : 0 ≤ y2
        · have hyb : y2 = b := Classical.byContradiction (fun hne => by have := HR.out; rw [if_pos ⟨hB, hne⟩] at this; cases this)
          subst hyb
          have HR1 : Hid ((if (y1, y2) ∈ S ∨ y2 < 0 then (if y1 ≤ a then none else riseW S (L.drop (i + 1)) y1 (y2 + 1)) else riseW S (L.drop (i + 1)) a (y2 + 1)) = some nb) := Lib.hid (by have := HR.out; rw [if_neg (fun h => h.2 rfl), if_pos hB] at this; exact this)
          have hbe : ((y2 != y2) = false) := by simp
          clear HR
          go_wp2_with fail
          go_loopw [14, 15] (fun vt vk wr => ∃ (k : Nat) (t : Bool), k ≤ st.length ∧ vk = .int .i64 k ∧ vt = .bool t ∧ Hid (t = decide ((y1, y2) ∈ S.take k)) ∧ Hid (Below W2.heap.size W2 wr)) (fun _ i _ => st.length - (intOf i).toNat)
          case atStart => exact ⟨0, false, Nat.zero_le _, rfl, rfl, Lib.hid (by simp), HB⟩
          case round =>
            clear d1 d2 HB
            obtain ⟨k, t, hk, rfl, rfl, HT, HB⟩ := hrel
            obtain ⟨d1, d2⟩ := GL.out wr HB.out
            by_cases hkl : k < st.length
            · obtain ⟨s, hs⟩ : ∃ s, st[k]? = some s := ⟨_, List.getElem?_eq_getElem hkl⟩
              obtain ⟨j, ⟨q1, q2⟩, rfl, hq, hSk⟩ := HSt.out k s hs
              have HTk := Lib.hid (take_more S k _ hSk)
              have hjl : j < xs.length := (List.getElem?_eq_some_iff.1 hq).1
              rcases (I2.out.kept HB.out) with h0 | ⟨A, rfl, hAs, hcs⟩
              · rw [h0] at hkl; simp at hkl
              have ck := hcs k _ hs
              rcases (IX.out.kept HB.out) with h0 | ⟨bX, oX, rfl, hAX, hcX⟩
              · rw [h0] at hjl; simp at hjl
              obtain ⟨x1, x2⟩ := hcX j _ hq
              dsimp only at x1 x2
              have g1 : (decide (0 ≤ (j : Int)) = true) := by simp
              have g2 : (decide ((j : Int) < (xs.length : Int)) = true) := by simp; omega
              clear hcs hcX hs hq hSk hAs hAX
              cases t with
              | true =>
                have HT2 : Hid (true = decide ((y1, y2) ∈ S.take (k + 1))) := Lib.hid (by
                  have h := HT.out.symm
                  rw [decide_eq_true_eq] at h
                  exact (decide_eq_true (by rw [HTk.out]; exact List.mem_append.2 (.inl h))).symm)
                go_wp2_with fail
                go_quiet (fail)
                have HB' : Hid (Below W2.heap.size W2 (wr.drewN nq)) := Lib.hid (bdn HB.out)
                go_wp2_with fail
                go_roundw
                case rel => exact ⟨k + 1, true, by omega, by go_num, rfl, HT2, HB'⟩
                case measure => simp [intOf]; omega
              | false =>
                have hn := HT.out.symm
                rw [decide_eq_false_iff_not] at hn
                by_cases e1 : q1 = y1
                · by_cases e2 : q2 = y2
                  · subst e1 e2
                    have HT2 : Hid (true = decide ((q1, q2) ∈ S.take (k + 1))) := Lib.hid (decide_eq_true (by rw [HTk.out]; simp)).symm
                    clear hn
                    go_wp2_with fail
                    go_quiet (fail)
                    have HB' : Hid (Below W2.heap.size W2 (wr.drewN nq)) := Lib.hid (bdn HB.out)
                    go_wp2_with fail
                    go_roundw
                    case rel => exact ⟨k + 1, true, by omega, by go_num, rfl, HT2, HB'⟩
                    case measure => simp [intOf]; omega
                  · have HT2 : Hid (false = decide ((y1, y2) ∈ S.take (k + 1))) := Lib.hid (decide_eq_false (fun h => by
                      rw [HTk.out] at h
                      rcases List.mem_append.1 h with h | h
                      · exact hn h
                      · simp at h; exact e2 h.2.symm)).symm
                    clear hn
                    go_wp2_with fail
                    go_quiet (fail)
                    have HB' : Hid (Below W2.heap.size W2 (wr.drewN nq)) := Lib.hid (bdn HB.out)
                    go_wp2_with fail
                    go_roundw
                    case rel => exact ⟨k + 1, false, by omega, by go_num, rfl, HT2, HB'⟩
                    case measure => simp [intOf]; omega
                · have HT2 : Hid (false = decide ((y1, y2) ∈ S.take (k + 1))) := Lib.hid (decide_eq_false (fun h => by
                    rw [HTk.out] at h
                    rcases List.mem_append.1 h with h | h
                    · exact hn h
                    · simp at h; exact e1 h.1.symm)).symm
                  clear hn
                  go_wp2_with fail
                  go_quiet (fail)
                  have HB' : Hid (Below W2.heap.size W2 (wr.drewN nq)) := Lib.hid (bdn HB.out)
                  go_wp2_with fail
                  go_roundw
                  case rel => exact ⟨k + 1, false, by omega, by go_num, rfl, HT2, HB'⟩
                  case measure => simp [intOf]; omega
            · obtain rfl : k = st.length := by omega
              have hTe : t = decide ((y1, y2) ∈ S) := by have := HT.out; rw [← hSl, List.take_length] at this; exact this
              cases t with
              | true =>
                have hin : (y1, y2) ∈ S := by simpa using hTe.symm
                have hya : ¬ y1 ≤ a := fun h => by have := HR1.out; rw [if_pos (.inl hin), if_pos h] at this; cases this
                have HR2 : Hid (riseW S (L.drop (i + 1)) y1 (y2 + 1) = some nb) := Lib.hid (by have := HR1.out; rw [if_pos (.inl hin), if_neg hya] at this; exact this)
                clear HR1 hTe hin HT
                go_wp2_with fail
                go_roundw
                case rel => exact ⟨i + 1, y1, y2 + 1, by omega, by go_num, rfl, rfl, by omega, by omega, HR2, HB⟩
                case measure => simp [intOf]; omega
              | false =>
                have hin : (y1, y2) ∉ S := by simpa using hTe.symm
                have hlz : ¬ y2 < 0 := by omega
                have HR2 : Hid (riseW S (L.drop (i + 1)) a (y2 + 1) = some nb) := Lib.hid (by have := HR1.out; rw [if_neg (by simp only [not_or]; exact ⟨hin, hlz⟩)] at this; exact this)
                clear HR1 hTe hin HT
                go_wp2_with fail
                go_roundw
                case rel => exact ⟨i + 1, a, y2 + 1, by omega, by go_num, rfl, rfl, by omega, by omega, HR2, HB⟩
                case measure => simp [intOf]; omega
        · have hBl : y2 < 0 := by omega
          have HR1 : Hid ((if y1 ≤ a then none else riseW S (L.drop (i + 1)) y1 b) = some nb) := Lib.hid (by have := HR.out; rw [if_neg (fun h => hB h.1), if_pos (.inr hBl), if_neg hB] at this; exact this)
          have hya : ¬ y1 ≤ a := fun h => by have := HR1.out; rw [if_pos h] at this; cases this
          have HR2 : Hid (riseW S (L.drop (i + 1)) y1 b = some nb) := Lib.hid (by have := HR1.out; rw [if_neg hya] at this; exact this)
          clear HR HR1
          go_wp2_with fail
          go_loopw [14, 15] (fun vt vk wr => ∃ (k : Nat) (t : Bool), k ≤ st.length ∧ vk = .int .i64 k ∧ vt = .bool t ∧ Hid (t = decide ((y1, y2) ∈ S.take k)) ∧ Hid (Below W2.heap.size W2 wr)) (fun _ i _ => st.length - (intOf i).toNat)
          case atStart => exact ⟨0, false, Nat.zero_le _, rfl, rfl, Lib.hid (by simp), HB⟩
          case round =>
            clear d1 d2 HB
            obtain ⟨k, t, hk, rfl, rfl, HT, HB⟩ := hrel
            obtain ⟨d1, d2⟩ := GL.out wr HB.out
            by_cases hkl : k < st.length
            · obtain ⟨s, hs⟩ : ∃ s, st[k]? = some s := ⟨_, List.getElem?_eq_getElem hkl⟩
              obtain ⟨j, ⟨q1, q2⟩, rfl, hq, hSk⟩ := HSt.out k s hs
              have HTk := Lib.hid (take_more S k _ hSk)
              have hjl : j < xs.length := (List.getElem?_eq_some_iff.1 hq).1
              rcases (I2.out.kept HB.out) with h0 | ⟨A, rfl, hAs, hcs⟩
              · rw [h0] at hkl; simp at hkl
              have ck := hcs k _ hs
              rcases (IX.out.kept HB.out) with h0 | ⟨bX, oX, rfl, hAX, hcX⟩
              · rw [h0] at hjl; simp at hjl
              obtain ⟨x1, x2⟩ := hcX j _ hq
              dsimp only at x1 x2
              have g1 : (decide (0 ≤ (j : Int)) = true) := by simp
              have g2 : (decide ((j : Int) < (xs.length : Int)) = true) := by simp; omega
              clear hcs hcX hs hq hSk hAs hAX
              cases t with
              | true =>
                have HT2 : Hid (true = decide ((y1, y2) ∈ S.take (k + 1))) := Lib.hid (by
                  have h := HT.out.symm
                  rw [decide_eq_true_eq] at h
                  exact (decide_eq_true (by rw [HTk.out]; exact List.mem_append.2 (.inl h))).symm)
                go_wp2_with fail
                go_quiet (fail)
                have HB' : Hid (Below W2.heap.size W2 (wr.drewN nq)) := Lib.hid (bdn HB.out)
                go_wp2_with fail
                go_roundw
                case rel => exact ⟨k + 1, true, by omega, by go_num, rfl, HT2, HB'⟩
                case measure => simp [intOf]; omega
              | false =>
                have hn := HT.out.symm
                rw [decide_eq_false_iff_not] at hn
                by_cases e1 : q1 = y1
                · by_cases e2 : q2 = y2
                  · subst e1 e2
                    have HT2 : Hid (true = decide ((q1, q2) ∈ S.take (k + 1))) := Lib.hid (decide_eq_true (by rw [HTk.out]; simp)).symm
                    clear hn
                    go_wp2_with fail
                    go_quiet (fail)
                    have HB' : Hid (Below W2.heap.size W2 (wr.drewN nq)) := Lib.hid (bdn HB.out)
                    go_wp2_with fail
                    go_roundw
                    case rel => exact ⟨k + 1, true, by omega, by go_num, rfl, HT2, HB'⟩
                    case measure => simp [intOf]; omega
                  · have HT2 : Hid (false = decide ((y1, y2) ∈ S.take (k + 1))) := Lib.hid (decide_eq_false (fun h => by
                      rw [HTk.out] at h
                      rcases List.mem_append.1 h with h | h
                      · exact hn h
                      · simp at h; exact e2 h.2.symm)).symm
                    clear hn
                    go_wp2_with fail
                    go_quiet (fail)
                    have HB' : Hid (Below W2.heap.size W2 (wr.drewN nq)) := Lib.hid (bdn HB.out)
                    go_wp2_with fail
                    go_roundw
                    case rel => exact ⟨k + 1, false, by omega, by go_num, rfl, HT2, HB'⟩
                    case measure => simp [intOf]; omega
                · have HT2 : Hid (false = decide ((y1, y2) ∈ S.take (k + 1))) := Lib.hid (decide_eq_false (fun h => by
                    rw [HTk.out] at h
                    rcases List.mem_append.1 h with h | h
                    · exact hn h
                    · simp at h; exact e1 h.1.symm)).symm
                  clear hn
                  go_wp2_with fail
                  go_quiet (fail)
                  have HB' : Hid (Below W2.heap.size W2 (wr.drewN nq)) := Lib.hid (bdn HB.out)
                  go_wp2_with fail
                  go_roundw
                  case rel => exact ⟨k + 1, false, by omega, by go_num, rfl, HT2, HB'⟩
                  case measure => simp [intOf]; omega
            · obtain rfl : k = st.length := by omega
              have hTe : t = decide ((y1, y2) ∈ S) := by have := HT.out; rw [← hSl, List.take_length] at this; exact this
              clear hTe HT
              cases t with
              | true =>
                go_wp2_with fail
                go_roundw
                case rel => exact ⟨i + 1, y1, b, by omega, by go_num, rfl, rfl, by omega, by omega, HR2, HB⟩
                case measure => simp [intOf]; omega
              | false =>
                go_wp2_with fail
                go_roundw
                case rel => exact ⟨i + 1, y1, b, by omega, by go_num, rfl, rfl, by omega, by omega, HR2, HB⟩
                case measure => simp [intOf]; omega
      · obtain rfl : i = L.length := by omega
        have hbn : b = nb := by have := HR.out; rw [List.drop_length] at this; simpa [riseW] using this
        subst hbn
        have B := Lib.hid (below_up B.out HB.out)
        go_wp2_with fail
        go_ret
        exact ⟨by simp, B.out⟩
  · have hoP : orderP xs na nb = [] := by unfold orderP; rw [if_neg hM]
    rw [hoP] at C1
    have hb1 : ((checkP xs na nb != 0) = true) := by simp [hM]
    generalize checkP xs na nb = c at C1 hb1 hM
    clear hoP
    go_wp2_with fail
    refine (C1.out _ B.out).mono ?_; rintro e W1 ⟨o1, c1, rfl, -, -, -, b1⟩
    have B := Lib.hid (below_up B.out b1)
    clear b1
    go_wp2_with fail
    go_ret
    exact ⟨rfl, B.out⟩
end Go.Proofs.Ytolcdhdmonaeaaa
