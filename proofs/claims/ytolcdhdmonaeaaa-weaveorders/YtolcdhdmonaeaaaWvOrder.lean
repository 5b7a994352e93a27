/-
  The woven list: the program's answer.
  Conditions: lists of at most 2^20 pairs of Go integers, and numbers up to 2^20.
-/
import Derived.IntWalk
import Derived.WalkArith
import Derived.OwnWalk
import Derived.Deep.Cut
import Derived.Deep.Onto
import Derived.BigQuiet
import Derived.Deep.QuietTactic
import Derived.Test.YtolcdhdmonaeaaaProg
import Derived.Test.YtolcdhdmonaeaaaWvTake
import Derived.Test.YtolcdhdmonaeaaaPStill
import Derived.Test.YtolcdhdmonaeaaaPRests
import Derived.Test.YtolcdhdmonaeaaaPCheck
namespace Go.Proofs.Ytolcdhdmonaeaaa
open Go.RowKit Go.Shelf
set_option linter.unusedVariables false

theorem PairsAt.grown {w w' : World} {ao : Option Addr} {l : PL} {g : Nat} (h : PairsAt w ao l) (hlt : w.heap.size ≤ g) (hg : w.grownBy w' (some g)) : PairsAt w' ao l := by
  rcases h with h | ⟨b, o, rfl, h2, h3⟩
  · exact .inl h
  · exact .inr ⟨b, o, rfl, Nat.lt_of_lt_of_le h2 hg.size, fun i c hc => ⟨cell_grown (h3 i c hc).1 hg (fun e => by have h7 : b = g := Option.some.inj e; omega), cell_grown (h3 i c hc).2 hg (fun e => by have h7 : b = g := Option.some.inj e; omega)⟩⟩
theorem step_none (xs : PL) (n : Nat) (k : Int) (i : Nat) (st gn : List Int) (h : ∀ p, xs[i]? = some p → p.2 ≠ k) : weaveM (n + 1) k (marks i (xs.drop i) st) gn = (-1, k) :: weaveM n (k + 1) (marks i (xs.drop i) st) gn := by
  cases hd : xs.drop i with
  | nil => simp [marks, weaveM]
  | cons p r =>
    have hp : p.2 ≠ k := h p (by have := congrArg List.head? hd; simpa using this)
    unfold marks
    split <;> simp [weaveM, hp]
theorem drop_at (xs : PL) (i : Nat) (p : Int × Int) (h : xs[i]? = some p) : xs.drop i = p :: xs.drop (i + 1) := by
  obtain ⟨hk, e⟩ := List.getElem?_eq_some_iff.1 h
  rw [← e, List.getElem_cons_drop hk]
theorem step_pair (xs : PL) (n : Nat) (k : Int) (i : Nat) (st gn : List Int) (p : Int × Int) (h : xs[i]? = some p) (hp : p.2 = k) (hs : st.head? ≠ some (i : Int)) : weaveM (n + 1) k (marks i (xs.drop i) st) gn = p :: weaveM n (k + 1) (marks (i + 1) (xs.drop (i + 1)) st) gn := by
  rw [drop_at xs i p h, marks, if_neg hs]; simp [weaveM, hp]
theorem step_still (xs : PL) (n : Nat) (k : Int) (i : Nat) (st gn : List Int) (p : Int × Int) (h : xs[i]? = some p) (hp : p.2 = k) (hs : st.head? = some (i : Int)) : weaveM (n + 1) k (marks i (xs.drop i) st) gn = goneP (upToA p.1 gn) ++ p :: weaveM n (k + 1) (marks (i + 1) (xs.drop (i + 1)) st.tail) (behindA p.1 gn) := by
  rw [drop_at xs i p h, marks, if_pos hs]; simp [weaveM, hp]
theorem not_lt_le (A : Int) : (fun a => !decide (A < a)) = (fun a : Int => decide (a ≤ A)) := by
  funext a
  by_cases h : A < a
  · simp [h]
  · simp [h]; omega
theorem all_false (gs : List Int) : gs.takeWhile (fun _ => !false) = gs ∧ gs.dropWhile (fun _ => !false) = [] := tw_all (fun _ _ => rfl)

set_option maxRecDepth 100000 in
theorem order1_any (q : Nat) (A B a : Int) (W : World) (h : W.cell? ⟨q, 0, none⟩ = some (.int .i64 A)) : Calls Try.prog 18 #[.int .i64 a, .pointer (some ⟨q, 0, none⟩)] W fun e w' => e = .returned (.bool (decide (A < a))) ∧ Below W.heap.size W w' := by
  go_enter Try.func18, Try.ntmps18
  go_wp2_with fail
  go_ret
  exact ⟨rfl, Below.refl _ _⟩
set_option maxRecDepth 100000 in
theorem order2_any (a : Int) (W : World) : Calls Try.prog 19 #[.int .i64 a] W fun e w' => e = .returned (.bool false) ∧ Below W.heap.size W w' := by
  go_enter Try.func19, Try.ntmps19
  go_wp2_with fail
  go_ret
  exact ⟨rfl, Below.refl _ _⟩
theorem below_of_grown {w W : World} {g : Nat} (hg : w.heap.size ≤ g) (h : w.grownBy W (some g)) : Below w.heap.size w W := ⟨h.os, h.tape, h.output, h.size, fun k hk => h.block k hk (fun e => by have := Option.some.inj e; omega)⟩
/-- what weaving answers -/
def orderP (l : PL) (na nb : Int) : PL := if checkP l na nb = 0 then weaveL l na nb else []
def OrderOut (l : PL) (c : Int) (w : World) (e : Ending) (w' : World) : Prop := ∃ ao cap, e = .returned (.tuple #[.slice ao l.length cap, .int .i64 c]) ∧ PairsAt w' ao l ∧ (ao = none → cap = 0) ∧ l.length ≤ cap ∧ Below w.heap.size w w'

set_option maxRecDepth 100000 in
set_option maxHeartbeats 4000000 in
theorem order_any (ao : Option Addr) (cap : Nat) (xs : PL) (na nb : Int) (w : World) (hn : xs.length ≤ 1048576) (hs : okP xs) (hR : PairsAt w ao xs) (hna : -9223372036854775808 ≤ na ∧ na ≤ 1048576) (hnb : -9223372036854775808 ≤ nb ∧ nb ≤ 1048576) :
    Calls Try.prog 8 #[.slice ao xs.length cap, .int .i64 na, .int .i64 nb] w (OrderOut (orderP xs na nb) (checkP xs na nb) w) := by
  have hinfo : (Try.prog.info? 37).map (fun i => (i.zero, i.size, i.bytes)) = some (some (.agg #[.int .i64 0, .int .i64 0]), 2, 16) := by kernel_rfl
  obtain ⟨i0, hi, hz0, hz1, hz2⟩ := info_parts2 hinfo
  have HI := Lib.hid hi
  have C1 := Lib.hid (pcheck_any ao cap xs na nb w (by omega) hs hR)
  have HR := Lib.hid hR
  obtain ⟨Q, HQ⟩ : ∃ Q, Hid (Q = OrderOut (orderP xs na nb) (checkP xs na nb) w) := ⟨_, Lib.hid rfl⟩
  have HE1 : Hid (∀ c W, checkP xs na nb = c → c ≠ 0 → Below w.heap.size w W → Q (.returned (.tuple #[.slice none 0 0, .int .i64 c])) W) := Lib.hid (fun c W hc h0 h => by
    rw [HQ.out, hc]; unfold orderP; rw [if_neg (by rw [hc]; exact h0)]
    exact ⟨none, 0, rfl, .inl rfl, fun _ => rfl, Nat.le_refl _, h⟩)
  have HE2 : Hid (∀ g q N W, checkP xs na nb = 0 → w.heap.size ≤ g → W.ownsRow g 37 2 (.slice (some ⟨g, 0, none⟩) q N) q (cellsP (weaveL xs na nb)) → Below w.heap.size w W → Q (.returned (.tuple #[.slice (some ⟨g, 0, none⟩) q N, .int .i64 0])) W) := Lib.hid (fun g q N W hc hg ho h => by
    rw [HQ.out, hc]; unfold orderP; rw [if_pos hc]
    have hq : q = (weaveL xs na nb).length := by
      have h1 := ho.1
      have h2 := cellsP_length (weaveL xs na nb)
      omega
    subst hq
    obtain ⟨ao', cap', e, h1, h2, h3⟩ := OwnL.pairsAt (show OwnL W g _ _ from ho)
    injection e with e1 e2 e3
    subst e1 e3
    exact ⟨_, _, rfl, h1, h2, h3, h⟩)
  have HC : Hid (∀ W, checkP xs na nb = 0 → Below w.heap.size w W → Calls Try.prog 16 #[.slice ao xs.length cap] W (IntsOut (stillL xs) W)) := Lib.hid (fun W _ h => still_any ao cap xs W (by omega) (hR.kept h))
  have HA : Hid (∀ W, Below w.heap.size w W → Calls Try.prog 15 #[.slice ao xs.length cap, .int .i64 na] W (IntsOut (outOf (xs.map Prod.fst) na.toNat) W)) := Lib.hid (fun W h => restA_any ao cap xs na W (by omega) hs (hR.kept h) (by omega) (by omega))
  rw [← HQ.out]
  clear hi hinfo hR hs HQ
  go_enter Try.func8, Try.ntmps8
  go_wp2_with fail
  refine C1.out.mono ?_; rintro e W1 ⟨rfl, b1⟩
  have HB1 := Lib.hid b1
  clear b1 C1
  by_cases h0 : checkP xs na nb = 0
  · have hM := may_of xs na nb h0
    obtain ⟨m, rfl⟩ := Int.eq_ofNat_of_zero_le hM.a0
    obtain ⟨n, rfl⟩ := Int.eq_ofNat_of_zero_le hM.b0
    have HW : Hid (weaveL xs m n = weaveM n 0 (marks 0 (xs.drop 0) (stillL xs)) (outOf (xs.map Prod.fst) (m : Int).toNat)) := Lib.hid rfl
    have hgl := outOf_le (xs.map Prod.fst) (m : Int).toNat
    have HE3 := Lib.hid (fun g q N W => HE2.out g q N W h0)
    have HC1 := Lib.hid (fun W => HC.out W h0)
    rw [h0]
    clear hM HE1 HE2 HC h0
    generalize weaveL xs m n = WV at HE3 HW
    generalize outOf (xs.map Prod.fst) (m : Int).toNat = gn at HA HW hgl
    generalize stillL xs = st at HC1 HW
    simp only [Int.toNat_natCast] at hgl
    have hw1 : IntKind.i64.wrap ((m : Int) - (xs.length : Int)) = (m : Int) - (xs.length : Int) := IntWalk.i64_in _ (by omega)
    have hw2 : IntKind.i64.wrap (2147483647 - (n : Int)) = 2147483647 - (n : Int) := IntWalk.i64_in _ (by omega)
    have hcmp : ¬ (2147483647 - (n : Int) < (m : Int) - (xs.length : Int)) := by omega
    go_wp2_with fail
    refine (HC1.out W1 HB1.out).mono ?_; rintro e W2 ⟨so, sc, rfl, h1, -, h3, h4⟩
    have HB2 := Lib.hid (below_up HB1.out h4)
    have HSt := Lib.hid h1
    clear h1 h4 HC1 hw1 hw2 hcmp
    go_wp2_with fail
    refine (HA.out W2 HB2.out).mono ?_; rintro e W3 ⟨go, gc, rfl, h1, -, h5, h4⟩
    have HB3 := Lib.hid (below_up HB2.out h4)
    have HSt3 := Lib.hid ((HSt.out.kept h4).in_ (g := W3.heap.size) (Nat.le_refl _))
    have HGn := Lib.hid (h1.in_ (g := W3.heap.size) (Nat.le_refl _))
    clear h1 h4 HA HSt
    obtain ⟨N, hN⟩ : ∃ N : Nat, N = n + gn.length := ⟨_, rfl⟩
    have hwN : IntKind.i64.wrap ((n : Int) + (gn.length : Int)) = (n : Int) + (gn.length : Int) := IntWalk.i64_in _ (by omega)
    have hNx : N ≤ maxLen := by unfold maxLen; omega
    have hNb : N ≤ 4294967296 := by omega
    go_wp2_with (at_make; refine wpList_make_own _ rfl _ _ 22 rfl W3.heap.size 37 i0 (.agg #[.int .i64 0, .int .i64 0]) 2 Try.underlying22 HI.out hz0 hz1 .i64 .i64 ((n : Int) + (gn.length : Int)) N rfl rfl (by omega) (by rw [hz2]; omega) hNx (Nat.le_refl _) ?_; intro w4 ho hg)
    obtain ⟨g, hg0⟩ : ∃ g, g = W3.heap.size := ⟨_, rfl⟩
    rw [← hg0] at ho HSt3 HGn
    have HG4 : Hid (W3.grownBy w4 (some g)) := Lib.hid ⟨hg.os, hg.tape, hg.output, hg.size, fun k hk _ => hg.block k hk (by simp)⟩
    have HLg : Hid (w.heap.size ≤ g) := Lib.hid (by rw [hg0]; exact HB3.out.size)
    have HGw : Hid (w.grownBy w4 (some g)) := Lib.hid (grown_trans (grown_below HB3.out) HG4.out)
    have HSt4 := Lib.hid (HSt3.out.grown HG4.out)
    have HGn4 := Lib.hid (HGn.out.grown HG4.out)
    have HO4 : Hid (w4.ownsRow g 37 2 (.slice (some ⟨g, 0, none⟩) 0 N) 0 (cellsP [])) := Lib.hid ho
    clear ho hg HSt3 HGn HG4 hwN HB1 HB2 HB3
    have HWV : Hid ([] ++ weaveM (n - 0) ((0 : Nat) : Int) (marks 0 (xs.drop 0) st) gn = WV) := Lib.hid (by rw [HW.out]; rfl)
    obtain ⟨g', hgg⟩ : ∃ g', g' = g := ⟨_, rfl⟩
    rw [← hg0]
    clear HW hg0
    go_wp2_with fail
    go_loopw [9, 10, 11, 12, 40] (fun vs vg vw va vb wr => ∃ (k i q sc gc : Nat) (so go : Option Addr) (st gn : List Int) (acc : PL), k ≤ n ∧ i ≤ xs.length ∧ vb = .int .i64 k ∧ va = .int .i64 i ∧ vw = .slice (some ⟨g, 0, none⟩) q N ∧ vs = .slice so st.length sc ∧ vg = .slice go gn.length gc ∧ st.length ≤ sc ∧ gn.length ≤ gc ∧ q + (n - k) + gn.length ≤ N ∧ Hid (w.grownBy wr (some g)) ∧ Hid (wr.ownsRow g 37 2 (.slice (some ⟨g, 0, none⟩) q N) q (cellsP acc)) ∧ Hid (IntsIn wr g so st) ∧ Hid (IntsIn wr g go gn) ∧ Hid (acc ++ weaveM (n - k) (k : Int) (marks i (xs.drop i) st) gn = WV)) (fun _ _ _ _ i _ => n - (intOf i).toNat)
    case atStart => exact ⟨0, 0, 0, sc, gc, so, go, st, gn, [], Nat.zero_le _, Nat.zero_le _, rfl, rfl, by rw [hN], rfl, rfl, h3, h5, by omega, HGw, HO4, HSt4, HGn4, HWV⟩
    case round =>
      clear HGw HO4 HSt4 HGn4 HWV h3 h5 hN hgl
      obtain ⟨k, i, q, sc, gc, so, go, st, gn, acc, hk, hi, rfl, rfl, rfl, rfl, rfl, hsc, hgc, hfit, HG, HO, HS, HN, HW⟩ := hrel
      by_cases hlt : k < n
      · have hRw := HR.out.grown HLg.out HG.out
        obtain ⟨r, hr⟩ : ∃ r, n - k = r + 1 := ⟨n - k - 1, by omega⟩
        have hr2 : n - (k + 1) = r := by omega
        rw [hr] at HW
        by_cases hno : ∀ p, xs[i]? = some p → p.2 ≠ (k : Int)
        · have HW2 : Hid ((acc ++ [(-1, (k : Int))]) ++ weaveM (n - (k + 1)) ((k + 1 : Nat) : Int) (marks i (xs.drop i) st) gn = WV) := Lib.hid (by rw [hr2, ← HW.out, step_none xs r k i st gn hno]; simp)
          have HO1 := Lib.hid (HO.out.alloc (.cells #[Value.int .i64 (-1), Value.int .i64 (k : Int)] 37))
          have HG1 := Lib.hid (grown_trans HG.out (grown_below (row := some g) (alloc_belowW wr (.cells #[Value.int .i64 (-1), Value.int .i64 (k : Int)] 37))))
          have fin : Hid (∀ w3, w3.ownsRow g 37 2 (.slice (some ⟨g, 0, none⟩) (q + 1) N) (q + 1) (cellsP acc ++ [Value.int .i64 (-1), Value.int .i64 (k : Int)]) → (wr.alloc (.cells #[Value.int .i64 (-1), Value.int .i64 (k : Int)] 37)).grownBy w3 (some g) → Hid (w.grownBy w3 (some g)) ∧ Hid (w3.ownsRow g 37 2 (.slice (some ⟨g, 0, none⟩) (q + 1) N) (q + 1) (cellsP (acc ++ [(-1, (k : Int))]))) ∧ Hid (IntsIn w3 g so st) ∧ Hid (IntsIn w3 g go gn)) := Lib.hid (fun w3 h1 h2 => ⟨Lib.hid (grown_trans HG1.out h2), Lib.hid (by rw [cellsP_app]; exact h1), Lib.hid (HS.out.grown (grown_trans (grown_below (alloc_belowW wr _)) h2)), Lib.hid (HN.out.grown (grown_trans (grown_below (alloc_belowW wr _)) h2))⟩)
          by_cases hil : i = xs.length
          · have hb : (((i : Int) == (xs.length : Int)) = true) := by simp [hil]
            clear hno hRw
            go_wp2_with (at_builtin; refine wpList_append_fits _ rfl _ _ 22 rfl g 37 i0 2 Try.underlying22 HI.out hz1 g q N _ rfl HO1.out ⟨wr.heap.size, 0, none⟩ 1 1 [Value.int .i64 (-1), Value.int .i64 (k : Int)] rfl rfl (lit_cellP wr _ _ _) (fun u hu => by simp at hu; rcases hu with rfl | rfl <;> rfl) (by omega) ?_)
            intro w3 hown' hgrow
            obtain ⟨F1, F2, F3, F4⟩ := fin.out w3 hown' hgrow
            clear hown' hgrow fin
            go_wp2_with fail
            go_roundw
            case rel => exact ⟨k + 1, i, q + 1, sc, gc, so, go, st, gn, acc ++ [(-1, (k : Int))], by omega, hi, by go_num, (by rw [hil]), rfl, rfl, rfl, hsc, hgc, by omega, F1, F2, F3, F4, HW2⟩
            case measure => simp [intOf]; omega
          · obtain ⟨⟨x1, x2⟩, hx⟩ : ∃ x, xs[i]? = some x := ⟨_, List.getElem?_eq_getElem (by omega)⟩
            have hne := hno _ hx
            rcases hRw with h0 | ⟨b, o, rfl, hA, hcell⟩
            · rw [h0] at hx; simp at hx
            obtain ⟨hc1, hc2⟩ := hcell i _ hx
            dsimp only at hc1 hc2 hne
            have hb : (((i : Int) == (xs.length : Int)) = false) := by simp; omega
            have hb2 : ((x2 != (k : Int)) = true) := by simp [hne]
            clear hno hcell hx
            go_wp2_with (at_builtin; refine wpList_append_fits _ rfl _ _ 22 rfl g 37 i0 2 Try.underlying22 HI.out hz1 g q N _ rfl HO1.out ⟨wr.heap.size, 0, none⟩ 1 1 [Value.int .i64 (-1), Value.int .i64 (k : Int)] rfl rfl (lit_cellP wr _ _ _) (fun u hu => by simp at hu; rcases hu with rfl | rfl <;> rfl) (by omega) ?_)
            intro w3 hown' hgrow
            obtain ⟨F1, F2, F3, F4⟩ := fin.out w3 hown' hgrow
            clear hown' hgrow fin hc1 hc2
            go_wp2_with fail
            go_roundw
            case rel => exact ⟨k + 1, i, q + 1, sc, gc, so, go, st, gn, acc ++ [(-1, (k : Int))], by omega, hi, by go_num, rfl, rfl, rfl, rfl, hsc, hgc, by omega, F1, F2, F3, F4, HW2⟩
            case measure => simp [intOf]; omega
        · obtain ⟨⟨x1, x2⟩, hx, hx2⟩ : ∃ x, xs[i]? = some x ∧ x.2 = (k : Int) := Classical.byContradiction (fun hc => hno (fun p hp h2 => hc ⟨p, hp, h2⟩))
          dsimp only at hx2
          subst hx2
          have hil := (List.getElem?_eq_some_iff.1 hx).1
          rcases hRw with h0 | ⟨b, o, rfl, hA, hcell⟩
          · rw [h0] at hx; simp at hx
          obtain ⟨hc1, hc2⟩ := hcell i _ hx
          dsimp only at hc1 hc2
          have hb : (((i : Int) == (xs.length : Int)) = false) := by simp; omega
          have HX := Lib.hid hx
          obtain ⟨B, hBx⟩ : ∃ B, B = wr.heap.size := ⟨_, rfl⟩
          obtain ⟨V, HV⟩ : ∃ V, Hid (V = wr.alloc (.cells #[.int .i64 x1, .int .i64 (k : Int)] 37)) := ⟨_, Lib.hid rfl⟩
          have hVh : V.heap[B]? = some (.cells #[.int .i64 x1, .int .i64 (k : Int)] 37 (0, 0)) := by rw [HV.out, hBx]; exact World.alloc_heap_new _ _
          have v0 : V.cell? ⟨B, 0, none⟩ = some (.int .i64 x1) := (Lib.cell_of_heap hVh 0).trans rfl
          have v1 : V.cell? ⟨B, 1, none⟩ = some (.int .i64 (k : Int)) := (Lib.cell_of_heap hVh 1).trans rfl
          have hbV : Below wr.heap.size wr V := by rw [HV.out]; exact alloc_belowW _ _
          have HVG := Lib.hid (grown_trans HG.out (grown_below (row := some g) hbV))
          have HVO := Lib.hid (ownsRow_below HO.out hbV)
          have HVS := Lib.hid (HS.out.grown (grown_below hbV))
          have HVN := Lib.hid (HN.out.grown (grown_below hbV))
          have HBg : Hid (B ≠ g) := Lib.hid (by have := (HO.out.lt g rfl).2; omega)
          have fin : Hid (∀ (W w3 : World) q gn' st' so' go' acc', w.grownBy W (some g) → IntsIn W g so' st' → IntsIn W g go' gn' → w3.ownsRow g 37 2 (.slice (some ⟨g, 0, none⟩) (q + 1) N) (q + 1) (cellsP acc' ++ [Value.int .i64 x1, Value.int .i64 (k : Int)]) → (W.alloc (.cells #[Value.int .i64 x1, Value.int .i64 (k : Int)] 37)).grownBy w3 (some g) → Hid (w.grownBy w3 (some g)) ∧ Hid (w3.ownsRow g 37 2 (.slice (some ⟨g, 0, none⟩) (q + 1) N) (q + 1) (cellsP (acc' ++ [(x1, (k : Int))]))) ∧ Hid (IntsIn w3 g so' st') ∧ Hid (IntsIn w3 g go' gn')) := Lib.hid (fun W w3 q gn' st' so' go' acc' h0 h1 h2 h3 h4 => by
            have h5 := grown_trans (grown_below (row := some g) (alloc_belowW W (.cells #[Value.int .i64 x1, Value.int .i64 (k : Int)] 37))) h4
            exact ⟨Lib.hid (grown_trans h0 h5), Lib.hid (by rw [cellsP_app]; exact h3), Lib.hid (h1.grown h5), Lib.hid (h2.grown h5)⟩)
          clear hno hcell hx hbV HG HO HS HN
          go_upto_region 15 with fail
          rw [← HV.out]
          rw [← hBx]
          clear HV hBx hc1 hc2
          by_cases hst : st.head? = some (i : Int)
          · cases st with
            | nil => cases hst
            | cons s st =>
              have hsi : s = (i : Int) := by simpa using hst
              subst hsi
              have HW2 : Hid (((acc ++ goneP (upToA x1 gn)) ++ [(x1, (k : Int))]) ++ weaveM (n - (k + 1)) ((k + 1 : Nat) : Int) (marks (i + 1) (xs.drop (i + 1)) st) (behindA x1 gn) = WV) := Lib.hid (by rw [hr2, ← HW.out, step_still xs r k i _ gn _ HX.out rfl hst]; simp)
              have hub : (upToA x1 gn).length + (behindA x1 gn).length = gn.length := by rw [← List.length_append, upTo_behind]
              have C : Hid (Calls Try.prog 17 #[.slice (some ⟨g, 0, none⟩) q N, .slice go gn.length gc, .func (.func 18) #[] #[.pointer (some ⟨B, 0, none⟩)]] V (TakeOut g g q N acc (upToA x1 gn) (behindA x1 gn) V)) := Lib.hid (by
                unfold upToA behindA; rw [← not_lt_le x1]
                exact take1_any 18 (.pointer (some ⟨B, 0, none⟩)) (fun a => decide (x1 < a)) (enters_of Try.func18 (by kernel_rfl) rfl) g g q N gc acc go gn V (by omega) hNb hgc HVO.out HVN.out (fun a V' h => order1_any B x1 k a V' (cell_grown v0 h (fun e => HBg.out (Option.some.inj e)))))
              have HC1 : Hid (∀ W, V.grownBy W (some g) → W.cell? ⟨B, 0, none⟩ = some (.int .i64 x1) ∧ W.cell? ⟨B, 1, none⟩ = some (.int .i64 (k : Int))) := Lib.hid (fun W h => ⟨cell_grown v0 h (fun e => HBg.out (Option.some.inj e)), cell_grown v1 h (fun e => HBg.out (Option.some.inj e))⟩)
              rcases HVS.out with h0 | ⟨b', o', rfl, hA', -, hcell'⟩
              · cases h0
              have hc3 := hcell' 0 (i : Int) rfl
              rw [Nat.add_zero] at hc3
              have HTl : Hid (IntsIn V g (some ⟨b', o' + 1, none⟩) st) := Lib.hid (HVS.out.drop 1)
              have hsc1 : st.length + 1 ≤ sc := hsc
              clear hcell' hst v0 v1 HVS HVO HVN HW HX
              by_cases hs1 : sc = 1
              · have hst0 : st = [] := List.eq_nil_of_length_eq_zero (by omega)
                subst hst0 hs1
                go_wp2_with fail
                refine C.out.mono ?_; rintro e w5 ⟨ro, rc, rfl, h1, h2, h3, h4⟩
                obtain ⟨v0, v1⟩ := HC1.out w5 h4
                have HG5 := Lib.hid (grown_trans HVG.out h4)
                have HO1 := Lib.hid (h1.alloc (.cells #[Value.int .i64 x1, Value.int .i64 (k : Int)] 37))
                have HN5 := Lib.hid h2
                clear h1 h2 h4 C hc3
                go_wp2_with (at_builtin; refine wpList_append_fits _ rfl _ _ 22 rfl g 37 i0 2 Try.underlying22 HI.out hz1 g (q + (upToA x1 gn).length) N _ rfl HO1.out ⟨w5.heap.size, 0, none⟩ 1 1 [Value.int .i64 x1, Value.int .i64 (k : Int)] rfl rfl (lit_cellP w5 _ _ _) (fun u hu => by simp at hu; rcases hu with rfl | rfl <;> rfl) (by omega) ?_)
                intro w3 hown' hgrow
                obtain ⟨F1, F2, F3, F4⟩ := fin.out w5 w3 (q + (upToA x1 gn).length) _ [] none ro _ HG5.out (.inl rfl) HN5.out hown' hgrow
                clear hown' hgrow fin
                go_wp2_with fail
                go_roundw
                case rel => exact ⟨k + 1, i + 1, q + (upToA x1 gn).length + 1, _, rc, _, ro, [], behindA x1 gn, (acc ++ goneP (upToA x1 gn)) ++ [(x1, (k : Int))], by omega, hil, by go_num, by go_num, rfl, rfl, rfl, Nat.zero_le _, h3, by omega, F1, F2, Lib.hid (.inl rfl), F4, HW2⟩
                case measure => simp [intOf]; omega
              · go_wp2_with fail
                refine C.out.mono ?_; rintro e w5 ⟨ro, rc, rfl, h1, h2, h3, h4⟩
                obtain ⟨v0, v1⟩ := HC1.out w5 h4
                have HG5 := Lib.hid (grown_trans HVG.out h4)
                have HO1 := Lib.hid (h1.alloc (.cells #[Value.int .i64 x1, Value.int .i64 (k : Int)] 37))
                have HN5 := Lib.hid h2
                have HT5 := Lib.hid (HTl.out.grown h4)
                clear h1 h2 h4 C hc3 HTl
                go_wp2_with (at_builtin; refine wpList_append_fits _ rfl _ _ 22 rfl g 37 i0 2 Try.underlying22 HI.out hz1 g (q + (upToA x1 gn).length) N _ rfl HO1.out ⟨w5.heap.size, 0, none⟩ 1 1 [Value.int .i64 x1, Value.int .i64 (k : Int)] rfl rfl (lit_cellP w5 _ _ _) (fun u hu => by simp at hu; rcases hu with rfl | rfl <;> rfl) (by omega) ?_)
                intro w3 hown' hgrow
                obtain ⟨F1, F2, F3, F4⟩ := fin.out w5 w3 (q + (upToA x1 gn).length) _ st _ ro _ HG5.out HT5.out HN5.out hown' hgrow
                clear hown' hgrow fin
                go_wp2_with fail
                go_roundw
                case rel => exact ⟨k + 1, i + 1, q + (upToA x1 gn).length + 1, _, rc, _, ro, st, behindA x1 gn, (acc ++ goneP (upToA x1 gn)) ++ [(x1, (k : Int))], by omega, hil, by go_num, by go_num, rfl, rfl, rfl, by omega, h3, by omega, F1, F2, F3, F4, HW2⟩
                case measure => simp [intOf]; omega
          · have HW2 : Hid ((acc ++ [(x1, (k : Int))]) ++ weaveM (n - (k + 1)) ((k + 1 : Nat) : Int) (marks (i + 1) (xs.drop (i + 1)) st) gn = WV) := Lib.hid (by rw [hr2, ← HW.out, step_pair xs r k i st gn _ HX.out rfl hst]; simp)
            have HO1 := Lib.hid (HVO.out.alloc (.cells #[Value.int .i64 x1, Value.int .i64 (k : Int)] 37))
            cases st with
            | nil =>
              go_wp2_with (at_builtin; refine wpList_append_fits _ rfl _ _ 22 rfl g 37 i0 2 Try.underlying22 HI.out hz1 g q N _ rfl HO1.out ⟨V.heap.size, 0, none⟩ 1 1 [Value.int .i64 x1, Value.int .i64 (k : Int)] rfl rfl (lit_cellP V _ _ _) (fun u hu => by simp at hu; rcases hu with rfl | rfl <;> rfl) (by omega) ?_)
              intro w3 hown' hgrow
              obtain ⟨F1, F2, F3, F4⟩ := fin.out V w3 q gn _ so go acc HVG.out HVS.out HVN.out hown' hgrow
              clear hown' hgrow fin
              go_wp2_with fail
              go_roundw
              case rel => exact ⟨k + 1, i + 1, q + 1, sc, gc, so, go, [], gn, acc ++ [(x1, (k : Int))], by omega, hil, by go_num, by go_num, rfl, rfl, rfl, hsc, hgc, by omega, F1, F2, F3, F4, HW2⟩
              case measure => simp [intOf]; omega
            | cons s st =>
              rcases HVS.out with h0 | ⟨b', o', rfl, hA', -, hcell'⟩
              · cases h0
              have hc3 := hcell' 0 s rfl
              rw [Nat.add_zero] at hc3
              have hb3 : ((s == (i : Int)) = false) := by simpa using hst
              clear hcell' hst
              go_wp2_with (at_builtin; refine wpList_append_fits _ rfl _ _ 22 rfl g 37 i0 2 Try.underlying22 HI.out hz1 g q N _ rfl HO1.out ⟨V.heap.size, 0, none⟩ 1 1 [Value.int .i64 x1, Value.int .i64 (k : Int)] rfl rfl (lit_cellP V _ _ _) (fun u hu => by simp at hu; rcases hu with rfl | rfl <;> rfl) (by omega) ?_)
              intro w3 hown' hgrow
              obtain ⟨F1, F2, F3, F4⟩ := fin.out V w3 q gn _ _ go acc HVG.out HVS.out HVN.out hown' hgrow
              clear hown' hgrow fin hc3
              go_wp2_with fail
              go_roundw
              case rel => exact ⟨k + 1, i + 1, q + 1, sc, gc, _, go, s :: st, gn, acc ++ [(x1, (k : Int))], by omega, hil, by go_num, by go_num, rfl, rfl, rfl, hsc, hgc, by omega, F1, F2, F3, F4, HW2⟩
              case measure => simp [intOf]; omega
      · obtain rfl : k = n := by omega
        have hq : q + gn.length ≤ N := by omega
        have C := Lib.hid (take0_any 19 (fun _ => false) (enters_of Try.func19 (by kernel_rfl) rfl) g g q N gc acc go gn wr hq hNb hgc HO.out HN.out (fun a V _ => order2_any a V))
        rw [(all_false gn).1, (all_false gn).2] at C
        have HWE : Hid (acc ++ goneP gn = WV) := Lib.hid (by have := HW.out; rw [Nat.sub_self] at this; exact this)
        clear HO HN HS HW
        go_wp2_with fail
        refine C.out.mono ?_; rintro e w5 ⟨ro, rc, rfl, h1, -, -, h4⟩
        have HE := Lib.hid (HE3.out g (q + gn.length) N w5 HLg.out (by rw [← HWE.out]; exact h1) (below_of_grown HLg.out (grown_trans HG.out h4)))
        clear h1 h4 C
        go_wp2_with fail
        exact HE.out
  · have HE := Lib.hid (HE1.out _ W1 rfl h0 HB1.out)
    have hb : ((checkP xs na nb != 0) = true) := by simp [h0]
    generalize checkP xs na nb = c at h0 HE hb
    clear HE2 HC HA
    go_wp2_with fail
    exact HE.out
end Go.Proofs.Ytolcdhdmonaeaaa
