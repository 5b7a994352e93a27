/-
  The woven list: the document's reference's answer.
  Conditions: lists of at most 2^20 pairs of Go integers, and numbers up to 2^20.
-/
import Derived.IntWalk
import Derived.WalkArith
import Derived.OwnWalk
import Derived.Deep.Cut
import Derived.Deep.Onto
import Derived.Laws.AppendOwnNone
import Derived.Test.YtolcdhdmonaeaaaProg
import Derived.Test.YtolcdhdmonaeaaaWvRef2
import Derived.Test.YtolcdhdmonaeaaaWvOrder
import Derived.Test.YtolcdhdmonaeaaaPRests
namespace Go.Proofs.Ytolcdhdmonaeaaa
open Go.RowKit Go.Shelf
set_option linter.unusedVariables false

theorem ownL_form {w : World} {base : Nat} {v : Value} {n : Nat} {l : PL} (h : w.ownsRow base 37 2 v n (cellsP l)) : l.length = n ∧ ((v = .slice none 0 0 ∧ n = 0 ∧ l = []) ∨ ∃ g cap, v = .slice (some ⟨g, 0, none⟩) n cap ∧ n ≤ cap ∧ base ≤ g ∧ g < w.heap.size) := by
  have hl : l.length = n := by have h1 := h.1; rw [cellsP_length] at h1; omega
  refine ⟨hl, ?_⟩
  rcases h.2 with ⟨rfl, h0⟩ | ⟨g, cap, cur, rfl, h1, h2, h3, h4⟩
  · exact .inl ⟨rfl, h0, List.eq_nil_of_length_eq_zero (by omega)⟩
  · exact .inr ⟨g, cap, rfl, h3, h1, (Array.getElem?_eq_some_iff.1 h2).1⟩
theorem cellsP_oneCell (l : PL) : ∀ u ∈ cellsP l, u.oneCell' = true := by
  induction l with
  | nil => intro u hu; cases hu
  | cons p l ih =>
    intro u hu
    rw [cellsP_cons] at hu
    simp only [List.mem_cons] at hu
    rcases hu with rfl | rfl | hu
    · rfl
    · rfl
    · exact ih u hu
theorem cellsP_take (l : PL) (k : Nat) : cellsP (l.take k) = (cellsP l).take (k * 2) := by
  induction l generalizing k with
  | nil => simp [cellsP]
  | cons p l ih =>
    cases k with
    | zero => simp [cellsP]
    | succ k =>
      rw [List.take_succ_cons, cellsP_cons, cellsP_cons, ih, show (k + 1) * 2 = k * 2 + 1 + 1 by omega]
      rfl

set_option maxRecDepth 100000 in
set_option maxHeartbeats 400000 in
theorem rorder_any (ao : Option Addr) (cap : Nat) (xs : PL) (na nb : Int) (w : World) (hn : xs.length ≤ 1048576) (hR : PairsAt w ao xs) (hna : -9223372036854775808 ≤ na ∧ na ≤ 1048576) (hnb : -9223372036854775808 ≤ nb ∧ nb ≤ 1048576) :
    Calls Try.prog 9 #[.slice ao xs.length cap, .int .i64 na, .int .i64 nb] w (OrderOut (orderP xs na nb) (checkP xs na nb) w) := by
  have hinfo : (Try.prog.info? 37).map (fun i => (i.zero, i.size, i.bytes)) = some (some (.agg #[.int .i64 0, .int .i64 0]), 2, 16) := by kernel_rfl
  obtain ⟨i0, hi, hz0, hz1, hz2⟩ := info_parts2 hinfo
  have HI := Lib.hid hi
  have C1 := Lib.hid (rcheck_any ao cap xs na nb w (by omega) hR)
  have HR := Lib.hid hR
  obtain ⟨Q, HQ⟩ : ∃ Q, Hid (Q = OrderOut (orderP xs na nb) (checkP xs na nb) w) := ⟨_, Lib.hid rfl⟩
  have HE1 : Hid (∀ c W, checkP xs na nb = c → c ≠ 0 → Below w.heap.size w W → Q (.returned (.tuple #[.slice none 0 0, .int .i64 c])) W) := Lib.hid (fun c W hc h0 h => by
    rw [HQ.out, hc]; unfold orderP; rw [if_neg (by rw [hc]; exact h0)]
    exact ⟨none, 0, rfl, .inl rfl, fun _ => rfl, Nat.le_refl _, h⟩)
  have HE2 : Hid (∀ base v n W, checkP xs na nb = 0 → W.ownsRow base 37 2 v n (cellsP (weaveL xs na nb)) → Below w.heap.size w W → Q (.returned (.tuple #[v, .int .i64 0])) W) := Lib.hid (fun base v n W hc ho h => by
    rw [HQ.out, hc]; unfold orderP; rw [if_pos hc]
    obtain ⟨hl, -⟩ := ownL_form ho
    subst hl
    obtain ⟨ao', cap', rfl, h1, h2, h3⟩ := OwnL.pairsAt (show OwnL W base _ _ from ho)
    exact ⟨_, _, rfl, h1, h2, h3, h⟩)
  rw [← HQ.out]
  clear hi hinfo hR HQ
  go_enter Try.func9, Try.ntmps9
  go_wp2_with fail
  refine C1.out.mono ?_; rintro e W1 ⟨rfl, b1⟩
  have HB1 := Lib.hid b1
  clear b1 C1
  by_cases h0 : checkP xs na nb = 0
  · have hM := may_of xs na nb h0
    have HRW := Lib.hid (ref_woven hM)
    obtain ⟨m, rfl⟩ := Int.eq_ofNat_of_zero_le hM.a0
    obtain ⟨n, rfl⟩ := Int.eq_ofNat_of_zero_le hM.b0
    simp only [Int.toNat_natCast] at HRW
    have hgl := outOf_le (xs.map Prod.fst) m
    have HE3 := Lib.hid (fun base v k W => HE2.out base v k W h0)
    have CB := Lib.hid (rbyB_any ao cap xs n W1 hn (by omega) (HR.out.kept HB1.out))
    have CS := Lib.hid (fun W (h : Below w.heap.size w W) => rwstill_any ao cap xs W hn (HR.out.kept h))
    have CA := Lib.hid (fun W (h : Below w.heap.size w W) => (by have := rrestA_any ao cap xs m W (by omega) (HR.out.kept h) (by omega) (by omega); rwa [Int.toNat_natCast] at this : Calls Try.prog 23 #[.slice ao xs.length cap, .int .i64 m] W (IntsOut (outOf (xs.map Prod.fst) m) W)))
    have hSl : (stillA xs).length ≤ 1048576 := by
      have := pick_le (longs (xs.map Prod.fst)) 0 (most (longs (xs.map Prod.fst)))
      rw [longs_len, List.length_map] at this
      unfold stillA atP; rw [List.length_map, List.length_map]; unfold stillL; omega
    rw [h0]
    clear hM HE1 HE2 h0
    generalize weaveL xs m n = WV at HE3 HRW
    generalize outOf (xs.map Prod.fst) m = gn at CA HRW hgl
    generalize stillA xs = S at CS HRW hSl
    generalize byBL xs n = BL at CB HRW
    go_wp2_with fail
    refine CB.out.mono ?_; rintro e W2 ⟨v, rfl, ho, b1⟩
    have HB2 := Lib.hid (below_up HB1.out b1)
    have HO2 := Lib.hid ho
    clear ho b1 CB
    go_wp2_with fail
    refine (CS.out W2 HB2.out).mono ?_; rintro e W3 ⟨so, sc, rfl, h1, -, -, b1⟩
    have HB3 := Lib.hid (below_up HB2.out b1)
    have HO3 := Lib.hid (ownsRow_below HO2.out b1)
    have HS3 := Lib.hid h1
    clear h1 b1 CS HO2
    go_wp2_with fail
    refine (CA.out W3 HB3.out).mono ?_; rintro e W4 ⟨go, gc, rfl, h1, -, -, b1⟩
    have HB4 := Lib.hid (below_up HB3.out b1)
    have HO4 := Lib.hid (ownsRow_below HO3.out b1)
    have HS4 := Lib.hid (HS3.out.kept b1)
    have HG4 := Lib.hid h1
    clear h1 b1 CA HO3 HS3
    have HO5 : Hid (W4.ownsRow W1.heap.size 37 2 v (n + 0) (cellsP ((gn.take 0).foldl (insW S) BL))) := Lib.hid HO4.out
    have HNX := Lib.hid (fold_next S gn BL)
    clear HO4 HB1 HB2 HB3
    go_wp2_with fail
    go_loopw [9, 12] (fun vv i wr => ∃ (k base : Nat) (v : Value), k ≤ gn.length ∧ i = .int .i64 k ∧ vv = v ∧ Hid (Below W4.heap.size W4 wr) ∧ Hid (wr.ownsRow base 37 2 v (n + k) (cellsP ((gn.take k).foldl (insW S) BL)))) (fun _ i _ => gn.length - (intOf i).toNat)
    case atStart => exact ⟨0, _, v, Nat.zero_le _, rfl, rfl, Lib.hid (Below.refl _ _), HO5⟩
    case round =>
      clear HO5
      obtain ⟨k, base, v, hk, rfl, rfl, HB, HO⟩ := hrel
      by_cases hlt : k < gn.length
      · obtain ⟨x, hx⟩ : ∃ x, gn[k]? = some x := ⟨_, List.getElem?_eq_getElem hlt⟩
        have HL1 := Lib.hid (HNX.out k x hx)
        rcases (HG4.out.kept HB.out) with h0 | ⟨A, rfl, hA, hcell⟩
        · rw [h0] at hlt; simp at hlt
        have GC : Hid (∀ V, Below wr.heap.size wr V → V.cell? (A.add k) = some (.int .i64 x)) := Lib.hid (fun V h => (h.cell (p := A.add k) (by rw [add_block]; exact hA)).trans (hcell k _ hx))
        have c0 := GC.out wr (Below.refl _ _)
        clear hcell hx
        obtain ⟨hLl, hf⟩ := ownL_form HO.out
        have HPl := Lib.hid (place_is S ((gn.take k).foldl (insW S) BL) x)
        have hpl := place_le S ((gn.take k).foldl (insW S) BL) x
        rw [hLl] at hpl
        generalize hLg : (gn.take k).foldl (insW S) BL = L at HO HL1 HPl hpl hLl hf
        clear hLg
        rcases hf with ⟨rfl, hN0, rfl⟩ | ⟨g, cp, rfl, hcp, hbg, hgw⟩
        · have CP : Hid (Calls Try.prog 24 #[.slice none 0 0, .slice so S.length sc, .int .i64 x] wr fun e w' => e = .returned (.int .i64 ((0 : Nat) : Int)) ∧ Below wr.heap.size wr w') := Lib.hid (rplace_any none 0 [] so sc S x wr (by decide) (by omega) (.inl rfl) (HS4.out.kept HB.out))
          have HL2 : Hid ((gn.take (k + 1)).foldl (insW S) BL = [(x, -1)]) := Lib.hid (by rw [HL1.out]; rfl)
          have hk1 : n + (k + 1) = 1 := by omega
          clear HL1 HPl hpl hLl HO
          go_wp2_with fail
          refine CP.out.mono ?_; rintro e w2 ⟨rfl, b1⟩
          have HB2 := Lib.hid b1
          have c2 := GC.out w2 b1
          clear b1 CP c0
          have HE0 : Hid ((w2.alloc (.cells #[] 37)).ownsRow w2.heap.size 37 2 (.slice (some ⟨w2.heap.size, 0, none⟩) 0 0) 0 []) := Lib.hid (World.ownsRow_lit w2 #[] 0 (Nat.le_refl _) (by decide) rfl)
          obtain ⟨V, HV⟩ : ∃ V, Hid (V = w2.alloc (.cells #[] 37)) := ⟨_, Lib.hid rfl⟩
          have HB3 : Hid (Below w2.heap.size w2 V) := Lib.hid (by rw [HV.out]; exact alloc_belowW _ _)
          have c3 := GC.out V (below_up HB2.out HB3.out)
          have HEV : Hid (V.ownsRow w2.heap.size 37 2 (.slice (some ⟨w2.heap.size, 0, none⟩) 0 0) 0 []) := Lib.hid (by rw [HV.out]; exact HE0.out)
          have HEa := Lib.hid (HEV.out.alloc (.cells #[Value.int .i64 x, Value.int .i64 (-1)] 37))
          have hb3 : w2.heap.size ≤ (V.alloc (.cells #[Value.int .i64 x, Value.int .i64 (-1)] 37)).heap.size := by have := HB3.out.size; simp; omega
          go_upto_region 11 with fail
          go_upto_region 12 with (at_builtin; refine wpList_append_own_none rfl _ _ 22 rfl w2.heap.size 37 i0 2 Try.underlying22 HI.out _ _ _ rfl HE0.out rfl ?_)
          rw [← HV.out]
          clear HE0 HV c2
          go_wp2_with (at_builtin; refine wpList_append_own _ rfl _ _ 22 rfl w2.heap.size 37 i0 (.agg #[.int .i64 0, .int .i64 0]) 2 16 Try.underlying22 HI.out hz0 hz1 hz2 rfl (by decide) _ _ _ rfl HEa.out ⟨V.heap.size, 0, none⟩ 1 1 [Value.int .i64 x, Value.int .i64 (-1)] rfl rfl (lit_cellP V _ _ _) (fun u hu => by simp at hu; rcases hu with rfl | rfl <;> rfl) (by unfold maxLen; omega) (by omega) hb3 ?_)
          intro v4 w4 ho4 hg4 _
          obtain ⟨ao4, c4, rfl⟩ := own_slice ho4
          have HB4' : Hid (Below w2.heap.size w2 w4) := Lib.hid (own_grownI HB3.out HB3.out.size HEV.out hg4)
          have F1 := Lib.hid (below_up HB.out (below_up HB2.out HB4'.out))
          have HO4 : Hid (w4.ownsRow w2.heap.size 37 2 (.slice ao4 1 c4) 1 (cellsP [(x, -1)])) := Lib.hid ho4
          have F2 : Hid (w4.ownsRow w2.heap.size 37 2 (.slice ao4 1 c4) (n + (k + 1)) (cellsP ((gn.take (k + 1)).foldl (insW S) BL))) := Lib.hid (by rw [HL2.out, hk1]; exact HO4.out)
          clear ho4 hg4 HEa hb3 c3 hk1 hN0
          go_wp2_with (at_builtin; refine wpList_append_own_none rfl _ _ 22 rfl w2.heap.size 37 i0 2 Try.underlying22 HI.out _ _ _ rfl HO4.out rfl ?_)
          go_roundw
          case rel => exact ⟨k + 1, _, _, by omega, by go_num, rfl, F1, F2⟩
          case measure => simp [intOf]; omega
        · have HPA : PairsAt wr (some ⟨g, 0, none⟩) L := by
            obtain ⟨ao', c', e, h1, _⟩ := OwnL.pairsAt (show OwnL wr base (.slice (some ⟨g, 0, none⟩) (n + k) cp) L from by unfold OwnL; rw [hLl]; exact HO.out)
            injection e with e1 e2 e3
            rw [e1]; exact h1
          have CP : Hid (Calls Try.prog 24 #[.slice (some ⟨g, 0, none⟩) (n + k) cp, .slice so S.length sc, .int .i64 x] wr fun e w' => e = .returned (.int .i64 (placeL S L x)) ∧ Below wr.heap.size wr w') := Lib.hid (by
            have := rplace_any (some ⟨g, 0, none⟩) cp L so sc S x wr (by omega) (by omega) HPA (HS4.out.kept HB.out)
            rwa [hLl] at this)
          clear HPA
          generalize placeL S L x = p at CP HPl hpl
          obtain ⟨N, HN⟩ : ∃ N, Hid (N = n + k) := ⟨_, Lib.hid rfl⟩
          have hNl : N ≤ 2097152 := by have := HN.out; omega
          rw [← HN.out] at CP HO hcp hpl hLl
          rw [← HN.out]
          go_wp2_with fail
          refine CP.out.mono ?_; rintro e w2 ⟨rfl, b1⟩
          have HB2 := Lib.hid b1
          have HO2 := Lib.hid (ownsRow_below HO.out b1)
          have c2 := GC.out w2 b1
          clear b1 CP HO c0
          have HE0 : Hid ((w2.alloc (.cells #[] 37)).ownsRow w2.heap.size 37 2 (.slice (some ⟨w2.heap.size, 0, none⟩) 0 0) 0 []) := Lib.hid (World.ownsRow_lit w2 #[] 0 (Nat.le_refl _) (by decide) rfl)
          have HN1 : Hid (∀ (j : Nat) u, (cellsP (L.take p))[j]? = some u → (w2.alloc (.cells #[] 37)).cell? ((⟨g, 0, none⟩ : Addr).add j) = some u) := Lib.hid (fun j u hu => by
            rw [cellsP_take, List.getElem?_take] at hu
            split at hu
            · exact World.ownsRow.cells (HO2.out.alloc (.cells #[] 37)) rfl j u hu
            · cases hu)
          have HLn1 : Hid ((cellsP (L.take p)).length = p * 2) := Lib.hid (by rw [cellsP_length, List.length_take, Nat.min_eq_left (by omega)])
          have H1c : Hid (∀ (l : PL), ∀ u ∈ cellsP l, u.oneCell' = true) := Lib.hid cellsP_oneCell
          have hbs : w2.heap.size ≤ (w2.alloc (.cells #[] 37)).heap.size := by simp
          go_upto_region 11 with fail
          go_wp2_with (at_builtin; refine wpList_append_own _ rfl _ _ 22 rfl w2.heap.size 37 i0 (.agg #[.int .i64 0, .int .i64 0]) 2 16 Try.underlying22 HI.out hz0 hz1 hz2 rfl (by decide) _ _ _ rfl HE0.out ⟨g, 0, none⟩ p cp (cellsP (L.take p)) rfl HLn1.out HN1.out (H1c.out _) (by unfold maxLen; omega) (by omega) hbs ?_)
          intro v3 w3 ho3 hg3 _
          obtain ⟨ao3, c3, rfl⟩ := own_slice ho3
          have HB3 : Hid (Below w2.heap.size w2 w3) := Lib.hid ((alloc_belowW w2 (.cells #[] 37)).grown hg3 (by simp) (fun j h => by have h7 : w2.heap.size = j := (by simpa [Value.ownBlock] using h); omega))
          have HO3 := Lib.hid ho3
          have HU3 := Lib.hid (ownsRow_below HO2.out HB3.out)
          have d3 := GC.out w3 (below_up HB2.out HB3.out)
          have HO3a := Lib.hid (HO3.out.alloc (.cells #[Value.int .i64 x, Value.int .i64 (-1)] 37))
          have hb3 : w2.heap.size ≤ (w3.alloc (.cells #[Value.int .i64 x, Value.int .i64 (-1)] 37)).heap.size := by have := HB3.out.size; simp; omega
          clear ho3 hg3 HE0 HN1 HLn1 hbs c2
          go_upto_region 12 with fail
          go_wp2_with (at_builtin; refine wpList_append_own _ rfl _ _ 22 rfl w2.heap.size 37 i0 (.agg #[.int .i64 0, .int .i64 0]) 2 16 Try.underlying22 HI.out hz0 hz1 hz2 rfl (by decide) _ _ _ rfl HO3a.out ⟨w3.heap.size, 0, none⟩ 1 1 [Value.int .i64 x, Value.int .i64 (-1)] rfl rfl (lit_cellP w3 _ _ _) (fun u hu => by simp at hu; rcases hu with rfl | rfl <;> rfl) (by unfold maxLen; omega) (by omega) hb3 ?_)
          intro v4 w4 ho4 hg4 _
          obtain ⟨ao4, c4, rfl⟩ := own_slice ho4
          have HB4' : Hid (Below w2.heap.size w2 w4) := Lib.hid (own_grownI HB3.out HB3.out.size HO3.out hg4)
          have HO4 := Lib.hid ho4
          have HU4 := Lib.hid (ownsRow_below HO2.out HB4'.out)
          have hb4 : w2.heap.size ≤ w4.heap.size := HB4'.out.size
          have HLn2 : Hid ((cellsP (L.drop p)).length = (N - p) * 2) := Lib.hid (by rw [cellsP_length, List.length_drop, hLl])
          have HFin : Hid (∀ v5 w5 M, M = p + 1 + (N - p) → w5.ownsRow w2.heap.size 37 2 v5 M (cellsP (L.take p) ++ Value.int .i64 x :: Value.int .i64 (-1) :: cellsP (L.drop p)) → w4.grownBy w5 (Value.slice ao4 (p + 1) c4).ownBlock → Hid (Below W4.heap.size W4 w5) ∧ Hid (w5.ownsRow w2.heap.size 37 2 v5 (n + (k + 1)) (cellsP ((gn.take (k + 1)).foldl (insW S) BL)))) := Lib.hid (fun v5 w5 M hM h1 h2 => by
            have hb5 : Below w2.heap.size w2 w5 := HB4'.out.grown h2 hb4 (fun j h => (HO4.out.lt j h).1)
            refine ⟨Lib.hid (below_up HB.out (below_up HB2.out hb5)), Lib.hid ?_⟩
            have hMn : M = n + (k + 1) := by have := HN.out; omega
            rw [HL1.out, HPl.out, cellsP_app, cellsP_cons, ← hMn]
            exact h1)
          clear ho4 hg4 HO3 HO3a HU3 hb3 d3
          have HN2 : Hid (∀ (j : Nat) u, (cellsP (L.drop p))[j]? = some u → w4.cell? ((⟨g, p * 2, none⟩ : Addr).add j) = some u) := Lib.hid (fun j u hu => by
            have h9 : (cellsP L)[p * 2 + j]? = some u := by
              have e : cellsP L = cellsP (L.take p) ++ cellsP (L.drop p) := by rw [← cellsP_app, List.take_append_drop]
              rw [e, List.getElem?_append_right (by rw [cellsP_length, List.length_take, Nat.min_eq_left (by omega)]; omega), cellsP_length, List.length_take, Nat.min_eq_left (by omega)]
              rw [show p * 2 + j - p * 2 = j by omega]; exact hu
            have := World.ownsRow.cells HU4.out rfl (p * 2 + j) u h9
            rw [add_none] at this ⊢
            rw [Nat.zero_add] at this; exact this)
          go_upto_region 13 with fail
          by_cases hcpp : cp = p
          · have hNp : N = p := by omega
            have hdr : L.drop p = [] := List.drop_of_length_le (by omega)
            subst hcpp
            go_wp2_with (at_builtin; (refine wpList_append_own _ rfl _ _ 22 rfl w2.heap.size 37 i0 (.agg #[.int .i64 0, .int .i64 0]) 2 16 Try.underlying22 HI.out hz0 hz1 hz2 rfl (by decide) _ _ _ rfl HO4.out _ 0 0 [] rfl rfl (fun j u hu => by simp at hu) (fun u hu => by cases hu) (by unfold maxLen; omega) (by omega) hb4 ?_))
            intro v5 w5 ho5 hg5 _
            obtain ⟨F1, F2⟩ := HFin.out v5 w5 (cp + 1) (by omega) (by rw [hdr]; exact ho5) hg5
            clear ho5 hg5 HFin
            go_wp2_with fail
            go_roundw
            case rel => exact ⟨k + 1, _, v5, by omega, by go_num, rfl, F1, F2⟩
            case measure => simp [intOf]; omega
          · go_wp2_with (at_builtin; (refine wpList_append_own _ rfl _ _ 22 rfl w2.heap.size 37 i0 (.agg #[.int .i64 0, .int .i64 0]) 2 16 Try.underlying22 HI.out hz0 hz1 hz2 rfl (by decide) _ _ _ rfl HO4.out _ (N - p) (cp - p) (cellsP (L.drop p)) rfl HLn2.out HN2.out (H1c.out _) (by unfold maxLen; omega) (by omega) hb4 ?_))
            intro v5 w5 ho5 hg5 _
            obtain ⟨F1, F2⟩ := HFin.out v5 w5 _ rfl ho5 hg5
            clear ho5 hg5 HFin
            go_wp2_with fail
            go_roundw
            case rel => exact ⟨k + 1, _, v5, by omega, by go_num, rfl, F1, F2⟩
            case measure => simp [intOf]; omega
      · obtain rfl : k = gn.length := by omega
        have hfin := HO.out
        rw [List.take_length, HRW.out] at hfin
        have HE := Lib.hid (HE3.out _ _ _ wr hfin (below_up HB4.out HB.out))
        clear HO hfin
        go_wp2_with fail
        exact HE.out
  · have HE := Lib.hid (HE1.out _ W1 rfl h0 HB1.out)
    have hb : ((checkP xs na nb != 0) = true) := by simp [h0]
    generalize checkP xs na nb = c at h0 HE hb
    clear HE2
    go_wp2_with fail
    exact HE.out
end Go.Proofs.Ytolcdhdmonaeaaa
