/-
  Which pairs are still: the document's reference's answer.
  Conditions: lists of at most 2^38 pairs.
-/
import Derived.WalkKit
import Derived.WalkMore
import Derived.IntWalk
import Derived.WalkArith
import Derived.OwnWalk
import Derived.Lib.Hide
import Derived.Deep.Cut
import Derived.Deep.Onto
import Derived.BigQuiet
import Derived.Deep.QuietTactic
import Derived.Test.YtolcdhdmonaeaaaProg
import Derived.Test.YtolcdhdmonaeaaaPLongR
import Derived.Test.YtolcdhdmonaeaaaPStill
namespace Go.Proofs.Ytolcdhdmonaeaaa
open Go.RowKit Go.Shelf
set_option linter.unusedVariables false

theorem longs_drop (l : List Int) (k : Nat) : longs (l.drop k) = (longs l).drop k := by
  induction l generalizing k with
  | nil => simp [longs]
  | cons a r ih =>
    cases k with
    | zero => rfl
    | succ k => simpa [longs] using ih k
theorem most_snoc (l : List Nat) (n : Nat) : most (l ++ [n]) = max (most l) n := by
  induction l with
  | nil => simp [most]
  | cons a r ih => simp only [List.cons_append, most, ih]; omega
theorem most_next (l : List Nat) (k n : Nat) (h : l[k]? = some n) : most (l.take (k + 1)) = max (most (l.take k)) n := by
  obtain ⟨hk, e⟩ := List.getElem?_eq_some_iff.1 h
  rw [List.take_succ_eq_append_getElem hk, e, most_snoc]
theorem longs_at (al : List Int) (k n : Nat) (x : Int) (hx : al[k]? = some x) (hn : (longs al)[k]? = some n) : n = best x (al.drop (k + 1)) (longs (al.drop (k + 1))) + 1 := by
  obtain ⟨hk, e⟩ := List.getElem?_eq_some_iff.1 hx
  have h1 : longs (al.drop k) = (longs al).drop k := longs_drop al k
  rw [List.drop_eq_getElem_cons hk, e] at h1
  have h2 : ((longs al).drop k)[0]? = some n := by rw [List.getElem?_drop]; exact hn
  rw [← h1] at h2
  simp [longs] at h2
  exact h2.symm
/-- what comes is still to be found -/
def Comes (al : List Int) (k want : Nat) (last : Option Int) : Prop := want = 0 ∨ ∃ (j : Nat) (x : Int), k ≤ j ∧ (longs al)[j]? = some want ∧ al[j]? = some x ∧ ∀ a, last = some a → a < x
theorem Comes.start (al : List Int) : Comes al 0 (most (longs al)) none := by
  rcases Nat.eq_zero_or_pos (most (longs al)) with h | h
  · exact .inl h
  · obtain ⟨j, hj⟩ := most_at _ (show most (longs al) ≠ 0 by omega)
    have hl : j < al.length := by rw [← longs_len]; exact (List.getElem?_eq_some_iff.1 hj).1
    exact .inr ⟨j, _, Nat.zero_le _, hj, List.getElem?_eq_getElem hl, fun a ha => by cases ha⟩
theorem Comes.miss {al : List Int} {k want n : Nat} {last : Option Int} (h : Comes al k want last) (hn : (longs al)[k]? = some n) (hne : n ≠ want) : Comes al (k + 1) want last := by
  rcases h with h | ⟨j, x, h1, h2, h3⟩
  · exact .inl h
  · refine .inr ⟨j, x, ?_, h2, h3⟩
    rcases Nat.lt_or_ge k j with h | h
    · exact h
    · exfalso; rw [show j = k from by omega, hn] at h2; cases h2; exact hne rfl
theorem Comes.rises {al : List Int} {k want : Nat} {x a : Int} (h : Comes al k want (some a)) (hx : al[k]? = some x) (hn : (longs al)[k]? = some want) : a < x := by
  rcases h with h | ⟨j, y, h1, h2, h3, h4⟩
  · subst h; have := longs_pos al k 0 hn; omega
  · have hay := h4 a rfl
    rcases Int.lt_or_le a x with h | h
    · exact h
    · exfalso
      rcases Nat.lt_or_ge k j with hkj | hkj
      · have e := longs_at al k want x hx hn
        have hb := best_ge x (al.drop (k + 1)) (longs (al.drop (k + 1))) (j - (k + 1)) y want (by rw [List.getElem?_drop, show k + 1 + (j - (k + 1)) = j from by omega]; exact h3) (by rw [longs_drop, List.getElem?_drop, show k + 1 + (j - (k + 1)) = j from by omega]; exact h2) (by omega)
        omega
      · rw [show j = k from by omega, hx] at h3; cases h3; omega
theorem Comes.hit {al : List Int} {k want : Nat} {x : Int} {last : Option Int} (hx : al[k]? = some x) (hn : (longs al)[k]? = some want) : Comes al (k + 1) (want - 1) (some x) := by
  have e := longs_at al k want x hx hn
  rcases Nat.eq_zero_or_pos (want - 1) with h | h
  · exact .inl h
  · obtain ⟨j, y, h1, h2, h3⟩ := best_at x (al.drop (k + 1)) (longs (al.drop (k + 1))) (by omega)
    rw [List.getElem?_drop] at h1
    rw [longs_drop, List.getElem?_drop, ← longs_drop] at h2
    exact .inr ⟨k + 1 + j, y, by omega, by rw [show want - 1 = best x (al.drop (k + 1)) (longs (al.drop (k + 1))) from by omega]; exact h2, h1, fun a ha => by cases ha; exact h3⟩
/-- the number of the one that was taken last -/
def lastA (al : List Int) (P : List Int) : Option Int := P.getLast?.bind fun p => al[p.toNat]?

set_option maxRecDepth 100000 in
set_option maxHeartbeats 2000000 in
theorem rstill_any (ao : Option Addr) (cap : Nat) (xs : PL) (w : World) (hn : xs.length ≤ 274877906944) (hR : PairsAt w ao xs) :
    Calls Try.prog 34 #[.slice ao xs.length cap] w (IntsOut (stillL xs) w) := by
  have hinfo : (Try.prog.info? 3).map (fun i => (i.zero, i.size, i.bytes)) = some (some (.int .i64 0), 1, 8) := by kernel_rfl
  obtain ⟨i0, hi, hz0, hz1, hz2⟩ := info_parts2 hinfo
  have HI := Lib.hid hi
  have C := Lib.hid (rlong_any ao cap xs w hn hR)
  have HRo := Lib.hid hR
  obtain ⟨al, HAs⟩ : ∃ al, Hid (al = xs.map Prod.fst) := ⟨_, Lib.hid rfl⟩
  obtain ⟨ns, HNS⟩ : ∃ ns, Hid (ns = longs al) := ⟨_, Lib.hid rfl⟩
  have HNL : Hid (ns.length = xs.length) := Lib.hid (by rw [HNS.out, longs_len, HAs.out]; simp)
  have hmx : most ns ≤ xs.length := by rw [HNS.out, HAs.out]; have := most_longs_le (xs.map Prod.fst); simpa using this
  have HSt : Hid (stillL xs = pick ns 0 (most ns)) := Lib.hid (by rw [HNS.out, HAs.out]; rfl)
  rw [← HAs.out, ← HNS.out] at C
  clear hi hinfo hR
  generalize stillL xs = R at HSt ⊢
  go_enter Try.func34, Try.ntmps34
  go_wp2_with fail
  refine C.out.mono ?_; rintro e w1 ⟨g, rfl, hN, b1⟩
  have HN1 := Lib.hid hN
  have HB1 := Lib.hid b1
  clear hN b1 C
  go_wp2_with fail
  go_loopw [4, 5] (fun a i wr => ∃ (k m : Nat), k ≤ xs.length ∧ m ≤ xs.length ∧ i = .int .i64 k ∧ a = .int .i64 m ∧ Hid (m = most (ns.take k)) ∧ Hid (wr = w1)) (fun _ i _ => xs.length - (intOf i).toNat)
  case atStart => exact ⟨0, 0, Nat.zero_le _, Nat.zero_le _, rfl, rfl, Lib.hid rfl, Lib.hid rfl⟩
  case round =>
    obtain ⟨k, m, hk, hm, rfl, rfl, HM, HW⟩ := hrel
    by_cases hlt : k < xs.length
    · obtain ⟨n, hnk⟩ : ∃ n, ns[k]? = some n := ⟨_, List.getElem?_eq_getElem (by rw [HNL.out]; exact hlt)⟩
      have hc : wr.cell? ⟨g, k, none⟩ = some (.int .i64 (n : Int)) := by
        rw [HW.out]
        rcases HN1.out with h | ⟨A, hA, hAl, hcell⟩
        · have := HNL.out; simp at h; rw [h] at this; simp at this; omega
        cases hA
        have := hcell k n (by rw [List.getElem?_map, hnk]; rfl)
        rwa [addr0] at this
      have hst := most_next ns k n hnk
      have hnl : n ≤ xs.length := by rw [HNS.out] at hnk; have := longs_le al k n hnk; rw [HAs.out] at this; simp at this; omega
      rw [← HM.out] at hst
      clear hnk
      by_cases hmn : m < n
      · have HM2 : Hid (n = most (ns.take (k + 1))) := Lib.hid (by rw [hst]; omega)
        clear hst
        have hmn2 : (m : Int) < (n : Int) := by omega
        go_wp2_with fail
        go_roundw
        case rel => exact ⟨k + 1, n, by omega, hnl, by go_num, by first | rfl | (simp; omega), HM2, HW⟩
        case measure => simp [intOf]; omega
      · have HM2 : Hid (m = most (ns.take (k + 1))) := Lib.hid (by rw [hst]; omega)
        clear hst
        have hmn2 : ¬ (m : Int) < (n : Int) := by omega
        go_wp2_with fail
        go_roundw
        case rel => exact ⟨k + 1, m, by omega, hm, by go_num, by first | rfl | (simp; omega), HM2, HW⟩
        case measure => simp [intOf]; omega
    · obtain rfl : k = xs.length := by omega
      have hme : m = most ns := by rw [HM.out, ← HNL.out, List.take_length]
      have hW := HW.out
      clear HW HM hlt
      subst hme
      rw [hW]
      clear hW
      have HCo : Hid (Comes al 0 (most ns) (lastA al [])) := Lib.hid (by rw [HNS.out]; exact Comes.start al)
      have HP : Hid (R = [] ++ pick (ns.drop 0) 0 (most ns)) := Lib.hid (by rw [HSt.out]; rfl)
      go_wp2_with fail
      go_loopw [4, 6, 7] (fun lf v i wr => ∃ (k q cp left : Nat) (bo : Option Addr) (P : List Int), k ≤ xs.length ∧ left ≤ xs.length ∧ q = P.length ∧ q + left ≤ xs.length ∧ i = .int .i64 k ∧ lf = .int .i64 left ∧ v = .slice bo q cp ∧ Hid (Below w1.heap.size w1 wr) ∧ Hid (OwnI wr w1.heap.size (.slice bo q cp) P) ∧ Hid (R = P ++ pick (ns.drop k) k left) ∧ Hid (Comes al k left (lastA al P)) ∧ Hid (∀ p ∈ P, 0 ≤ p ∧ p < (k : Int))) (fun _ _ i _ => xs.length - (intOf i).toNat)
      case atStart => exact ⟨0, 0, 0, _, none, [], Nat.zero_le _, hmx, rfl, by omega, rfl, rfl, rfl, Lib.hid (Below.refl _ _), Lib.hid (World.ownsRow_nil _ _ _ _), HP, HCo, Lib.hid (fun p hp => by cases hp)⟩
      case round =>
        obtain ⟨k, q, cp, left, bo, P, hk, hl, hq, hql, rfl, rfl, rfl, HB, HT, HP, HCo, HPk⟩ := hrel
        have hws := HB.out.size
        by_cases hlt : k < xs.length
        · obtain ⟨n, hnk⟩ : ∃ n, ns[k]? = some n := ⟨_, List.getElem?_eq_getElem (by rw [HNL.out]; exact hlt)⟩
          obtain ⟨⟨x1, x2⟩, hx⟩ : ∃ x, xs[k]? = some x := ⟨_, List.getElem?_eq_getElem hlt⟩
          have HA1 : Hid (al[k]? = some x1) := Lib.hid (by rw [HAs.out, List.getElem?_map, hx]; rfl)
          have HK : Hid ((longs al)[k]? = some n) := Lib.hid (by rw [← HNS.out]; exact hnk)
          have hn0 := longs_pos al k n HK.out
          have hc : wr.cell? ⟨g, k, none⟩ = some (.int .i64 (n : Int)) := by
            rcases HN1.out.kept HB.out with h | ⟨A, hA, hAl, hcell⟩
            · have := HNL.out; simp at h; rw [h] at this; simp at this; omega
            cases hA
            have := hcell k n (by rw [List.getElem?_map, hnk]; rfl)
            rwa [addr0] at this
          rcases (HRo.out.kept (below_up HB1.out HB.out)) with h0 | ⟨b, o, rfl, hA, hcell⟩
          · rw [h0] at hlt; simp at hlt
          obtain ⟨hx1, _⟩ := hcell k _ hx
          dsimp only at hx1
          --BODY
          have HMs := Lib.hid (fun h => HCo.out.miss HK.out h)
          have HHt := Lib.hid (Comes.hit (last := none) HA1.out HK.out)
          have HPm : Hid (n ≠ left → left ≠ 0 → R = P ++ pick (ns.drop (k + 1)) (k + 1) left) := Lib.hid (fun h h0 => by rw [HP.out, pick_miss ns k left n (by rw [HNS.out]; exact HK.out) h0 h])
          have HPz : Hid (left = 0 → R = P ++ pick (ns.drop (k + 1)) (k + 1) left) := Lib.hid (fun h => by rw [HP.out, h, pick_zero, pick_zero])
          have HPh : Hid (n = left → R = (P ++ [(k : Int)]) ++ pick (ns.drop (k + 1)) (k + 1) (left - 1)) := Lib.hid (fun h => by rw [HP.out, pick_hit ns k left (by rw [HNS.out, ← h]; exact HK.out) (by omega)]; simp)
          have HPk1 : Hid (∀ p ∈ P, 0 ≤ p ∧ p < ((k + 1 : Nat) : Int)) := Lib.hid (fun p hp => by have := HPk.out p hp; omega)
          have HPk2 : Hid (∀ p ∈ P ++ [(k : Int)], 0 ≤ p ∧ p < ((k + 1 : Nat) : Int)) := Lib.hid (fun p hp => by
            rcases List.mem_append.1 hp with h | h
            · have := HPk.out p h; omega
            · simp at h; omega)
          have HLs : Hid (lastA al (P ++ [(k : Int)]) = some x1) := Lib.hid (by simp [lastA, HA1.out])
          by_cases hPn : P = []
          · subst hPn
            have hq0 : q = 0 := hq
            subst hq0
            have hr : ∀ a, lastA al [] = some a → a < x1 := fun a h => by cases h
            clear hcell hx hnk hr hq
            by_cases hnl : n = left
            · have hb1 : ((n : Int) == (left : Int)) = true := by simp [hnl]
              have hl0 : (0 : Int) < (left : Int) := by omega
              have HP2 := Lib.hid (HPh.out hnl)
              have hsl : (left : Int) - 1 = ((left - 1 : Nat) : Int) := by omega
              have hwn : IntKind.i64.wrap ((left : Int) - 1) = ((left - 1 : Nat) : Int) := by rw [IntWalk.i64_in _ (by omega)]; exact hsl
              have HHt2 : Hid (Comes al (k + 1) (left - 1) (lastA al ([] ++ [(k : Int)]))) := Lib.hid (by rw [HLs.out, ← hnl]; exact HHt.out)
              clear hnl
              go_wp2_with fail
              go_quiet (fail)
              obtain ⟨V, HV⟩ : ∃ V, Hid (V = wr.drewN nq) := ⟨_, Lib.hid rfl⟩
              have hbV : Below wr.heap.size wr V := by rw [HV.out]; exact bdn (Below.refl _ _)
              have HBV := Lib.hid (below_up HB.out hbV)
              have HTV : Hid (OwnI V w1.heap.size (.slice bo 0 cp) []) := Lib.hid (ownsRow_below HT.out hbV)
              have hcV : V.cell? ⟨g, k, none⟩ = some (.int .i64 (n : Int)) := by rw [HV.out]; exact hc
              have hwV : w1.heap.size ≤ V.heap.size := HBV.out.size
              rw [← HV.out]
              clear hbV hc HT HB HV
              have HTQ : Hid (V.ownsRow w1.heap.size 3 1 (.slice bo 0 cp) 0 ([].map (Value.int .i64))) := Lib.hid (by have := HTV.out; unfold OwnI at this;  exact this)
              have HT1 := Lib.hid (World.ownsRow.alloc HTQ.out (.cells #[Value.int .i64 (k : Int)] 3))
              have hbs : w1.heap.size ≤ (V.alloc (.cells #[Value.int .i64 (k : Int)] 3)).heap.size := by simp; omega
              go_wp2_with (at_builtin; refine wpList_append_own _ rfl _ _ 30 rfl w1.heap.size 3 i0 (.int .i64 0) 1 8 Try.underlying30 HI.out hz0 hz1 hz2 rfl (by decide) _ _ _ rfl HT1.out ⟨V.heap.size, 0, none⟩ 1 1 [Value.int .i64 (k : Int)] rfl rfl (lit_cellI V _) (fun u hu => by simp at hu; subst hu; rfl) (by unfold maxLen; omega) (by omega) hbs ?_)
              intro v' w3 hown' hgrow _
              obtain ⟨g3, gc, rfl⟩ := ownsRow_succ hown'
              have HB3 := Lib.hid (own_grownI HBV.out hwV HTQ.out hgrow)
              have hq3 : 0 + 1 = ([] ++ [(k : Int)]).length := by rfl
              have HT3 : Hid (OwnI w3 w1.heap.size (.slice (some ⟨g3, 0, none⟩) (0 + 1) gc) ([] ++ [(k : Int)])) := Lib.hid (by unfold OwnI; rw [← hq3, List.map_append]; exact hown')
              have hqq := Lib.hid hq3
              have hle3 : left - 1 ≤ xs.length := by omega
              have hle4 : 0 + 1 + (left - 1) ≤ xs.length := by omega
              clear hown' hgrow hbs hcV hq3
              go_wp2_with fail
              go_roundw
              case rel => exact ⟨k + 1, 0 + 1, gc, left - 1, _, [] ++ [(k : Int)], by omega, hle3, hqq.out, hle4, by go_num, by first | rfl | go_num, rfl, HB3, HT3, HP2, HHt2, HPk2⟩
              case measure => simp [intOf]; omega
            · have hb1 : ((n : Int) == (left : Int)) = false := by simp; omega
              have HP2 : Hid (R = [] ++ pick (ns.drop (k + 1)) (k + 1) left) := Lib.hid (by
                by_cases h0 : left = 0
                · exact HPz.out h0
                · exact HPm.out hnl h0)
              have HM2 := Lib.hid (HMs.out hnl)
              go_wp2_with fail
              go_quiet (fail)
              have HB3 : Hid (Below w1.heap.size w1 (wr.drewN nq)) := Lib.hid (bdn HB.out)
              have HT3 : Hid (OwnI (wr.drewN nq) w1.heap.size (.slice bo 0 cp) []) := Lib.hid (ownsRow_below HT.out (bdn (Below.refl _ _)))
              have hcV : (wr.drewN nq).cell? ⟨g, k, none⟩ = some (.int .i64 (n : Int)) := hc
              go_wp2_with fail
              go_roundw
              case rel => exact ⟨k + 1, 0, cp, left, _, [], by omega, hl, rfl, hql, by go_num, rfl, rfl, HB3, HT3, HP2, HM2, HPk1⟩
              case measure => simp [intOf]; omega
          · obtain ⟨P', pz, hPe⟩ : ∃ P' pz, P = P' ++ [pz] := ⟨_, _, (List.dropLast_concat_getLast hPn).symm⟩
            obtain ⟨hp0, hpk⟩ := HPk.out pz (by rw [hPe]; simp)
            obtain ⟨pl, rfl⟩ := Int.eq_ofNat_of_zero_le hp0
            have hplk : pl < k := by omega
            have hplx : pl < xs.length := by omega
            obtain ⟨⟨y1, y2⟩, hy⟩ : ∃ y, xs[pl]? = some y := ⟨_, List.getElem?_eq_getElem hplx⟩
            obtain ⟨hy1, _⟩ := hcell pl _ hy
            dsimp only at hy1
            obtain ⟨m, hm⟩ : ∃ m, q = m + 1 := ⟨P'.length, by rw [hq, hPe]; simp⟩
            have hPm : P[m]? = some (pl : Int) := by
              have : P'.length = m := by rw [hPe] at hq; simp at hq; omega
              rw [hPe, ← this]; simp
            have HLa : Hid (lastA al P = some y1) := Lib.hid (by rw [hPe]; simp [lastA, HAs.out, hy])
            have HRi : Hid (n = left → y1 < x1) := Lib.hid (fun h => by
              have := HCo.out
              rw [HLa.out] at this
              exact this.rises HA1.out (by rw [← h]; exact HK.out))
            have T0 : wr.ownsRow w1.heap.size 3 1 (.slice bo q cp) q (P.map (Value.int .i64)) := by have := HT.out; unfold OwnI at this; rw [← hq] at this; exact this
            obtain ⟨gm, cpp, hbo⟩ := Go.Joins.ownsRow_form T0 (by omega)
            cases hbo
            have hz := T0.cellAt m (by omega)
            rw [List.getElem?_map, hPm] at hz
            dsimp only [Option.map_some] at hz
            have hqb : ((q : Int) == 0) = false := by simp; omega
            have hq1 : ¬ q = 0 := by omega
            have hsub : (q : Int) - 1 = (m : Int) := by omega
            have hwr : IntKind.i64.wrap ((q : Int) - 1) = (m : Int) := by rw [IntWalk.i64_in _ (by omega)]; exact hsub
            have hwm : IntKind.i64.wrap (m : Int) = (m : Int) := IntWalk.i64_in _ (by omega)
            have hmq : m < q := by omega
            have hHq := Lib.hid hq
            clear hcell hx hnk hy hPe hPm T0 hm hPn hq
            by_cases hnl : n = left
            · have hb1 : ((n : Int) == (left : Int)) = true := by simp [hnl]
              have hl0 : (0 : Int) < (left : Int) := by omega
              have hri := HRi.out hnl
              have HP2 := Lib.hid (HPh.out hnl)
              have hsl : (left : Int) - 1 = ((left - 1 : Nat) : Int) := by omega
              have hwn : IntKind.i64.wrap ((left : Int) - 1) = ((left - 1 : Nat) : Int) := by rw [IntWalk.i64_in _ (by omega)]; exact hsl
              have HHt2 : Hid (Comes al (k + 1) (left - 1) (lastA al (P ++ [(k : Int)]))) := Lib.hid (by rw [HLs.out, ← hnl]; exact HHt.out)
              clear hnl
              go_wp2_with fail
              go_quiet (fail)
              obtain ⟨V, HV⟩ : ∃ V, Hid (V = wr.drewN nq) := ⟨_, Lib.hid rfl⟩
              have hbV : Below wr.heap.size wr V := by rw [HV.out]; exact bdn (Below.refl _ _)
              have HBV := Lib.hid (below_up HB.out hbV)
              have HTV : Hid (OwnI V w1.heap.size (.slice (some ⟨gm, 0, none⟩) q cp) P) := Lib.hid (ownsRow_below HT.out hbV)
              have hcV : V.cell? ⟨g, k, none⟩ = some (.int .i64 (n : Int)) := by rw [HV.out]; exact hc
              have hwV : w1.heap.size ≤ V.heap.size := HBV.out.size
              rw [← HV.out]
              clear hbV hc HT HB HV
              have HTQ : Hid (V.ownsRow w1.heap.size 3 1 (.slice (some ⟨gm, 0, none⟩) q cp) q (P.map (Value.int .i64))) := Lib.hid (by have := HTV.out; unfold OwnI at this; rw [← hHq.out] at this; exact this)
              have HT1 := Lib.hid (World.ownsRow.alloc HTQ.out (.cells #[Value.int .i64 (k : Int)] 3))
              have hbs : w1.heap.size ≤ (V.alloc (.cells #[Value.int .i64 (k : Int)] 3)).heap.size := by simp; omega
              go_wp2_with (at_builtin; refine wpList_append_own _ rfl _ _ 30 rfl w1.heap.size 3 i0 (.int .i64 0) 1 8 Try.underlying30 HI.out hz0 hz1 hz2 rfl (by decide) _ _ _ rfl HT1.out ⟨V.heap.size, 0, none⟩ 1 1 [Value.int .i64 (k : Int)] rfl rfl (lit_cellI V _) (fun u hu => by simp at hu; subst hu; rfl) (by unfold maxLen; omega) (by omega) hbs ?_)
              intro v' w3 hown' hgrow _
              obtain ⟨g3, gc, rfl⟩ := ownsRow_succ hown'
              have HB3 := Lib.hid (own_grownI HBV.out hwV HTQ.out hgrow)
              have hq3 : q + 1 = (P ++ [(k : Int)]).length := by rw [List.length_append, ← hHq.out]; rfl
              have HT3 : Hid (OwnI w3 w1.heap.size (.slice (some ⟨g3, 0, none⟩) (q + 1) gc) (P ++ [(k : Int)])) := Lib.hid (by unfold OwnI; rw [← hq3, List.map_append]; exact hown')
              have hqq := Lib.hid hq3
              have hle3 : left - 1 ≤ xs.length := by omega
              have hle4 : q + 1 + (left - 1) ≤ xs.length := by omega
              clear hown' hgrow hbs hcV hq3
              go_wp2_with fail
              go_roundw
              case rel => exact ⟨k + 1, q + 1, gc, left - 1, _, P ++ [(k : Int)], by omega, hle3, hqq.out, hle4, by go_num, by first | rfl | go_num, rfl, HB3, HT3, HP2, HHt2, HPk2⟩
              case measure => simp [intOf]; omega
            · have hb1 : ((n : Int) == (left : Int)) = false := by simp; omega
              have HP2 : Hid (R = P ++ pick (ns.drop (k + 1)) (k + 1) left) := Lib.hid (by
                by_cases h0 : left = 0
                · exact HPz.out h0
                · exact HPm.out hnl h0)
              have HM2 := Lib.hid (HMs.out hnl)
              go_wp2_with fail
              go_quiet (fail)
              have HB3 : Hid (Below w1.heap.size w1 (wr.drewN nq)) := Lib.hid (bdn HB.out)
              have HT3 : Hid (OwnI (wr.drewN nq) w1.heap.size (.slice (some ⟨gm, 0, none⟩) q cp) P) := Lib.hid (ownsRow_below HT.out (bdn (Below.refl _ _)))
              have hcV : (wr.drewN nq).cell? ⟨g, k, none⟩ = some (.int .i64 (n : Int)) := hc
              go_wp2_with fail
              go_roundw
              case rel => exact ⟨k + 1, q, cp, left, _, P, by omega, hl, hHq.out, hql, by go_num, rfl, rfl, HB3, HT3, HP2, HM2, HPk1⟩
              case measure => simp [intOf]; omega
        · obtain rfl : k = xs.length := by omega
          have HE := Lib.hid (OwnI.end_ (w := w) (show OwnI wr w.heap.size _ _ from World.ownsRow.mono HT.out HB1.out.size) (below_up HB1.out HB.out))
          have E : Hid (R = P) := Lib.hid (by rw [HP.out, ← HNL.out, List.drop_length]; simp [pick])
          clear HT
          go_wp2_with fail
          go_ret
          rw [E.out]
          exact HE.out
end Go.Proofs.Ytolcdhdmonaeaaa
