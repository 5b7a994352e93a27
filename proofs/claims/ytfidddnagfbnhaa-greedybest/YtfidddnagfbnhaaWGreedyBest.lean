/-
  The walk of the statement GreedyBest.
  Conditions: none beyond the form of claims.
-/
import Derived.WalkKit
import Derived.WalkMore
import Derived.IntWalk
import Derived.BigQuiet
import Derived.Deep.QuietTactic
import Derived.Lib.QuietBelow
import Derived.Lib.Hide
import Derived.Test.YtfidddnagfbnhaaProg
import Derived.Test.YtfidddnagfbnhaaGOpen
import Derived.Test.YtfidddnagfbnhaaGWorks
namespace Go.Proofs.Ytfidddnagfbnhaa
open Go.RowKit Go.Shelf Go.Lib
set_option linter.unusedVariables false

/-- a choice that was not taken gave way to a better one that was -/
theorem best_wit (xs : TL) (c : T3) (hc : c ∈ xs) (h1 : 0 ≤ c.1) (h2 : 0 ≤ c.2.1) (hno : ∀ (j : Nat) p, j < (pickL xs).length → (pickL xs)[j]? = some p → ¬ (p.1 = c.1 ∧ p.2 = c.2.1)) :
    ∃ (i0 k0 : Nat) (d : T3), (pickL xs)[i0]? = some (d.1, d.2.1) ∧ xs[k0]? = some d ∧ (d.1 = c.1 ∨ d.2.1 = c.2.1) ∧ betterT d c = true := by
  rcases (pick_taken xs).best c hc h1 h2 with h | ⟨d, hd, hp, hor, hb⟩
  · obtain ⟨j, hj, e⟩ := List.getElem_of_mem h
    exact absurd ⟨rfl, rfl⟩ (hno j _ hj (by rw [List.getElem?_eq_getElem hj, e]))
  · obtain ⟨i0, hi0, e0⟩ := List.getElem_of_mem hp
    obtain ⟨k0, hk0, e1⟩ := List.getElem_of_mem hd
    refine ⟨i0, k0, d, by rw [List.getElem?_eq_getElem hi0, e0], by rw [List.getElem?_eq_getElem hk0, e1], hor, ?_⟩
    cases hdc : betterT d c with
    | true => rfl
    | false =>
      have := better_either hb hdc
      subst this
      exact absurd ⟨rfl, rfl⟩ (hno i0 _ hi0 (by rw [List.getElem?_eq_getElem hi0, e0]))

set_option maxRecDepth 100000 in
set_option maxHeartbeats 8000000 in
theorem walkGreedyBest (ao : Option Addr) (ca : Nat) (xs : TL) (t : Int) (w : World) (hA : TripsArg w ao ca xs) (hT : (Lit.int .i64 t).wf = true) :
    Calls Try.prog 5 #[.slice ao xs.length ca, .int .i64 t] w fun e w' => e = .returned (.bool true) ∧ Below w.heap.size w w' := by
  have HA := Lib.hid hA
  have C0 := Lib.hid (fun W => gworks_any W)
  clear hA hT
  by_cases h1 : xs.length ≤ 60
  · by_cases h2 : t < 0
    · go_enter Try.func5, Try.ntmps5
      go_wp2_with fail
      refine (C0.out _).mono ?_; rintro e W ⟨rfl, b⟩
      have B := Lib.hid b
      clear b C0
      go_wp2_with fail
      go_ret
      exact ⟨rfl, B.out⟩
    obtain ⟨n, rfl⟩ := Int.eq_ofNat_of_zero_le (show 0 ≤ t by omega)
    by_cases h3 : n < xs.length
    · obtain ⟨⟨x1, x2, x3⟩, hx⟩ : ∃ x, xs[n]? = some x := ⟨_, List.getElem?_eq_getElem h3⟩
      have HX := Lib.hid hx
      obtain ⟨b, o, hao, hlt0, hcell0⟩ : ∃ b o, ao = some ⟨b, o, none⟩ ∧ b < w.heap.size ∧ ∀ (i : Nat) c, xs[i]? = some c → w.cell? ⟨b, o + i * 3, none⟩ = some (.int .i64 c.1) ∧ w.cell? ⟨b, o + i * 3 + 1, none⟩ = some (.int .i64 c.2.1) ∧ w.cell? ⟨b, o + i * 3 + 2, none⟩ = some (.int .i64 c.2.2) := by
        rcases HA.out.trips with h | h
        · rw [h] at h3; simp at h3
        · exact h
      subst hao
      have HXc : Hid (∀ U, Below w.heap.size w U → ∀ (i : Nat) c, xs[i]? = some c → U.cell? ⟨b, o + i * 3, none⟩ = some (.int .i64 c.1) ∧ U.cell? ⟨b, o + i * 3 + 1, none⟩ = some (.int .i64 c.2.1) ∧ U.cell? ⟨b, o + i * 3 + 2, none⟩ = some (.int .i64 c.2.2)) := Lib.hid (fun U h i c hc => by
        obtain ⟨k0, k1, k2⟩ := hcell0 i c hc
        exact ⟨(h.cell (p := ⟨b, o + i * 3, none⟩) hlt0).trans k0, (h.cell (p := ⟨b, o + i * 3 + 1, none⟩) hlt0).trans k1, (h.cell (p := ⟨b, o + i * 3 + 2, none⟩) hlt0).trans k2⟩)
      clear hcell0 hlt0 hx
      by_cases h4 : x1 < 0
      · go_enter Try.func5, Try.ntmps5
        go_wp2_with fail
        refine (C0.out _).mono ?_; rintro e W ⟨rfl, b⟩
        have B := Lib.hid b
        obtain ⟨c1, c2, c3⟩ := HXc.out W b n _ HX.out
        dsimp only at c1 c2 c3
        clear b C0
        go_wp2_with fail
        go_ret
        exact ⟨rfl, B.out⟩
      by_cases h5 : x2 < 0
      · go_enter Try.func5, Try.ntmps5
        go_wp2_with fail
        refine (C0.out _).mono ?_; rintro e W ⟨rfl, b⟩
        have B := Lib.hid b
        obtain ⟨c1, c2, c3⟩ := HXc.out W b n _ HX.out
        dsimp only at c1 c2 c3
        clear b C0
        go_wp2_with fail
        go_ret
        exact ⟨rfl, B.out⟩
      have C1 := Lib.hid (fun U (h : Below w.heap.size w U) => pick_any (some ⟨b, o, none⟩) ca xs U (by omega) HA.out.ok (HA.out.trips.kept h))
      have hWit := Lib.hid (best_wit xs (x1, x2, x3) (List.mem_of_getElem? HX.out) (by dsimp only; omega) (by dsimp only; omega))
      have hRl : (pickL xs).length ≤ 60 := by have := pick_len xs; omega
      generalize pickL xs = R at C1 hWit hRl
      go_enter Try.func5, Try.ntmps5
      go_wp2_with fail
      refine (C0.out _).mono ?_; rintro e W ⟨rfl, bb⟩
      have B := Lib.hid bb
      obtain ⟨c1, c2, c3⟩ := HXc.out W bb n _ HX.out
      dsimp only at c1 c2 c3
      obtain ⟨V, HV⟩ : ∃ V, Hid (V = W.alloc (.cells #[.int .i64 x1, .int .i64 x2, .int .i64 x3] 24)) := ⟨_, Lib.hid rfl⟩
      have hVh : V.heap[W.heap.size]? = some (.cells #[.int .i64 x1, .int .i64 x2, .int .i64 x3] 24 (0, 0)) := by rw [HV.out]; exact World.alloc_heap_new _ _
      have hBV : Below W.heap.size W V := by rw [HV.out]; exact (Below.refl _ W).alloc (Nat.le_refl _) _
      have BV := Lib.hid (below_up bb hBV)
      have HBx : Hid (∀ U, Below V.heap.size V U → U.cell? ⟨W.heap.size, 0, none⟩ = some (.int .i64 x1) ∧ U.cell? ⟨W.heap.size, 1, none⟩ = some (.int .i64 x2) ∧ U.cell? ⟨W.heap.size, 2, none⟩ = some (.int .i64 x3)) := Lib.hid (fun U h => by
        have g1 := (h.block _ (lt_of_heap hVh)).trans hVh
        exact ⟨(Lib.cell_of_heap g1 0).trans rfl, (Lib.cell_of_heap g1 1).trans rfl, (Lib.cell_of_heap g1 2).trans rfl⟩)
      have v0 : V.cell? ⟨W.heap.size, 0, none⟩ = some (.int .i64 x1) := (Lib.cell_of_heap hVh 0).trans rfl
      have v1 : V.cell? ⟨W.heap.size, 1, none⟩ = some (.int .i64 x2) := (Lib.cell_of_heap hVh 1).trans rfl
      have v2 : V.cell? ⟨W.heap.size, 2, none⟩ = some (.int .i64 x3) := (Lib.cell_of_heap hVh 2).trans rfl
      clear bb C0 hBV hVh
      go_upto_region 7 with fail
      rw [← HV.out]
      clear c1 c2 c3 v0 v1 v2 HV h4 h5
      go_wp2_with fail
      refine (C1.out _ BV.out).mono ?_; rintro e W1 ⟨po, pc, rfl, p1, -, -, bb⟩
      have B1 := Lib.hid bb
      have HP := Lib.hid p1
      clear bb p1 C1
      go_wp2_with fail
      go_loopw [8] (fun iv wr => ∃ i : Nat, i ≤ R.length ∧ iv = .int .i64 i ∧ Hid (Below W1.heap.size W1 wr) ∧ Hid (∀ (j : Nat) p, j < i → R[j]? = some p → ¬ (p.1 = x1 ∧ p.2 = x2))) (fun iv _ => R.length - (intOf iv).toNat)
      case atStart => exact ⟨0, Nat.zero_le _, rfl, Lib.hid (Below.refl _ _), Lib.hid (fun j p h => by omega)⟩
      case round =>
        obtain ⟨i, hi, rfl, HB, HN⟩ := hrel
        by_cases hlt : i < R.length
        · obtain ⟨⟨q1, q2⟩, hq⟩ : ∃ q, R[i]? = some q := ⟨_, List.getElem?_eq_getElem hlt⟩
          rcases (HP.out.kept HB.out) with h0 | ⟨pb, pf, rfl, hA, hcell⟩
          · rw [h0] at hlt; simp at hlt
          obtain ⟨d1, d2⟩ := hcell i _ hq
          obtain ⟨v0, v1, v2⟩ := HBx.out wr (below_up B1.out HB.out)
          dsimp only at d1 d2
          have HQ := Lib.hid hq
          have BF := Lib.hid (below_up BV.out (below_up B1.out HB.out))
          have n1 : decide ((i : Int) < 0) = false := decide_eq_false (by omega)
          have n2 : decide (R.length ≤ i) = false := decide_eq_false (by omega)
          clear hcell hA hq
          by_cases g1 : q1 = x1
          · have e1 : (q1 == x1) = true := by simp [g1]
            by_cases g2 : q2 = x2
            · have e2 : (q2 == x2) = true := by simp [g2]
              clear g1 g2
              go_upto_region 11 with fail
              go_quiet (fail)
              have BF2 := Lib.hid (show Below w.heap.size w (wr.drewN nq) from bdn BF.out)
              go_wp2_with fail
              go_ret
              exact ⟨rfl, BF2.out⟩
            · have e2 : (q2 == x2) = false := by simp [g2]
              have HN2 : Hid (∀ (j : Nat) p, j < i + 1 → R[j]? = some p → ¬ (p.1 = x1 ∧ p.2 = x2)) := Lib.hid (fun j p hj hp hh => by
                by_cases e : j = i
                · subst e; rw [HQ.out] at hp; cases hp; exact g2 hh.2
                · exact HN.out j p (by omega) hp hh)
              clear g1 g2
              go_upto_region 11 with fail
              go_quiet (fail)
              have HB2 := Lib.hid (show Below W1.heap.size W1 (wr.drewN nq) from bdn HB.out)
              go_wp2_with fail
              go_roundw
              case rel => exact ⟨i + 1, by omega, by go_num, HB2, HN2⟩
              case measure => simp [intOf]; omega
          · have e1 : (q1 == x1) = false := by simp [g1]
            have HN2 : Hid (∀ (j : Nat) p, j < i + 1 → R[j]? = some p → ¬ (p.1 = x1 ∧ p.2 = x2)) := Lib.hid (fun j p hj hp hh => by
              by_cases e : j = i
              · subst e; rw [HQ.out] at hp; cases hp; exact g1 hh.1
              · exact HN.out j p (by omega) hp hh)
            clear g1
            go_upto_region 11 with fail
            go_quiet (fail)
            have HB2 := Lib.hid (show Below W1.heap.size W1 (wr.drewN nq) from bdn HB.out)
            go_wp2_with fail
            go_roundw
            case rel => exact ⟨i + 1, by omega, by go_num, HB2, HN2⟩
            case measure => simp [intOf]; omega
        · obtain rfl : i = R.length := by omega
          obtain ⟨i0, k0, ⟨y1, y2, y3⟩, hi0, hk0, hor, hbt⟩ := hWit.out (fun j p h1 h2 => HN.out j p h1 h2)
          have HI0 := Lib.hid hi0
          have HK0 := Lib.hid hk0
          have HOr := Lib.hid hor
          have HBt := Lib.hid hbt
          have hi0l : i0 < R.length := (List.getElem?_eq_some_iff.1 hi0).1
          have hk0l : k0 < xs.length := (List.getElem?_eq_some_iff.1 hk0).1
          clear hi0 hk0 hor hbt HN hWit hlt
          dsimp only at HOr HI0
          go_wp2_with fail
          obtain ⟨wa, rfl⟩ : ∃ wa : World, wa = wr := ⟨_, rfl⟩
          go_loopw [9] (fun iv wr => ∃ i : Nat, i ≤ i0 ∧ iv = .int .i64 i ∧ Hid (Below W1.heap.size W1 wr)) (fun iv _ => R.length - (intOf iv).toNat)
          case atStart => exact ⟨0, Nat.zero_le _, rfl, HB⟩
          case round =>
            clear HB
            obtain ⟨i, hii, rfl, HB⟩ := hrel
            have hlt : i < R.length := by omega
            obtain ⟨⟨q1, q2⟩, hq⟩ : ∃ q, R[i]? = some q := ⟨_, List.getElem?_eq_getElem hlt⟩
            rcases (HP.out.kept HB.out) with h0 | ⟨pb, pf, rfl, hA, hcell⟩
            · rw [h0] at hlt; simp at hlt
            obtain ⟨d1, d2⟩ := hcell i _ hq
            obtain ⟨v0, v1, v2⟩ := HBx.out wr (below_up B1.out HB.out)
            dsimp only at d1 d2
            have HQ := Lib.hid hq
            have n1 : decide ((i : Int) < 0) = false := decide_eq_false (by omega)
            have n2 : decide (R.length ≤ i) = false := decide_eq_false (by omega)
            have HDc : Hid (∀ U, Below wr.heap.size wr U → U.cell? ⟨pb, pf + i * 2, none⟩ = some (.int .i64 q1) ∧ U.cell? ⟨pb, pf + i * 2 + 1, none⟩ = some (.int .i64 q2)) := Lib.hid (fun U h => by
              obtain ⟨k1, k2⟩ := hcell i _ hq
              exact ⟨(h.cell (p := ⟨pb, pf + i * 2, none⟩) hA).trans k1, (h.cell (p := ⟨pb, pf + i * 2 + 1, none⟩) hA).trans k2⟩)
            have HEq : Hid (i = i0 → q1 = y1 ∧ q2 = y2) := Lib.hid (fun h => by subst h; have := HQ.out.symm.trans HI0.out; injection this with h; injection h with h1 h2; exact ⟨h1, h2⟩)
            clear hcell hA hq
            by_cases g1 : q1 = x1
            · have e1 : (q1 != x1) = false := by simp [g1]
              clear g1
              go_upto_region 16 with fail
              go_quiet (fail)
              obtain ⟨wb, HWb⟩ : ∃ wb, Hid (wb = wr.drewN nq) := ⟨_, Lib.hid rfl⟩
              have HBb : Hid (Below W1.heap.size W1 wb) := Lib.hid (by rw [HWb.out]; exact bdn HB.out)
              have HDb : Hid (∀ U, Below wb.heap.size wb U → U.cell? ⟨pb, pf + i * 2, none⟩ = some (.int .i64 q1) ∧ U.cell? ⟨pb, pf + i * 2 + 1, none⟩ = some (.int .i64 q2)) := Lib.hid (fun U h => HDc.out U (by rw [HWb.out] at h; exact below_up (show Below wr.heap.size wr (wr.drewN nq) from bdn (Below.refl _ _)) h))
              rw [← HWb.out]
              clear HWb d1 d2 v0 v1 v2 HDc
              have HK : Hid (i = i0 → 0 ≤ k0) := Lib.hid (fun _ => Nat.zero_le _)
              go_wp2_with fail
              go_loopw [10] (fun kv wr => ∃ k : Nat, k ≤ xs.length ∧ kv = .int .i64 k ∧ Hid (Below wb.heap.size wb wr) ∧ Hid (i = i0 → k ≤ k0)) (fun kv _ => xs.length - (intOf kv).toNat)
              case atStart => exact ⟨0, Nat.zero_le _, rfl, Lib.hid (Below.refl _ _), HK⟩
              case round =>
                clear HK
                obtain ⟨k, hk, rfl, HBk, HK⟩ := hrel
                by_cases hkl : k < xs.length
                · obtain ⟨⟨z1, z2, z3⟩, hz⟩ : ∃ z, xs[k]? = some z := ⟨_, List.getElem?_eq_getElem hkl⟩
                  have BF := Lib.hid (below_up BV.out (below_up B1.out (below_up HBb.out HBk.out)))
                  obtain ⟨c1, c2, c3⟩ := HXc.out wr BF.out k _ hz
                  obtain ⟨d1, d2⟩ := HDb.out wr HBk.out
                  obtain ⟨v0, v1, v2⟩ := HBx.out wr (below_up B1.out (below_up HBb.out HBk.out))
                  dsimp only at c1 c2 c3
                  have n3 : decide ((k : Int) < 0) = false := decide_eq_false (by omega)
                  have n4 : decide (xs.length ≤ k) = false := decide_eq_false (by omega)
                  have C := Lib.hid (fun U => better_any (z1, z2, z3) (x1, x2, x3) U)
                  have HZ : Hid (i = i0 → k = k0 → q1 = z1 ∧ q2 = z2 ∧ betterT (z1, z2, z3) (x1, x2, x3) = true) := Lib.hid (fun h1 h2 => by
                    subst h2
                    have := hz.symm.trans HK0.out
                    injection this with h; injection h with e1 h; injection h with e2 e3
                    subst e1 e2 e3
                    exact ⟨(HEq.out h1).1, (HEq.out h1).2, HBt.out⟩)
                  clear hz
                  obtain ⟨t, ht⟩ : ∃ t, betterT (z1, z2, z3) (x1, x2, x3) = t := ⟨_, rfl⟩
                  rw [ht] at C HZ
                  dsimp only at C
                  clear ht
                  by_cases g3 : z1 = q1
                  · have e3 : (z1 == q1) = true := by simp [g3]
                    by_cases g4 : z2 = q2
                    · have e4 : (z2 == q2) = true := by simp [g4]
                      have r0 := cell_regrown c1
                      have r1 := cell_regrown c2
                      have r2 := cell_regrown c3
                      have r3 := cell_regrown d1
                      have r4 := cell_regrown d2
                      have r5 := cell_regrown v0
                      have r6 := cell_regrown v1
                      have r7 := cell_regrown v2
                      have HQr := Lib.hid (fun d os => below_up HBk.out (below_regrown wr d os))
                      clear c1 c2 c3 d1 d2 v0 v1 v2 g3 g4
                      go_upto_region 20 with fail
                      refine wp_region_quiet_below (by kernel_rfl) (by kernel_rfl) ?_
                      repeat (first
                        | go_big_quiet_step (exact Calls.regrown_of (C.out _))
                        | quiet_step (exact Calls.regrown_of (C.out _)))
                      refine wpQuiet_nil ?_
                      intro _ hw'
                      obtain ⟨⟨dq, osq⟩, hw''⟩ := hw'
                      have HB2 := Lib.hid (HQr.out dq osq)
                      rw [← hw''] at HB2
                      clear hw'' r0 r1 r2 r3 r4 r5 r6 r7 HQr C
                      rename_i W5
                      cases t with
                      | true =>
                        have BF2 := Lib.hid (below_up BV.out (below_up B1.out (below_up HBb.out HB2.out)))
                        go_wp2_with fail
                        go_ret
                        exact ⟨rfl, BF2.out⟩
                      | false =>
                        have HK2 : Hid (i = i0 → k + 1 ≤ k0) := Lib.hid (fun h => by
                          have h1 := HK.out h
                          by_cases e : k = k0
                          · have := (HZ.out h e).2.2; cases this
                          · omega)
                        go_wp2_with fail
                        go_roundw
                        case rel => exact ⟨k + 1, by omega, by go_num, HB2, HK2⟩
                        case measure => simp [intOf]; omega
                    · have e4 : (z2 == q2) = false := by simp [g4]
                      have HK2 : Hid (i = i0 → k + 1 ≤ k0) := Lib.hid (fun h => by
                        have h1 := HK.out h
                        by_cases e : k = k0
                        · exact absurd (HZ.out h e).2.1.symm g4
                        · omega)
                      clear g3 g4 HZ C
                      go_upto_region 20 with fail
                      go_quiet (fail)
                      have HB2 := Lib.hid (show Below wb.heap.size wb (wr.drewN nq) from bdn HBk.out)
                      go_wp2_with fail
                      go_roundw
                      case rel => exact ⟨k + 1, by omega, by go_num, HB2, HK2⟩
                      case measure => simp [intOf]; omega
                  · have e3 : (z1 == q1) = false := by simp [g3]
                    have HK2 : Hid (i = i0 → k + 1 ≤ k0) := Lib.hid (fun h => by
                      have h1 := HK.out h
                      by_cases e : k = k0
                      · exact absurd (HZ.out h e).1.symm g3
                      · omega)
                    clear g3 HZ C
                    go_upto_region 20 with fail
                    go_quiet (fail)
                    have HB2 := Lib.hid (show Below wb.heap.size wb (wr.drewN nq) from bdn HBk.out)
                    go_wp2_with fail
                    go_roundw
                    case rel => exact ⟨k + 1, by omega, by go_num, HB2, HK2⟩
                    case measure => simp [intOf]; omega
                · have hne : i + 1 ≤ i0 := by
                    have hh := HK.out
                    by_cases e : i = i0
                    · have := hh e; omega
                    · omega
                  have HBe := Lib.hid (below_up HBb.out HBk.out)
                  go_wp2_with fail
                  go_roundw
                  case rel => exact ⟨i + 1, hne, by go_num, HBe⟩
                  case measure => simp [intOf]; omega
            · have e1 : (q1 != x1) = true := by simp [g1]
              by_cases g2 : q2 = x2
              · have e2 : (q2 != x2) = false := by simp [g2]
                clear g1 g2
                go_upto_region 16 with fail
                go_quiet (fail)
                obtain ⟨wb, HWb⟩ : ∃ wb, Hid (wb = wr.drewN nq) := ⟨_, Lib.hid rfl⟩
                have HBb : Hid (Below W1.heap.size W1 wb) := Lib.hid (by rw [HWb.out]; exact bdn HB.out)
                have HDb : Hid (∀ U, Below wb.heap.size wb U → U.cell? ⟨pb, pf + i * 2, none⟩ = some (.int .i64 q1) ∧ U.cell? ⟨pb, pf + i * 2 + 1, none⟩ = some (.int .i64 q2)) := Lib.hid (fun U h => HDc.out U (by rw [HWb.out] at h; exact below_up (show Below wr.heap.size wr (wr.drewN nq) from bdn (Below.refl _ _)) h))
                rw [← HWb.out]
                clear HWb d1 d2 v0 v1 v2 HDc
                have HK : Hid (i = i0 → 0 ≤ k0) := Lib.hid (fun _ => Nat.zero_le _)
                go_wp2_with fail
                go_loopw [10] (fun kv wr => ∃ k : Nat, k ≤ xs.length ∧ kv = .int .i64 k ∧ Hid (Below wb.heap.size wb wr) ∧ Hid (i = i0 → k ≤ k0)) (fun kv _ => xs.length - (intOf kv).toNat)
                case atStart => exact ⟨0, Nat.zero_le _, rfl, Lib.hid (Below.refl _ _), HK⟩
                case round =>
                  clear HK
                  obtain ⟨k, hk, rfl, HBk, HK⟩ := hrel
                  by_cases hkl : k < xs.length
                  · obtain ⟨⟨z1, z2, z3⟩, hz⟩ : ∃ z, xs[k]? = some z := ⟨_, List.getElem?_eq_getElem hkl⟩
                    have BF := Lib.hid (below_up BV.out (below_up B1.out (below_up HBb.out HBk.out)))
                    obtain ⟨c1, c2, c3⟩ := HXc.out wr BF.out k _ hz
                    obtain ⟨d1, d2⟩ := HDb.out wr HBk.out
                    obtain ⟨v0, v1, v2⟩ := HBx.out wr (below_up B1.out (below_up HBb.out HBk.out))
                    dsimp only at c1 c2 c3
                    have n3 : decide ((k : Int) < 0) = false := decide_eq_false (by omega)
                    have n4 : decide (xs.length ≤ k) = false := decide_eq_false (by omega)
                    have C := Lib.hid (fun U => better_any (z1, z2, z3) (x1, x2, x3) U)
                    have HZ : Hid (i = i0 → k = k0 → q1 = z1 ∧ q2 = z2 ∧ betterT (z1, z2, z3) (x1, x2, x3) = true) := Lib.hid (fun h1 h2 => by
                      subst h2
                      have := hz.symm.trans HK0.out
                      injection this with h; injection h with e1 h; injection h with e2 e3
                      subst e1 e2 e3
                      exact ⟨(HEq.out h1).1, (HEq.out h1).2, HBt.out⟩)
                    clear hz
                    obtain ⟨t, ht⟩ : ∃ t, betterT (z1, z2, z3) (x1, x2, x3) = t := ⟨_, rfl⟩
                    rw [ht] at C HZ
                    dsimp only at C
                    clear ht
                    by_cases g3 : z1 = q1
                    · have e3 : (z1 == q1) = true := by simp [g3]
                      by_cases g4 : z2 = q2
                      · have e4 : (z2 == q2) = true := by simp [g4]
                        have r0 := cell_regrown c1
                        have r1 := cell_regrown c2
                        have r2 := cell_regrown c3
                        have r3 := cell_regrown d1
                        have r4 := cell_regrown d2
                        have r5 := cell_regrown v0
                        have r6 := cell_regrown v1
                        have r7 := cell_regrown v2
                        have HQr := Lib.hid (fun d os => below_up HBk.out (below_regrown wr d os))
                        clear c1 c2 c3 d1 d2 v0 v1 v2 g3 g4
                        go_upto_region 20 with fail
                        refine wp_region_quiet_below (by kernel_rfl) (by kernel_rfl) ?_
                        repeat (first
                          | go_big_quiet_step (exact Calls.regrown_of (C.out _))
                          | quiet_step (exact Calls.regrown_of (C.out _)))
                        refine wpQuiet_nil ?_
                        intro _ hw'
                        obtain ⟨⟨dq, osq⟩, hw''⟩ := hw'
                        have HB2 := Lib.hid (HQr.out dq osq)
                        rw [← hw''] at HB2
                        clear hw'' r0 r1 r2 r3 r4 r5 r6 r7 HQr C
                        rename_i W5
                        cases t with
                        | true =>
                          have BF2 := Lib.hid (below_up BV.out (below_up B1.out (below_up HBb.out HB2.out)))
                          go_wp2_with fail
                          go_ret
                          exact ⟨rfl, BF2.out⟩
                        | false =>
                          have HK2 : Hid (i = i0 → k + 1 ≤ k0) := Lib.hid (fun h => by
                            have h1 := HK.out h
                            by_cases e : k = k0
                            · have := (HZ.out h e).2.2; cases this
                            · omega)
                          go_wp2_with fail
                          go_roundw
                          case rel => exact ⟨k + 1, by omega, by go_num, HB2, HK2⟩
                          case measure => simp [intOf]; omega
                      · have e4 : (z2 == q2) = false := by simp [g4]
                        have HK2 : Hid (i = i0 → k + 1 ≤ k0) := Lib.hid (fun h => by
                          have h1 := HK.out h
                          by_cases e : k = k0
                          · exact absurd (HZ.out h e).2.1.symm g4
                          · omega)
                        clear g3 g4 HZ C
                        go_upto_region 20 with fail
                        go_quiet (fail)
                        have HB2 := Lib.hid (show Below wb.heap.size wb (wr.drewN nq) from bdn HBk.out)
                        go_wp2_with fail
                        go_roundw
                        case rel => exact ⟨k + 1, by omega, by go_num, HB2, HK2⟩
                        case measure => simp [intOf]; omega
                    · have e3 : (z1 == q1) = false := by simp [g3]
                      have HK2 : Hid (i = i0 → k + 1 ≤ k0) := Lib.hid (fun h => by
                        have h1 := HK.out h
                        by_cases e : k = k0
                        · exact absurd (HZ.out h e).1.symm g3
                        · omega)
                      clear g3 HZ C
                      go_upto_region 20 with fail
                      go_quiet (fail)
                      have HB2 := Lib.hid (show Below wb.heap.size wb (wr.drewN nq) from bdn HBk.out)
                      go_wp2_with fail
                      go_roundw
                      case rel => exact ⟨k + 1, by omega, by go_num, HB2, HK2⟩
                      case measure => simp [intOf]; omega
                  · have hne : i + 1 ≤ i0 := by
                      have hh := HK.out
                      by_cases e : i = i0
                      · have := hh e; omega
                      · omega
                    have HBe := Lib.hid (below_up HBb.out HBk.out)
                    go_wp2_with fail
                    go_roundw
                    case rel => exact ⟨i + 1, hne, by go_num, HBe⟩
                    case measure => simp [intOf]; omega
              · have e2 : (q2 != x2) = true := by simp [g2]
                have hne : i + 1 ≤ i0 := by
                  have hh := HEq.out
                  have ho := HOr.out
                  by_cases e : i = i0
                  · obtain ⟨m1, m2⟩ := hh e
                    rw [← m1, ← m2] at ho
                    exact (ho.elim g1 g2).elim
                  · omega
                clear g1 g2
                go_upto_region 16 with fail
                go_quiet (fail)
                have HB2 := Lib.hid (show Below W1.heap.size W1 (wr.drewN nq) from bdn HB.out)
                go_wp2_with fail
                go_roundw
                case rel => exact ⟨i + 1, hne, by go_num, HB2⟩
                case measure => simp [intOf]; omega
    · go_enter Try.func5, Try.ntmps5
      go_wp2_with fail
      refine (C0.out _).mono ?_; rintro e W ⟨rfl, b⟩
      have B := Lib.hid b
      clear b C0
      go_wp2_with fail
      go_ret
      exact ⟨rfl, B.out⟩
  · go_enter Try.func5, Try.ntmps5
    go_wp2_with fail
    refine (C0.out _).mono ?_; rintro e W ⟨rfl, b⟩
    have B := Lib.hid b
    clear b C0
    go_wp2_with fail
    go_ret
    exact ⟨rfl, B.out⟩
end Go.Proofs.Ytfidddnagfbnhaa
