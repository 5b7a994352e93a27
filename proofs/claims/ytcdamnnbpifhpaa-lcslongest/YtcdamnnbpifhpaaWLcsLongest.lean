/-
  The walk of the statement LcsLongest.
  Conditions: none beyond the form of claims.
-/
import Derived.WalkKit
import Derived.WalkMore
import Derived.IntWalk
import Derived.Lib.Hide
import Derived.BigQuiet
import Derived.Deep.QuietTactic
import Derived.Test.YtcdamnnbpifhpaaProg
import Derived.Test.YtcdamnnbpifhpaaWLcsCommon
namespace Go.Proofs.Ytcdamnnbpifhpaa
open Go.RowKit Go.Shelf
set_option linter.unusedVariables false

theorem both_snoc (ts us : List Txt) (L : PL) (k s t : Nat) (x : Txt) (hp : L[k]? = some ((s : Int), (t : Int))) (h : ∀ p ∈ L.take k, InBoth ts us 0 0 p) (hs : ts[s]? = some x) (ht : us[t]? = some x) : ∀ p ∈ L.take (k + 1), InBoth ts us 0 0 p := fun p hpm => by
  obtain ⟨hk, e⟩ := List.getElem?_eq_some_iff.1 hp
  rw [List.take_succ_eq_append_getElem hk, e] at hpm
  rcases List.mem_append.1 hpm with h1 | h1
  · exact h p h1
  · simp at h1; subst h1
    exact ⟨s, t, x, rfl, Nat.zero_le _, Nat.zero_le _, hs, ht⟩
theorem str_ne (c d : ByteArray) (h : ¬ c = d) : (c.toList == d.toList) = false := by
  rw [beq_eq_false_iff_ne]
  intro e
  rw [ba_toList, ba_toList] at e
  exact h (ba_eq e)

set_option maxRecDepth 100000 in
set_option maxHeartbeats 8000000 in
theorem walkLcsLongest (ao : Option Addr) (ca : Nat) (xs : List ByteArray) (bo : Option Addr) (cb : Nat) (ys : List ByteArray) (lo : Option Addr) (lc : Nat) (L : PL) (w : World) (hA : StrArg w ao ca xs) (hB : StrArg w bo cb ys) (hL : PairsArg w lo lc L) :
    Calls Try.prog 5 #[.slice ao xs.length ca, .slice bo ys.length cb, .slice lo L.length lc] w fun e w' => e = .returned (.bool true) ∧ Below w.heap.size w w' := by
  have HA := Lib.hid hA
  have HB := Lib.hid hB
  have HL := Lib.hid hL
  have C0 := Lib.hid (lworks_any w)
  have CS := Lib.hid (fun W => small_any ao bo xs.length ys.length ca cb W)
  clear hA hB hL
  go_enter Try.func5, Try.ntmps5
  go_wp2_with fail
  refine C0.out.mono ?_; rintro e W ⟨rfl, b0⟩
  have B := Lib.hid b0
  clear b0 C0
  by_cases hsm : (decide (xs.length ≤ 60) && decide (ys.length ≤ 60)) = true
  · rw [hsm] at CS
    simp only [Bool.and_eq_true, decide_eq_true_eq] at hsm
    obtain ⟨h1, h2⟩ := hsm
    by_cases hl6 : 60 < L.length
    · go_wp2_with fail
      refine (CS.out W).mono ?_; rintro e W' ⟨rfl, rfl⟩
      go_wp2_with fail
      go_ret
      exact ⟨rfl, B.out⟩
    have C1 := Lib.hid (fun V (h : Below w.heap.size w V) => lcPairs_any ao bo ca cb xs ys V (by omega) (by omega) HA.out.max HB.out.max (HA.out.row.kept h) (HB.out.row.kept h))
    have C2 := Lib.hid (fun V (h : Below w.heap.size w V) => length_any ao bo ca cb xs ys V (by omega) (by omega) HA.out.max HB.out.max (HA.out.row.kept h) (HB.out.row.kept h))
    have hLn := way_len 0 0 (bytesOf xs) (bytesOf ys)
    have hL60 : (wayL 0 0 (bytesOf xs) (bytesOf ys)).length ≤ 60 := by rw [hLn]; have := (lcs_le (bytesOf xs) (bytesOf ys)).1; rw [bytes_len] at this; omega
    have HLe := Lib.hid (rows_le (bytesOf xs) (bytesOf ys) L 0 0)
    rw [List.drop_zero, List.drop_zero, ← hLn] at HLe
    rw [← hLn] at C2
    clear hLn
    generalize wayL 0 0 (bytesOf xs) (bytesOf ys) = R at C1 C2 hL60 HLe
    go_wp2_with fail
    refine (CS.out W).mono ?_; rintro e W' ⟨rfl, rfl⟩
    clear CS
    go_wp2_with fail
    go_loopw [8] (fun i wr => ∃ k : Nat, k ≤ L.length ∧ i = .int .i64 k ∧ Hid (Below w.heap.size w wr) ∧ Hid (∀ p ∈ L.take k, InBoth (bytesOf xs) (bytesOf ys) 0 0 p) ∧ Hid ((L.take k).Pairwise Ahead)) (fun i _ => L.length - (intOf i).toNat)
    case atStart => exact ⟨0, Nat.zero_le _, rfl, B, Lib.hid (by simp), Lib.hid (by simp)⟩
    case round =>
      obtain ⟨k, hk, rfl, HW, HI, HP⟩ := hrel
      clear B
      by_cases hlt : k < L.length
      · obtain ⟨⟨p1, p2⟩, hp⟩ : ∃ p, L[k]? = some p := ⟨_, List.getElem?_eq_getElem hlt⟩
        obtain ⟨lb, l0, rfl, z1, z2⟩ := pair_at (HL.out.pairs.kept HW.out) k _ hp
        dsimp only at z1 z2
        have HPk := Lib.hid hp
        obtain ⟨V, HV⟩ : ∃ V, Hid (V = wr.alloc (.cells #[.int .i64 p1, .int .i64 p2] 30)) := ⟨_, Lib.hid rfl⟩
        have hbV : Below wr.heap.size wr V := by rw [HV.out]; exact (Below.refl _ wr).alloc (Nat.le_refl _) _
        have hVh : V.heap[wr.heap.size]? = some (.cells #[.int .i64 p1, .int .i64 p2] 30 (0, 0)) := by rw [HV.out]; exact World.alloc_heap_new _ _
        have v0 : V.cell? ⟨wr.heap.size, 0, none⟩ = some (.int .i64 p1) := (Lib.cell_of_heap hVh 0).trans rfl
        have v1 : V.cell? ⟨wr.heap.size, 1, none⟩ = some (.int .i64 p2) := (Lib.cell_of_heap hVh 1).trans rfl
        have HBV := Lib.hid (below_up HW.out hbV)
        clear hp hbV hVh
        by_cases c1 : p1 < 0
        · have n1 : decide (p1 < 0) = true := decide_eq_true c1
          clear c1
          go_upto_region 10 with fail
          rw [← HV.out]
          go_quiet (fail)
          have HB4 : Hid (Below w.heap.size w (V.drewN nq)) := Lib.hid (bdn HBV.out)
          go_wp2_with fail
          go_ret
          exact ⟨rfl, HB4.out⟩
        obtain ⟨s, rfl⟩ := Int.eq_ofNat_of_zero_le (show 0 ≤ p1 by omega)
        have n1 : decide ((s : Int) < 0) = false := decide_eq_false (by omega)
        clear c1
        by_cases c2 : xs.length ≤ s
        · have n2 : decide (xs.length ≤ s) = true := decide_eq_true c2
          go_upto_region 10 with fail
          rw [← HV.out]
          go_quiet (fail)
          have HB4 : Hid (Below w.heap.size w (V.drewN nq)) := Lib.hid (bdn HBV.out)
          go_wp2_with fail
          go_ret
          exact ⟨rfl, HB4.out⟩
        have n2 : decide (xs.length ≤ s) = false := decide_eq_false c2
        by_cases c3 : p2 < 0
        · have n3 : decide (p2 < 0) = true := decide_eq_true c3
          go_upto_region 10 with fail
          rw [← HV.out]
          go_quiet (fail)
          have HB4 : Hid (Below w.heap.size w (V.drewN nq)) := Lib.hid (bdn HBV.out)
          go_wp2_with fail
          go_ret
          exact ⟨rfl, HB4.out⟩
        obtain ⟨t, rfl⟩ := Int.eq_ofNat_of_zero_le (show 0 ≤ p2 by omega)
        have n3 : decide ((t : Int) < 0) = false := decide_eq_false (by omega)
        clear c3
        by_cases c4 : ys.length ≤ t
        · have n4 : decide (ys.length ≤ t) = true := decide_eq_true c4
          go_upto_region 10 with fail
          rw [← HV.out]
          go_quiet (fail)
          have HB4 : Hid (Below w.heap.size w (V.drewN nq)) := Lib.hid (bdn HBV.out)
          go_wp2_with fail
          go_ret
          exact ⟨rfl, HB4.out⟩
        have n4 : decide (ys.length ≤ t) = false := decide_eq_false c4
        have hsl : s < xs.length := by omega
        have htl : t < ys.length := by omega
        obtain ⟨c, hc⟩ : ∃ c, xs[s]? = some c := ⟨_, List.getElem?_eq_getElem hsl⟩
        obtain ⟨d, hd⟩ : ∃ d, ys[t]? = some d := ⟨_, List.getElem?_eq_getElem htl⟩
        obtain ⟨A1, rfl, a1⟩ := str_at (HA.out.row.kept HBV.out) s _ hc
        obtain ⟨A2, rfl, a2⟩ := str_at (HB.out.row.kept HBV.out) t _ hd
        have HX1 := Lib.hid (bytes_at xs s c hc)
        have HX2 := Lib.hid (bytes_at ys t d hd)
        clear hc hd c2 c4
        by_cases c5 : c = d
        · subst c5
          have HI2 := Lib.hid (both_snoc (bytesOf xs) (bytesOf ys) L k s t _ HPk.out HI.out HX1.out HX2.out)
          go_upto_region 10 with fail
          rw [← HV.out]
          go_quiet (fail)
          obtain ⟨V3, HV3⟩ : ∃ V3, Hid (V3 = V.drewN nq) := ⟨_, Lib.hid rfl⟩
          rw [← HV3.out]
          have HB3 : Hid (Below w.heap.size w V3) := Lib.hid (by rw [HV3.out]; exact bdn HBV.out)
          have y0 : V3.cell? ⟨wr.heap.size, 0, none⟩ = some (.int .i64 (s : Int)) := by rw [HV3.out]; exact v0
          have y1 : V3.cell? ⟨wr.heap.size, 1, none⟩ = some (.int .i64 (t : Int)) := by rw [HV3.out]; exact v1
          clear a1 a2 n1 n2 n3 n4 v0 v1 z1 z2 HV3 HBV HV HX1 HX2
          by_cases hk0 : k = 0
          · have hkz : decide (0 < k) = false := decide_eq_false (by omega)
            have HP2 := Lib.hid (ahead_next L k _ HPk.out HP.out (.inl hk0))
            clear hk0
            go_upto_region 12 with fail
            go_quiet (fail)
            have HB4 : Hid (Below w.heap.size w (V3.drewN nq)) := Lib.hid (bdn HB3.out)
            go_wp2_with fail
            go_roundw
            case rel => exact ⟨k + 1, by omega, by go_num, HB4, HI2, HP2⟩
            case measure => simp [intOf]; omega
          · obtain ⟨m, hm⟩ : ∃ m, k = m + 1 := ⟨k - 1, by omega⟩
            obtain ⟨q, hq⟩ : ∃ q, L[m]? = some q := ⟨_, List.getElem?_eq_getElem (by omega)⟩
            obtain ⟨s', t', tx', rfl, -, -, -, -⟩ := HI.out q (by
              obtain ⟨h1, e⟩ := List.getElem?_eq_some_iff.1 hq
              rw [← e, List.mem_iff_getElem]
              exact ⟨m, by rw [List.length_take]; omega, by rw [List.getElem_take]⟩)
            obtain ⟨lb', l0', e1, z1, z2⟩ := pair_at (HL.out.pairs.kept HB3.out) m _ hq
            cases e1
            dsimp only at z1 z2
            have HP2 : Hid (s' < s ∧ t' < t → (L.take (k + 1)).Pairwise Ahead) := Lib.hid (fun h => ahead_next L k _ HPk.out HP.out (.inr ⟨_, by rw [hm, Nat.add_sub_cancel]; exact hq, ⟨by simp only; omega, by simp only; omega⟩⟩))
            have hsub : (k : Int) - 1 = (m : Int) := by omega
            have hwr : IntKind.i64.wrap ((k : Int) - 1) = (m : Int) := by rw [IntWalk.i64_in _ (by omega)]; exact hsub
            have hwm : IntKind.i64.wrap (m : Int) = (m : Int) := IntWalk.i64_in _ (by omega)
            have hkp : decide (0 < k) = true := decide_eq_true (by omega)
            have hml : m < L.length := by omega
            clear hq hm hk0
            by_cases d1 : s ≤ s'
            · have n5 : decide (s ≤ s') = true := decide_eq_true d1
              go_upto_region 12 with fail
              go_quiet (fail)
              have HB4 : Hid (Below w.heap.size w (V3.drewN nq)) := Lib.hid (bdn HB3.out)
              go_wp2_with fail
              go_ret
              exact ⟨rfl, HB4.out⟩
            have n5 : decide (s ≤ s') = false := decide_eq_false d1
            by_cases d2 : t ≤ t'
            · have n6 : decide (t ≤ t') = true := decide_eq_true d2
              clear d1
              go_upto_region 12 with fail
              go_quiet (fail)
              have HB4 : Hid (Below w.heap.size w (V3.drewN nq)) := Lib.hid (bdn HB3.out)
              go_wp2_with fail
              go_ret
              exact ⟨rfl, HB4.out⟩
            have n6 : decide (t ≤ t') = false := decide_eq_false d2
            have HP3 := Lib.hid (HP2.out ⟨by omega, by omega⟩)
            clear d1 d2 HP2
            go_upto_region 12 with fail
            go_quiet (fail)
            have HB4 : Hid (Below w.heap.size w (V3.drewN nq)) := Lib.hid (bdn HB3.out)
            go_wp2_with fail
            go_roundw
            case rel => exact ⟨k + 1, by omega, by go_num, HB4, HI2, HP3⟩
            case measure => simp [intOf]; omega
        · have n5 := str_ne c d c5
          clear c5
          go_upto_region 10 with fail
          rw [← HV.out]
          go_quiet (fail)
          have HB4 : Hid (Below w.heap.size w (V.drewN nq)) := Lib.hid (bdn HBV.out)
          go_wp2_with fail
          go_ret
          exact ⟨rfl, HB4.out⟩
      · obtain rfl : k = L.length := by omega
        have hle : L.length ≤ R.length := HLe.out (by have := HI.out; rwa [List.take_length] at this) (by have := HP.out; rwa [List.take_length] at this)
        have n1 : decide (L.length ≤ R.length) = true := decide_eq_true hle
        go_wp2_with fail
        refine (C2.out wr HW.out).mono ?_; rintro e W2 ⟨rfl, b2⟩
        have B2 := Lib.hid (below_up HW.out b2)
        clear b2
        go_wp2_with fail
        refine (C1.out W2 B2.out).mono ?_; rintro e W3 ⟨ro, rc, rfl, -, -, -, b3⟩
        have B3 := Lib.hid (below_up B2.out b3)
        clear b3
        go_wp2_with fail
        go_ret
        exact ⟨rfl, B3.out⟩
  · have hsm' : (decide (xs.length ≤ 60) && decide (ys.length ≤ 60)) = false := by simpa using hsm
    rw [hsm'] at CS
    clear hsm hsm'
    go_wp2_with fail
    refine (CS.out W).mono ?_; rintro e W' ⟨rfl, rfl⟩
    go_wp2_with fail
    go_ret
    exact ⟨rfl, B.out⟩
end Go.Proofs.Ytcdamnnbpifhpaa
