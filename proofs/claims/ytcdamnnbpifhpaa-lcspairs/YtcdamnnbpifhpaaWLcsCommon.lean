/-
  The walk of the statement LcsCommon.
  Conditions: none beyond the form of claims.
-/
import Derived.WalkKit
import Derived.WalkMore
import Derived.IntWalk
import Derived.Lib.Hide
import Derived.BigQuiet
import Derived.Deep.QuietTactic
import Derived.Test.YtcdamnnbpifhpaaProg
import Derived.Test.YtcdamnnbpifhpaaPOpen
import Derived.Test.YtcdamnnbpifhpaaTOpen
import Derived.Test.YtcdamnnbpifhpaaLcWorks
namespace Go.Proofs.Ytcdamnnbpifhpaa
open Go.RowKit Go.Shelf
set_option linter.unusedVariables false

theorem str_at {w : World} {ao : Option Addr} {xs : List ByteArray} (h : StrRow w ao xs) (i : Nat) (c : ByteArray) (hc : xs[i]? = some c) : ∃ A, ao = some A ∧ w.cell? (A.add i) = some (.string c) := by
  rcases h with h | ⟨A, h1, _, h3⟩
  · subst h; simp at hc
  · exact ⟨A, h1, h3 i c hc⟩
theorem pair_at {w : World} {ao : Option Addr} {l : PL} (h : PairsAt w ao l) (i : Nat) (p : Int × Int) (hp : l[i]? = some p) : ∃ b o, ao = some ⟨b, o, none⟩ ∧ w.cell? ⟨b, o + i * 2, none⟩ = some (.int .i64 p.1) ∧ w.cell? ⟨b, o + i * 2 + 1, none⟩ = some (.int .i64 p.2) := by
  rcases h with h | ⟨b, o, h1, _, h3⟩
  · subst h; simp at hp
  · exact ⟨b, o, h1, h3 i p hp⟩
theorem bytes_get (xs : List ByteArray) (k : Nat) (t : Txt) (h : (bytesOf xs)[k]? = some t) : ∃ c, xs[k]? = some c ∧ c.data.toList = t := by
  unfold bytesOf at h
  rw [List.getElem?_map] at h
  obtain ⟨c, h1, h2⟩ := Option.map_eq_some_iff.1 h
  exact ⟨c, h1, h2⟩
theorem StrArg.max {w : World} {ao : Option Addr} {cap : Nat} {xs : List ByteArray} (h : StrArg w ao cap xs) : ∀ c ∈ xs, c.size ≤ maxLen := fun c hc => by
  have := h.size c hc
  unfold maxLen; omega

set_option maxRecDepth 100000 in
set_option maxHeartbeats 8000000 in
theorem walkLcsCommon (ao : Option Addr) (ca : Nat) (xs : List ByteArray) (bo : Option Addr) (cb : Nat) (ys : List ByteArray) (w : World) (hA : StrArg w ao ca xs) (hB : StrArg w bo cb ys) :
    Calls Try.prog 4 #[.slice ao xs.length ca, .slice bo ys.length cb] w fun e w' => e = .returned (.bool true) ∧ Below w.heap.size w w' := by
  have HA := Lib.hid hA
  have HB := Lib.hid hB
  have C0 := Lib.hid (lworks_any w)
  have CS := Lib.hid (fun W => small_any ao bo xs.length ys.length ca cb W)
  clear hA hB
  go_enter Try.func4, Try.ntmps4
  go_wp2_with fail
  refine C0.out.mono ?_; rintro e W ⟨rfl, b0⟩
  have B := Lib.hid b0
  clear b0 C0
  by_cases hsm : (decide (xs.length ≤ 60) && decide (ys.length ≤ 60)) = true
  · rw [hsm] at CS
    simp only [Bool.and_eq_true, decide_eq_true_eq] at hsm
    obtain ⟨h1, h2⟩ := hsm
    have C1 := Lib.hid (fun V (h : Below w.heap.size w V) => lcPairs_any ao bo ca cb xs ys V (by omega) (by omega) HA.out.max HB.out.max (HA.out.row.kept h) (HB.out.row.kept h))
    have C2 := Lib.hid (fun V (h : Below w.heap.size w V) => length_any ao bo ca cb xs ys V (by omega) (by omega) HA.out.max HB.out.max (HA.out.row.kept h) (HB.out.row.kept h))
    have hLn := way_len 0 0 (bytesOf xs) (bytesOf ys)
    rw [← hLn] at C2
    have hL60 : (wayL 0 0 (bytesOf xs) (bytesOf ys)).length ≤ 60 := by rw [hLn]; have := (lcs_le (bytesOf xs) (bytesOf ys)).1; rw [bytes_len] at this; omega
    have HIn := Lib.hid (fun p (h : p ∈ wayL 0 0 (bytesOf xs) (bytesOf ys)) => way_both_in (bytesOf xs) (bytesOf ys) p h)
    have HAh := Lib.hid (fun k p q => ahead_of (wayL 0 0 (bytesOf xs) (bytesOf ys)) k p q (way_in 0 0 (bytesOf xs) (bytesOf ys)).2)
    clear hLn
    generalize wayL 0 0 (bytesOf xs) (bytesOf ys) = L at C1 C2 hL60 HIn HAh
    go_wp2_with fail
    refine (CS.out W).mono ?_; rintro e W' ⟨rfl, rfl⟩
    go_wp2_with fail
    refine (C1.out W' B.out).mono ?_; rintro e W1 ⟨lo, lc, rfl, i1, -, -, b1⟩
    have B1 := Lib.hid (below_up B.out b1)
    have I1 := Lib.hid i1
    clear b1 i1 C1 CS B
    go_wp2_with fail
    go_loopw [7] (fun i wr => ∃ k : Nat, k ≤ L.length ∧ i = .int .i64 k ∧ Hid (Below W1.heap.size W1 wr)) (fun i _ => L.length - (intOf i).toNat)
    case atStart => exact ⟨0, Nat.zero_le _, rfl, Lib.hid (Below.refl _ _)⟩
    case round =>
      obtain ⟨k, hk, rfl, HW⟩ := hrel
      have BW := Lib.hid (below_up B1.out HW.out)
      by_cases hlt : k < L.length
      · obtain ⟨p, hp⟩ : ∃ p, L[k]? = some p := ⟨_, List.getElem?_eq_getElem hlt⟩
        obtain ⟨s, t, tx, rfl, -, -, hs, ht⟩ := HIn.out p (List.mem_of_getElem? hp)
        obtain ⟨c, hc, ec⟩ := bytes_get xs s tx hs
        obtain ⟨d, hd, ed⟩ := bytes_get ys t tx ht
        obtain rfl : d = c := ba_eq (ed.trans ec.symm)
        have hsl : s < xs.length := (List.getElem?_eq_some_iff.1 hc).1
        have htl : t < ys.length := (List.getElem?_eq_some_iff.1 hd).1
        obtain ⟨V, HV⟩ : ∃ V, Hid (V = wr.alloc (.cells #[.int .i64 (s : Int), .int .i64 (t : Int)] 30)) := ⟨_, Lib.hid rfl⟩
        have hbV : Below wr.heap.size wr V := by rw [HV.out]; exact (Below.refl _ wr).alloc (Nat.le_refl _) _
        have hVh : V.heap[wr.heap.size]? = some (.cells #[.int .i64 (s : Int), .int .i64 (t : Int)] 30 (0, 0)) := by rw [HV.out]; exact World.alloc_heap_new _ _
        have v0 : V.cell? ⟨wr.heap.size, 0, none⟩ = some (.int .i64 (s : Int)) := (Lib.cell_of_heap hVh 0).trans rfl
        have v1 : V.cell? ⟨wr.heap.size, 1, none⟩ = some (.int .i64 (t : Int)) := (Lib.cell_of_heap hVh 1).trans rfl
        obtain ⟨lb, l0, rfl, z1, z2⟩ := pair_at (I1.out.kept HW.out) k _ hp
        obtain ⟨A1, rfl, a1⟩ := str_at (HA.out.row.kept (below_up BW.out hbV)) s _ hc
        obtain ⟨A2, rfl, a2⟩ := str_at (HB.out.row.kept (below_up BW.out hbV)) t _ hd
        dsimp only at z1 z2
        have HBV := Lib.hid (below_up HW.out hbV)
        have n1 : decide ((s : Int) < 0) = false := decide_eq_false (by omega)
        have n2 : decide (xs.length ≤ s) = false := decide_eq_false (by omega)
        have n3 : decide ((t : Int) < 0) = false := decide_eq_false (by omega)
        have n4 : decide (ys.length ≤ t) = false := decide_eq_false (by omega)
        have HP := Lib.hid hp
        clear hs ht hc hd ec ed hbV hp
        go_upto_region 11 with fail
        rw [← HV.out]
        go_quiet (fail)
        obtain ⟨V3, HV3⟩ : ∃ V3, Hid (V3 = V.drewN nq) := ⟨_, Lib.hid rfl⟩
        rw [← HV3.out]
        have HB3 : Hid (Below W1.heap.size W1 V3) := Lib.hid (by rw [HV3.out]; exact bdn HBV.out)
        have y0 : V3.cell? ⟨wr.heap.size, 0, none⟩ = some (.int .i64 (s : Int)) := by rw [HV3.out]; exact v0
        have y1 : V3.cell? ⟨wr.heap.size, 1, none⟩ = some (.int .i64 (t : Int)) := by rw [HV3.out]; exact v1
        clear a1 a2 n1 n2 n3 n4 v0 v1 z1 z2 hVh HV3 HBV HV
        by_cases hk0 : k = 0
        · have hkz : decide (0 < k) = false := decide_eq_false (by omega)
          clear hk0
          go_upto_region 13 with fail
          go_quiet (fail)
          have HB4 : Hid (Below W1.heap.size W1 (V3.drewN nq)) := Lib.hid (bdn HB3.out)
          go_wp2_with fail
          go_roundw
          case rel => exact ⟨k + 1, by omega, by go_num, HB4⟩
          case measure => simp [intOf]; omega
        · obtain ⟨m, hm⟩ : ∃ m, k = m + 1 := ⟨k - 1, by omega⟩
          obtain ⟨q, hq⟩ : ∃ q, L[m]? = some q := ⟨_, List.getElem?_eq_getElem (by omega)⟩
          obtain ⟨s', t', tx', rfl, -, -, -, -⟩ := HIn.out q (List.mem_of_getElem? hq)
          obtain ⟨f1, f2⟩ := HAh.out m _ _ hq (by rw [← hm]; exact HP.out)
          dsimp only at f1 f2
          obtain ⟨lb', l0', e1, z1, z2⟩ := pair_at (I1.out.kept HB3.out) m _ hq
          cases e1
          dsimp only at z1 z2
          have hsub : (k : Int) - 1 = (m : Int) := by omega
          have hwr : IntKind.i64.wrap ((k : Int) - 1) = (m : Int) := by rw [IntWalk.i64_in _ (by omega)]; exact hsub
          have hwm : IntKind.i64.wrap (m : Int) = (m : Int) := IntWalk.i64_in _ (by omega)
          have hkp : decide (0 < k) = true := decide_eq_true (by omega)
          have n5 : decide (s ≤ s') = false := decide_eq_false (by omega)
          have n6 : decide (t ≤ t') = false := decide_eq_false (by omega)
          have hml : m < L.length := by omega
          clear hq f1 f2 hm hk0
          go_upto_region 13 with fail
          go_quiet (fail)
          have HB4 : Hid (Below W1.heap.size W1 (V3.drewN nq)) := Lib.hid (bdn HB3.out)
          go_wp2_with fail
          go_roundw
          case rel => exact ⟨k + 1, by omega, by go_num, HB4⟩
          case measure => simp [intOf]; omega
      · obtain rfl : k = L.length := by omega
        go_wp2_with fail
        refine (C2.out wr BW.out).mono ?_; rintro e W2 ⟨rfl, b2⟩
        have B2 := Lib.hid (below_up BW.out b2)
        clear b2
        go_wp2_with fail
        go_ret
        exact ⟨rfl, B2.out⟩
  · have hsm' : (decide (xs.length ≤ 60) && decide (ys.length ≤ 60)) = false := by simpa using hsm
    rw [hsm'] at CS
    clear hsm hsm'
    go_wp2_with fail
    refine (CS.out W).mono ?_; rintro e W' ⟨rfl, rfl⟩
    go_wp2_with fail
    go_ret
    exact ⟨rfl, B.out⟩
end Go.Proofs.Ytcdamnnbpifhpaa
