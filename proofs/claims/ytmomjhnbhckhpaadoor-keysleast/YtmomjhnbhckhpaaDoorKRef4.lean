/-
  The reference: whether names are a key.
  Conditions: at most 2^30 tables, each with at most 2^40 names and rows; at most 2^20 names, with room for as many.
-/
import Derived.Deep.OwnRows
import Derived.Deep.RegionHeld3
import Derived.WalkKit
import Derived.WalkMore
import Derived.IntWalk
import Derived.WalkArith
import Derived.OwnWalk
import Derived.Lib.Hide
import Derived.Test.YtmomjhnbhckhpaaDoorProg
import Derived.Test.YtmomjhnbhckhpaaDoorKRef3
namespace Go.Proofs.YtmomjhnbhckhpaaDoor
open Go.RowKit Go.Shelf Go.Deep
set_option linter.unusedVariables false

set_option maxRecDepth 100000 in
set_option maxHeartbeats 4000000 in
theorem rusable_any (lo : Option Addr) (lc : Nat) (ts : List Tab) (no : Option Addr) (nc : Nat) (names : List ByteArray) (w : World) (hts : ts.length ≤ 1073741824) (hn : names.length ≤ 1048576) (hcap : names.length ≤ nc)
    (hT : ∀ t ∈ ts, t.1.length ≤ 1099511627776 ∧ t.2.length ≤ 1099511627776) (hL : TabsAt w lo ts) (hR : StrRow w no names) :
    Calls Tryd.prog 21 #[.slice lo ts.length lc, .slice no names.length nc] w fun e w' => e = .returned (.bool (usableC ts names)) ∧ Below w.heap.size w w' := by
  have HTo := Lib.hid hT
  have HLo := Lib.hid hL
  have HRo := Lib.hid hR
  have HTw := Lib.hid (usable_twice ts names)
  have HOu := Lib.hid (usable_out ts names)
  have HSa := Lib.hid (usable_same ts names)
  have HYe := Lib.hid (usable_yes ts names)
  have CI := Lib.hid (fun (k : Nat) (x : ByteArray) V (hk : k < names.length) (h : StrRow V no names) => rinK_any no nc k (names.take k) x V (by simp; omega) (by omega) (row_take h k))
  have CP := Lib.hid (fun (ho : Option Addr) (hc : Nat) (hd : List ByteArray) (ro : Option Addr) (rn rc : Nat) V (h1 : hd.length ≤ 1099511627776) (h2 : StrRow V ho hd) (h : StrRow V no names) => rplaces_any ho hc hd ro rn rc no nc names V h1 (by omega) h2 h)
  have CU := Lib.hid (fun (ho : Option Addr) (m hc : Nat) (ro : Option Addr) (rc : Nat) (rs : List (List ByteArray)) (co : Option Addr) (cc : Nat) (hd : List ByteArray) V (h1 : m ≤ 1099511627776) (h2 : rs.length ≤ 1099511627776) (h3 : RowsAt V ro rs) (h4 : IntsAt V co (names.map (findL hd))) => (by
    have := runique_any ho m hc ro rc rs co cc (names.map (findL hd)) V h1 h2 (by simp; omega) h3 h4
    rw [List.length_map] at this
    exact this : Calls Tryd.prog 47 #[.agg #[.slice ho m hc, .slice ro rs.length rc], .slice co names.length cc] V fun e w' => e = .returned (.bool (uniqL m rs (names.map (findL hd)))) ∧ Below V.heap.size V w'))
  generalize usableC ts names = F at HTw HOu HSa HYe ⊢
  clear hT hL hR
  go_enter Tryd.func21, Tryd.ntmps21
  go_wp2_with fail
  go_loopw [5] (fun i wr => ∃ k : Nat, k ≤ names.length ∧ i = .int .i64 k ∧ Hid (Below w.heap.size w wr) ∧ Hid (∀ (j : Nat) x, j < k → names[j]? = some x → ¬ x ∈ names.take j)) (fun i _ => names.length - (intOf i).toNat)
  case atStart => exact ⟨0, Nat.zero_le _, rfl, Lib.hid (Below.refl _ _), Lib.hid (fun j x h => by omega)⟩
  case round =>
    obtain ⟨k, hk, rfl, HB, HA⟩ := hrel
    by_cases hlt : k < names.length
    · obtain ⟨x, hx⟩ : ∃ x, names[k]? = some x := ⟨_, List.getElem?_eq_getElem hlt⟩
      have HX := Lib.hid hx
      have C1 := Lib.hid (CI.out k x wr.drew hlt (HRo.out.kept HB.out.drew))
      rcases (HRo.out.kept HB.out) with h0 | ⟨A, rfl, hA, hcell⟩
      · rw [h0] at hlt; simp at hlt
      have ca := hcell k x hx
      have hkc : k ≤ nc := by omega
      have T1 := Lib.hid (HTw.out k x hx)
      clear hcell hx
      cases hm : decide (x.data.toList ∈ bytesOf (names.take k)) with
      | true =>
        rw [hm] at C1
        have E := Lib.hid (T1.out ((mem_bytes _ _).1 (of_decide_eq_true hm)))
        clear hm
        go_upto_region 4 with fail
        go_region_held3 (fun V => V.cell? (A.add k) = some (.string x)) (first | assumption | go_keep)
          (first | (go_at_call 45; refine C1.out.mono ?_; rintro e w2 ⟨rfl, rfl⟩; have B2 := Lib.hid (HB.out.drew)))
        all_goals (go_wp2_with fail; go_ret; exact ⟨by rw [E.out]; rfl, B2.out⟩)
      | false =>
        rw [hm] at C1
        have HA' : Hid (∀ (j : Nat) x, j < k + 1 → names[j]? = some x → ¬ x ∈ names.take j) := Lib.hid (fun j y hj hy hin => by
          by_cases e : j = k
          · subst e; rw [HX.out] at hy; cases hy
            exact of_decide_eq_false hm ((mem_bytes _ _).2 hin)
          · exact HA.out j y (by omega) hy hin)
        clear hm
        go_upto_region 4 with fail
        go_region_held3 (fun V => V.cell? (A.add k) = some (.string x)) (first | assumption | go_keep)
          (first | (go_at_call 45; refine C1.out.mono ?_; rintro e w2 ⟨rfl, rfl⟩; have B2 := Lib.hid (HB.out.drew)))
        all_goals (go_wp2_with fail; go_roundw)
        all_goals first
          | exact ⟨k + 1, by omega, by go_num, B2, HA'⟩
          | (simp [intOf]; omega)
    · have HY1 := Lib.hid (HYe.out (fun j x hx => HA.out j x (by have := (List.getElem?_eq_some_iff.1 hx).1; omega) hx))
      have HBs := HB
      clear HB HA HYe HTw CI
      go_wp2_with fail
      go_loopw [6] (fun i wr => ∃ k : Nat, k ≤ ts.length ∧ i = .int .i64 k ∧ Hid (Below w.heap.size w wr) ∧ Hid (∀ (i : Nat) t, i < k → ts[i]? = some t → inAll t.1 names = true ∧ uniqL t.1.length t.2 (names.map (findL t.1)) = true)) (fun i _ => ts.length - (intOf i).toNat)
      case atStart => exact ⟨0, Nat.zero_le _, rfl, HBs, Lib.hid (fun i t h => by omega)⟩
      case round =>
        obtain ⟨j, hj, rfl, HB, HA⟩ := hrel
        clear HBs
        by_cases hlt2 : j < ts.length
        · obtain ⟨t, ht⟩ : ∃ t, ts[j]? = some t := ⟨_, List.getElem?_eq_getElem hlt2⟩
          have HTk := Lib.hid ht
          rcases HLo.out with h0 | ⟨tb, tof, rfl, hA, hcell⟩
          · rw [h0] at hlt2; simp at hlt2
          obtain ⟨ho, hc, ro, rc, q1, q2, hhead, hrows⟩ := hcell j t ht
          have HC : Hid (∀ V, Below w.heap.size w V → V.cell? ⟨tb, tof + j * 2, none⟩ = some (.slice ho t.1.length hc) ∧ V.cell? ⟨tb, tof + j * 2 + 1, none⟩ = some (.slice ro t.2.length rc)) := Lib.hid (fun V h => ⟨(h.cell (p := ⟨tb, _, none⟩) hA).trans q1, (h.cell (p := ⟨tb, _, none⟩) hA).trans q2⟩)
          obtain ⟨t1, t2⟩ := HTo.out t (List.mem_of_getElem? ht)
          have HHd := Lib.hid hhead
          have HRw := Lib.hid hrows
          have C1 := Lib.hid (CP.out ho hc t.1 ro t.2.length rc wr t1 (hhead.kept HB.out) (HRo.out.kept HB.out))
          have HO1 := Lib.hid (HOu.out j t ht)
          have HS1 := Lib.hid (HSa.out j t ht)
          unfold PlacesR at C1
          obtain ⟨c1, c2⟩ := HC.out wr HB.out
          clear hcell hhead hrows q1 q2 ht
          go_wp2_with fail
          refine C1.out.mono ?_; clear C1
          rintro e w2 (⟨hin, co, cc, rfl, hI, b2⟩ | ⟨hin, rfl, b2⟩)
          · have B2 := Lib.hid (below_up HB.out b2)
            have C2 := Lib.hid (CU.out ho t.1.length hc ro rc t.2 co cc t.1 w2 t1 t2 (HRw.out.kept B2.out) hI)
            clear b2 c1 c2 hI
            obtain ⟨c1, c2⟩ := HC.out w2 B2.out
            cases hu : uniqL t.1.length t.2 (names.map (findL t.1)) with
            | false =>
              rw [hu] at C2
              have E := Lib.hid (HS1.out hu)
              clear hu hin
              go_wp2_with fail
              refine C2.out.mono ?_; rintro e w3 ⟨rfl, b3⟩
              have B3 := Lib.hid (below_up B2.out b3)
              clear b3
              go_wp2_with fail
              go_ret
              exact ⟨by rw [E.out]; rfl, B3.out⟩
            | true =>
              rw [hu] at C2
              have HA' : Hid (∀ (i : Nat) t, i < j + 1 → ts[i]? = some t → inAll t.1 names = true ∧ uniqL t.1.length t.2 (names.map (findL t.1)) = true) := Lib.hid (fun i t' hi ht' => by
                by_cases e : i = j
                · subst e; rw [HTk.out] at ht'; cases ht'; exact ⟨hin, hu⟩
                · exact HA.out i t' (by omega) ht')
              clear hu hin
              go_wp2_with fail
              refine C2.out.mono ?_; rintro e w3 ⟨rfl, b3⟩
              have B3 := Lib.hid (below_up B2.out b3)
              clear b3
              go_wp2_with fail
              go_roundw
              case rel => exact ⟨j + 1, by omega, by go_num, B3, HA'⟩
              case measure => simp [intOf]; omega
          · have B2 := Lib.hid (below_up HB.out b2)
            have E := Lib.hid (HO1.out hin)
            clear b2 c1 c2 hin
            go_wp2_with fail
            go_ret
            exact ⟨by rw [E.out]; rfl, B2.out⟩
        · obtain rfl : j = ts.length := by omega
          have E := Lib.hid (HY1.out (fun i t ht => HA.out i t (by have := (List.getElem?_eq_some_iff.1 ht).1; omega) ht))
          go_wp2_with fail
          go_ret
          exact ⟨by rw [E.out]; rfl, HB.out⟩
end Go.Proofs.YtmomjhnbhckhpaaDoor
