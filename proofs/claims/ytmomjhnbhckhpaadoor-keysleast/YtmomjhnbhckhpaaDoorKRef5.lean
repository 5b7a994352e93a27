/-
  The reference: names that all tables have.
  Conditions: at most 2^30 tables, each with at most 2^40 names; at most 2^20 names.
-/
import Derived.Deep.OwnRows
import Derived.Deep.RegionHeld3
import Derived.Deep.QuietTactic
import Derived.BigQuiet
import Derived.WalkKit
import Derived.WalkMore
import Derived.IntWalk
import Derived.WalkArith
import Derived.OwnWalk
import Derived.Lib.Hide
import Derived.Test.YtmomjhnbhckhpaaDoorProg
import Derived.Test.YtmomjhnbhckhpaaDoorKRef4
import Derived.Test.YtmomjhnbhckhpaaDoorKInfer
namespace Go.Proofs.YtmomjhnbhckhpaaDoor
open Go.RowKit Go.Shelf Go.Deep
set_option linter.unusedVariables false

def hasAll (ts : List Tab) (s : ByteArray) : Bool := ts.all fun t => decide (0 ≤ findL t.1 s)
def candR (ts : List Tab) (names : List ByteArray) : List ByteArray := (onceL names).filter (hasAll ts)
theorem candR_is (ts : List Tab) (names : List ByteArray) : candsL ts names = (candR ts names).map fun s => (s, ts.map fun t => findL t.1 s) := cands_is ts names
theorem candR_step (ts : List Tab) (names : List ByteArray) (k : Nat) (x : ByteArray) (hx : names[k]? = some x) :
    candR ts (names.take (k + 1)) = if (!decide (x.data.toList ∈ bytesOf (candR ts (names.take k))) && hasAll ts x) = true then candR ts (names.take k) ++ [x] else candR ts (names.take k) := by
  obtain ⟨hk, e⟩ := List.getElem?_eq_some_iff.1 hx
  have h1 : names.take (k + 1) = names.take k ++ [x] := by rw [List.take_succ_eq_append_getElem hk, e]
  rw [h1]
  unfold candR
  rw [once_snoc]
  by_cases hp : hasAll ts x = true
  · by_cases hm : x ∈ onceL (names.take k)
    · rw [if_pos ((mem_bytes _ _).2 hm), if_neg]
      rw [decide_eq_true ((mem_bytes _ _).2 (List.mem_filter.2 ⟨hm, hp⟩))]
      simp
    · rw [if_neg (fun h => hm ((mem_bytes _ _).1 h)), if_pos]
      · rw [List.filter_append]; simp [hp]
      · rw [decide_eq_false (fun h => hm (List.mem_filter.1 ((mem_bytes _ _).1 h)).1), hp]; rfl
  · have hp' : hasAll ts x = false := by simpa using hp
    rw [hp', Bool.and_false]
    simp only [Bool.false_eq_true, if_false]
    split
    · rfl
    · rw [List.filter_append]; simp [hp']
theorem candR_len (ts : List Tab) (names : List ByteArray) : (candR ts names).length ≤ names.length := Nat.le_trans (List.length_filter_le _ _) (once_len names)

set_option maxRecDepth 100000 in
set_option maxHeartbeats 4000000 in
theorem rcands_any (lo : Option Addr) (lc : Nat) (ts : List Tab) (no : Option Addr) (nc : Nat) (names : List ByteArray) (w : World) (hts : ts.length ≤ 1073741824) (hn : names.length ≤ 1048576)
    (hT : ∀ t ∈ ts, t.1.length ≤ 1099511627776) (hL : TabsAt w lo ts) (hR : StrRow w no names) :
    Calls Tryd.prog 42 #[.slice lo ts.length lc, .slice no names.length nc] w (NamesOut (candR ts names) w) := by
  have hinfo : (Tryd.prog.info? 9).map (fun i => (i.zero, i.size, i.bytes)) = some (some (.string ⟨#[]⟩), 1, 16) := by kernel_rfl
  obtain ⟨i0, hi, hz0, hz1, hz2⟩ := info_parts2 hinfo
  have HIn := Lib.hid hi
  have HTo := Lib.hid hT
  have HLo := Lib.hid hL
  have HRo := Lib.hid hR
  obtain ⟨C, HC⟩ : ∃ C : Nat → List ByteArray, Hid (C = fun k => candR ts (names.take k)) := ⟨_, Lib.hid rfl⟩
  rw [show candR ts names = C names.length from by rw [HC.out]; simp]
  have HSt : Hid (∀ (k : Nat) x, names[k]? = some x → C (k + 1) = if (!decide (x.data.toList ∈ bytesOf (C k)) && hasAll ts x) = true then C k ++ [x] else C k) := Lib.hid (fun k x hx => by rw [HC.out]; exact candR_step ts names k x hx)
  have HZ : Hid (C 0 = []) := Lib.hid (by rw [HC.out]; rfl)
  have HLe : Hid (∀ k, (C k).length ≤ k) := Lib.hid (fun k => by rw [HC.out]; exact Nat.le_trans (candR_len _ _) (by simp; omega))
  have HT0 : Hid (w.ownsRow w.heap.size 9 1 (.slice none 0 0) 0 ((C 0).map Value.string)) := Lib.hid (by rw [HZ.out]; exact World.ownsRow_nil _ _ _ _)
  have hL0 : (C 0).length = 0 := by rw [HZ.out]; rfl
  clear hT hL hR hi hinfo
  go_enter Tryd.func42, Tryd.ntmps42
  go_wp2_with fail
  go_loopw [5, 6] (fun v i wr => ∃ (k q cap : Nat) (ao : Option Addr), k ≤ names.length ∧ v = .slice ao q cap ∧ i = .int .i64 k ∧ Hid (q = (C k).length) ∧ Hid (Below w.heap.size w wr) ∧ Hid (wr.ownsRow w.heap.size 9 1 (.slice ao q cap) q ((C k).map Value.string))) (fun _ i _ => names.length - (intOf i).toNat)
  case atStart => exact ⟨0, 0, 0, none, Nat.zero_le _, rfl, rfl, Lib.hid hL0.symm, Lib.hid (Below.refl _ _), HT0⟩
  case round =>
    obtain ⟨k, q, cap, ao, hk, rfl, rfl, HQ, HB, HO⟩ := hrel
    by_cases hlt : k < names.length
    · obtain ⟨x, hx⟩ : ∃ x, names[k]? = some x := ⟨_, List.getElem?_eq_getElem hlt⟩
      have HS := Lib.hid (HSt.out k x hx)
      have hqk : q ≤ k := by rw [HQ.out]; exact HLe.out k
      have C1 := Lib.hid (rinK_any ao cap q (C k) x wr HQ.out.symm (by omega) (own_strsK HO.out rfl))
      rcases HRo.out with h0 | ⟨A, rfl, hA, hcell⟩
      · rw [h0] at hlt; simp at hlt
      have HX : Hid (∀ V, Below w.heap.size w V → V.cell? (A.add k) = some (.string x)) := Lib.hid (fun V h => (h.cell (p := A.add k) (by rw [add_block]; exact hA)).trans (hcell k x hx))
      have ca := HX.out wr HB.out
      clear hcell hx
      obtain ⟨a0, ha0⟩ : ∃ a0, a0 = decide (x.data.toList ∈ bytesOf (C k)) := ⟨_, rfl⟩
      rw [← ha0] at C1 HS
      clear ha0
      go_wp2_with fail
      refine C1.out.mono ?_; rintro e w2 ⟨rfl, rfl⟩
      clear C1 ca
      go_wp2_with fail
      obtain ⟨wo, rfl⟩ : ∃ wo : World, wo = wr := ⟨_, rfl⟩
      go_loopw [7, 8] (fun a i wr => ∃ (j : Nat) (b : Bool), j ≤ ts.length ∧ a = .bool b ∧ i = .int .i64 j ∧ Hid (b = (!a0 && hasAll (ts.take j) x)) ∧ Hid (Below wo.heap.size wo wr)) (fun _ i _ => ts.length - (intOf i).toNat)
      case atStart => exact ⟨0, !a0, Nat.zero_le _, rfl, rfl, Lib.hid (by simp [hasAll]), Lib.hid (Below.refl _ _)⟩
      case round =>
        obtain ⟨j, b, hj, rfl, rfl, Hb, HB1⟩ := hrel
        have HB2 := Lib.hid (below_up HB.out HB1.out)
        by_cases hlt2 : j < ts.length
        · obtain ⟨t, ht⟩ : ∃ t, ts[j]? = some t := ⟨_, List.getElem?_eq_getElem hlt2⟩
          have Hn : Hid (hasAll (ts.take (j + 1)) x = (hasAll (ts.take j) x && decide (0 ≤ findL t.1 x))) := Lib.hid (by
            obtain ⟨hk', e⟩ := List.getElem?_eq_some_iff.1 ht
            rw [List.take_succ_eq_append_getElem hk', e]
            unfold hasAll
            rw [List.all_append]; simp)
          cases b with
          | false =>
            have Hb' : Hid (false = (!a0 && hasAll (ts.take (j + 1)) x)) := Lib.hid (by rw [Hn.out, ← Bool.and_assoc, ← Hb.out]; rfl)
            clear ht Hn
            go_upto_region 9 with fail
            go_quiet (fail)
            have HB3 := Lib.hid (bdn (n := nq) HB1.out)
            go_wp2_with fail
            go_roundw
            case rel => exact ⟨j + 1, false, by omega, rfl, by go_num, Hb', HB3⟩
            case measure => simp [intOf]; omega
          | true =>
            rcases HLo.out with h0 | ⟨tb, tof, rfl, hA2, hcell⟩
            · rw [h0] at hlt2; simp at hlt2
            obtain ⟨ho, hc, ro, rc, q1, q2, hhead, hrows⟩ := hcell j t ht
            have ca := HX.out wr HB2.out
            have c1 := (HB2.out.cell (p := ⟨tb, _, none⟩) hA2).trans q1
            have c2 := (HB2.out.cell (p := ⟨tb, _, none⟩) hA2).trans q2
            have C2 := Lib.hid (rfind_any ho hc t.1 ro t.2.length rc x wr.drew (HTo.out t (List.mem_of_getElem? ht)) (hhead.kept HB2.out.drew))
            have HKp : Hid (∀ V, Below w.heap.size w V → V.cell? ⟨tb, tof + j * 2, none⟩ = some (.slice ho t.1.length hc) ∧ V.cell? ⟨tb, tof + j * 2 + 1, none⟩ = some (.slice ro t.2.length rc) ∧ V.cell? (A.add k) = some (.string x)) := Lib.hid (fun V h => ⟨(h.cell (p := ⟨tb, _, none⟩) hA2).trans q1, (h.cell (p := ⟨tb, _, none⟩) hA2).trans q2, HX.out V h⟩)
            have Hb' : Hid (decide (0 ≤ findL t.1 x) = (!a0 && hasAll (ts.take (j + 1)) x)) := Lib.hid (by rw [Hn.out, ← Bool.and_assoc, ← Hb.out]; simp)
            generalize findL t.1 x = y at C2 Hb'
            clear hcell hhead hrows q1 q2 ht Hn
            go_upto_region 9 with fail
            go_region_held3 (fun V => V.cell? ⟨tb, tof + j * 2, none⟩ = some (.slice ho t.1.length hc) ∧ V.cell? ⟨tb, tof + j * 2 + 1, none⟩ = some (.slice ro t.2.length rc) ∧ V.cell? (A.add k) = some (.string x)) ((refine ⟨?_, ?_, ?_⟩ <;> first | assumption | go_keep))
              (first | (go_at_call 67; refine C2.out.mono ?_; rintro e w5 ⟨rfl, b5⟩; have HB5 := Lib.hid (below_up HB1.out.drew b5); obtain ⟨c1, c2, ca⟩ := HKp.out w5 (below_up HB.out HB5.out); clear b5))
            go_wp2_with fail
            go_roundw
            case rel => exact ⟨j + 1, decide (0 ≤ y), by omega, rfl, by go_num, Hb', HB5⟩
            case measure => simp [intOf]; omega
        · obtain rfl : j = ts.length := by omega
          have HB2 := Lib.hid (below_up HB.out HB1.out)
          have HO2 := Lib.hid (ownsRow_below HO.out HB1.out)
          have hbe := Hb.out
          rw [List.take_length] at hbe
          rw [← hbe] at HS
          clear hbe
          cases b with
          | false =>
            have HS2 : Hid (C (k + 1) = C k) := Lib.hid (by rw [HS.out]; rfl)
            have HQ2 : Hid (q = (C (k + 1)).length) := Lib.hid (by rw [HS2.out]; exact HQ.out)
            have HO3 : Hid (wr.ownsRow w.heap.size 9 1 (.slice ao q cap) q ((C (k + 1)).map Value.string)) := Lib.hid (by rw [HS2.out]; exact HO2.out)
            clear HO2 HS
            go_wp2_with fail
            go_roundw
            case rel => exact ⟨k + 1, q, cap, ao, by omega, rfl, by go_num, HQ2, HB2, HO3⟩
            case measure => simp [intOf]; omega
          | true =>
            have HS2 : Hid (C (k + 1) = C k ++ [x]) := Lib.hid (by rw [HS.out]; rfl)
            have HQ2 : Hid (q + 1 = (C (k + 1)).length) := Lib.hid (by rw [HS2.out, List.length_append, ← HQ.out]; rfl)
            have HO3 := Lib.hid (HO2.out.alloc (.cells #[.string x] 9))
            have HB3 : Hid (Below w.heap.size w (wr.alloc (.cells #[.string x] 9))) := Lib.hid (HB2.out.alloc HB2.out.size _)
            have hws := HB3.out.size
            have ca := HX.out wr HB2.out
            have r1 : q + 1 ≤ maxLen := by unfold maxLen; omega
            have r2 : (q + 1) * 16 ≤ 140737488355328 := by omega
            clear HS HO2
            go_wp2_with (at_builtin; refine wpList_append_own _ rfl _ _ 22 rfl w.heap.size 9 i0 (.string ⟨#[]⟩) 1 16 Tryd.underlying22 HIn.out hz0 hz1 hz2 rfl (by decide) _ _ _ rfl HO3.out ⟨wr.heap.size, 0, none⟩ 1 1 [Value.string x] rfl rfl (by intro j u' hj; match j, hj with | 0, hj => simp at hj; subst hj; exact (cell_row (World.alloc_heap_new wr _) 0).trans rfl) (by intro u' hu; simp at hu; subst hu; rfl) r1 r2 hws ?_)
            intro v3 w3 ho3 hg3 _
            have HB4 := Lib.hid (HB3.out.grown hg3 (by simpa using hws) (fun k hk => (HO3.out.lt k hk).1))
            obtain ⟨ao3, cap3, rfl⟩ := own_slice ho3
            have HO4 : Hid (w3.ownsRow w.heap.size 9 1 (.slice ao3 (q + 1) cap3) (q + 1) ((C (k + 1)).map Value.string)) := Lib.hid (by rw [HS2.out, List.map_append]; exact ho3)
            clear ho3 hg3
            go_wp2_with fail
            go_roundw
            case rel => exact ⟨k + 1, q + 1, cap3, ao3, by omega, rfl, by go_num, HQ2, HB4, HO4⟩
            case measure => simp [intOf]; omega
    · obtain rfl : k = names.length := by omega
      obtain ⟨ao', cap', e', hst, hcp⟩ := own_names HO.out HQ.out.symm
      injection e' with e1 e2 e3
      subst e1 e3
      have HE : Hid (NamesOut (C names.length) w (.returned (.slice ao q cap)) wr) := Lib.hid ⟨ao, cap, by rw [← HQ.out], hst, hcp, HB.out⟩
      clear hst hcp e2 HO HB
      go_wp2_with fail
      go_ret
      exact HE.out
end Go.Proofs.YtmomjhnbhckhpaaDoor
