/-
  Texts of these rows' proofs, laid one behind the other: RwTogether, RwByKey, RwSortP, RwShelfI.
  Conditions: those of each theorem.
-/
import Derived.WalkKit
import Derived.WalkMore
import Derived.IntWalk
import Derived.OwnWalk
import Derived.Deep.RegionWith
import Derived.StillTailTactics
import Derived.Lib.QuietBelow
import Derived.Deep.RegionHeld3
import Derived.Lib.Hide
import Derived.Test.YtdenehnneloegaaGreatDoorProg
import Derived.Test.YtdenehnneloegaaGreatDoorPb4
import Derived.Test.YtdenehnneloegaaGreatDoorPb5
import Derived.Test.YtdenehnneloegaaGreatDoorPb3
import Derived.Test.YtdenehnneloegaaGreatDoorPb38
import Derived.WalkArith
import Derived.Test.YtdenehnneloegaaGreatDoorPb40
import Derived.Sort.OwnSorted
import Derived.Shelf.SlSortCmp.NoneTotal
import Derived.Test.YtdenehnneloegaaGreatDoorPb27
import Derived.Shelf.Strconv.Itoa3
namespace Go.Proofs.YtdenehnneloegaaGreatDoor
open Go.RowKit Go.Shelf Go.Deep
set_option linter.unusedVariables false
def isP (x : Int × Int) (p : Int × Int) : Bool := decide (p = x)
theorem any_isP (x : Int × Int) (l : PL) : l.any (isP x) = decide (x ∈ l) := by
  rw [Bool.eq_iff_iff, List.any_eq_true, decide_eq_true_iff]
  unfold isP
  constructor
  · rintro ⟨p, hp, h⟩
    rw [decide_eq_true_iff] at h
    subst h; exact hp
  · exact fun h => ⟨x, h, by simp⟩
set_option maxRecDepth 100000 in
set_option maxHeartbeats 1000000 in
theorem pindex_any (ao : Option Addr) (cap : Nat) (xs : PL) (x1 x2 : Int) (w : World) (hn : xs.length ≤ 1099511627776) (hR : PairsAt w ao xs) :
    Calls Tryz.prog 181 #[.slice ao xs.length cap, .agg #[.int .i64 x1, .int .i64 x2]] w fun e w' => e = .returned (.int .i64 (firstAt (isP (x1, x2)) xs)) ∧ Below w.heap.size w w' := by
  obtain ⟨W, HW⟩ : ∃ W, Hid (W = w.alloc (.cells #[.int .i64 x1, .int .i64 x2] 45)) := ⟨_, Lib.hid rfl⟩
  have HNew : Hid (W.heap[w.heap.size]? = some (.cells #[.int .i64 x1, .int .i64 x2] 45 (0, 0))) := Lib.hid (by rw [HW.out]; exact World.alloc_heap_new _ _)
  have HB0 : Hid (Below w.heap.size w W) := Lib.hid (by rw [HW.out]; exact one_below _ _)
  have HRo := Lib.hid (hR.kept HB0.out)
  have HF := Lib.hid (firstAt_none (isP (x1, x2)) xs)
  have HS := Lib.hid (firstAt_some (isP (x1, x2)) xs)
  clear hR
  generalize firstAt (isP (x1, x2)) xs = F at HF HS ⊢
  go_enter Tryz.func181, Tryz.ntmps181
  go_upto_region 1 with fail
  rw [show w.alloc (Obj.cells #[Value.int .i64 x1, Value.int .i64 x2] 45) = W from HW.out.symm]
  go_wp2_with fail
  go_loopw [8] (fun i wr => ∃ k : Nat, k ≤ xs.length ∧ i = .int .i64 k ∧ Hid (Below W.heap.size W wr) ∧ Hid (∀ (j : Nat) c, j < k → xs[j]? = some c → isP (x1, x2) c = false)) (fun i _ => xs.length - (intOf i).toNat)
  case atStart => exact ⟨0, Nat.zero_le _, rfl, Lib.hid (Below.refl _ _), Lib.hid (fun j c h _ => by omega)⟩
  case round =>
    obtain ⟨k, hk, rfl, HB, HN⟩ := hrel
    by_cases hlt : k < xs.length
    · obtain ⟨⟨y1, y2⟩, hx⟩ : ∃ x, xs[k]? = some x := ⟨_, List.getElem?_eq_getElem hlt⟩
      have HX := Lib.hid hx
      have hbx := (HB.out.block _ (lt_of_heap HNew.out)).trans HNew.out
      have z0 : wr.cell? ⟨w.heap.size, 0, none⟩ = some (.int .i64 x1) := (Lib.cell_of_heap hbx 0).trans rfl
      have z1 : wr.cell? ⟨w.heap.size, 1, none⟩ = some (.int .i64 x2) := (Lib.cell_of_heap hbx 1).trans rfl
      rcases (HRo.out.kept HB.out) with h0 | ⟨b, o, rfl, hA, hcell⟩
      · rw [h0] at hlt; simp at hlt
      obtain ⟨hc1, hc2⟩ := hcell k _ hx
      dsimp only at hc1 hc2
      clear hcell hx hbx
      by_cases hxy : x1 = y1 ∧ x2 = y2
      · have E := Lib.hid (HS.out k _ HX.out (by unfold isP; obtain ⟨rfl, rfl⟩ := hxy; simp) HN.out)
        obtain ⟨e1, e2⟩ := hxy
        subst e1 e2
        go_wp2_with fail
        go_quiet (fail)
        have HB' : Hid (Below w.heap.size w (wr.drewN nq)) := Lib.hid (bdn (below_up HB0.out HB.out))
        go_wp2_with fail
        go_ret
        exact ⟨by rw [E.out]; rfl, HB'.out⟩
      · have HN' : Hid (∀ (j : Nat) c, j < k + 1 → xs[j]? = some c → isP (x1, x2) c = false) := Lib.hid (fun j c hj hc' => by
          by_cases e : j = k
          · subst e; rw [HX.out] at hc'; cases hc'
            unfold isP
            exact decide_eq_false (fun e => by injection e with e1 e2; exact hxy ⟨e1.symm, e2.symm⟩)
          · exact HN.out j c (by omega) hc')
        by_cases h1 : x1 = y1
        · have h2 : ¬ x2 = y2 := fun e => hxy ⟨h1, e⟩
          clear hxy
          go_wp2_with fail
          go_quiet (fail)
          have HB' : Hid (Below W.heap.size W (wr.drewN nq)) := Lib.hid (bdn HB.out)
          go_wp2_with fail
          go_roundw
          case rel => exact ⟨k + 1, by omega, by go_num, HB', HN'⟩
          case measure => simp [intOf]; omega
        clear hxy
        go_wp2_with fail
        go_quiet (fail)
        have HB' : Hid (Below W.heap.size W (wr.drewN nq)) := Lib.hid (bdn HB.out)
        go_wp2_with fail
        go_roundw
        case rel => exact ⟨k + 1, by omega, by go_num, HB', HN'⟩
        case measure => simp [intOf]; omega
    · obtain rfl : k = xs.length := by omega
      have E := Lib.hid (HF.out (fun j c hj => HN.out j c (List.getElem?_eq_some_iff.1 hj).1 hj))
      go_wp2_with fail
      go_ret
      exact ⟨by rw [E.out]; rfl, below_up HB0.out HB.out⟩
set_option maxRecDepth 100000 in
theorem pcontains_any (ao : Option Addr) (cap : Nat) (xs : PL) (x1 x2 : Int) (w : World) (hn : xs.length ≤ 1099511627776) (hR : PairsAt w ao xs) :
    Calls Tryz.prog 127 #[.slice ao xs.length cap, .agg #[.int .i64 x1, .int .i64 x2]] w fun e w' => e = .returned (.bool (decide ((x1, x2) ∈ xs))) ∧ Below w.heap.size w w' := by
  have b0 := one_below w (.cells #[.int .i64 x1, .int .i64 x2] 45)
  have HB0 := Lib.hid b0
  have C := Lib.hid (pindex_any ao cap xs x1 x2 (w.alloc (.cells #[.int .i64 x1, .int .i64 x2] 45)) hn (hR.kept b0))
  have E := Lib.hid (any_at (isP (x1, x2)) xs)
  rw [any_isP] at E
  clear hR b0
  generalize firstAt (isP (x1, x2)) xs = F at C E
  generalize decide ((x1, x2) ∈ xs) = B at E ⊢
  go_enter Tryz.func127, Tryz.ntmps127
  go_wp2_with fail
  refine C.out.mono ?_; rintro e w' ⟨rfl, b1⟩
  have HB1 := Lib.hid (below_up HB0.out b1)
  clear b1 C
  go_wp2_with fail
  go_ret
  exact ⟨by rw [← E.out]; simp, HB1.out⟩
theorem paired_at (ha hb : List ByteArray) (cols : PL) (names : List ByteArray) : (∀ (j : Nat) s, names[j]? = some s → (findL ha s, findL hb s) ∈ cols) → pairedB ha hb cols names = true := fun h => by
  unfold pairedB
  rw [List.all_eq_true]
  intro s hs
  obtain ⟨j, hj⟩ := List.mem_iff_getElem?.1 hs
  exact decide_eq_true (h j s hj)
theorem paired_missing (ha hb : List ByteArray) (cols : PL) (names : List ByteArray) (j : Nat) (s : ByteArray) (h : names[j]? = some s) (k : ¬ (findL ha s, findL hb s) ∈ cols) : pairedB ha hb cols names = false := by
  unfold pairedB
  rw [List.all_eq_false]
  exact ⟨s, List.mem_of_getElem? h, by simpa using k⟩
set_option maxRecDepth 100000 in
set_option maxHeartbeats 4000000 in
theorem rtogether_any (ho : Option Addr) (hc : Nat) (ha : List ByteArray) (ro : Option Addr) (rn rc : Nat) (bo : Option Addr) (bc : Nat) (hb : List ByteArray) (so : Option Addr) (sn sc : Nat) (lo : Option Addr) (lc : Nat) (l : PL) (no : Option Addr) (nc : Nat) (names : List ByteArray) (w : World)
    (h1 : ha.length ≤ 1099511627776) (h2 : hb.length ≤ 1099511627776) (h3 : l.length ≤ 1099511627776) (h4 : names.length ≤ 1099511627776) (hA : StrRow w ho ha) (hB : StrRow w bo hb) (hP : PairsAt w lo l) (hN : StrRow w no names) :
    Calls Tryz.prog 74 #[.agg #[.slice ho ha.length hc, .slice ro rn rc], .agg #[.slice bo hb.length bc, .slice so sn sc], .slice lo l.length lc, .slice no names.length nc] w fun e w' => e = .returned (.bool (pairedB ha hb l names)) ∧ Below w.heap.size w w' := by
  obtain ⟨W, HW⟩ : ∃ W, Hid (W = (w.alloc (TabO ho ha.length hc ro rn rc)).alloc (TabO bo hb.length bc so sn sc)) := ⟨_, Lib.hid rfl⟩
  have hBW : Below w.heap.size w W := by rw [HW.out]; exact two_below _ _ _
  have HB0 := Lib.hid hBW
  have hNw := two_new w (TabO ho ha.length hc ro rn rc) (TabO bo hb.length bc so sn sc)
  rw [← HW.out] at hNw
  have box : Hid (∀ V, Below W.heap.size W V → (V.cell? ⟨w.heap.size, 0, none⟩ = some (.slice ho ha.length hc) ∧ V.cell? ⟨w.heap.size, 1, none⟩ = some (.slice ro rn rc)) ∧ V.cell? ⟨w.heap.size + 1, 0, none⟩ = some (.slice bo hb.length bc) ∧ V.cell? ⟨w.heap.size + 1, 1, none⟩ = some (.slice so sn sc)) := Lib.hid (fun V hV => ⟨tabs ((hV.block _ (lt_of_heap hNw.2.1)).trans hNw.2.1), tabs ((hV.block _ (lt_of_heap hNw.2.2)).trans hNw.2.2)⟩)
  have C1 := Lib.hid (fun s V (h : Below W.heap.size W V) => tfind_any ho hc ha ro rn rc s V h1 ((hA.kept hBW).kept h))
  have C2 := Lib.hid (fun s V (h : Below W.heap.size W V) => tfind_any bo bc hb so sn sc s V h2 ((hB.kept hBW).kept h))
  have C3 := Lib.hid (fun x1 x2 V (h : Below W.heap.size W V) => pcontains_any lo lc l x1 x2 V h3 ((hP.kept hBW).kept h))
  have HNo := Lib.hid (hN.kept hBW)
  have HAll := Lib.hid (paired_at ha hb l names)
  have HOne := Lib.hid (paired_missing ha hb l names)
  clear hBW hNw hA hB hP hN
  generalize pairedB ha hb l names = R at HAll HOne ⊢
  go_enter Tryz.func74, Tryz.ntmps74
  go_upto_region 1 with fail
  rw [show (w.alloc (Obj.cells #[Value.slice ho ha.length hc, Value.slice ro rn rc] 25)).alloc (Obj.cells #[Value.slice bo hb.length bc, Value.slice so sn sc] 25) = W from HW.out.symm]
  go_wp2_with fail
  go_loopw [13] (fun i wr => ∃ k : Nat, k ≤ names.length ∧ i = .int .i64 k ∧ Hid (Below W.heap.size W wr) ∧ Hid (∀ (j : Nat) s, j < k → names[j]? = some s → (findL ha s, findL hb s) ∈ l)) (fun i _ => names.length - (intOf i).toNat)
  case atStart => exact ⟨0, Nat.zero_le _, rfl, Lib.hid (Below.refl _ _), Lib.hid (fun j c h _ => by omega)⟩
  case round =>
    obtain ⟨k, hk, rfl, HB, HN⟩ := hrel
    by_cases hlt : k < names.length
    · obtain ⟨s, hs⟩ : ∃ x, names[k]? = some x := ⟨_, List.getElem?_eq_getElem hlt⟩
      have HS := Lib.hid hs
      rcases (HNo.out.kept HB.out) with h0 | ⟨A, rfl, hA, hcell⟩
      · rw [h0] at hlt; simp at hlt
      have hcs := hcell k _ hs
      obtain ⟨⟨a0, a1⟩, b0, b1⟩ := box.out wr HB.out
      have D1 := Lib.hid (C1.out s)
      have D2 := Lib.hid (C2.out s)
      have D3 := Lib.hid (C3.out (findL ha s) (findL hb s))
      have HM : Hid (decide ((findL ha s, findL hb s) ∈ l) = true → (findL ha s, findL hb s) ∈ l) := Lib.hid of_decide_eq_true
      have HM2 : Hid (decide ((findL ha s, findL hb s) ∈ l) = false → R = false) := Lib.hid (fun h => HOne.out k s hs (of_decide_eq_false h))
      have HM3 : Hid (decide ((findL ha s, findL hb s) ∈ l) = true → ∀ (j : Nat) t, j < k + 1 → names[j]? = some t → (findL ha t, findL hb t) ∈ l) := Lib.hid (fun h j t hj ht => by
        by_cases e : j = k
        · subst e; rw [hs] at ht; cases ht; exact of_decide_eq_true h
        · exact HN.out j t (by omega) ht)
      generalize decide ((findL ha s, findL hb s) ∈ l) = d at D3 HM HM2 HM3
      generalize findL ha s = f1 at D1 D3 HM
      generalize findL hb s = f2 at D2 D3 HM
      have HBel : Hid (Below W.heap.size W wr.drew) := Lib.hid HB.out.drew
      clear hcell hs HM
      go_upto_region 4 with fail
      go_region_held3 (fun V => (V.cell? ⟨w.heap.size, 0, none⟩ = some (.slice ho ha.length hc) ∧ V.cell? ⟨w.heap.size, 1, none⟩ = some (.slice ro rn rc)) ∧ V.cell? ⟨w.heap.size + 1, 0, none⟩ = some (.slice bo hb.length bc) ∧ V.cell? ⟨w.heap.size + 1, 1, none⟩ = some (.slice so sn sc)) ((refine ⟨⟨?_, ?_⟩, ?_, ?_⟩ <;> first | assumption | go_keep))
        (first
          | (go_at_call 128; refine (D1.out _ HBel.out).mono ?_; rintro e wA ⟨rfl, bA⟩; have HBel := Lib.hid (below_up HBel.out bA); obtain ⟨⟨a0, a1⟩, b0, b1⟩ := box.out wA HBel.out; clear bA D1)
          | (go_at_call 128; refine (D2.out _ HBel.out).mono ?_; rintro e wB ⟨rfl, bB⟩; have HBel := Lib.hid (below_up HBel.out bB); obtain ⟨⟨a0, a1⟩, b0, b1⟩ := box.out wB HBel.out; clear bB D2)
          | (go_at_call 127; refine (D3.out _ HBel.out).mono ?_; rintro e wC ⟨rfl, bC⟩; have HBel := Lib.hid (below_up HBel.out bC); obtain ⟨⟨a0, a1⟩, b0, b1⟩ := box.out wC HBel.out; clear bC D3))
      rename_i hHeld
      clear hHeld
      cases d with
      | true =>
        have HN' := Lib.hid (HM3.out rfl)
        clear HM2 HM3
        go_wp2_with fail
        go_roundw
        case rel => exact ⟨k + 1, by omega, by go_num, HBel, HN'⟩
        case measure => simp [intOf]; omega
      | false =>
        have HE := Lib.hid (HM2.out rfl)
        clear HM2 HM3
        go_wp2_with fail
        go_ret
        exact ⟨by rw [HE.out]; rfl, below_up HB0.out HBel.out⟩
    · obtain rfl : k = names.length := by omega
      have HE := Lib.hid (HAll.out (fun j s hj => HN.out j s (List.getElem?_eq_some_iff.1 hj).1 hj))
      go_wp2_with fail
      go_ret
      exact ⟨by rw [HE.out]; rfl, below_up HB0.out HB.out⟩
end Go.Proofs.YtdenehnneloegaaGreatDoor
namespace Go.Proofs.YtdenehnneloegaaGreatDoor
open Go.RowKit Go.Shelf Go.Deep
set_option linter.unusedVariables false
set_option maxRecDepth 100000 in
set_option maxHeartbeats 8000000 in
theorem by_key_ok : ByKeyOK := by
  intro ho hc ha ro rc ra bo bc hb so sc rb no nc names w hA hB2 hN hpow
  obtain ⟨W, HW⟩ : ∃ W, Hid (W = (w.alloc (TabO ho ha.length hc ro ra.length rc)).alloc (TabO bo hb.length bc so rb.length sc)) := ⟨_, Lib.hid rfl⟩
  have hB : Below w.heap.size w W := by rw [HW.out]; exact two_below _ _ _
  have HB0 := Lib.hid hB
  have hNw := two_new w (TabO ho ha.length hc ro ra.length rc) (TabO bo hb.length bc so rb.length sc)
  rw [← HW.out] at hNw
  have box : Hid (∀ V, Below W.heap.size W V → (V.cell? ⟨w.heap.size, 0, none⟩ = some (.slice ho ha.length hc) ∧ V.cell? ⟨w.heap.size, 1, none⟩ = some (.slice ro ra.length rc)) ∧ V.cell? ⟨w.heap.size + 1, 0, none⟩ = some (.slice bo hb.length bc) ∧ V.cell? ⟨w.heap.size + 1, 1, none⟩ = some (.slice so rb.length sc)) := Lib.hid (fun V hV => ⟨tabs ((hV.block _ (lt_of_heap hNw.2.1)).trans hNw.2.1), tabs ((hV.block _ (lt_of_heap hNw.2.2)).trans hNw.2.2)⟩)
  have b1 := one_below W (TwoO ho ha.length hc ro ra.length rc bo hb.length bc so rb.length sc)
  have HA : Hid (∀ V, Below W.heap.size W V → TabR V ho hc ha ro rc ra) := Lib.hid (fun V h => hA.kept (below_up hB h))
  have HBt : Hid (∀ V, Below W.heap.size W V → TabR V bo bc hb so sc rb) := Lib.hid (fun V h => hB2.kept (below_up hB h))
  have HNm : Hid (∀ V, Below W.heap.size W V → NamesIn V no nc names) := Lib.hid (fun V h => hN.kept (below_up hB h))
  have CU : Hid (Calls Tryz.prog 19 #[.slice (some ⟨W.heap.size, 0, none⟩) 2 2, .slice no names.length nc] (W.alloc (TwoO ho ha.length hc ro ra.length rc bo hb.length bc so rb.length sc)) fun e w' => e = .returned (.bool (useAB ha ra hb rb names)) ∧ Below (W.alloc (TwoO ho ha.length hc ro ra.length rc bo hb.length bc so rb.length sc)).heap.size (W.alloc (TwoO ho ha.length hc ro ra.length rc bo hb.length bc so rb.length sc)) w') :=
    Lib.hid (usable_ok (some ⟨W.heap.size, 0, none⟩) 2 ho hc ha ro rc ra bo bc hb so sc rb no nc names _ (HA.out _ b1) (HBt.out _ b1) (HNm.out _ b1) (hpow.kept (below_up hB b1)) (tabs_two (hA.tab.row.kept hB) (hA.tab.rows.kept hB) (hB2.tab.row.kept hB) (hB2.tab.rows.kept hB)))
  have HB1 := Lib.hid b1
  have hra := hA.r25
  have hrb := hB2.r25
  have hm := hN.len
  have h12a := hA.h12
  have h12b := hB2.h12
  have HIn := Lib.hid (fun h => use_in (ha := ha) (ra := ra) (hb := hb) (rb := rb) (names := names) h)
  have HUo := Lib.hid (fun h => use_of (ha := ha) (ra := ra) (hb := hb) (rb := rb) (names := names) h)
  have HRU : Hid (∀ u, byKeyU u ha ra hb rb names = if u then byKeyL ra rb (names.map (findL ha)) (names.map (findL hb)) else []) := Lib.hid (fun u => rfl)
  obtain ⟨R, HRR⟩ : ∃ R, Hid (R = byKeyU (useAB ha ra hb rb names) ha ra hb rb names) := ⟨_, Lib.hid rfl⟩
  rw [← HRR.out]
  have hinfo : (Tryz.prog.info? 45).map (fun i => (i.zero, i.size, i.bytes)) = some (some (.agg #[.int .i64 0, .int .i64 0]), 2, 16) := by kernel_rfl
  obtain ⟨i0, hi, hz0, hz1, hz2⟩ := info_parts2 hinfo
  have HI := Lib.hid hi
  obtain ⟨⟨a0, a1⟩, c0, c1⟩ := box.out W (Below.refl _ _)
  clear hi hinfo hB hNw b1 hA hB2 hN hpow
  cases hu : useAB ha ra hb rb names with
  | false =>
    have HR0 : Hid (R = []) := Lib.hid (by rw [HRR.out, hu, HRU.out]; rfl)
    rw [hu] at CU
    clear hu HIn HUo HRU HRR HA HBt HNm
    go_enter Tryz.func14, Tryz.ntmps14
    go_upto_region 1 with fail
    rw [show (w.alloc (Obj.cells #[Value.slice ho ha.length hc, Value.slice ro ra.length rc] 25)).alloc (Obj.cells #[Value.slice bo hb.length bc, Value.slice so rb.length sc] 25) = W from HW.out.symm]
    go_wp2_with fail
    refine CU.out.mono ?_; rintro e w2 ⟨rfl, b2⟩
    have HE : Hid (PairsOut R w (.returned (.slice none 0 0)) w2) := Lib.hid (by rw [HR0.out]; exact ⟨none, 0, rfl, .inl rfl, fun _ => rfl, Nat.le_refl _, below_up HB0.out (below_up HB1.out b2)⟩)
    clear b2 CU
    go_wp2_with fail
    go_ret
    exact HE.out
  | true =>
    obtain ⟨hi1, hi2⟩ := HIn.out hu
    have hU := HUo.out hu
    have hap := hU.ua
    rw [hu] at CU
    obtain ⟨ps, Hps⟩ : ∃ ps, Hid (ps = names.map (findL ha)) := ⟨_, Lib.hid rfl⟩
    obtain ⟨qs, Hqs⟩ : ∃ qs, Hid (qs = names.map (findL hb)) := ⟨_, Lib.hid rfl⟩
    have HWf : Hid (∀ c ∈ ps, (Lit.int .i64 c).wf = true) := Lib.hid (by rw [Hps.out]; exact find_wf hU.a h12a)
    rw [← Hps.out] at hap
    have HAp := Lib.hid hap
    have HR1 : Hid (R = byKeyK ra rb ps qs rb.length) := Lib.hid (by rw [HRR.out, hu, HRU.out, if_pos rfl, ← Hps.out, ← Hqs.out]; rfl)
    have HPl : Hid (ps.length = names.length) := Lib.hid (by rw [Hps.out]; simp)
    have HQl : Hid (qs.length = names.length) := Lib.hid (by rw [Hqs.out]; simp)
    have D1 : Hid (∀ V, Below W.heap.size W V → Calls Tryz.prog 22 #[.agg #[.slice ho ha.length hc, .slice ro ra.length rc], .slice no names.length nc] V fun e w' => ∃ (ao : Option Addr) (cap : Nat), e = .returned (.tuple #[.slice ao ps.length cap, .bool true]) ∧ IntsAt w' ao ps ∧ Below V.heap.size V w') := Lib.hid (fun V h => (places_ok ho hc ha ro rc ra no nc names V (HA.out V h) (HNm.out V h) hi1).mono (by
      rintro e w' ⟨ao, cap, rfl, h1, h2⟩
      rw [← Hps.out] at h1; exact ⟨ao, cap, by rw [HPl.out], h1, h2⟩))
    have D2 : Hid (∀ V, Below W.heap.size W V → Calls Tryz.prog 22 #[.agg #[.slice bo hb.length bc, .slice so rb.length sc], .slice no names.length nc] V fun e w' => ∃ (ao : Option Addr) (cap : Nat), e = .returned (.tuple #[.slice ao qs.length cap, .bool true]) ∧ IntsAt w' ao qs ∧ Below V.heap.size V w') := Lib.hid (fun V h => (places_ok bo bc hb so sc rb no nc names V (HBt.out V h) (HNm.out V h) hi2).mono (by
      rintro e w' ⟨ao, cap, rfl, h1, h2⟩
      rw [← Hqs.out] at h1; exact ⟨ao, cap, by rw [HQl.out], h1, h2⟩))
    have hpl : ps.length ≤ 8 := by rw [HPl.out]; exact hm
    have hql : qs.length ≤ 8 := by rw [HQl.out]; exact hm
    have CB := Lib.hid (fun po pc V (h : Below W.heap.size W V) (hI : IntsAt V po ps) => build_any ho ha.length hc ro rc ra po pc ps V (by omega) (by omega) (tabIn_rows (HA.out V h).tab) HWf.out (HA.out V h).tab.rows hI)
    obtain ⟨OS, HOS⟩ : ∃ OS, Hid (OS = buildL ra ps) := ⟨_, Lib.hid rfl⟩
    have HOl : Hid (OS.length ≤ 25) := Lib.hid (by rw [HOS.out, build_len]; exact hra)
    have CK := Lib.hid (fun (j : Nat) po pc V (h : Below W.heap.size W V) (hI : IntsAt V po qs) => key_any bo hb.length bc so sc rb (j : Int) po pc qs V (by omega) (by omega) (tabIn_rows (HBt.out V h).tab) (HBt.out V h).tab.rows hI)
    have CF := Lib.hid (fun po pc oo oc so2 sc2 key V (hk : key.length ≤ 8) (h : Below W.heap.size W V) (hI : IntsAt V po ps) (hO : IntsAt V oo OS) (hS : StrRow V so2 key) => find_any ho ha.length hc ro rc ra po pc ps oo oc OS so2 sc2 key V (by omega) (by omega) (by have := HOl.out; omega) (by omega) (tabIn_rows (HA.out V h).tab) (HA.out V h).tab.rows hI hO hS)
    rw [← HOS.out] at CB
    have HFo : Hid (∀ (k : Nat) a ok, FoundAt (fun x => keyC (rowKey ra ps x) (keyAt rb qs k)) OS a ok → (ok = true ∧ byKeyO ra rb ps qs k = some (a, (k : Int))) ∨ (ok = false ∧ byKeyO ra rb ps qs k = none)) := Lib.hid (fun k a ok h => found_byKey HAp.out (by rw [← HOS.out]; exact h))
    obtain ⟨O, HQ⟩ : ∃ O : Nat → PL, Hid (O = byKeyK ra rb ps qs) := ⟨_, Lib.hid rfl⟩
    have HNx : Hid (∀ k : Nat, O (k + 1) = O k ++ (byKeyO ra rb ps qs k).toList) := Lib.hid (fun k => by rw [HQ.out]; exact byKey_next ra rb ps qs k)
    have HLe : Hid (∀ k, (O k).length ≤ k) := Lib.hid (fun k => by rw [HQ.out]; exact byKeyK_le ra rb ps qs k)
    have HZ : Hid (O 0 = []) := Lib.hid (by rw [HQ.out]; rfl)
    have HAl : Hid (R = O rb.length) := Lib.hid (by rw [HR1.out, HQ.out])
    clear hu HIn HUo HRU HRR hi1 hi2 hap HR1 hU HA HBt HNm
    go_enter Tryz.func14, Tryz.ntmps14
    go_upto_region 1 with fail
    rw [show (w.alloc (Obj.cells #[Value.slice ho ha.length hc, Value.slice ro ra.length rc] 25)).alloc (Obj.cells #[Value.slice bo hb.length bc, Value.slice so rb.length sc] 25) = W from HW.out.symm]
    go_wp2_with fail
    refine CU.out.mono ?_; rintro e w2 ⟨rfl, b2⟩
    have HBa := Lib.hid (below_up HB1.out b2)
    have D1' := Lib.hid (D1.out w2 HBa.out)
    clear b2 CU a0 a1 c0 c1 D1
    obtain ⟨⟨a0, a1⟩, c0, c1⟩ := box.out w2 HBa.out
    go_wp2_with fail
    refine D1'.out.mono ?_; rintro e w3 ⟨po, pc, rfl, hp, b3⟩
    have HBb := Lib.hid (below_up HBa.out b3)
    have D2' := Lib.hid (D2.out w3 HBb.out)
    have HP3 := Lib.hid hp
    clear b3 D1' a0 a1 c0 c1 D2 hp
    obtain ⟨⟨a0, a1⟩, c0, c1⟩ := box.out w3 HBb.out
    go_wp2_with fail
    refine D2'.out.mono ?_; rintro e w4 ⟨qo, qc, rfl, hq, b4⟩
    have HBc := Lib.hid (below_up HBb.out b4)
    have HP4 := Lib.hid (HP3.out.kept b4)
    have HQ4 := Lib.hid hq
    have CB' := Lib.hid (CB.out po pc w4 HBc.out HP4.out)
    clear b4 D2' a0 a1 c0 c1 hq HP3 CB
    obtain ⟨⟨a0, a1⟩, c0, c1⟩ := box.out w4 HBc.out
    go_wp2_with fail
    refine CB'.out.mono ?_; rintro e w5 ⟨oo, rfl, hos, b5⟩
    have HBd := Lib.hid (below_up HBc.out b5)
    have HP5 := Lib.hid (HP4.out.kept b5)
    have HQ5 := Lib.hid (HQ4.out.kept b5)
    have HO5 := Lib.hid hos
    have HT : Hid (OwnL w5 w5.heap.size (.slice none 0 0) (O 0)) := Lib.hid (by rw [HZ.out]; exact World.ownsRow_nil _ _ _ _)
    have hL0 : (O 0).length = 0 := by rw [HZ.out]; rfl
    have HL0 := Lib.hid hL0
    clear b5 CB' a0 a1 c0 c1 hos HP4 HQ4 hL0
    obtain ⟨⟨a0, a1⟩, c0, c1⟩ := box.out w5 HBd.out
    go_wp2_with fail
    clear a0 a1 c0 c1
    go_loopw [12, 40] (fun v u wr => ∃ (k q cp : Nat) (go : Option Addr), k ≤ rb.length ∧ u = .int .i64 k ∧ v = .slice go q cp ∧ Hid (q = (O k).length) ∧ Hid (Below w5.heap.size w5 wr) ∧ Hid (OwnL wr w5.heap.size (.slice go q cp) (O k))) (fun _ u _ => rb.length - (intOf u).toNat)
    case atStart => exact ⟨0, 0, 0, none, Nat.zero_le _, rfl, rfl, Lib.hid HL0.out.symm, Lib.hid (Below.refl _ _), HT⟩
    case round =>
      clear HT HL0
      obtain ⟨k, q, cp, go, hk, rfl, rfl, HQn, HB, HT⟩ := hrel
      by_cases hlt : k < rb.length
      · have hq : q ≤ 25 := by rw [HQn.out]; have := HLe.out k; omega
        have HST := Lib.hid (HNx.out k)
        have boxr : Hid (∀ V, Below wr.heap.size wr V → (V.cell? ⟨w.heap.size, 0, none⟩ = some (.slice ho ha.length hc) ∧ V.cell? ⟨w.heap.size, 1, none⟩ = some (.slice ro ra.length rc)) ∧ V.cell? ⟨w.heap.size + 1, 0, none⟩ = some (.slice bo hb.length bc) ∧ V.cell? ⟨w.heap.size + 1, 1, none⟩ = some (.slice so rb.length sc)) := Lib.hid (fun V h => box.out V (below_up HBd.out (below_up HB.out h)))
        obtain ⟨⟨a0, a1⟩, c0, c1⟩ := boxr.out wr (Below.refl _ _)
        have E1 := Lib.hid (fun V (h : Below wr.heap.size wr V) => CK.out k qo qc V (below_up HBd.out (below_up HB.out h)) (HQ5.out.kept (below_up HB.out h)))
        have hkl : (rowKey rb qs (k : Int)).length = qs.length := rowKey_len _ _ _
        have HF := Lib.hid (HFo.out k)
        rw [show keyAt rb qs (k : Int) = rowKey rb qs (k : Int) from rfl] at HF
        obtain ⟨key, hkey⟩ : ∃ key, key = rowKey rb qs (k : Int) := ⟨_, rfl⟩
        rw [← hkey] at E1 HF hkl
        have hkl2 : key.length ≤ 8 := by omega
        have E2 := Lib.hid (fun so2 V (h : Below wr.heap.size wr V) (hS : StrRow V so2 key) => CF.out po pc oo OS.length so2 qs.length key V hkl2 (below_up HBd.out (below_up HB.out h)) (HP5.out.kept (below_up HB.out h)) (HO5.out.kept (below_up HB.out h)) hS)
        rw [hkl] at E2
        have HTO : Hid (wr.ownsRow w5.heap.size 45 2 (.slice go q cp) q (cellsP (O k))) := Lib.hid (by have := HT.out; unfold OwnL at this; rw [← HQn.out] at this; exact this)
        have HBel : Hid (Below wr.heap.size wr wr.drew) := Lib.hid ((Below.refl _ _).drew)
        generalize byKeyO ra rb ps qs k = BO at HF HST
        clear hkey hkl hkl2 HT
        go_upto_region 10 with fail
        go_region_held3 (fun V => (V.cell? ⟨w.heap.size, 0, none⟩ = some (.slice ho ha.length hc) ∧ V.cell? ⟨w.heap.size, 1, none⟩ = some (.slice ro ra.length rc)) ∧ V.cell? ⟨w.heap.size + 1, 0, none⟩ = some (.slice bo hb.length bc) ∧ V.cell? ⟨w.heap.size + 1, 1, none⟩ = some (.slice so rb.length sc)) ((refine ⟨⟨?_, ?_⟩, ?_, ?_⟩ <;> first | assumption | go_keep))
          (first
            | (go_at_call 24; refine (E1.out _ HBel.out).mono ?_; rintro e wA ⟨aoA, rfl, hsA, bA⟩; have HBel := Lib.hid (below_up HBel.out bA); have HSA := Lib.hid hsA; obtain ⟨⟨a0, a1⟩, c0, c1⟩ := boxr.out wA HBel.out; clear hsA bA E1)
            | (go_at_call 35; refine (E2.out _ _ HBel.out HSA.out).mono ?_; rintro e wB ⟨fa, fok, rfl, hfo, bB⟩; have HBel := Lib.hid (below_up HBel.out bB); have HFd := Lib.hid (HF.out _ _ hfo); obtain ⟨⟨a0, a1⟩, c0, c1⟩ := boxr.out wB HBel.out; clear hfo bB E2))
        rename_i hHeld
        clear hHeld
        have HTC := Lib.hid (ownsRow_below HTO.out HBel.out)
        have HBC := Lib.hid (below_up HB.out HBel.out)
        clear HF HSA HTO boxr
        cases fok with
        | true =>
          have HS2 : Hid (O (k + 1) = O k ++ [(fa, (k : Int))]) := Lib.hid (by
            rw [HST.out]
            rcases HFd.out with ⟨-, h⟩ | ⟨h, -⟩
            · rw [h]; rfl
            · cases h)
          have HT1 := Lib.hid (HTC.out.alloc (.cells #[Value.int .i64 fa, Value.int .i64 k] 45))
          have hws := HBC.out.size
          have hbs : w5.heap.size ≤ (wB.alloc (.cells #[Value.int .i64 fa, Value.int .i64 k] 45)).heap.size := by simp; omega
          clear HST HFd
          go_wp2_with (at_builtin; refine wpList_append_own _ rfl _ _ 26 rfl w5.heap.size 45 i0 (.agg #[.int .i64 0, .int .i64 0]) 2 16 Tryz.underlying26 HI.out hz0 hz1 hz2 rfl (by decide) _ _ _ rfl HT1.out ⟨wB.heap.size, 0, none⟩ 1 1 [Value.int .i64 fa, Value.int .i64 k] rfl rfl (lit_cellP wB _ _ _) (fun u hu => by simp at hu; rcases hu with rfl | rfl <;> rfl) (by unfold maxLen; omega) (by omega) hbs ?_)
          intro v' w6 hown' hgrow _
          obtain ⟨g, gc, rfl⟩ := ownsRow_succ hown'
          have HB3 := Lib.hid ((HBC.out.alloc HBC.out.size (.cells #[Value.int .i64 fa, Value.int .i64 k] 45)).grown hgrow hbs (fun j h => (HTC.out.lt j h).1))
          have HQ3 : Hid (q + 1 = (O (k + 1)).length) := Lib.hid (by rw [HS2.out, List.length_append, ← HQn.out]; rfl)
          have HT3 : Hid (OwnL w6 w5.heap.size (.slice (some ⟨g, 0, none⟩) (q + 1) gc) (O (k + 1))) := Lib.hid (by unfold OwnL; rw [← HQ3.out, HS2.out, cellsP_app]; exact hown')
          clear hown' hgrow hbs
          go_wp2_with fail
          go_roundw
          case rel => exact ⟨k + 1, q + 1, gc, _, by omega, by go_num, rfl, HQ3, HB3, HT3⟩
          case measure => simp [intOf]; omega
        | false =>
          have HS2 : Hid (O (k + 1) = O k) := Lib.hid (by
            rw [HST.out]
            rcases HFd.out with ⟨h, -⟩ | ⟨-, h⟩
            · cases h
            · rw [h]; simp)
          have HT2 : Hid (OwnL wB w5.heap.size (.slice go q cp) (O (k + 1))) := Lib.hid (by unfold OwnL; rw [HS2.out, ← HQn.out]; exact HTC.out)
          have HQ3 : Hid (q = (O (k + 1)).length) := Lib.hid (by rw [HS2.out]; exact HQn.out)
          clear HST HFd
          go_wp2_with fail
          go_roundw
          case rel => exact ⟨k + 1, q, cp, go, by omega, by go_num, rfl, HQ3, HBC, HT2⟩
          case measure => simp [intOf]; omega
      · obtain rfl : k = rb.length := by omega
        have HE : Hid (PairsOut R w (.returned (.slice go q cp)) wr) := Lib.hid (by
          rw [HAl.out]
          obtain ⟨ao, cap, h1, h2, h3, h4, h5⟩ := OwnL.end_ HT.out HB.out
          exact ⟨ao, cap, h1, h2, h3, h4, below_up HB0.out (below_up HBd.out h5)⟩)
        clear HT
        go_wp2_with fail
        go_ret
        exact HE.out
end Go.Proofs.YtdenehnneloegaaGreatDoor
namespace Go.Proofs.YtdenehnneloegaaGreatDoor
open Go.RowKit Go.Shelf Go.Sort
set_option linter.unusedVariables false
set_option maxRecDepth 100000 in
theorem byBr_any (a b c d : Int) (w : World) :
    Calls Tryz.prog 47 #[.agg #[.int .i64 a, .int .i64 b], .agg #[.int .i64 c, .int .i64 d]] w fun e w' => e = .returned (.int .i64 (cmpI b d)) ∧ ∃ q os', w' = grow (w.drewN q) os' := by
  have C1 := Lib.hid (fun W => compare_any b d W)
  have HG : Hid (∃ q os', (w.alloc (.cells #[.int .i64 a, .int .i64 b] 45)).alloc (.cells #[.int .i64 c, .int .i64 d] 45) = grow (w.drewN q) os') := Lib.hid ⟨0, _, by rw [alloc_eq_grow, alloc_eq_grow, grow_grow]; rfl⟩
  generalize cmpI b d = r at C1 ⊢
  go_enter Tryz.func47, Tryz.ntmps47
  go_wp2_with fail
  refine (C1.out _).mono ?_; rintro e w1 ⟨rfl, rfl⟩
  go_wp2_with fail
  go_ret
  exact ⟨rfl, HG.out⟩
theorem rsort_any (base g n cap : Nat) (L R : PL) (w : World) (hn : n ≤ 1099511627776) (hl : L.length = n) (hp : R.Perm L) (hr : RiseB R) (hO : OwnL w base (.slice (some ⟨g, 0, none⟩) n cap) L) :
    Calls Tryz.prog 46 #[.slice (some ⟨g, 0, none⟩) n cap, .func (.func 47) #[] #[]] w fun e w' => e = .returned (.tuple #[]) ∧ OwnL w' base (.slice (some ⟨g, 0, none⟩) n cap) R ∧ w.grownBy w' (some g) := by
  have hnd := rise_nodup L R hp hr
  have hfL := ofB_isC L hnd
  have hfR : ∀ p ∈ R, ofBC L p.2 = p.1 := fun p h => hfL p (hp.mem_iff.1 h)
  have hc : CmpLays Tryz.prog 47 #[] (encB (ofBC L)) 2 cmpI g 0 (L.map Prod.snd).toArray.size w := fun m os dk _ x y => byBr_any _ x _ y _
  have hsz : (L.map Prod.snd).toArray.size = n := by simp [hl]
  have h := AnyQ.slices_SortFunc_total laysFp 2 Tryz.isAgg45 Tryz.sizeOf45 (encB (ofBC L)) (fun _ => rfl) (fun x v hv => by simp [encB] at hv; rcases hv with rfl | rfl <;> rfl) cmpI swoB 47 #[] g 0 cap (L.map Prod.snd).toArray w (enters_of Tryz.func47 (by kernel_rfl) rfl) hc (hO.holdsB _ hfL hl) (World.ownsRow.lt hO g rfl).2 (by rw [hsz]; omega) (fun x y h k => by rw [ltB] at h k; simp at h k; omega)
  rw [hsz, ltB] at h
  refine h.mono ?_
  rintro e w' ⟨rfl, k, os, rfl⟩
  have e : (L.map Prod.snd).toArray.toList.mergeSort (fun x y => !decide (y < x)) = R.map Prod.snd := by
    rw [← sortedB_is L R hp hr]
    show (L.map Prod.snd).mergeSort _ = _
    congr 1
    funext x y
    by_cases h : y < x
    · rw [decide_eq_true h, decide_eq_false (by omega)]; rfl
    · rw [decide_eq_false h, decide_eq_true (by omega)]; rfl
  rw [e]
  exact ⟨rfl, hO.sortedB _ hfR hl (by rw [hp.length_eq, hl]), by unfold sortWorldK putRowK; exact grownBy_sortedK _⟩
end Go.Proofs.YtdenehnneloegaaGreatDoor
namespace Go.Proofs.YtdenehnneloegaaGreatDoor
open Go.Shelf
def laysI_ren : Go.Shelf.Ren := ⟨fun | 171 => 93 | 243 => 144 | 246 => 192 | 283 => 217 | 284 => 218 | 285 => 219 | 286 => 220 | 129 => 167 | 317 => 261 | 318 => 262 | 319 => 263 | 320 => 264 | 337 => 281 | 338 => 282 | n => n, fun | 3 => 3 | 9 => 9 | 2 => 2 | 4 => 4 | 171 => 256 | 0 => 0 | 53 => 205 | 37 => 144 | 5 => 5 | 173 => 258 | 212 => 289 | 51 => 203 | 20 => 20 | 213 => 290 | 46 => 142 | 232 => 307 | 233 => 308 | n => n, fun | 17 => 1 | 18 => 2 | 19 => 3 | n => n⟩
theorem laysI : Go.Proofs.Lays.n171 Tryz.prog laysI_ren := {
  mixed := by kernel_rfl
  f129 := Tryz.func167.trans (congrArg some (by kernel_rfl))
  f171 := Tryz.func93.trans (congrArg some (by kernel_rfl))
  f243 := Tryz.func144.trans (congrArg some (by kernel_rfl))
  f246 := Tryz.func192.trans (congrArg some (by kernel_rfl))
  f283 := Tryz.func217.trans (congrArg some (by kernel_rfl))
  f284 := Tryz.func218.trans (congrArg some (by kernel_rfl))
  f285 := Tryz.func219.trans (congrArg some (by kernel_rfl))
  f286 := Tryz.func220.trans (congrArg some (by kernel_rfl))
  f317 := Tryz.func261.trans (congrArg some (by kernel_rfl))
  f318 := Tryz.func262.trans (congrArg some (by kernel_rfl))
  f319 := Tryz.func263.trans (congrArg some (by kernel_rfl))
  f320 := Tryz.func264.trans (congrArg some (by kernel_rfl))
  f337 := Tryz.func281.trans (congrArg some (by kernel_rfl))
  f338 := Tryz.func282.trans (congrArg some (by kernel_rfl))
  t0 := Tryz.underlying0
  a0 := Tryz.isAgg0
  z0 := Tryz.sizeOf0
  v0 := Tryz.zeroValue0
  t2 := Tryz.underlying2
  a2 := Tryz.isAgg2
  z2 := Tryz.sizeOf2
  v2 := Tryz.zeroValue2
  t3 := Tryz.underlying3
  a3 := Tryz.isAgg3
  z3 := Tryz.sizeOf3
  v3 := Tryz.zeroValue3
  t4 := Tryz.underlying4
  a4 := Tryz.isAgg4
  z4 := Tryz.sizeOf4
  v4 := Tryz.zeroValue4
  t5 := Tryz.underlying5
  a5 := Tryz.isAgg5
  z5 := Tryz.sizeOf5
  v5 := Tryz.zeroValue5
  t9 := Tryz.underlying9
  a9 := Tryz.isAgg9
  z9 := Tryz.sizeOf9
  v9 := Tryz.zeroValue9
  t20 := Tryz.underlying20
  a20 := Tryz.isAgg20
  z20 := Tryz.sizeOf20
  v20 := Tryz.zeroValue20
  t37 := Tryz.underlying144
  a37 := Tryz.isAgg144
  z37 := Tryz.sizeOf144
  v37 := Tryz.zeroValue144
  t46 := Tryz.underlying142
  a46 := Tryz.isAgg142
  z46 := Tryz.sizeOf142
  v46 := Tryz.zeroValue142
  t51 := Tryz.underlying203
  a51 := Tryz.isAgg203
  z51 := Tryz.sizeOf203
  v51 := Tryz.zeroValue203
  t53 := Tryz.underlying205
  a53 := Tryz.isAgg205
  z53 := Tryz.sizeOf205
  v53 := Tryz.zeroValue205
  t171 := Tryz.underlying256
  a171 := Tryz.isAgg256
  z171 := Tryz.sizeOf256
  v171 := Tryz.zeroValue256
  t173 := Tryz.underlying258
  a173 := Tryz.isAgg258
  z173 := Tryz.sizeOf258
  v173 := Tryz.zeroValue258
  t212 := Tryz.underlying289
  a212 := Tryz.isAgg289
  z212 := Tryz.sizeOf289
  v212 := Tryz.zeroValue289
  t213 := Tryz.underlying290
  a213 := Tryz.isAgg290
  z213 := Tryz.sizeOf290
  t232 := Tryz.underlying307
  a232 := Tryz.isAgg307
  z232 := Tryz.sizeOf307
  v232 := Tryz.zeroValue307
  t233 := Tryz.underlying308
  a233 := Tryz.isAgg308
  z233 := Tryz.sizeOf308
  v233 := Tryz.zeroValue308
  g17 := by kernel_rfl
  g18 := by kernel_rfl
  g19 := by kernel_rfl }
end Go.Proofs.YtdenehnneloegaaGreatDoor
