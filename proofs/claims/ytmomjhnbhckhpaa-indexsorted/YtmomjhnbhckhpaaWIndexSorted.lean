/-
  The walk of the statement IndexSorted.
  Conditions: none.
-/
import Derived.WalkKit
import Derived.WalkMore
import Derived.IntWalk
import Derived.OwnWalk
import Derived.Lib.Hide
import Derived.Laws.OwnMore
import Derived.BigQuiet
import Derived.Deep.QuietTactic
import Derived.Deep.RegionHeld3
import Derived.Test.YtmomjhnbhckhpaaProg
import Derived.Test.YtmomjhnbhckhpaaIOpen
import Derived.Test.YtmomjhnbhckhpaaTOpen
import Derived.Test.YtmomjhnbhckhpaaIWorks
import Derived.Test.YtmomjhnbhckhpaaIOrder
namespace Go.Proofs.Ytmomjhnbhckhpaa
open Go.RowKit Go.Shelf
set_option linter.unusedVariables false

theorem bools_zero (n : Nat) : (madeCells #[.bool false] (n * 1)).toList = (List.replicate n false).map Value.bool := by
  rw [List.map_replicate, Nat.mul_one]
  refine List.eq_replicate_iff.2 ⟨by simp [size_madeCells], fun b hb => ?_⟩
  simp only [madeCells, Array.toList_map, List.mem_map] at hb
  obtain ⟨i, _, hi⟩ := hb
  simp at hi
  rw [← hi, Nat.mod_one]; rfl

set_option maxRecDepth 100000 in
set_option maxHeartbeats 2000000 in
theorem walkIndexSorted (ho : Option Addr) (hc : Nat) (hd : List ByteArray) (ro : Option Addr) (rc : Nat) (rs : List (List ByteArray)) (co : Option Addr) (cc : Nat) (cols : List Int) (w : World)
    (hA : StrArg w ho hc hd) (hB : RowsArg w ro rc rs) (hI : IntsArg w co cc cols) :
    Calls Try.prog 5 #[.agg #[.slice ho hd.length hc, .slice ro rs.length rc], .slice co cols.length cc] w fun e w' => e = .returned (.bool true) ∧ Below w.heap.size w w' := by
  have hinfo : (Try.prog.info? 4).map (fun i => (i.zero, i.size, i.bytes)) = some (some (.bool false), 1, 1) := by kernel_rfl
  obtain ⟨i0, hi, hz0, hz1, hz2⟩ := info_parts2 hinfo
  have HInf := Lib.hid hi
  clear hi hinfo
  obtain ⟨W, HW⟩ : ∃ W, Hid (W = w.alloc (TabO ho hd.length hc ro rs.length rc)) := ⟨_, Lib.hid rfl⟩
  have hb0 : Below w.heap.size w W := by rw [HW.out]; exact one_below _ _
  have hN : W.heap[w.heap.size]? = some (TabO ho hd.length hc ro rs.length rc) := by rw [HW.out]; exact World.alloc_heap_new w _
  have HA := Lib.hid hA
  have HB := Lib.hid hB
  have HI := Lib.hid hI
  have B0 := Lib.hid hb0
  have box : Hid (∀ V, Below W.heap.size W V → V.cell? ⟨w.heap.size, 0, none⟩ = some (.slice ho hd.length hc) ∧ V.cell? ⟨w.heap.size, 1, none⟩ = some (.slice ro rs.length rc)) := Lib.hid (fun V hV => tabs ((hV.block _ (lt_of_heap hN)).trans hN))
  clear hA hB hI hb0 hN
  go_enter Try.func5, Try.ntmps5
  go_upto_region 1 with fail
  rw [show w.alloc (TabO ho hd.length hc ro rs.length rc) = W from HW.out.symm]
  go_wp2_with fail
  refine (iworks_any _).mono ?_; rintro e w1 ⟨rfl, b1⟩
  obtain ⟨p0, p1⟩ := box.out w1 b1
  have X1 := below_up B0.out b1
  have B1 := Lib.hid b1
  have C1 := Lib.hid (few12_any ho hc hd ro rc rs co cc cols.length w1 HA.out.len HB.out.len HI.out.len HB.out.each HA.out.size (HA.out.row.kept X1) (HB.out.rows.kept X1))
  clear b1 X1
  go_wp2_with fail
  refine C1.out.mono ?_; rintro e w2 ⟨b, rfl, hb, b2⟩
  have B2 := Lib.hid (below_up B1.out b2)
  clear b2 p0 p1 C1 B1
  obtain ⟨p0, p1⟩ := box.out w2 B2.out
  cases b with
  | false =>
    clear hb
    go_wp2_with fail
    go_ret
    exact ⟨rfl, below_up B0.out B2.out⟩
  | true =>
    obtain ⟨hf, h40, h12⟩ := hb rfl
    have HX : Hid (∀ r ∈ rs, r.length ≤ 1099511627776 ∧ ∀ c ∈ r, c.size ≤ 281474976710656) := Lib.hid (fun r hr => ⟨by have := hf.1.2.1 r hr; omega, fun c hc => by have := (HB.out.each r hr).2 c hc; omega⟩)
    clear hf hb
    have X2 := below_up B0.out B2.out
    have CB := Lib.hid (build_any ho hd.length hc ro rc rs co cc cols w2 (by omega) (by omega) HX.out HI.out.wf (HB.out.rows.kept X2) (HI.out.ints.kept X2))
    have CK := Lib.hid (fun V (x : Int) (h : Below w.heap.size w V) => key_any ho hd.length hc ro rc rs x co cc cols V (by omega) (by omega) HX.out (HB.out.rows.kept h) (HI.out.ints.kept h))
    have CC := Lib.hid (fun V (ao bo : Option Addr) (x y : Int) (h1 : StrRow V ao (rowKey rs cols x)) (h2 : StrRow V bo (rowKey rs cols y)) => compareK_any ao bo cols.length cols.length (rowKey rs cols x) (rowKey rs cols y) V (by rw [rowKey_len]; omega) (by rw [rowKey_len]; omega) h1 h2)
    have HKl := Lib.hid (fun x => rowKey_len rs cols x)
    have HMem := Lib.hid (fun x => (build_mem rs cols x).1)
    have HNd := Lib.hid (build_nodup rs cols)
    have HOr : Hid (∀ (k : Nat) x y, (buildL rs cols)[k]? = some x → (buildL rs cols)[k + 1]? = some y → ahead rs cols x y) := Lib.hid (fun k x y hx hy => by
      obtain ⟨b1, e1⟩ := List.getElem?_eq_some_iff.1 hx
      obtain ⟨b2, e2⟩ := List.getElem?_eq_some_iff.1 hy
      have := List.pairwise_iff_getElem.1 (build_order rs cols) k (k + 1) b1 b2 (by omega)
      rwa [e1, e2] at this)
    have hbl := build_len rs cols
    unfold BuildOut at CB
    generalize buildL rs cols = o at CB HMem HNd HOr hbl
    have HOl := Lib.hid hbl
    rw [hbl] at CB
    have hm : rs.length ≤ maxLen := by unfold maxLen; omega
    clear hbl X2
    go_wp2_with fail
    refine CB.out.mono ?_; rintro e w3 ⟨oo, rfl, hio, b3⟩
    have HIO := Lib.hid hio
    have B3 := Lib.hid (below_up B2.out b3)
    clear hio b3 p0 p1 CB B2
    obtain ⟨p0, p1⟩ := box.out w3 B3.out
    go_wp2_with (at_make; refine wpList_make_full _ rfl _ _ 38 rfl w3.heap.size 4 i0 (.bool false) 1 Try.underlying38 HInf.out hz0 hz1 .i64 .i64 (rs.length : Int) (rs.length : Int) rs.length rfl rfl rfl rfl (by rw [hz2]; omega) hm (Nat.le_refl _) ?_; intro w4 hown hgrow)
    obtain ⟨g, hg⟩ : ∃ g, g = w3.heap.size := ⟨_, rfl⟩
    have HG := Lib.hid hg
    have HBw : Hid (Below w3.heap.size w3 w4) := Lib.hid ((Below.refl _ w3).grown hgrow (Nat.le_refl _) (fun k h => by cases h))
    have HSn : Hid (w4.ownsRow w3.heap.size 4 1 (.slice (some ⟨g, 0, none⟩) rs.length rs.length) rs.length ((List.replicate rs.length false).map Value.bool)) := Lib.hid (by rw [← bools_zero, hg]; exact hown)
    rw [← hg]
    have hrl40 : rs.length ≤ 40 := h40
    clear hown hgrow hg p0 p1
    go_wp2_with fail
    go_loopw [8] (fun i wr => ∃ (k : Nat) (bs : List Bool), k ≤ rs.length ∧ i = .int .i64 k ∧ Hid (bs.length = rs.length) ∧ Hid (∀ m : Nat, bs[m]? = some true → (m : Int) ∈ o.take k) ∧ Hid (Below w3.heap.size w3 wr) ∧ Hid (wr.ownsRow w3.heap.size 4 1 (.slice (some ⟨g, 0, none⟩) rs.length rs.length) rs.length (bs.map Value.bool))) (fun i _ => rs.length - (intOf i).toNat)
    case atStart => exact ⟨0, List.replicate rs.length false, Nat.zero_le _, rfl, Lib.hid (by simp), Lib.hid (fun m h => by rw [List.getElem?_replicate] at h; split at h <;> simp at h), HBw, HSn⟩
    case round =>
      clear HBw HSn
      obtain ⟨k, bs, hk, rfl, HBl, HSt, HBw, HSn⟩ := hrel
      by_cases hlt : k < rs.length
      · obtain ⟨x, hx⟩ : ∃ x, o[k]? = some x := ⟨_, List.getElem?_eq_getElem (by rw [HOl.out]; exact hlt)⟩
        obtain ⟨m, hmn, rfl⟩ := HMem.out x (List.mem_of_getElem? hx)
        have HXk := Lib.hid hx
        obtain ⟨A, rfl, hAl, HCell⟩ : ∃ A, oo = some A ∧ A.block < w3.heap.size ∧ Hid (∀ (i : Nat) p, o[i]? = some p → w3.cell? (A.add i) = some (.int .i64 p)) := by
          rcases HIO.out with h0 | ⟨A, h1, h2, h3⟩
          · rw [h0] at hx; simp at hx
          · exact ⟨A, h1, h2, Lib.hid h3⟩
        have hoc : Hid (∀ V, Below w3.heap.size w3 V → ∀ (i : Nat) p, o[i]? = some p → V.cell? (A.add i) = some (.int .i64 p)) := Lib.hid (fun V h i p hp => (h.cell (p := A.add i) (by rw [add_block]; exact hAl)).trans (HCell.out i p hp))
        have hck := hoc.out wr HBw.out k _ hx
        have hbm : bs[m]? = some false := by
          obtain ⟨v, hv⟩ : ∃ v, bs[m]? = some v := ⟨_, List.getElem?_eq_getElem (by rw [HBl.out]; exact hmn)⟩
          cases v with
          | false => exact hv
          | true =>
            exfalso
            have hmem := HSt.out m hv
            obtain ⟨j, hj⟩ := List.mem_iff_getElem?.1 hmem
            have hjk : j < k := by have := (List.getElem?_eq_some_iff.1 hj).1; simp at this; omega
            rw [List.getElem?_take_of_lt hjk] at hj
            obtain ⟨b1, e1⟩ := List.getElem?_eq_some_iff.1 hj
            obtain ⟨b2, e2⟩ := List.getElem?_eq_some_iff.1 hx
            have := List.pairwise_iff_getElem.1 HNd.out j k b1 b2 hjk
            exact this (by rw [e1, e2])
        have hcm : wr.cell? ⟨g, m, none⟩ = some (.bool false) := by
          rw [HSn.out.cellAt m (by rw [Nat.mul_one]; exact hmn), List.getElem?_map, hbm]; rfl
        have hfm : wr.frozen? ⟨g, m, none⟩ = false := HSn.out.frozenAt m
        have dm0 : decide ((m : Int) < 0) = false := decide_eq_false (by omega)
        have dmn : decide ((rs.length : Int) ≤ (m : Int)) = false := decide_eq_false (by omega)
        have dmn2 : decide (rs.length ≤ m) = false := decide_eq_false (by omega)
        have dmn3 : ¬ rs.length ≤ m := by omega
        obtain ⟨V, HV⟩ : ∃ V, Hid (V = wr.setCell ⟨g, m, none⟩ (.bool true)) := ⟨_, Lib.hid rfl⟩
        have HBV : Hid (Below w3.heap.size w3 V) := Lib.hid (by rw [HV.out]; exact HBw.out.setCell (p := ⟨g, m, none⟩) (by rw [HG.out]; exact Nat.le_refl _) _)
        have HSV : Hid (V.ownsRow w3.heap.size 4 1 (.slice (some ⟨g, 0, none⟩) rs.length rs.length) rs.length ((bs.set m true).map Value.bool)) := Lib.hid (by
          rw [HV.out, List.map_set]; exact (HSn.out.stored m (.bool true)).1)
        have HSt2 : Hid (∀ m' : Nat, (bs.set m true)[m']? = some true → (m' : Int) ∈ o.take (k + 1)) := Lib.hid (fun m' h => by
          have hx := HXk.out
          obtain ⟨b2, e2⟩ := List.getElem?_eq_some_iff.1 hx
          rw [List.take_succ_eq_append_getElem b2, e2, List.mem_append]
          by_cases e : m = m'
          · subst e; right; simp
          · rw [List.getElem?_set_ne e] at h
            exact .inl (HSt.out m' h))
        have HBl2 : Hid ((bs.set m true).length = rs.length) := Lib.hid (by rw [List.length_set]; exact HBl.out)
        generalize bs.set m true = bs2 at HSV HSt2 HBl2
        clear hx hbm HSt HBl HSn
        go_upto_region 14 with fail
        rw [show wr.setCell ⟨g, m, none⟩ (.bool true) = V from HV.out.symm]
        clear hcm hfm hck HBw HV
        by_cases hk0 : k = 0
        · have e0 : ((k : Int) == 0) = true := by rw [beq_iff_eq]; omega
          go_wp2_with fail
          go_roundw
          case rel => exact ⟨k + 1, bs2, by omega, by go_num, HBl2, HSt2, HBV, HSV⟩
          case measure => simp [intOf]; omega
        · have e0 : ((k : Int) == 0) = false := by rw [beq_eq_false_iff_ne]; omega
          obtain ⟨q, hq⟩ : ∃ q, q = k - 1 := ⟨_, rfl⟩
          have hkq : k = q + 1 := by omega
          have es : (k : Int) - 1 = (q : Int) := by omega
          have ws : IntKind.i64.wrap ((k : Int) - 1) = (q : Int) := by rw [IntWalk.i64_in _ (by omega)]; exact es
          have wq : IntKind.i64.wrap (q : Int) = (q : Int) := IntWalk.i64_in _ (by omega)
          have hql : q < rs.length := by omega
          obtain ⟨y, hy⟩ : ∃ y, o[q]? = some y := ⟨_, List.getElem?_eq_getElem (by rw [HOl.out]; omega)⟩
          have hah := HOr.out q y m hy (by rw [← hkq]; exact HXk.out)
          have HKEEP : Hid (∀ U, Below w3.heap.size w3 U → U.cell? ⟨w.heap.size, 0, none⟩ = some (.slice ho hd.length hc) ∧ U.cell? ⟨w.heap.size, 1, none⟩ = some (.slice ro rs.length rc) ∧ U.cell? (A.add q) = some (.int .i64 y) ∧ U.cell? (A.add k) = some (.int .i64 m)) := Lib.hid (fun U h => by
            obtain ⟨d0, d1⟩ := box.out U (below_up B3.out h)
            exact ⟨d0, d1, hoc.out U h q y hy, hoc.out U h k _ HXk.out⟩)
          have CKy := Lib.hid (fun V h => CK.out V y h)
          have CKm := Lib.hid (fun V h => CK.out V (m : Int) h)
          have CCx := Lib.hid (fun V (ao bo : Option Addr) h1 h2 => CC.out V ao bo y (m : Int) h1 h2)
          rw [HKl.out y, HKl.out (m : Int)] at CCx
          unfold ahead at hah
          obtain ⟨ky, hky⟩ : ∃ ky, ky = rowKey rs cols y := ⟨_, rfl⟩
          obtain ⟨km, hkm⟩ : ∃ km, km = rowKey rs cols (m : Int) := ⟨_, rfl⟩
          rw [← hky] at CKy CCx hah
          rw [← hkm] at CKm CCx hah
          generalize keyC ky km = r at CCx hah
          have BD := Lib.hid (HBV.out.drew)
          have HSVk := Lib.hid (fun U (h : Below V.heap.size V U) => ownsRow_below HSV.out h)
          have BV0 := Lib.hid (Below.refl V.heap.size V).drew
          obtain ⟨p0, p1, p2, p3⟩ := HKEEP.out V HBV.out
          clear hy hkq hq hky hkm hk0 es
          go_upto_region 15 with fail
          go_cut [9] from 62 to 77 (fun u wc => u = .int .i64 r ∧ Hid (Below w3.heap.size w3 wc) ∧ Hid (wc.ownsRow w3.heap.size 4 1 (.slice (some ⟨g, 0, none⟩) rs.length rs.length) rs.length (bs2.map Value.bool)))
          case first =>
            go_region_held3 (fun U => U.cell? ⟨w.heap.size, 0, none⟩ = some (.slice ho hd.length hc) ∧ U.cell? ⟨w.heap.size, 1, none⟩ = some (.slice ro rs.length rc) ∧ U.cell? (A.add q) = some (.int .i64 y) ∧ U.cell? (A.add k) = some (.int .i64 m)) ((refine ⟨?_, ?_, ?_, ?_⟩ <;> first | assumption | go_keep)) (first
              | (go_at_call 14; refine (CKy.out _ (below_up (below_up B0.out B3.out) BD.out)).mono ?_; rintro e wA ⟨aoA, rfl, hsA, bA⟩; have HBel := Lib.hid (below_up BD.out bA); have HSA := Lib.hid hsA; have HV2 := Lib.hid (below_up BV0.out bA); obtain ⟨p0, p1, p2, p3⟩ := HKEEP.out _ HBel.out; clear hsA bA CKy BD)
              | (go_at_call 14; refine (CKm.out _ (below_up (below_up B0.out B3.out) HBel.out)).mono ?_; rintro e wB ⟨aoB, rfl, hsB, bB⟩; have HBel := Lib.hid (below_up HBel.out bB); have HV2 := Lib.hid (below_up HV2.out bB); have HSA := Lib.hid (HSA.out.kept bB); have HSB := Lib.hid hsB; obtain ⟨p0, p1, p2, p3⟩ := HKEEP.out _ HBel.out; clear hsB bB CKm)
              | (go_at_call 18; refine (CCx.out _ _ _ HSA.out HSB.out).mono ?_; rintro e wC ⟨rfl, bC⟩; have HBel := Lib.hid (below_up HBel.out bC); have HV2 := Lib.hid (below_up HV2.out bC); obtain ⟨p0, p1, p2, p3⟩ := HKEEP.out _ HBel.out; clear bC))
            all_goals (have HS5 := Lib.hid (HSVk.out _ HV2.out))
            all_goals (go_wp2_with fail)
            all_goals (go_meet)
            all_goals (exact ⟨rfl, HBel, HS5⟩)
          case rest =>
            obtain ⟨rfl, HB5, HS5⟩ := hcut
            rename World => w5
            obtain ⟨p0, p1, p2, p3⟩ := HKEEP.out w5 HB5.out
            have dr : decide (0 < r) = false := decide_eq_false (by rcases hah with h | ⟨h, _⟩ <;> omega)
            by_cases hr0 : r = 0
            · have er : (r == 0) = true := by simpa using hr0
              have dy : decide ((m : Int) ≤ y) = false := decide_eq_false (by rcases hah with h | ⟨_, h⟩ <;> omega)
              clear hah hr0
              go_upto_region 16 with fail
              go_quiet (fail)
              have HBq := Lib.hid (bdn (n := nq) HB5.out)
              have HSq := Lib.hid (ownsRow_below HS5.out (bdn (n := nq) (Below.refl _ _)))
              clear p0 p1 p2 p3
              go_wp2_with fail
              go_roundw
              case rel => exact ⟨k + 1, bs2, by omega, by go_num, HBl2, HSt2, HBq, HSq⟩
              case measure => simp [intOf]; omega
            · have er : (r == 0) = false := by simpa using hr0
              clear hah hr0
              go_upto_region 16 with fail
              go_quiet (fail)
              have HBq := Lib.hid (bdn (n := nq) HB5.out)
              have HSq := Lib.hid (ownsRow_below HS5.out (bdn (n := nq) (Below.refl _ _)))
              clear p0 p1 p2 p3
              go_wp2_with fail
              go_roundw
              case rel => exact ⟨k + 1, bs2, by omega, by go_num, HBl2, HSt2, HBq, HSq⟩
              case measure => simp [intOf]; omega
      · obtain rfl : k = rs.length := by omega
        obtain ⟨p0, p1⟩ := box.out wr (below_up B3.out HBw.out)
        have eE : ((rs.length : Int) == (rs.length : Int)) = true := by simp
        go_wp2_with fail
        go_ret
        exact ⟨rfl, below_up B0.out (below_up B3.out HBw.out)⟩
end Go.Proofs.Ytmomjhnbhckhpaa
