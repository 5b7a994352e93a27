/-
  Whether rows are told apart by columns: what the program answers.
  Conditions: at most 2^20 columns and 2^40 rows; cells of at most 2^20 bytes; the library's table of powers of ten reads as its text lays it.
-/
import Derived.WideKeyPair
import Derived.WalkKit
import Derived.WalkMore
import Derived.IntWalk
import Derived.WalkArith
import Derived.OwnWalk
import Derived.Lib.Hide
import Derived.Test.YtmomjhnbhckhpaaDoorProg
import Derived.Test.YtmomjhnbhckhpaaDoorTTwice
import Derived.Test.YtmomjhnbhckhpaaDoorKKey
namespace Go.Proofs.YtmomjhnbhckhpaaDoor
open Go.RowKit Go.Shelf Go.Maps
set_option linter.unusedVariables false

theorem ownsMap_below {H : Type} {P : Program} {k : TypeId} {R : Value → Option (DataW H × List MemPlace)} {b n : Nat} {D : DataW H} {w w' : World} (h : w.ownsMap P k R b n D) (hB : Below w.heap.size w w') : w'.ownsMap P k R b n D :=
  h.kept (row := none) ⟨hB.os, hB.tape, hB.output, hB.size, fun k hk _ => hB.block k hk⟩ (by simp)
/-! keys in a map -/
theorem arrK : WideMaps.ArrKey Tryd.prog 62 9 3 := { hu := Tryd.underlying62, plain := by kernel_rfl, one := by kernel_rfl, size := by kernel_rfl }
theorem keyedK : Keyed Tryd.prog 62 := Keyed.of_law arrK.law
/-- what a key is in a map -/
def keyT (k : ByteArray × ByteArray × ByteArray) : ByteArray := ⟨(keyBytes [.string k.1.data.toList, .string k.2.1.data.toList, .string k.2.2.data.toList]).toArray⟩
theorem keyOf_three (k : ByteArray × ByteArray × ByteArray) (h0 : k.1.size ≤ maxLen) (h1 : k.2.1.size ≤ maxLen) (h2 : k.2.2.size ≤ maxLen) : keyOf Tryd.prog 62 (.agg (keyV k)) = some (.string (keyT k).data.toList) := by
  have hsz : ∃ m, Tryd.prog.types.size = m + 1 := ⟨Tryd.prog.types.size - 1, by kernel_rfl⟩
  have hkt := arrK.keyType hsz
  obtain ⟨m, hm⟩ := hsz
  unfold keyOf
  simp only [arrK.hu]
  rw [if_pos (by simp [hkt, Value.formed, arrK.hu, arrK.size, keyV]), hm]
  unfold Program.keyLits
  simp only [arrK.hu, Value.cells, keyV]
  rw [if_pos (by rw [arrK.size]; rfl), show List.range 3 = [0, 1, 2] from rfl, List.mapM_cons, List.mapM_cons, List.mapM_cons, List.mapM_nil]
  simp [arrK.one, Program.keyLits, Tryd.underlying9, h0, h1, h2, keyT]
theorem keyT_inj (k l : ByteArray × ByteArray × ByteArray) (h0 : k.1.size ≤ maxLen) (h1 : k.2.1.size ≤ maxLen) (h2 : k.2.2.size ≤ maxLen) (g0 : l.1.size ≤ maxLen) (g1 : l.2.1.size ≤ maxLen) (g2 : l.2.2.size ≤ maxLen) (h : keyT k = keyT l) : k = l := by
  have e := arrK.law.inj (keyOf_three k h0 h1 h2) (by rw [h]; exact keyOf_three l g0 g1 g2)
  simp only [keyV, Value.agg.injEq, Array.mk.injEq, List.cons.injEq, Value.string.injEq, and_true] at e
  obtain ⟨a, b, c⟩ := k
  obtain ⟨a', b', c'⟩ := l
  simp only [Prod.mk.injEq]; exact e
/-- all rows' keys -/
def keysOf (rs : List (List ByteArray)) (own : List Int) : List ByteArray := (List.range rs.length).map fun i => keyT (key3 rs own i)
theorem keysOf_at (rs : List (List ByteArray)) (own : List Int) (i : Nat) (h : i < rs.length) : (keysOf rs own)[i]? = some (keyT (key3 rs own i)) := by
  unfold keysOf; rw [List.getElem?_map, List.getElem?_range h]; rfl
def SmallK (rs : List (List ByteArray)) : Prop := ∀ r ∈ rs, r.length ≤ 1099511627776 ∧ ∀ c ∈ r, c.size ≤ 1048576
theorem cell_small {rs : List (List ByteArray)} (hs : SmallK rs) (i c : Int) : (cellL rs i c).size ≤ 1048576 := by
  unfold cellL
  split
  · cases hr : rs[i.toNat]? with
    | none => simp [ByteArray.size]
    | some r =>
      show ((r[c.toNat]?).getD _).size ≤ _
      cases hx : r[c.toNat]? with
      | none => simp [ByteArray.size]
      | some x => exact (hs r (List.mem_of_getElem? hr)).2 x (List.mem_of_getElem? hx)
  · simp [ByteArray.size]
theorem key3_small {rs : List (List ByteArray)} (hs : SmallK rs) (own : List Int) (hl : own.length ≤ 1048576) (hw : ∀ c ∈ own, (Lit.int .i64 c).wf = true) (i : Nat) : (key3 rs own i).1.size ≤ maxLen ∧ (key3 rs own i).2.1.size ≤ maxLen ∧ (key3 rs own i).2.2.size ≤ maxLen := by
  have hm : 1099579000000000 ≤ maxLen := by unfold maxLen; omega
  have hcell := fun c : Int => cell_small hs (i : Int) c
  have hk : ∀ j, ((keyL rs own i).getD j emptyT).size ≤ 1048576 := fun j => by
    unfold keyL
    rw [List.getD_eq_getElem?_getD, List.getElem?_map]
    cases own[j]? with
    | none => simp [emptyT, ByteArray.size]
    | some c => exact hcell c
  unfold key3
  split
  · refine ⟨by have := hcell (own.getD 0 0); dsimp only; omega, by have := hcell (own.getD 1 0); dsimp only; omega, ?_⟩
    have h1 := text_few rs i (own.drop 2) (fun r hr => (hs r hr).2) (fun c hc => hw c (List.mem_of_mem_drop hc))
    have h2 : (own.drop 2).length ≤ 1048576 := by rw [List.length_drop]; omega
    show (⟨(textL rs i (own.drop 2)).toArray⟩ : ByteArray).size ≤ maxLen
    rw [ba_mk_size]
    omega
  · exact ⟨by have := hk 0; dsimp only; omega, by have := hk 1; dsimp only; omega, by have := hk 2; dsimp only; omega⟩
theorem dup_keys {rs : List (List ByteArray)} (hs : SmallK rs) (own : List Int) (hl : own.length ≤ 1048576) (hw : ∀ c ∈ own, (Lit.int .i64 c).wf = true) (hn : own.Nodup) : dupL (keysOf rs own) = !apartRows rs own := by
  have hiff : (bytesOf (keysOf rs own)).Nodup ↔ apartRows rs own = true := by
    rw [apart_iff]
    unfold bytesOf
    rw [List.Nodup, List.pairwise_iff_getElem]
    constructor
    · intro h i j hij hj he
      have hlen : ((keysOf rs own).map fun c => c.data.toList).length = rs.length := by simp [keysOf]
      have := h i j (by rw [hlen]; omega) (by rw [hlen]; omega) hij
      apply this
      simp only [List.getElem_map, keysOf, List.getElem_range]
      rw [(key3_eq rs own hn i j).2 he]
    · intro h i j hi hj hij he
      have hlen : ((keysOf rs own).map fun c => c.data.toList).length = rs.length := by simp [keysOf]
      rw [hlen] at hi hj
      simp only [List.getElem_map, keysOf, List.getElem_range] at he
      obtain ⟨a1, a2, a3⟩ := key3_small hs own hl hw i
      obtain ⟨b1, b2, b3⟩ := key3_small hs own hl hw j
      exact h i j hij hj ((key3_eq rs own hn i j).1 (keyT_inj _ _ a1 a2 a3 b1 b2 b3 (ba_eq he)))
  unfold dupL
  cases h : apartRows rs own with
  | true => rw [h] at hiff; simp [hiff.2 rfl]
  | false =>
    rw [h] at hiff
    have : ¬ (bytesOf (keysOf rs own)).Nodup := fun hh => by have := hiff.1 hh; cases this
    simp [this]
/-- the first and the last of columns that rise -/
theorem out_head (n : Nat) (rs : List (List ByteArray)) (own : List Int) (h : own.Pairwise (fun a b => a < b)) (f g : Int) (q : Nat) (hf : own[0]? = some f) (hg : own[q]? = some g) (hq : q + 1 = own.length) : inHead n own = (!decide (f < 0) && decide (g < (n : Int))) := by
  rw [Bool.eq_iff_iff, inHead_iff, Bool.and_eq_true, Bool.not_eq_true', decide_eq_false_iff_not, decide_eq_true_iff]
  obtain ⟨hf1, hf2⟩ := List.getElem?_eq_some_iff.1 hf
  obtain ⟨hg1, hg2⟩ := List.getElem?_eq_some_iff.1 hg
  constructor
  · intro h1
    have a := h1 f (List.mem_of_getElem? hf)
    have b := h1 g (List.mem_of_getElem? hg)
    omega
  · rintro ⟨h1, h2⟩ c hc
    obtain ⟨j, hj, rfl⟩ := List.mem_iff_getElem.1 hc
    rw [List.pairwise_iff_getElem] at h
    constructor
    · by_cases h0 : j = 0
      · subst h0; rw [hf2]; omega
      · have := h 0 j hf1 hj (by omega); rw [hf2] at this; omega
    · by_cases h0 : j = q
      · subst h0; rw [hg2]; omega
      · have := h j q hj hg1 (by omega); rw [hg2] at this; omega

set_option maxRecDepth 100000 in
set_option maxHeartbeats 8000000 in
theorem unique_any (ho : Option Addr) (n hc : Nat) (ro : Option Addr) (rc : Nat) (rs : List (List ByteArray)) (co : Option Addr) (cc : Nat) (cols : List Int) (w : World) (hn : n ≤ 1099511627776) (hn2 : rs.length ≤ 1099511627776) (hx : SmallK rs)
    (hcl : cols.length ≤ 1048576) (hw : ∀ c ∈ cols, (Lit.int .i64 c).wf = true) (hR : RowsAt w ro rs) (hI : IntsAt w co cols) (hpow : Pow w) :
    Calls Tryd.prog 12 #[.agg #[.slice ho n hc, .slice ro rs.length rc], .slice co cols.length cc] w fun e w' => e = .returned (.bool (uniqL n rs cols)) ∧ Below w.heap.size w w' := by
  have hmm := @run_makeMap Tryd.prog
  obtain ⟨V, HV⟩ : ∃ V, Hid (V = w.alloc (TabO ho n hc ro rs.length rc)) := ⟨_, Lib.hid rfl⟩
  have HB := Lib.hid (show Below w.heap.size w V by rw [HV.out]; exact one_below w _)
  have HbV := Lib.hid (show V.heap[w.heap.size]? = some (TabO ho n hc ro rs.length rc) by rw [HV.out]; exact World.alloc_heap_new w _)
  have HX := Lib.hid hx
  have HR := Lib.hid hR
  have HI := Lib.hid (hI.kept HB.out)
  have HP := Lib.hid hpow
  have HU := Lib.hid (uniq_mem n rs cols (ownL cols) (own_mem cols))
  have HW := Lib.hid (show ∀ c ∈ ownL cols, (Lit.int .i64 c).wf = true from fun c hc => hw c ((own_mem cols c).1 hc))
  have HRi := Lib.hid (own_rises cols)
  have HND := Lib.hid (own_nodup cols)
  have HOL := Lib.hid (own_len cols)
  have HSL := Lib.hid (sort_len cols)
  obtain ⟨V1, HV1⟩ : ∃ V1, Hid (V1 = V.alloc (.cells #[.slice co cols.length cc] 26)) := ⟨_, Lib.hid rfl⟩
  have HB1 := Lib.hid (show Below V.heap.size V V1 by rw [HV1.out]; exact one_below V _)
  have CV : Hid (Calls Tryd.prog 35 #[.slice co cols.length cc] V fun e w' => e = .returned (.func (.func 62) #[] #[.pointer (some ⟨V.heap.size, 0, none⟩)]) ∧ w' = V1) := Lib.hid (by rw [HV1.out]; exact values_any co cols.length cc V)
  have CS := Lib.hid (sorted_any co cc cols V.heap.size V1 (by omega) (HI.out.kept HB1.out) (by rw [HV1.out]; exact World.alloc_heap_new V _))
  have HVs := Lib.hid (lt_of_heap HbV.out)
  obtain ⟨L, hL⟩ : ∃ L, L = ownL cols := ⟨_, rfl⟩
  rw [← HU.out, ← hL]
  clear hx hw hR hI hpow
  go_enter Tryd.func12, Tryd.ntmps12
  go_wp2_with fail
  rw [← HV.out]
  refine CV.out.mono ?_
  rintro e w1 ⟨rfl, rfl⟩
  go_wp2_with fail
  refine CS.out.mono ?_
  rintro e w2 ⟨v, rfl, hown, hb2⟩
  have CC := Lib.hid (compact_any w1.heap.size v (sortL cols) w2 hb2.size (by rw [HSL.out]; omega) hown)
  have HB2 := Lib.hid (HB1.out.trans (hb2.mono HB1.out.size))
  have HB2s := Lib.hid hb2
  obtain ⟨so, sc, rfl⟩ := own_slice hown
  clear hown hb2 CV CS
  go_wp2_with fail
  refine CC.out.mono ?_
  rintro e Z ⟨oo, oc, rfl, hIo, hoc, hbz⟩
  have HBZ := Lib.hid (HB2.out.trans (hbz.mono HB1.out.size))
  change IntsAt Z oo (ownL cols) at hIo
  change (ownL cols).length ≤ oc at hoc
  rw [show Lib.compact (sortL cols) = ownL cols from rfl]
  rw [← hL] at hIo hoc HU HW HRi HND HOL ⊢
  have hLn : L.length ≤ 1048576 := by have := HOL.out; omega
  have HIo := Lib.hid hIo
  have hbox := (HBZ.out.block _ HVs.out).trans HbV.out
  have bc0 : Z.cell? ⟨w.heap.size, 0, none⟩ = some (.slice ho n hc) := (Lib.cell_of_heap hbox 0).trans rfl
  have bc1 : Z.cell? ⟨w.heap.size, 1, none⟩ = some (.slice ro rs.length rc) := (Lib.cell_of_heap hbox 1).trans rfl
  have HBw := Lib.hid (HB.out.trans (HBZ.out.mono HB.out.size))
  clear hL hbz CC hbox HB2 HU HSL HOL
  by_cases h0 : L.length = 0
  · have hl : L = [] := List.eq_nil_of_length_eq_zero h0
    subst hl
    have E := Lib.hid (uniq_none n rs)
    clear h0
    simp only [List.length_nil]
    go_wp2_with fail
    go_region
    go_wp2_with fail
    go_ret
    exact ⟨by rw [E.out]; rfl, HBw.out.drew⟩
  · obtain ⟨q, hq⟩ : ∃ q, q + 1 = L.length := ⟨L.length - 1, by omega⟩
    obtain ⟨f, hf⟩ : ∃ f, L[0]? = some f := ⟨_, List.getElem?_eq_getElem (by omega)⟩
    obtain ⟨g, hg⟩ : ∃ g, L[q]? = some g := ⟨_, List.getElem?_eq_getElem (by omega)⟩
    have HO := Lib.hid (out_head n rs L HRi.out f g q hf hg hq)
    rcases hIo with h1 | ⟨A, rfl, hA, hcell⟩
    · rw [h1] at h0; simp at h0
    have cf : Z.cell? A = some (.int .i64 f) := hcell 0 f hf
    have cg := hcell q g hg
    have e1 : IntKind.i64.wrap ((L.length : Int) - 1) = (q : Int) := by
      have h := IntWalk.i64_in ((L.length : Int) - 1) (by omega)
      rw [h]; omega
    have e0 : ((L.length : Int) == 0) = false := by
      cases hh : ((L.length : Int) == 0) with
      | false => rfl
      | true => exact absurd (eq_of_beq hh) (by omega)
    have hqL : q < L.length := by omega
    have hL0 : 0 < L.length := by omega
    have HF := Lib.hid hf
    have HG := Lib.hid hg
    have HQ := Lib.hid hq
    clear hcell hf hg hq h0
    by_cases hb1 : f < 0
    · have E : Hid (uniqL n rs L = false) := Lib.hid (uniq_out n rs L f (List.mem_of_getElem? HF.out) (.inl hb1))
      have b1 : decide (f < 0) = true := by simpa using hb1
      go_wp2_with fail
      go_region
      go_wp2_with fail
      go_ret
      exact ⟨by rw [E.out]; rfl, HBw.out.drew⟩
    · have b1 : decide (f < 0) = false := by simpa using hb1
      by_cases hb2 : (n : Int) ≤ g
      · have E : Hid (uniqL n rs L = false) := Lib.hid (uniq_out n rs L g (List.mem_of_getElem? HG.out) (.inr hb2))
        have b2 : decide ((n : Int) ≤ g) = true := by simpa using hb2
        go_wp2_with fail
        go_region
        go_wp2_with fail
        go_ret
        exact ⟨by rw [E.out]; rfl, HBw.out.drew⟩
      · have b2 : decide ((n : Int) ≤ g) = false := by simpa using hb2
        have E : Hid (uniqL n rs L = !dupL (keysOf rs L)) := Lib.hid (by
          rw [dup_keys HX.out L hLn HW.out HND.out, Bool.not_not]
          unfold uniqL
          rw [HO.out, b1]
          have : L.isEmpty = false := by cases L with | nil => simp at hL0 | cons a l => rfl
          have h3 : decide (g < (n : Int)) = true := by simp at b2 ⊢; omega
          rw [this, h3]; rfl)
        have HY := Lib.hid (dup_yes (keysOf rs L))
        have HNn := Lib.hid (dup_no (keysOf rs L))
        have HKL : Hid ((keysOf rs L).length = rs.length) := Lib.hid (by simp [keysOf])
        have HKA := Lib.hid (keysOf_at rs L)
        obtain ⟨xs, hxs⟩ : ∃ xs, xs = keysOf rs L := ⟨_, rfl⟩
        rw [← hxs] at E HY HNn HKL HKA
        obtain ⟨D, hD⟩ : ∃ D, D = dupL xs := ⟨_, rfl⟩
        rw [← hD] at E HY HNn
        clear hxs hD HO
        go_wp2_with fail
        go_region
        obtain ⟨Z1, hZ1⟩ : ∃ Z1, Z1 = Z.drew := ⟨_, rfl⟩
        have bd0 : Z1.cell? ⟨w.heap.size, 0, none⟩ = some (.slice ho n hc) := by rw [hZ1]; exact bc0
        have bd1 : Z1.cell? ⟨w.heap.size, 1, none⟩ = some (.slice ro rs.length rc) := by rw [hZ1]; exact bc1
        have HBw1 : Hid (Below w.heap.size w Z1) := Lib.hid (by rw [hZ1]; exact HBw.out.drew)
        have HBZ1 : Hid (Below V.heap.size V Z1) := Lib.hid (by rw [hZ1]; exact HBZ.out.drew)
        have HIo1 : Hid (IntsAt Z1 (some A) L) := Lib.hid (HIo.out.kept (by rw [hZ1]; exact (Below.refl _ Z).drew))
        have HMO : Hid ((Z1.alloc (.map #[] 0)).ownsMap Tryd.prog 62 (plainElem Tryd.prog 4) Z1.heap.size 0 (seenK xs 0)) := Lib.hid (World.ownsMap_made Z1 _ _ _)
        have HMB : Hid (Below Z1.heap.size Z1 (Z1.alloc (.map #[] 0))) := Lib.hid ((Below.refl _ Z1).alloc (Nat.le_refl _) _)
        have bm1 : (Z1.alloc (.map #[] 0)).cell? ⟨w.heap.size, 1, none⟩ = some (.slice ro rs.length rc) := cell_alloc_l _ bd1
        rw [← hZ1]
        clear hZ1 bc0 bc1 cf cg e1 e0 b1 b2 hb1 hb2 HF HG HQ HBw HBZ HIo bd0 bd1
        go_wp2_with fail
        go_loopw [38] (fun j wr => ∃ k : Nat, k ≤ rs.length ∧ j = .int .i64 k ∧ Hid (Below Z1.heap.size Z1 wr) ∧ Hid (wr.ownsMap Tryd.prog 62 (plainElem Tryd.prog 4) Z1.heap.size k (seenK xs k)) ∧ Hid ((bytesOf (xs.take k)).Nodup)) (fun j _ => rs.length - (intOf j).toNat)
        case atStart => exact ⟨0, Nat.zero_le _, rfl, HMB, HMO, Lib.hid (by simp [bytesOf])⟩
        case round =>
          obtain ⟨k, hk, rfl, HB, HO, HD⟩ := hrel
          clear bm1
          by_cases hlt : k < rs.length
          · have HBwr := Lib.hid (HBw1.out.trans (HB.out.mono HBw1.out.size))
            have HBVr := Lib.hid (HBZ1.out.trans (HB.out.mono HBZ1.out.size))
            have hbox := (HBVr.out.block _ HVs.out).trans HbV.out
            have bc0 : wr.cell? ⟨w.heap.size, 0, none⟩ = some (.slice ho n hc) := (Lib.cell_of_heap hbox 0).trans rfl
            have bc1 : wr.cell? ⟨w.heap.size, 1, none⟩ = some (.slice ro rs.length rc) := (Lib.cell_of_heap hbox 1).trans rfl
            have CK := Lib.hid (keyOf_any ho n hc ro rc rs k (some A) oc L wr hlt hn2 HX.out hLn hoc HRi.out HW.out (HR.out.kept HBwr.out) (HIo1.out.kept HB.out) (HP.out.kept HBwr.out))
            obtain ⟨k1, k2, k3⟩ := key3_small HX.out L hLn HW.out k
            have hkey := keyOf_three (key3 rs L k) k1 k2 k3
            have hx : xs[k]? = some (keyT (key3 rs L k)) := HKA.out k hlt
            obtain ⟨K3, hK3⟩ : ∃ K3, K3 = key3 rs L k := ⟨_, rfl⟩
            rw [← hK3] at CK hkey hx
            clear k1 k2 k3 hbox hK3
            go_wp2_with fail
            refine CK.out.mono ?_
            rintro e w3 ⟨rfl, b3⟩
            have HBa := Lib.hid (below_up HB.out b3)
            have HOa := Lib.hid (ownsMap_below HO.out b3)
            clear b3 bc0 bc1 CK HB HO HBwr HBVr
            unfold keyV at hkey ⊢
            obtain ⟨U, HU⟩ : ∃ U, Hid (U = w3.alloc (.cells #[.string K3.1, .string K3.2.1, .string K3.2.2] 62)) := ⟨_, Lib.hid rfl⟩
            have hbU : Below w3.heap.size w3 U := by rw [HU.out]; exact one_below w3 _
            have hUh : U.heap[w3.heap.size]? = some (.cells #[.string K3.1, .string K3.2.1, .string K3.2.2] 62 (0, 0)) := by rw [HU.out]; exact World.alloc_heap_new _ _
            have u0 : U.cell? ⟨w3.heap.size, 0, none⟩ = some (.string K3.1) := (Lib.cell_of_heap hUh 0).trans rfl
            have u1 : U.cell? ⟨w3.heap.size, 1, none⟩ = some (.string K3.2.1) := (Lib.cell_of_heap hUh 1).trans rfl
            have u2 : U.cell? ⟨w3.heap.size, 2, none⟩ = some (.string K3.2.2) := (Lib.cell_of_heap hUh 2).trans rfl
            have HOU := Lib.hid (ownsMap_below HOa.out hbU)
            have HBU := Lib.hid (below_up HBa.out hbU)
            obtain ⟨c, hrun, hat⟩ := lookup_bool HOU.out keyedK Tryd.underlying60 Tryd.underlying4 (Tryd.zeroValue4 _) hkey
            rw [seenK_at] at hat
            have HC : Hid (decide ((keyT K3).data.toList ∈ bytesOf (xs.take k)) = c) := Lib.hid (by injection hat with h1; injection h1)
            have HX3 := Lib.hid hx
            have HK := Lib.hid hkey
            clear hbU hUh hat hkey hx HOa HBa
            cases c with
            | true =>
              have E2 := Lib.hid (HY.out k _ HX3.out (of_decide_eq_true HC.out))
              have HBF := Lib.hid (HBw1.out.trans (HBU.out.mono HBw1.out.size))
              go_upto_region 9 with fail
              rw [← HU.out]
              go_wp2_with fail
              go_ret
              exact ⟨by rw [E.out, E2.out]; rfl, HBF.out⟩
            | false =>
              have HD' := Lib.hid (nodup_next xs k _ HX3.out HD.out (of_decide_eq_false HC.out))
              have hkm : k < maxLen := by unfold maxLen; omega
              go_upto_region 9 with fail
              rw [← HU.out]
              go_wp2_with (at_mapUpdate; refine wpList_mapUpdate_own _ rfl _ _ _ 60 rfl 62 4 keyedK Tryd.underlying60 _ Z1.heap.size k (seenK xs k) rfl HOU.out hkm _ _ (.string (keyT K3).data.toList) rfl rfl HK.out (.lit (.bool true)) [] (plainElem_bool Tryd.underlying4 true) ?_; intro w4 ho hg)
              have HB' := Lib.hid (HBU.out.grown hg HBU.out.size (fun k h => by cases h; exact Nat.le_refl _))
              rw [← seenK_next xs k _ HX3.out] at ho
              have HO' := Lib.hid ho
              clear ho hg u0 u1 u2 hrun
              go_wp2_with fail
              go_roundw
              case rel => exact ⟨k + 1, by omega, by go_num, HB', HO', HD'⟩
              case measure => simp [intOf]; omega
          · have hke : k = xs.length := by have := HKL.out; omega
            have E2 := Lib.hid (HNn.out (by rw [← hke]; exact HD.out))
            have HBF := Lib.hid (HBw1.out.trans (HB.out.mono HBw1.out.size))
            clear hke
            go_wp2_with fail
            go_ret
            exact ⟨by rw [E.out, E2.out]; rfl, HBF.out⟩
end Go.Proofs.YtmomjhnbhckhpaaDoor
