/-
  Rows in order of their keys: what the program answers.
  Conditions: at most 2^30 rows, each of at most 2^40 cells of at most 2^48 bytes; at most 2^30 columns that Go integers hold.
-/
import Derived.WalkKit
import Derived.WalkMore
import Derived.IntWalk
import Derived.WalkArith
import Derived.OwnWalk
import Derived.Lib.Hide
import Derived.Laws.OwnMore
import Derived.StillTailTactics
import Derived.Deep.Cut
import Derived.Test.YtmomjhnbhckhpaaDoorProg
import Derived.Test.YtmomjhnbhckhpaaDoorIKeys
import Derived.Test.YtmomjhnbhckhpaaDoorIFind
import Derived.Test.YtmomjhnbhckhpaaDoorIStable
namespace Go.Proofs.YtmomjhnbhckhpaaDoor
open Go.RowKit Go.Shelf
set_option linter.unusedVariables false

def allKeys (rs : List (List ByteArray)) (cols : List Int) : List (List ByteArray) := (List.range rs.length).map fun (i : Nat) => rowKey rs cols i
/-- the rank of a row -/
def rankI (rs : List (List ByteArray)) (cols : List Int) (i : Nat) : Int := rankK keyC (allKeys rs cols) (rowKey rs cols i)
/-- the rows, each with its rank -/
def rowsK (rs : List (List ByteArray)) (cols : List Int) : PL := (List.range rs.length).map fun (i : Nat) => ((i : Int), rankI rs cols i)
/-- rows in order -/
def buildL (rs : List (List ByteArray)) (cols : List Int) : List Int := (sortB (rowsK rs cols)).map Prod.fst
theorem rowsK_len (rs : List (List ByteArray)) (cols : List Int) : (rowsK rs cols).length = rs.length := by simp [rowsK]
theorem build_len (rs : List (List ByteArray)) (cols : List Int) : (buildL rs cols).length = rs.length := by simp [buildL, sortB_len, rowsK_len]
theorem rank_key (rs : List (List ByteArray)) (cols : List Int) (i j : Nat) (hi : i < rs.length) (hj : j < rs.length) : cmpI (rankI rs cols i) (rankI rs cols j) = keyC (rowKey rs cols i) (rowKey rs cols j) := by
  have := rank_cmp key_cmp (allKeys rs cols) (rowKey rs cols i) (rowKey rs cols j) (List.mem_map.2 ⟨i, List.mem_range.2 hi, rfl⟩) (List.mem_map.2 ⟨j, List.mem_range.2 hj, rfl⟩)
  exact this
theorem rank_parts (rs : List (List ByteArray)) (cols : List Int) (i j : Nat) (hi : i < rs.length) (hj : j < rs.length) : lexH partC (partsL rs cols i) (partsL rs cols j) = cmpI (rankI rs cols i) (rankI rs cols j) := by
  rw [parts_cmp, rank_key rs cols i j hi hj]; rfl
/-- a row with its rank -/
def Ranked (rs : List (List ByteArray)) (cols : List Int) (p : Int × Int) : Prop := ∃ i : Nat, i < rs.length ∧ p = ((i : Int), rankI rs cols i)

set_option maxRecDepth 100000 in
set_option maxHeartbeats 1000000 in
theorem build1_any (rs : List (List ByteArray)) (cols : List Int) (hcl : cols.length ≤ 1073741824) (hrl : rs.length ≤ 1073741824) (w0 : World) (g B : Nat) (ko : Option Addr) (kc : Nat) (hg : w0.heap.size ≤ g) (hbox : w0.heap[B]? = some (.cells #[.slice ko rs.length kc] 43 (0, 0))) (hK : KeysAt w0 ko (keysL rs cols)) :
    CmpOK w0 g (Ranked rs cols) 27 (.pointer (some ⟨B, 0, none⟩)) := by
  intro a b c d ha hc W hW
  obtain ⟨i, hi, e1⟩ := ha
  obtain ⟨j, hj, e2⟩ := hc
  simp only [Prod.mk.injEq] at e1 e2
  obtain ⟨rfl, rfl⟩ := e1
  obtain ⟨rfl, rfl⟩ := e2
  have hB : Below w0.heap.size w0 W := (Below.refl _ w0).grown hW (Nat.le_refl _) (fun k h => by cases h; exact hg)
  rw [← rank_parts rs cols i j hi hj]
  have hL1 := keysL_at rs cols i hi
  have hL2 := keysL_at rs cols j hj
  have hl1 := parts_few rs cols (i : Int)
  have hl2 := parts_few rs cols (j : Int)
  rcases hK.kept hB with h0 | ⟨A, rfl, hA, hcell⟩
  · rw [h0] at hL1; simp at hL1
  obtain ⟨po, pc, hc1, hp1⟩ := hcell i _ hL1
  obtain ⟨qo, qc, hc2, hp2⟩ := hcell j _ hL2
  obtain ⟨c0, _⟩ := cell_of_box_l ((hB.block B (lt_of_heap hbox)).trans hbox)
  have hent := enters_of Tryd.func29 (by kernel_rfl) rfl
  have C1 := Lib.hid (cmpP_any 29 partC po qo pc qc (partsL rs cols i) (partsL rs cols j) W.drew hent (by omega) (by omega) (hp1.kept (bdn (n := 1) (Below.refl _ W))) (hp2.kept (bdn (n := 1) (Below.refl _ W))) (fun k x y _ _ V _ => parts_any x y V))
  clear hL1 hL2 hcell hp1 hp2 hbox hK hB hW
  generalize lexH partC (partsL rs cols i) (partsL rs cols j) = r at C1 ⊢
  obtain ⟨n1, hn1⟩ : ∃ n, n = (partsL rs cols i).length := ⟨_, rfl⟩
  obtain ⟨n2, hn2⟩ : ∃ n, n = (partsL rs cols j).length := ⟨_, rfl⟩
  rw [← hn1] at C1 hc1
  rw [← hn2] at C1 hc2
  clear hn1 hn2 hl1 hl2
  go_enter Tryd.func27, Tryd.ntmps27
  go_upto_region 1 with fail
  go_still_tail 8, (by kernel_rfl)
  rw [show ({ heap := W.heap, tape := W.tape, drawn := W.drawn + 1, os := W.os, output := W.output } : World) = W.drew from rfl]
  go_wp2_with fail
  refine C1.out.mono ?_; rintro e w2 ⟨rfl, b1⟩
  have B1 := Lib.hid (below_up (show Below W.heap.size W W.drew from bdn (n := 1) (Below.refl _ W)) b1)
  clear b1
  go_wp2_with fail
  go_ret
  exact ⟨rfl, B1.out⟩
/-- numbers, of which the first k are there -/
def fillK (rs : List (List ByteArray)) (cols : List Int) (k : Nat) : PL := (rowsK rs cols).take k ++ List.replicate (rs.length - k) ((0 : Int), rankI rs cols 0)
theorem fill_zero (rs : List (List ByteArray)) (cols : List Int) : fillK rs cols 0 = List.replicate rs.length ((0 : Int), rankI rs cols 0) := by simp [fillK]
theorem fill_all (rs : List (List ByteArray)) (cols : List Int) : fillK rs cols rs.length = rowsK rs cols := by
  unfold fillK; rw [List.take_of_length_le (by rw [rowsK_len]; exact Nat.le_refl _)]; simp
theorem fill_next (rs : List (List ByteArray)) (cols : List Int) (k : Nat) (h : k < rs.length) : (fillK rs cols k).set k ((k : Int), rankI rs cols k) = fillK rs cols (k + 1) := by
  have hk : (rowsK rs cols)[k]? = some ((k : Int), rankI rs cols k) := by simp [rowsK, h]
  obtain ⟨hl, e⟩ := List.getElem?_eq_some_iff.1 hk
  unfold fillK
  rw [List.set_append_right _ _ (by simp; omega), List.take_succ_eq_append_getElem hl, e]
  obtain ⟨m, hm⟩ : ∃ m, rs.length - k = m + 1 := ⟨rs.length - k - 1, by omega⟩
  rw [hm, show rs.length - (k + 1) = m from by omega, List.replicate_succ]
  have hlen : (List.take k (rowsK rs cols)).length = k := by rw [List.length_take, rowsK_len]; omega
  rw [hlen, Nat.sub_self]; simp
theorem fill_good (rs : List (List ByteArray)) (cols : List Int) (k : Nat) : ∀ p ∈ fillK rs cols k, Ranked rs cols p := fun p hp => by
  unfold fillK at hp
  rcases List.mem_append.1 hp with h | h
  · have := List.mem_of_mem_take h
    unfold rowsK at this
    obtain ⟨i, hi, rfl⟩ := List.mem_map.1 this
    exact ⟨i, List.mem_range.1 hi, rfl⟩
  · obtain ⟨h1, rfl⟩ := List.mem_replicate.1 h
    exact ⟨0, by omega, rfl⟩
theorem fill_len (rs : List (List ByteArray)) (cols : List Int) (k : Nat) (h : k ≤ rs.length) : (fillK rs cols k).length = rs.length := by
  unfold fillK; rw [List.length_append, List.length_take, rowsK_len, List.length_replicate]; omega
theorem cellsZ_zero (n : Nat) (r : Int) : (madeCells #[.int .i64 0] (n * 1)).toList = cellsZ (List.replicate n (0, r)) := by
  have h2 : cellsZ (List.replicate n ((0 : Int), r)) = List.replicate n (.int .i64 0) := by unfold cellsZ; rw [List.map_replicate]
  rw [h2, Nat.mul_one]
  refine List.eq_replicate_iff.2 ⟨by simp [size_madeCells], fun b hb => ?_⟩
  simp only [madeCells, Array.toList_map, List.mem_map] at hb
  obtain ⟨i, _, hi⟩ := hb
  simp at hi
  rw [← hi, Nat.mod_one]; rfl
theorem OwnZ.ints {w0 : World} {Kg : Int × Int → Prop} {w : World} {base g n : Nat} {l : PL} (h : OwnZ w0 Kg w base g n l) : IntsAt w (some ⟨g, 0, none⟩) (l.map Prod.fst) := by
  refine .inr ⟨_, rfl, h.lt.2, fun i p hp => ?_⟩
  have e : (⟨g, 0, none⟩ : Addr).add i = ⟨g, i, none⟩ := by unfold Addr.add; split <;> simp_all
  rw [List.getElem?_map] at hp
  obtain ⟨q, hq, rfl⟩ := Option.map_eq_some_iff.1 hp
  rw [e]; exact h.cell i q hq
/-- rows in order, as they come back -/
def BuildOut (l : List Int) (w : World) (e : Ending) (w' : World) : Prop := ∃ oo, e = .returned (.slice oo l.length l.length) ∧ IntsAt w' oo l ∧ Below w.heap.size w w'

set_option maxRecDepth 100000 in
set_option maxHeartbeats 1000000 in
theorem build_any (ho : Option Addr) (m hc : Nat) (ro : Option Addr) (rc : Nat) (rs : List (List ByteArray)) (co : Option Addr) (cc : Nat) (cols : List Int) (w : World) (hcl : cols.length ≤ 1073741824) (hn : rs.length ≤ 1073741824)
    (hx : ∀ r ∈ rs, r.length ≤ 1099511627776 ∧ ∀ c ∈ r, c.size ≤ 281474976710656) (hwf : ∀ c ∈ cols, (Lit.int .i64 c).wf = true) (hR : RowsAt w ro rs) (hI : IntsAt w co cols) :
    Calls Tryd.prog 9 #[.agg #[.slice ho m hc, .slice ro rs.length rc], .slice co cols.length cc] w (BuildOut (buildL rs cols) w) := by
  have hinfo : (Tryd.prog.info? 3).map (fun i => (i.zero, i.size, i.bytes)) = some (some (.int .i64 0), 1, 8) := by kernel_rfl
  obtain ⟨i0, hi, hz0, hz1, hz2⟩ := info_parts2 hinfo
  have HI := Lib.hid hi
  have hm : rs.length ≤ maxLen := by unfold maxLen; omega
  have HB0 := Lib.hid (one_below w (TabO ho m hc ro rs.length rc))
  have CK := Lib.hid (keysOf_any ho m hc ro rc rs co cc cols (w.alloc (TabO ho m hc ro rs.length rc)) hcl hn hx hwf (hR.kept HB0.out) (hI.kept HB0.out))
  have CC := Lib.hid (fun (w0 : World) (g B : Nat) (ko : Option Addr) (kc : Nat) h1 h2 h3 => build1_any rs cols hcl hn w0 g B ko kc h1 h2 h3)
  have hent := enters_of Tryd.func27 (by kernel_rfl) rfl
  have CS := Lib.hid (fun (w0 : World) (c : Value) (base g : Nat) (hC : CmpOK w0 g (Ranked rs cols) 27 c) (l : PL) (V : World) (hO : OwnZ w0 (Ranked rs cols) V base g rs.length l) => sortStableZ_any w0 (Ranked rs cols) 27 c hent base g rs.length hC l V hn hO)
  have HFn := Lib.hid (fill_next rs cols)
  have HFa := Lib.hid (fill_all rs cols)
  have HFz := Lib.hid (fill_zero rs cols)
  have HFl := Lib.hid (fill_len rs cols)
  have HFg := Lib.hid (fill_good rs cols)
  have HL : Hid ((buildL rs cols).length = rs.length) := Lib.hid (build_len rs cols)
  have HBl : Hid (buildL rs cols = (sortB (rowsK rs cols)).map Prod.fst) := Lib.hid rfl
  clear hi hinfo hR hI hx hwf hent
  generalize buildL rs cols = BL at HL HBl ⊢
  go_enter Tryd.func9, Tryd.ntmps9
  go_wp2_with fail
  refine CK.out.mono ?_
  rintro e w1 ⟨ko, rfl, hK, b1⟩
  have B1 := Lib.hid (below_up HB0.out b1)
  have HK := Lib.hid hK
  clear b1 hK CK HB0
  obtain ⟨V, HV⟩ : ∃ V, Hid (V = w1.alloc (.cells #[.slice ko rs.length rs.length] 43)) := ⟨_, Lib.hid rfl⟩
  go_upto_region 2 with fail
  rw [← HV.out]
  have hVh : V.heap[w1.heap.size]? = some (.cells #[.slice ko rs.length rs.length] 43 (0, 0)) := by rw [HV.out]; exact World.alloc_heap_new _ _
  have hbV : Below w1.heap.size w1 V := by rw [HV.out]; exact (Below.refl _ w1).alloc (Nat.le_refl _) _
  have HBV := Lib.hid (below_up B1.out hbV)
  have HVh := Lib.hid hVh
  have HKV := Lib.hid (HK.out.kept hbV)
  obtain ⟨c0, _⟩ := cell_of_box_l hVh
  clear hVh hbV HV HK B1
  obtain ⟨X, hX⟩ : ∃ X, X = w1.heap.size := ⟨_, rfl⟩
  rw [← hX] at HVh c0 ⊢
  clear hX
  go_wp2_with (at_make; refine wpList_make_full _ rfl _ _ 26 rfl V.heap.size 3 i0 (.int .i64 0) 1 Tryd.underlying26 HI.out hz0 hz1 .i64 .i64 (rs.length : Int) (rs.length : Int) rs.length rfl rfl rfl rfl (by rw [hz2]; omega) hm (Nat.le_refl _) ?_; intro w2 hown hgrow)
  obtain ⟨g, hg⟩ : ∃ g, g = V.heap.size := ⟨_, rfl⟩
  have HG := Lib.hid hg
  have HO : Hid (OwnZ V (Ranked rs cols) w2 V.heap.size g rs.length (fillK rs cols 0)) := Lib.hid ⟨HFl.out 0 (Nat.zero_le _), by rw [HFz.out, ← cellsZ_zero, hg]; exact hown, HFg.out 0, grown_trans ⟨rfl, rfl, rfl, Nat.le_refl _, fun _ _ _ => rfl⟩ ⟨hgrow.os, hgrow.tape, hgrow.output, hgrow.size, fun k hk hne => hgrow.block k hk (by simp)⟩⟩
  rw [← hg]
  clear hown hgrow c0 hg
  go_wp2_with fail
  go_loopw [16] (fun i wr => ∃ (k : Nat), k ≤ rs.length ∧ i = .int .i64 k ∧ Hid (OwnZ V (Ranked rs cols) wr V.heap.size g rs.length (fillK rs cols k))) (fun i _ => rs.length - (intOf i).toNat)
  case atStart => exact ⟨0, Nat.zero_le _, rfl, HO⟩
  case round =>
    clear HO
    obtain ⟨k, hk, rfl, HO⟩ := hrel
    by_cases hlt : k < rs.length
    · obtain ⟨p, hp⟩ : ∃ p, (fillK rs cols k)[k]? = some p := ⟨_, List.getElem?_eq_getElem (by rw [HFl.out k hk]; exact hlt)⟩
      have hc := HO.out.cell k p hp
      have hf := HO.out.frozen k
      have O3 := HO.out.store k (k : Int) (rankI rs cols k) ⟨k, hlt, rfl⟩
      rw [HFn.out k hlt] at O3
      have HO3 := Lib.hid O3
      clear O3 hp HO
      generalize p.1 = old at hc
      go_wp2_with fail
      go_roundw
      case rel => exact ⟨k + 1, by omega, by go_num, HO3⟩
      case measure => simp [intOf]; omega
    · obtain rfl : k = rs.length := by omega
      have O2 := HO.out
      rw [HFa.out] at O2
      have C1 := Lib.hid (CS.out V (.pointer (some ⟨X, 0, none⟩)) V.heap.size g (CC.out V g X ko rs.length (by rw [HG.out]; exact Nat.le_refl _) HVh.out HKV.out) _ wr O2)
      clear O2 HO hlt
      go_wp2_with fail
      refine C1.out.mono ?_; rintro e w3 ⟨rfl, h1, h2⟩
      have HE : Hid (BuildOut BL w (.returned (.slice (some ⟨g, 0, none⟩) rs.length rs.length)) w3) := Lib.hid ⟨_, by rw [HL.out], by rw [HBl.out]; exact h1.ints, HBV.out.grown h1.grown (by have := HBV.out.size; omega) (fun j h => by cases h; rw [HG.out]; exact HBV.out.size)⟩
      clear h1 h2
      go_wp2_with fail
      go_ret
      exact HE.out
end Go.Proofs.YtmomjhnbhckhpaaDoor
