/-
  Texts of these rows' proofs, laid one behind the other: KLaid, KKey.
  Conditions: those of each theorem.
-/
import Derived.Test.YtdenehnneloegaaGreatDoorRows
import Derived.Test.YtdenehnneloegaaGreatDoorPb16
import Derived.LaidLaws
import Derived.Lib.LaidTab
import Derived.Stop.LaidErr
import Derived.RowKit
import Derived.WalkKit
import Derived.WalkMore
import Derived.IntWalk
import Derived.WalkArith
import Derived.OwnWalk
import Derived.Lib.Hide
import Derived.Test.YtdenehnneloegaaGreatDoorProg
namespace Go.Proofs.YtdenehnneloegaaGreatDoor
open Go.ChangeShapes Go.RowKit
set_option linter.unusedVariables false
abbrev laidL : List (String × DataW Unit) := [("math/bits.deBruijn32tab", Rows.laid_math_bits_deBruijn32tab), ("math/bits.deBruijn64tab", Rows.laid_math_bits_deBruijn64tab), ("internal/strconv.uint64pow10", Rows.laid_internal_strconv_uint64pow10)]
theorem laid_pow : (Rows.laid_internal_strconv_uint64pow10 : DataW Unit) = Lib.tabData .u64 Lib.pow10Tab := by
  unfold Rows.laid_internal_strconv_uint64pow10 Lib.tabData Lib.pow10Tab
  simp [List.range, List.range.loop]
theorem pow_of_laid {W : World} (h : laidMet Tryz.prog laidL W) : Pow W := by
  have h3 := h.tail.tail
  rw [laid_pow] at h3
  exact Lib.tabIs_of_head (g := 1) (t := 289) (e := 205) (n := 20) (by kernel_rfl) (by kernel_rfl) (by kernel_rfl) (by kernel_rfl) (by kernel_rfl) (by kernel_rfl) h3
def tab32 : List Int := [0, 1, 28, 2, 29, 14, 24, 3, 30, 22, 20, 15, 25, 17, 4, 8, 31, 27, 13, 23, 21, 19, 16, 7, 26, 12, 18, 6, 11, 5, 10, 9]
def tab64 : List Int := [0, 1, 56, 2, 57, 49, 28, 3, 61, 58, 42, 50, 38, 29, 17, 4, 62, 47, 59, 36, 45, 43, 51, 22, 53, 39, 33, 30, 24, 18, 12, 5, 63, 55, 48, 27, 60, 41, 37, 16, 46, 35, 44, 21, 52, 32, 23, 11, 54, 26, 40, 15, 34, 20, 31, 10, 25, 14, 19, 9, 13, 8, 7, 6]
def putTab (h : Array Obj) (g : Nat) (k : IntKind) (zs : List Int) : Array Obj := h.modify g fun
  | .cells _ t fr => .cells (zs.map fun z => Value.int k z).toArray t fr
  | o => o
/-- a start in which the tables lie -/
noncomputable def laidWorld (os : Os) : World :=
  let w0 := World.holding Tryz.prog os ⟨#[], #[], []⟩
  { w0 with heap := putTab (putTab (putTab w0.heap 1 .u64 Lib.pow10Tab) 2 .u8 tab32) 3 .u8 tab64 }
theorem laidWorld_met (os : Os) (args : Array Value) : laidMet Tryz.prog laidL ((laidWorld os).forCall (fun _ _ => 0) ⟨#[], args, []⟩).memory :=
  laidMet_of_run' 8 (by kernel_rfl) (by kernel_rfl)
end Go.Proofs.YtdenehnneloegaaGreatDoor
namespace Go.Proofs.YtdenehnneloegaaGreatDoor
open Go.RowKit Go.Shelf
set_option linter.unusedVariables false
/-- three texts, in the make -/
def stage (rs : List (List ByteArray)) (i : Nat) (L : List Int) (z : ByteArray) (k : Nat) : ByteArray × ByteArray × ByteArray :=
  (if 0 < k then cellL rs i (L.getD 0 0) else emptyT, if 1 < k then cellL rs i (L.getD 1 0) else emptyT, if 2 < k then cellL rs i (L.getD 2 0) else z)
theorem stage_start (rs : List (List ByteArray)) (i : Nat) (L : List Int) (z : ByteArray) : stage rs i L z 0 = (emptyT, emptyT, z) := rfl
theorem stage_more (rs : List (List ByteArray)) (i : Nat) (cols : List Int) (h : 3 < cols.length) : stage rs i (cols.take 2) ⟨(textL rs i (cols.drop 2)).toArray⟩ (cols.take 2).length = key3 rs cols i := by
  unfold key3 stage
  rw [if_pos h]
  match cols, h with
  | a :: b :: c :: l, _ => simp
theorem stage_few (rs : List (List ByteArray)) (i : Nat) (cols : List Int) (h : ¬ 3 < cols.length) : stage rs i cols emptyT cols.length = key3 rs cols i := by
  unfold key3 stage keyL
  rw [if_neg h]
  match cols, h with
  | [], _ => simp
  | [a], _ => simp
  | [a, b], _ => simp
  | [a, b, c], _ => simp
  | a :: b :: c :: d :: l, h => simp at h
def keyV (k : ByteArray × ByteArray × ByteArray) : Array Value := #[.string k.1, .string k.2.1, .string k.2.2]
theorem heap_set {W : World} {B i : Nat} {cs : Array Value} {T : TypeId} (v : Value) (h : W.heap[B]? = some (.cells cs T (0, 0))) : (W.setCell ⟨B, i, none⟩ v).heap[B]? = some (.cells (cs.setIfInBounds i v) T (0, 0)) := by
  obtain ⟨hlt, hk⟩ := Array.getElem?_eq_some_iff.1 h
  show (W.heap.modify B _)[B]? = _
  rw [Array.getElem?_eq_getElem (by rw [Array.size_modify]; exact hlt), Array.getElem_modify_self, hk]
  rfl
theorem frozen_free {W : World} {B : Nat} {cs : Array Value} {T : TypeId} (h : W.heap[B]? = some (.cells cs T (0, 0))) (j : Nat) : W.frozen? ⟨B, j, none⟩ = false := by
  unfold World.frozen?
  rw [h]; simp
set_option maxRecDepth 100000 in
set_option maxHeartbeats 8000000 in
theorem keyOf_any (ho : Option Addr) (m hc : Nat) (ro : Option Addr) (rc : Nat) (rs : List (List ByteArray)) (i : Nat) (co : Option Addr) (cc : Nat) (cols : List Int) (w : World) (hi : i < rs.length) (hn2 : rs.length ≤ 1099511627776) (hx : ∀ r ∈ rs, r.length ≤ 1099511627776 ∧ ∀ c ∈ r, c.size ≤ 1048576)
    (hcl : cols.length ≤ 1048576) (hcap : cols.length ≤ cc) (hp : cols.Pairwise (fun a b => a < b)) (hw : ∀ c ∈ cols, (Lit.int .i64 c).wf = true) (hR : RowsAt w ro rs) (hI : IntsAt w co cols) (hpow : Pow w) :
    Calls Tryz.prog 172 #[.agg #[.slice ho m hc, .slice ro rs.length rc], .int .i64 i, .slice co cols.length cc] w fun e w' => e = .returned (.agg (keyV (key3 rs cols i))) ∧ Below w.heap.size w w' := by
  have HX := Lib.hid hx
  obtain ⟨V, HV⟩ : ∃ V, Hid (V = ((w.alloc (TabO ho m hc ro rs.length rc)).alloc (.cells #[.string ⟨#[]⟩, .string ⟨#[]⟩, .string ⟨#[]⟩] 213)).alloc (.cells #[.string ⟨#[]⟩, .string ⟨#[]⟩, .string ⟨#[]⟩] 213)) := ⟨_, Lib.hid rfl⟩
  have HBv : Hid (Below w.heap.size w V) := Lib.hid (by rw [HV.out]; exact ((one_below w _).alloc (by simp) _).alloc (by simp; omega) _)
  have HT : Hid (V.heap[w.heap.size]? = some (TabO ho m hc ro rs.length rc)) := Lib.hid (by
    rw [HV.out, Below.heap_alloc _ _ _ (by simp; omega), Below.heap_alloc _ _ _ (by simp)]; exact World.alloc_heap_new _ _)
  have HE : Hid (V.heap[w.heap.size + 1]? = some (.cells (keyV (emptyT, emptyT, emptyT)) 213 (0, 0))) := Lib.hid (by
    rw [HV.out, Below.heap_alloc _ _ _ (by simp)]
    exact box_new _ _ _ (by simp))
  have HK : Hid (V.heap[w.heap.size + 1 + 1]? = some (.cells (keyV (emptyT, emptyT, emptyT)) 213 (0, 0))) := Lib.hid (by
    rw [HV.out]; exact box_new _ _ _ (by simp))
  have HR := Lib.hid hR
  have HI := Lib.hid hI
  have HPW := Lib.hid hp
  have HW := Lib.hid hw
  have HP := Lib.hid hpow
  by_cases h3 : 3 < cols.length
  · have HF : Hid (stage rs i (cols.take 2) ⟨(textL rs i (cols.drop 2)).toArray⟩ (cols.take 2).length = key3 rs cols i) := Lib.hid (stage_more rs i cols h3)
    rcases hI with h0 | ⟨A, rfl, hA, hcell⟩
    · rw [h0] at h3; simp at h3
    have hdrop : ∀ (W : World), Below V.heap.size V W → IntsAt W (some ⟨A.block, A.off + 2, none⟩) (cols.drop 2) := fun W h => by
      have hb2 := HBv.out.trans (h.mono HBv.out.size)
      refine .inr ⟨_, rfl, by have := hb2.size; simp; omega, fun j p hj => ?_⟩
      rw [List.getElem?_drop] at hj
      have h1 := hcell (2 + j) p hj
      have e : (⟨A.block, A.off + 2, none⟩ : Addr).add j = A.add (2 + j) := by
        unfold Addr.add
        by_cases h0 : j = 0
        · subst h0; simp
        · rw [if_neg h0, if_neg (by omega)]; simp; omega
      rw [e]
      have hlt : (A.add (2 + j)).block < w.heap.size := by rw [add_block]; exact hA
      exact (hb2.cell hlt).trans h1
    have C := Lib.hid (fun W (h : Below V.heap.size V W) => written_any ho m hc ro rc rs i (some ⟨A.block, A.off + 2, none⟩) (cc - 2) (cols.drop 2) W hi hn2 hx (by rw [List.length_drop]; omega) (HPW.out.drop) (fun c hc => hw c (List.mem_of_mem_drop hc)) (HR.out.kept (HBv.out.trans (h.mono HBv.out.size))) (hdrop W h) (HP.out.kept (HBv.out.trans (h.mono HBv.out.size))))
    have bc0 : V.cell? ⟨w.heap.size, 0, none⟩ = some (.slice ho m hc) := (Lib.cell_of_heap HT.out 0).trans rfl
    have bc1 : V.cell? ⟨w.heap.size, 1, none⟩ = some (.slice ro rs.length rc) := (Lib.cell_of_heap HT.out 1).trans rfl
    have HIL : Hid (IntsAt w (some A) (cols.take 2)) := Lib.hid (.inr ⟨A, rfl, hA, fun j p hj => hcell j p (by
      rw [List.getElem?_take] at hj
      split at hj
      · exact hj
      · cases hj)⟩)
    have h3i : (3 : Int) < (cols.length : Int) := by omega
    have h2i : (2 : Int) ≤ (cols.length : Int) := by omega
    have hcc2 : cc ≠ 2 := by omega
    have hd2 : (cols.drop 2).length = cols.length - 2 := by simp
    rw [hd2] at C
    have HL2 : Hid ((cols.take 2).length = 2) := Lib.hid (by rw [List.length_take]; omega)
    obtain ⟨L, hL⟩ : ∃ L, L = cols.take 2 := ⟨_, rfl⟩
    obtain ⟨z, hz⟩ : ∃ z, z = (⟨(textL rs i (cols.drop 2)).toArray⟩ : ByteArray) := ⟨_, rfl⟩
    rw [← hL] at HIL HL2 HF
    rw [← hz] at HF C
    have HFz := HF
    clear hL hz hdrop hcell hR hw hp hpow hx hd2
    go_enter Tryz.func172, Tryz.ntmps172
    go_wp2_with fail
    rw [← HV.out]
    go_region_with (go_at_call 205; refine (C.out _ (by first | exact (Below.refl _ V) | exact (Below.refl _ V).drew | exact ((Below.refl _ V).drew).drew)).mono ?_; rintro e w1 ⟨rfl, b1⟩; (have HBw : Hid (Below V.heap.size V w1) := Lib.hid (((Below.refl _ V).drew).trans b1)); clear b1; have ky : w1.cell? ⟨w.heap.size + 1 + 1, 2, none⟩ = some (.string emptyT) := (Lib.cell_of_heap ((HBw.out.block _ (lt_of_heap HK.out)).trans HK.out) 2).trans rfl; have kf0 : w1.frozen? ⟨w.heap.size + 1 + 1, 2, none⟩ = false := frozen_free ((HBw.out.block _ (lt_of_heap HK.out)).trans HK.out) 2)
    obtain ⟨V2, hV2⟩ : ∃ V2, V2 = w1.setCell ⟨w.heap.size + 1 + 1, 2, none⟩ (.string z) := ⟨_, rfl⟩
    rw [← hV2]
    have HK : Hid (V2.heap[w.heap.size + 1 + 1]? = some (.cells (keyV (stage rs i L z 0)) 213 (0, 0))) := Lib.hid (by
      rw [hV2, heap_set _ ((HBw.out.block _ (lt_of_heap HK.out)).trans HK.out)]; simp [keyV, stage])
    have HT : Hid (V2.heap[w.heap.size]? = some (TabO ho m hc ro rs.length rc)) := Lib.hid (by
      rw [hV2, Go.Deep.blk_setCell_other _ _ _ _ (by simp; omega)]; exact (HBw.out.block _ (lt_of_heap HT.out)).trans HT.out)
    have HE : Hid (V2.heap[w.heap.size + 1]? = some (.cells (keyV (emptyT, emptyT, emptyT)) 213 (0, 0))) := Lib.hid (by
      rw [hV2, Go.Deep.blk_setCell_other _ _ _ _ (by simp)]; exact (HBw.out.block _ (lt_of_heap HE.out)).trans HE.out)
    have HBv : Hid (Below w.heap.size w V2) := Lib.hid (by
      rw [hV2]; exact (HBv.out.trans (HBw.out.mono HBv.out.size)).setCell (p := ⟨w.heap.size + 1 + 1, 2, none⟩) (by simp; omega) _)
    clear hV2 ky kf0 C bc0 bc1
    go_wp2_with fail
    have HI0 := HIL
    go_loopw [27] (fun j wr => ∃ (k : Nat), k ≤ 2 ∧ j = .int .i64 k ∧ Hid (wr.heap[w.heap.size + 1 + 1]? = some (.cells (keyV (stage rs i L z k)) 213 (0, 0))) ∧ Hid (wr.heap[w.heap.size]? = some (TabO ho m hc ro rs.length rc)) ∧ Hid (wr.heap[w.heap.size + 1]? = some (.cells (keyV (emptyT, emptyT, emptyT)) 213 (0, 0))) ∧ Hid (Below w.heap.size w wr)) (fun j _ => 2 - (intOf j).toNat)
    case atStart => exact ⟨0, Nat.zero_le _, rfl, HK, HT, HE, HBv⟩
    case round =>
      obtain ⟨k, hk, rfl, HKr, HTr, HEr, HBr⟩ := hrel
      have bc0 : wr.cell? ⟨w.heap.size, 0, none⟩ = some (.slice ho m hc) := (Lib.cell_of_heap HTr.out 0).trans rfl
      have bc1 : wr.cell? ⟨w.heap.size, 1, none⟩ = some (.slice ro rs.length rc) := (Lib.cell_of_heap HTr.out 1).trans rfl
      by_cases hlt : k < 2
      · obtain ⟨c, hcol⟩ : ∃ c, L[k]? = some c := ⟨_, List.getElem?_eq_getElem (by have := HL2.out; omega)⟩
        have hgd : L.getD k 0 = c := by rw [List.getD_eq_getElem?_getD, hcol]; rfl
        have HGD := Lib.hid hgd
        rcases HIL.out.kept HBr.out with h0 | ⟨A', hAA, hA', hcell⟩
        · have := HL2.out; rw [h0] at this; simp at this
        cases hAA
        have cc1 := hcell k c hcol
        have CT := Lib.hid (tcell_any ho m hc ro rc rs (i : Int) c wr hn2 (fun r hr => ⟨(HX.out r hr).1, fun c hc => Nat.le_trans ((HX.out r hr).2 c hc) (by omega)⟩) (HR.out.kept HBr.out))
        clear hcell hcol hgd
        go_wp2_with fail
        refine CT.out.mono ?_
        rintro e w1 ⟨rfl, b1⟩
        have HK1 := Lib.hid ((b1.block _ (lt_of_heap HKr.out)).trans HKr.out)
        have HT1 := Lib.hid ((b1.block _ (lt_of_heap HTr.out)).trans HTr.out)
        have HE1 := Lib.hid ((b1.block _ (lt_of_heap HEr.out)).trans HEr.out)
        have HB1 := Lib.hid (below_up HBr.out b1)
        obtain ⟨x, hx⟩ : ∃ x, x = cellL rs i c := ⟨_, rfl⟩
        have HXc := Lib.hid hx
        rw [← hx]
        have HK2 : Hid (∀ k', k' = k → (w1.setCell ⟨w.heap.size + 1 + 1, k', none⟩ (.string x)).heap[w.heap.size + 1 + 1]? = some (.cells (keyV (stage rs i L z (k + 1))) 213 (0, 0))) := Lib.hid (fun k' hk' => by
          subst hk'
          rw [heap_set _ HK1.out, HXc.out, ← HGD.out]
          congr 1
          have hk3 : k' = 0 ∨ k' = 1 ∨ k' = 2 := by omega
          rcases hk3 with rfl | rfl | rfl <;> simp [keyV, stage])
        have HT2 : Hid (∀ k', (w1.setCell ⟨w.heap.size + 1 + 1, k', none⟩ (.string x)).heap[w.heap.size]? = some (TabO ho m hc ro rs.length rc)) := Lib.hid (fun k' => by rw [Go.Deep.blk_setCell_other _ _ _ _ (by simp; omega)]; exact HT1.out)
        have HE2 : Hid (∀ k', (w1.setCell ⟨w.heap.size + 1 + 1, k', none⟩ (.string x)).heap[w.heap.size + 1]? = some (.cells (keyV (emptyT, emptyT, emptyT)) 213 (0, 0))) := Lib.hid (fun k' => by rw [Go.Deep.blk_setCell_other _ _ _ _ (by simp)]; exact HE1.out)
        have HB2 : Hid (∀ k', Below w.heap.size w (w1.setCell ⟨w.heap.size + 1 + 1, k', none⟩ (.string x))) := Lib.hid (fun k' => HB1.out.setCell (p := ⟨w.heap.size + 1 + 1, k', none⟩) (by simp; omega) _)
        have hk3 : k < 3 := by omega
        obtain ⟨y, ky⟩ : ∃ y, w1.cell? ⟨w.heap.size + 1 + 1, k, none⟩ = some (.string y) := by
          have hk3 : k = 0 ∨ k = 1 ∨ k = 2 := by omega
          rcases hk3 with h | h | h
          · rw [h]; exact ⟨_, (Lib.cell_of_heap HK1.out 0).trans rfl⟩
          · rw [h]; exact ⟨_, (Lib.cell_of_heap HK1.out 1).trans rfl⟩
          · rw [h]; exact ⟨_, (Lib.cell_of_heap HK1.out 2).trans rfl⟩
        have kf0 : w1.frozen? ⟨w.heap.size + 1 + 1, k, none⟩ = false := frozen_free HK1.out k
        clear b1 hx bc0 bc1 cc1 HKr HTr HEr CT
        go_wp2_with fail
        go_roundw
        case rel => exact ⟨k + 1, by omega, by go_num, Lib.hid (HK2.out k rfl), Lib.hid (HT2.out k), Lib.hid (HE2.out k), Lib.hid (HB2.out k)⟩
        case measure => simp [intOf]; omega
      · have hke : k = L.length := by have := HL2.out; omega
        have E : stage rs i L z k = key3 rs cols i := by rw [hke]; exact HF.out
        rw [E] at HKr
        have k0 : wr.cell? ⟨w.heap.size + 1 + 1, 0, none⟩ = some (.string (key3 rs cols i).1) := (Lib.cell_of_heap HKr.out 0).trans rfl
        have k1 : wr.cell? ⟨w.heap.size + 1 + 1, 1, none⟩ = some (.string (key3 rs cols i).2.1) := (Lib.cell_of_heap HKr.out 1).trans rfl
        have k2 : wr.cell? ⟨w.heap.size + 1 + 1, 2, none⟩ = some (.string (key3 rs cols i).2.2) := (Lib.cell_of_heap HKr.out 2).trans rfl
        have e0 : wr.cell? ⟨w.heap.size + 1, 0, none⟩ = some (.string emptyT) := (Lib.cell_of_heap HEr.out 0).trans rfl
        have e1 : wr.cell? ⟨w.heap.size + 1, 1, none⟩ = some (.string emptyT) := (Lib.cell_of_heap HEr.out 1).trans rfl
        have e2 : wr.cell? ⟨w.heap.size + 1, 2, none⟩ = some (.string emptyT) := (Lib.cell_of_heap HEr.out 2).trans rfl
        have f0 := frozen_free HEr.out 0
        have f1 := frozen_free HEr.out 1
        have f2 := frozen_free HEr.out 2
        have HU := Lib.hid (heap_set (i := 2) (.string (key3 rs cols i).2.2) (heap_set (i := 1) (.string (key3 rs cols i).2.1) (heap_set (i := 0) (.string (key3 rs cols i).1) HEr.out)))
        have HBU := Lib.hid (((HBr.out.setCell (p := ⟨w.heap.size + 1, 0, none⟩) (by simp) (.string (key3 rs cols i).1)).setCell (p := ⟨w.heap.size + 1, 1, none⟩) (by simp) (.string (key3 rs cols i).2.1)).setCell (p := ⟨w.heap.size + 1, 2, none⟩) (by simp) (.string (key3 rs cols i).2.2))
        clear E HKr HTr HEr bc0 bc1
        go_wp2_with fail
        obtain ⟨U, hU⟩ : ∃ U, U = ((wr.setCell ⟨w.heap.size + 1, 0, none⟩ (.string (key3 rs cols i).1)).setCell ⟨w.heap.size + 1, 1, none⟩ (.string (key3 rs cols i).2.1)).setCell ⟨w.heap.size + 1, 2, none⟩ (.string (key3 rs cols i).2.2) := ⟨_, rfl⟩
        rw [← hU] at HU HBU ⊢
        have u0 : U.cell? ⟨w.heap.size + 1, 0, none⟩ = some (.string (key3 rs cols i).1) := (Lib.cell_of_heap HU.out 0).trans rfl
        have u1 : U.cell? ⟨w.heap.size + 1, 1, none⟩ = some (.string (key3 rs cols i).2.1) := (Lib.cell_of_heap HU.out 1).trans rfl
        have u2 : U.cell? ⟨w.heap.size + 1, 2, none⟩ = some (.string (key3 rs cols i).2.2) := (Lib.cell_of_heap HU.out 2).trans rfl
        refine bodyPost_ret (v := .agg (keyV (key3 rs cols i))) (by simp [results, keyV, Tryz.results172, go_sem, u0, u1, u2]) rfl ?_
        exact ⟨rfl, HBU.out⟩
  · have HF : Hid (stage rs i cols emptyT cols.length = key3 rs cols i) := Lib.hid (stage_few rs i cols h3)
    have HIL := HI
    have hL3 : cols.length ≤ 3 := by omega
    obtain ⟨L, hL⟩ : ∃ L, L = cols := ⟨_, rfl⟩
    obtain ⟨z, hz⟩ : ∃ z, z = emptyT := ⟨_, rfl⟩
    rw [← hL] at HIL hL3 h3 ⊢
    have HK : Hid (V.heap[w.heap.size + 1 + 1]? = some (.cells (keyV (stage rs i L z 0)) 213 (0, 0))) := Lib.hid (by rw [stage_start, hz]; exact HK.out)
    have HF : Hid (stage rs i L z L.length = key3 rs cols i) := Lib.hid (by rw [hz, hL]; exact HF.out)
    have HLc := Lib.hid hL
    clear hz hL hR hI hp hw hpow hx hcl hcap
    go_enter Tryz.func172, Tryz.ntmps172
    go_wp2_with fail
    rw [← HV.out]
    have HI0 := HIL
    go_loopw [27] (fun j wr => ∃ (k : Nat), k ≤ L.length ∧ j = .int .i64 k ∧ Hid (wr.heap[w.heap.size + 1 + 1]? = some (.cells (keyV (stage rs i L z k)) 213 (0, 0))) ∧ Hid (wr.heap[w.heap.size]? = some (TabO ho m hc ro rs.length rc)) ∧ Hid (wr.heap[w.heap.size + 1]? = some (.cells (keyV (emptyT, emptyT, emptyT)) 213 (0, 0))) ∧ Hid (Below w.heap.size w wr)) (fun j _ => L.length - (intOf j).toNat)
    case atStart => exact ⟨0, Nat.zero_le _, rfl, HK, HT, HE, HBv⟩
    case round =>
      obtain ⟨k, hk, rfl, HKr, HTr, HEr, HBr⟩ := hrel
      have bc0 : wr.cell? ⟨w.heap.size, 0, none⟩ = some (.slice ho m hc) := (Lib.cell_of_heap HTr.out 0).trans rfl
      have bc1 : wr.cell? ⟨w.heap.size, 1, none⟩ = some (.slice ro rs.length rc) := (Lib.cell_of_heap HTr.out 1).trans rfl
      by_cases hlt : k < L.length
      · obtain ⟨c, hcol⟩ : ∃ c, L[k]? = some c := ⟨_, List.getElem?_eq_getElem hlt⟩
        have hgd : L.getD k 0 = c := by rw [List.getD_eq_getElem?_getD, hcol]; rfl
        have HGD := Lib.hid hgd
        rcases HIL.out.kept HBr.out with h0 | ⟨A, rfl, hA, hcell⟩
        · rw [h0] at hlt; simp at hlt
        have cc1 := hcell k c hcol
        have CT := Lib.hid (tcell_any ho m hc ro rc rs (i : Int) c wr hn2 (fun r hr => ⟨(HX.out r hr).1, fun c hc => Nat.le_trans ((HX.out r hr).2 c hc) (by omega)⟩) (HR.out.kept HBr.out))
        clear hcell hcol hgd
        go_wp2_with fail
        refine CT.out.mono ?_
        rintro e w1 ⟨rfl, b1⟩
        have HK1 := Lib.hid ((b1.block _ (lt_of_heap HKr.out)).trans HKr.out)
        have HT1 := Lib.hid ((b1.block _ (lt_of_heap HTr.out)).trans HTr.out)
        have HE1 := Lib.hid ((b1.block _ (lt_of_heap HEr.out)).trans HEr.out)
        have HB1 := Lib.hid (below_up HBr.out b1)
        obtain ⟨x, hx⟩ : ∃ x, x = cellL rs i c := ⟨_, rfl⟩
        have HXc := Lib.hid hx
        rw [← hx]
        have HK2 : Hid (∀ k', k' = k → (w1.setCell ⟨w.heap.size + 1 + 1, k', none⟩ (.string x)).heap[w.heap.size + 1 + 1]? = some (.cells (keyV (stage rs i L z (k + 1))) 213 (0, 0))) := Lib.hid (fun k' hk' => by
          subst hk'
          rw [heap_set _ HK1.out, HXc.out, ← HGD.out]
          congr 1
          have hk3 : k' = 0 ∨ k' = 1 ∨ k' = 2 := by omega
          rcases hk3 with rfl | rfl | rfl <;> simp [keyV, stage])
        have HT2 : Hid (∀ k', (w1.setCell ⟨w.heap.size + 1 + 1, k', none⟩ (.string x)).heap[w.heap.size]? = some (TabO ho m hc ro rs.length rc)) := Lib.hid (fun k' => by rw [Go.Deep.blk_setCell_other _ _ _ _ (by simp; omega)]; exact HT1.out)
        have HE2 : Hid (∀ k', (w1.setCell ⟨w.heap.size + 1 + 1, k', none⟩ (.string x)).heap[w.heap.size + 1]? = some (.cells (keyV (emptyT, emptyT, emptyT)) 213 (0, 0))) := Lib.hid (fun k' => by rw [Go.Deep.blk_setCell_other _ _ _ _ (by simp)]; exact HE1.out)
        have HB2 : Hid (∀ k', Below w.heap.size w (w1.setCell ⟨w.heap.size + 1 + 1, k', none⟩ (.string x))) := Lib.hid (fun k' => HB1.out.setCell (p := ⟨w.heap.size + 1 + 1, k', none⟩) (by simp; omega) _)
        have hk3 : k < 3 := by omega
        obtain ⟨y, ky⟩ : ∃ y, w1.cell? ⟨w.heap.size + 1 + 1, k, none⟩ = some (.string y) := by
          have hk3 : k = 0 ∨ k = 1 ∨ k = 2 := by omega
          rcases hk3 with h | h | h
          · rw [h]; exact ⟨_, (Lib.cell_of_heap HK1.out 0).trans rfl⟩
          · rw [h]; exact ⟨_, (Lib.cell_of_heap HK1.out 1).trans rfl⟩
          · rw [h]; exact ⟨_, (Lib.cell_of_heap HK1.out 2).trans rfl⟩
        have kf0 : w1.frozen? ⟨w.heap.size + 1 + 1, k, none⟩ = false := frozen_free HK1.out k
        clear b1 hx bc0 bc1 cc1 HKr HTr HEr CT
        go_wp2_with fail
        go_roundw
        case rel => exact ⟨k + 1, by omega, by go_num, Lib.hid (HK2.out k rfl), Lib.hid (HT2.out k), Lib.hid (HE2.out k), Lib.hid (HB2.out k)⟩
        case measure => simp [intOf]; omega
      · have hke : k = L.length := by omega
        have E : stage rs i L z k = key3 rs cols i := by rw [hke]; exact HF.out
        rw [E] at HKr
        have k0 : wr.cell? ⟨w.heap.size + 1 + 1, 0, none⟩ = some (.string (key3 rs cols i).1) := (Lib.cell_of_heap HKr.out 0).trans rfl
        have k1 : wr.cell? ⟨w.heap.size + 1 + 1, 1, none⟩ = some (.string (key3 rs cols i).2.1) := (Lib.cell_of_heap HKr.out 1).trans rfl
        have k2 : wr.cell? ⟨w.heap.size + 1 + 1, 2, none⟩ = some (.string (key3 rs cols i).2.2) := (Lib.cell_of_heap HKr.out 2).trans rfl
        have e0 : wr.cell? ⟨w.heap.size + 1, 0, none⟩ = some (.string emptyT) := (Lib.cell_of_heap HEr.out 0).trans rfl
        have e1 : wr.cell? ⟨w.heap.size + 1, 1, none⟩ = some (.string emptyT) := (Lib.cell_of_heap HEr.out 1).trans rfl
        have e2 : wr.cell? ⟨w.heap.size + 1, 2, none⟩ = some (.string emptyT) := (Lib.cell_of_heap HEr.out 2).trans rfl
        have f0 := frozen_free HEr.out 0
        have f1 := frozen_free HEr.out 1
        have f2 := frozen_free HEr.out 2
        have HU := Lib.hid (heap_set (i := 2) (.string (key3 rs cols i).2.2) (heap_set (i := 1) (.string (key3 rs cols i).2.1) (heap_set (i := 0) (.string (key3 rs cols i).1) HEr.out)))
        have HBU := Lib.hid (((HBr.out.setCell (p := ⟨w.heap.size + 1, 0, none⟩) (by simp) (.string (key3 rs cols i).1)).setCell (p := ⟨w.heap.size + 1, 1, none⟩) (by simp) (.string (key3 rs cols i).2.1)).setCell (p := ⟨w.heap.size + 1, 2, none⟩) (by simp) (.string (key3 rs cols i).2.2))
        clear E HKr HTr HEr bc0 bc1
        go_wp2_with fail
        obtain ⟨U, hU⟩ : ∃ U, U = ((wr.setCell ⟨w.heap.size + 1, 0, none⟩ (.string (key3 rs cols i).1)).setCell ⟨w.heap.size + 1, 1, none⟩ (.string (key3 rs cols i).2.1)).setCell ⟨w.heap.size + 1, 2, none⟩ (.string (key3 rs cols i).2.2) := ⟨_, rfl⟩
        rw [← hU] at HU HBU ⊢
        have u0 : U.cell? ⟨w.heap.size + 1, 0, none⟩ = some (.string (key3 rs cols i).1) := (Lib.cell_of_heap HU.out 0).trans rfl
        have u1 : U.cell? ⟨w.heap.size + 1, 1, none⟩ = some (.string (key3 rs cols i).2.1) := (Lib.cell_of_heap HU.out 1).trans rfl
        have u2 : U.cell? ⟨w.heap.size + 1, 2, none⟩ = some (.string (key3 rs cols i).2.2) := (Lib.cell_of_heap HU.out 2).trans rfl
        refine bodyPost_ret (v := .agg (keyV (key3 rs cols i))) (by simp [results, keyV, Tryz.results172, go_sem, u0, u1, u2]) rfl ?_
        exact ⟨by rw [HLc.out], HBU.out⟩
end Go.Proofs.YtdenehnneloegaaGreatDoor
