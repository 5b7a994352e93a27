/-
  The cells of a row at columns that rise, as one text: what the program answers.
  Conditions: at most 2^20 columns; cells of at most 2^20 bytes; the library's table of powers of ten reads as its text lays it.
-/
import Derived.Lib.AppendStr
import Derived.Lib.AppendIntMem
import Derived.Lib.ItoaLen
import Derived.Lib.LaidTab
import Derived.Laws.IdiomStrings
import Derived.WalkKit
import Derived.WalkMore
import Derived.IntWalk
import Derived.WalkArith
import Derived.OwnWalk
import Derived.Lib.Hide
import Derived.Test.YtmomjhnbhckhpaaDoorProg
import Derived.Test.YtmomjhnbhckhpaaDoorKMath
import Derived.Test.YtmomjhnbhckhpaaDoorKSort
namespace Go.Proofs.YtmomjhnbhckhpaaDoor
open Go.RowKit Go.Shelf
set_option linter.unusedVariables false

/-- the library's table of powers of ten -/
def Pow (w : World) : Prop := Lib.TabIs Tryd.prog w "internal/strconv.uint64pow10" .u64 Lib.pow10Tab
theorem Pow.kept {w w' : World} (h : Pow w) (hB : Below w.heap.size w w') : Pow w' := Lib.tabBelow_of_tabIs h w' hB
theorem Pow.below {w w' : World} {B : Nat} (h : Pow w) (hB : w.heap.size ≤ B) (hb : Below B w w') : Lib.TabBelow Tryd.prog B w' "internal/strconv.uint64pow10" .u64 Lib.pow10Tab :=
  fun w2 h2 => h.kept ((hb.trans h2).mono hB)
def OwnU (w : World) (base : Nat) (v : Value) (l : List UInt8) : Prop := w.ownsRow base 5 1 v l.length (Lib.byteCells l)
theorem OwnU.kept {w w' : World} {base : Nat} {v : Value} {l : List UInt8} (h : OwnU w base v l) (hB : Below w.heap.size w w') : OwnU w' base v l := ownsRow_below h hB
theorem OwnU.slice {w : World} {base : Nat} {v : Value} {l : List UInt8} (h : OwnU w base v l) : ∃ ao cap, v = .slice ao l.length cap := own_slice h

theorem wf_int {c : Int} (h : (Lit.int .i64 c).wf = true) : -9223372036854775808 ≤ c ∧ c ≤ 9223372036854775807 := by
  have h1 : IntKind.i64.min ≤ c ∧ c ≤ IntKind.i64.max := by simpa [Lit.wf] using h
  exact ⟨Int.le_trans (by decide) h1.1, Int.le_trans h1.2 (by decide)⟩
/-- bytes, as a text -/
theorem conv_any {w : World} {base : Nat} {ao : Option Addr} {cap : Nat} {l : List UInt8} (h : OwnU w base (.slice ao l.length cap) l) : (convert 104 9 (.slice ao l.length cap)).run Tryd.prog w = .ok (.string ⟨l.toArray⟩) w := by
  rcases h.2 with ⟨h0, h1⟩ | ⟨g, cp, cur, h0, -, -, -, -, -, -⟩
  · have hl : l = [] := List.eq_nil_of_length_eq_zero h1
    subst hl
    simp only [List.length_nil, Value.slice.injEq] at h0
    obtain ⟨rfl, -, rfl⟩ := h0
    rw [run_convert_bytes_string w _ _ 5 none _ 0 Tryd.underlying104 Tryd.underlying5 Tryd.underlying9]
    simp [Conv.bytesToString, go_sem]
    rfl
  · simp only [Value.slice.injEq] at h0
    obtain ⟨rfl, -, rfl⟩ := h0
    exact run_convert_bytes_back (P := Tryd.prog) w _ _ 5 ⟨g, 0, none⟩ cap l Tryd.underlying104 Tryd.underlying5 Tryd.underlying9 (fun j hj => h.cells (g := g) rfl j _ (by simp [Lib.byteCells, hj]))
/-- what stands in the text for the first of the columns -/
theorem text_next (rs : List (List ByteArray)) (i : Nat) (cols : List Int) (k : Nat) (c : Int) (hc : cols[k]? = some c) : textL rs i (cols.take (k + 1)) = textL rs i (cols.take k) ++ partL c (cellL rs i c) := by
  obtain ⟨hk, e⟩ := List.getElem?_eq_some_iff.1 hc
  unfold textL
  rw [List.take_succ_eq_append_getElem hk, e, List.flatMap_append]; simp
theorem text_few (rs : List (List ByteArray)) (i : Nat) (cols : List Int) (hs : ∀ r ∈ rs, ∀ c ∈ r, c.size ≤ 1048576) (hw : ∀ c ∈ cols, (Lit.int .i64 c).wf = true) : (textL rs i cols).length ≤ cols.length * 1048640 := by
  induction cols with
  | nil => simp [textL]
  | cons c cols ih =>
    have h1 := ih (fun c hc => hw c (List.mem_cons_of_mem _ hc))
    unfold textL at h1 ⊢
    rw [List.flatMap_cons, List.length_append, List.length_cons]
    have hcell : (cellL rs i c).size ≤ 1048576 := by
      unfold cellL
      split
      · cases hr : rs[(i : Int).toNat]? with
        | none => simp [ByteArray.size]
        | some r =>
          show ((r[c.toNat]?).getD _).size ≤ _
          cases hx : r[c.toNat]? with
          | none => simp [ByteArray.size]
          | some x => exact hs r (List.mem_of_getElem? hr) x (List.mem_of_getElem? hx)
      · simp [ByteArray.size]
    have hwf := hw c List.mem_cons_self
    have hlo : -9223372036854775808 ≤ c ∧ c ≤ 9223372036854775807 := by
      exact wf_int hwf
    have h2 : (partL c (cellL rs i c)).length ≤ 1048640 := by
      unfold partL
      split
      · simp
      · have e1 := Lib.itoa_length_le c hlo.1 hlo.2
        have e2 := Lib.itoa_length_le ((cellL rs i c).size : Int) (by omega) (by omega)
        rw [List.length_append, List.length_cons, List.length_append, List.length_cons, ba_size]; omega
    omega
/-- behind a row's end nothing is written -/
theorem text_end (rs : List (List ByteArray)) (i : Nat) (r : List ByteArray) (hr : rs[i]? = some r) (cols : List Int) (hp : cols.Pairwise (fun a b => a < b)) (k : Nat) (c : Int) (hc : cols[k]? = some c) (hl : (r.length : Int) ≤ c) : textL rs i cols = textL rs i (cols.take k) := by
  have hdrop : textL rs i (cols.drop k) = [] := by
    unfold textL
    rw [List.flatMap_eq_nil_iff]
    intro d hd
    obtain ⟨hk, e⟩ := List.getElem?_eq_some_iff.1 hc
    have hcd : c ≤ d := by
      obtain ⟨j, hj, rfl⟩ := List.mem_iff_getElem.1 hd
      rw [List.getElem_drop]
      rw [List.length_drop] at hj
      by_cases h0 : j = 0
      · subst h0; simp; omega
      · have := List.pairwise_iff_getElem.1 hp k (k + j) hk (by omega) (by omega); omega
    have : cellL rs i d = ⟨#[]⟩ := cellL_col rs i r d hr (by simp; omega)
    unfold partL; rw [this, if_pos rfl]
  have h2 : textL rs i cols = textL rs i (cols.take k) ++ textL rs i (cols.drop k) := by
    unfold textL; rw [← List.flatMap_append, List.take_append_drop]
  rw [h2, hdrop, List.append_nil]

set_option maxRecDepth 100000 in
set_option maxHeartbeats 8000000 in
theorem written_any (ho : Option Addr) (m hc : Nat) (ro : Option Addr) (rc : Nat) (rs : List (List ByteArray)) (i : Nat) (co : Option Addr) (cc : Nat) (cols : List Int) (w : World) (hi : i < rs.length) (hn2 : rs.length ≤ 1099511627776) (hx : ∀ r ∈ rs, r.length ≤ 1099511627776 ∧ ∀ c ∈ r, c.size ≤ 1048576)
    (hcl : cols.length ≤ 1048576) (hp : cols.Pairwise (fun a b => a < b)) (hw : ∀ c ∈ cols, (Lit.int .i64 c).wf = true) (hR : RowsAt w ro rs) (hI : IntsAt w co cols) (hpow : Pow w) :
    Calls Tryd.prog 63 #[.agg #[.slice ho m hc, .slice ro rs.length rc], .int .i64 i, .slice co cols.length cc] w fun e w' => e = .returned (.string ⟨(textL rs i cols).toArray⟩) ∧ Below w.heap.size w w' := by
  have hinfo : (Tryd.prog.info? 5).map (fun i => (i.zero, i.size, i.bytes)) = some (some (.int .u8 0), 1, 1) := by kernel_rfl
  obtain ⟨i0, hi0, hz0, hz1, hz2⟩ := info_parts2 hinfo
  have HIN := Lib.hid hi0
  obtain ⟨V, HV⟩ : ∃ V, Hid (V = w.alloc (TabO ho m hc ro rs.length rc)) := ⟨_, Lib.hid rfl⟩
  have HB := Lib.hid (show Below w.heap.size w V by rw [HV.out]; exact one_below w _)
  have HbV := Lib.hid (show V.heap[w.heap.size]? = some (TabO ho m hc ro rs.length rc) by rw [HV.out]; exact World.alloc_heap_new w _)
  have HP := Lib.hid (hpow.kept HB.out)
  have HR := Lib.hid (hR.kept HB.out)
  have HI := Lib.hid (hI.kept HB.out)
  have HX := Lib.hid hx
  have HPW := Lib.hid hp
  have HW := Lib.hid hw
  have HTF := Lib.hid (fun k => text_few rs i (cols.take k) (fun r hr => (hx r hr).2) (fun c hc => hw c (List.mem_of_mem_take hc)))
  obtain ⟨r, hr⟩ : ∃ r, rs[i]? = some r := ⟨_, List.getElem?_eq_getElem hi⟩
  have HRi := Lib.hid hr
  have hlV : w.heap.size < V.heap.size := lt_of_heap HbV.out
  have HlV := Lib.hid hlV
  clear hi0 hinfo hpow hR hI hx hp hw hr
  go_enter Tryd.func63, Tryd.ntmps63
  go_wp2_with fail
  rw [← HV.out]
  go_loopw [7, 13] (fun v j wr => ∃ (k : Nat), k ≤ cols.length ∧ j = .int .i64 k ∧ Hid (OwnU wr V.heap.size v (textL rs i (cols.take k))) ∧ Hid (Below V.heap.size V wr)) (fun _ j _ => cols.length - (intOf j).toNat)
  case atStart => exact ⟨0, Nat.zero_le _, rfl, Lib.hid (World.ownsRow_nil _ _ _ _), Lib.hid (Below.refl _ _)⟩
  case round =>
    obtain ⟨k, hk, rfl, HO, HBr⟩ := hrel
    have hbox := (HBr.out.block _ HlV.out).trans HbV.out
    have bc0 : wr.cell? ⟨w.heap.size, 0, none⟩ = some (.slice ho m hc) := (Lib.cell_of_heap hbox 0).trans rfl
    have bc1 : wr.cell? ⟨w.heap.size, 1, none⟩ = some (.slice ro rs.length rc) := (Lib.cell_of_heap hbox 1).trans rfl
    clear hbox
    by_cases hlt : k < cols.length
    · obtain ⟨c, hcol⟩ : ∃ c, cols[k]? = some c := ⟨_, List.getElem?_eq_getElem hlt⟩
      have HC := Lib.hid hcol
      have HWc := Lib.hid (HW.out c (List.mem_of_getElem? hcol))
      rcases HI.out.kept HBr.out with h0 | ⟨A, rfl, hA, hcell⟩
      · rw [h0] at hlt; simp at hlt
      have cc1 := hcell k c hcol
      rcases HR.out.kept HBr.out with h0 | ⟨A2, rfl, hA2, hcell2⟩
      · rw [h0] at hi; simp at hi
      obtain ⟨ro1, rc1, hc1, hs1⟩ := hcell2 i r HRi.out
      obtain ⟨ao, cap, rfl⟩ := HO.out.slice
      have CT := Lib.hid (tcell_any ho m hc (some A2) rc rs (i : Int) c wr hn2 (fun r hr => ⟨(HX.out r hr).1, fun c hc => Nat.le_trans ((HX.out r hr).2 c hc) (by omega)⟩) (HR.out.kept HBr.out))
      clear hcell hcell2 hs1 hcol
      by_cases hend : (r.length : Int) ≤ c
      · have E := Lib.hid (text_end rs i r HRi.out cols HPW.out k c HC.out hend)
        have HF : Hid (OwnU wr V.heap.size (.slice ao (textL rs i (cols.take k)).length cap) (textL rs i cols) ∧ Below w.heap.size w wr) := Lib.hid ⟨by have := HO.out; rw [← E.out] at this ⊢; exact this, HB.out.trans (HBr.out.mono (by have := HlV.out; omega))⟩
        rw [← E.out] at HF ⊢
        obtain ⟨l, hl⟩ : ∃ l, l = textL rs i cols := ⟨_, rfl⟩
        rw [← hl] at HF ⊢
        have hcv := conv_any HF.out.1
        have HL := Lib.hid hl
        clear HO CT hl E HTF
        go_wp2_with fail
        go_ret
        exact ⟨by rw [← HL.out]; rfl, HF.out.2⟩
      · have hlt3 : c < (r.length : Int) := by omega
        have HTn := Lib.hid (text_next rs i cols k c HC.out)
        have hxs : (cellL rs i c).size ≤ 1048576 := by
          by_cases h0 : 0 ≤ c
          · obtain ⟨j, rfl⟩ := Int.eq_ofNat_of_zero_le h0
            obtain ⟨y, hy⟩ : ∃ y, r[j]? = some y := ⟨_, List.getElem?_eq_getElem (by omega)⟩
            rw [cellL_at rs i j r y HRi.out hy]
            exact (HX.out r (List.mem_of_getElem? HRi.out)).2 y (List.mem_of_getElem? hy)
          · rw [cellL_col rs i r c HRi.out (by simp; omega)]; simp [ByteArray.size]
        have hnl := HTF.out k
        have htl : (cols.take k).length = k := by rw [List.length_take]; omega
        rw [htl] at hnl
        obtain ⟨x, hx⟩ : ∃ x, x = cellL rs i c := ⟨_, rfl⟩
        rw [← hx] at CT HTn hxs
        obtain ⟨l, hl⟩ : ∃ l, l = textL rs i (cols.take k) := ⟨_, rfl⟩
        rw [← hl] at HO HTn hnl ⊢
        clear hx hl htl HTF
        go_wp2_with fail
        refine CT.out.mono ?_
        rintro e w1 ⟨rfl, b1⟩
        have HO1 := Lib.hid (HO.out.kept b1)
        have HB1 := Lib.hid (HBr.out.trans (b1.mono HBr.out.size))
        have hs1 : V.heap.size ≤ w1.heap.size := HB1.out.size
        clear b1 HO bc0 bc1 cc1 hc1
        by_cases hemp : x.toList = []
        · have hem2 : x.toList.isEmpty = true := by rw [hemp]; rfl
          have HTe : Hid (textL rs i (cols.take (k + 1)) = l) := Lib.hid (by rw [HTn.out]; unfold partL; rw [if_pos (by rw [← ba_toList]; exact hemp), List.append_nil])
          clear hemp
          go_wp2_with fail
          go_roundw
          case rel => exact ⟨k + 1, by omega, by go_num, by rw [HTe.out]; exact HO1, HB1⟩
          case measure => simp [intOf]; omega
        · have hem2 : x.toList.isEmpty = false := by cases h : x.toList with | nil => exact absurd h hemp | cons a l => rfl
          have HTe : Hid (textL rs i (cols.take (k + 1)) = l ++ (Lib.itoa c ++ 32 :: (Lib.itoa (x.size : Int) ++ 32 :: x.data.toList))) := Lib.hid (by rw [HTn.out]; unfold partL; rw [if_neg (by rw [← ba_toList]; exact hemp)])
          obtain ⟨wc0, wc1⟩ := wf_int HWc.out
          have la := Lib.itoa_length_le c wc0 wc1
          have lb := Lib.itoa_length_le (x.size : Int) (by omega) (by omega)
          have CA1 := Lib.hid (Any.strconv_AppendInt_10 laysA V.heap.size l.length c wc0 wc1 (.slice ao l.length cap) (Lib.byteCells l) w1 HO1.out hs1 (by omega) (HP.out.below (Nat.le_refl _) HB1.out))
          clear hemp HO1
          go_wp2_with fail
          refine CA1.out.mono ?_
          rintro e w2 ⟨v2, rfl, ho2, hb2, -⟩
          have HOA2 := Lib.hid ho2
          have HB2 := Lib.hid (HB1.out.trans hb2)
          have hs2 : V.heap.size ≤ w2.heap.size := HB2.out.size
          obtain ⟨ao2, cap2, rfl⟩ := own_slice ho2
          clear ho2 hb2 CA1
          go_wp2_with (at_builtin; refine wpList_append_own _ rfl _ _ 104 rfl V.heap.size 5 i0 (.int .u8 0) 1 1 Tryd.underlying104 HIN.out hz0 hz1 hz2 rfl (by decide) _ _ _ rfl (HOA2.out.alloc _) ⟨w2.heap.size, 0, none⟩ 1 1 [Value.int .u8 32] rfl rfl (by intro j u' hj; match j, hj with | 0, hj => simp at hj; subst hj; exact (cell_row (World.alloc_heap_new w2 _) 0).trans rfl) (by intro u' hu; simp at hu; subst hu; rfl) (by unfold maxLen; omega) (by omega) (by simp; omega) ?_)
          intro v3 w3 ho3 hg3 _
          have HB3 := Lib.hid ((HB2.out.alloc hs2 _).grown hg3 (by simp; omega) (fun k hk => (HOA2.out.lt k hk).1))
          have hs3 : V.heap.size ≤ w3.heap.size := HB3.out.size
          have CA2 := Lib.hid (Any.strconv_AppendInt_10 laysA V.heap.size _ (x.size : Int) (by omega) (by omega) v3 _ w3 ho3 hs3 (by omega) (HP.out.below (Nat.le_refl _) HB3.out))
          obtain ⟨ao3, cap3, rfl⟩ := own_slice ho3
          clear ho3 hg3
          go_wp2_with fail
          refine CA2.out.mono ?_
          rintro e w4 ⟨v4, rfl, ho4, hb4, -⟩
          have HOA4 := Lib.hid ho4
          have HB4 := Lib.hid (HB3.out.trans hb4)
          have hs4 : V.heap.size ≤ w4.heap.size := HB4.out.size
          obtain ⟨ao4, cap4, rfl⟩ := own_slice ho4
          clear ho4 hb4 CA2
          go_wp2_with (at_builtin; refine wpList_append_own _ rfl _ _ 104 rfl V.heap.size 5 i0 (.int .u8 0) 1 1 Tryd.underlying104 HIN.out hz0 hz1 hz2 rfl (by decide) _ _ _ rfl (HOA4.out.alloc _) ⟨w4.heap.size, 0, none⟩ 1 1 [Value.int .u8 32] rfl rfl (by intro j u' hj; match j, hj with | 0, hj => simp at hj; subst hj; exact (cell_row (World.alloc_heap_new w4 _) 0).trans rfl) (by intro u' hu; simp at hu; subst hu; rfl) (by unfold maxLen; omega) (by omega) (by simp; omega) ?_)
          intro v5 w5 ho5 hg5 _
          have HB5 := Lib.hid ((HB4.out.alloc hs4 _).grown hg5 (by simp; omega) (fun k hk => (HOA4.out.lt k hk).1))
          have hs5 : V.heap.size ≤ w5.heap.size := HB5.out.size
          have HO5 := Lib.hid ho5
          obtain ⟨ao5, cap5, rfl⟩ := own_slice ho5
          clear ho5 hg5
          go_wp2_with (at_builtin; refine Lib.wpList_append_own_string _ rfl _ _ 104 9 rfl V.heap.size 5 i0 Tryd.underlying104 Tryd.underlying9 HIN.out hz0 hz1 hz2 _ _ _ rfl HO5.out x rfl (by unfold maxLen; omega) (by omega) hs5 ?_)
          intro v6 w6 ho6 hg6 _
          have HB6 := Lib.hid (HB5.out.grown hg6 hs5 (fun k hk => (HO5.out.lt k hk).1))
          have HO6 : Hid (OwnU w6 V.heap.size v6 (l ++ (Lib.itoa c ++ 32 :: (Lib.itoa (x.size : Int) ++ 32 :: x.data.toList)))) := Lib.hid (by
            have e1 : l.length + (Lib.itoa c).length + 1 + (Lib.itoa (x.size : Int)).length + 1 + x.size = (l ++ (Lib.itoa c ++ 32 :: (Lib.itoa (x.size : Int) ++ 32 :: x.data.toList))).length := by
              rw [List.length_append, List.length_append, List.length_cons, List.length_append, List.length_cons, ba_size]; omega
            have e2 : (Lib.byteCells l ++ (Lib.byteCells (Lib.itoa c) ++ Value.int IntKind.u8 32 :: (Lib.byteCells (Lib.itoa (x.size : Int)) ++ Value.int IntKind.u8 32 :: Lib.strCells x))) = Lib.byteCells (l ++ (Lib.itoa c ++ 32 :: (Lib.itoa (x.size : Int) ++ 32 :: x.data.toList))) := by
              simp [Lib.byteCells, Lib.strCells]
            unfold OwnU
            rw [← e1, ← e2]
            exact ho6)
          clear ho6 hg6
          go_wp2_with fail
          go_roundw
          case rel => exact ⟨k + 1, by omega, by go_num, by rw [HTe.out]; exact HO6, HB6⟩
          case measure => simp [intOf]; omega
    · have hke : k = cols.length := by omega
      have E : cols.take k = cols := List.take_of_length_le (by omega)
      rw [E] at HO
      obtain ⟨ao, cap, rfl⟩ := HO.out.slice
      have HF : Hid (OwnU wr V.heap.size (.slice ao (textL rs i cols).length cap) (textL rs i cols) ∧ Below w.heap.size w wr) := Lib.hid ⟨HO.out, HB.out.trans (HBr.out.mono (by have := HlV.out; omega))⟩
      obtain ⟨l, hl⟩ : ∃ l, l = textL rs i cols := ⟨_, rfl⟩
      rw [← hl] at HF ⊢
      have hcv := conv_any HF.out.1
      have HL := Lib.hid hl
      clear HO hl E HTF
      go_wp2_with fail
      go_ret
      exact ⟨by rw [← HL.out]; rfl, HF.out.2⟩
end Go.Proofs.YtmomjhnbhckhpaaDoor
