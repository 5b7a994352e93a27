/-
  The texts of two lists as numbers that are alike just where the texts are: what the program makes of them, by a map.
  Conditions: lists of at most 4096 Go strings.
-/
import Derived.Maps.Own
import Derived.Maps.OwnOps
import Derived.Maps.OwnSet
import Derived.Maps.Views
import Derived.StringKeys
import Derived.Deep.OwnRows
import Derived.WalkKit
import Derived.WalkMore
import Derived.IntWalk
import Derived.WalkArith
import Derived.Lib.Hide
import Derived.Test.YtcdpadchbphggaaProg
import Derived.Test.YtcdpadchbphggaaLcBase
namespace Go.Proofs.Ytcdpadchbphggaa
open Go.RowKit Go.Shelf Go.Maps
set_option linter.unusedVariables false

abbrev Txt := List UInt8
theorem keyS (l : Txt) : WideAt.IsKeyLit (.string l) := by first | exact trivial | constructor | simp [WideAt.IsKeyLit]
/-- a map that numbers texts, in the order in which they came -/
structure KeyIs (D : DataW Unit) (K : List Txt) : Prop where
  tidy : Tidy D
  look : ∀ l, D.atKey (.string l) (.lit (.int .i64 0)) = .lit (.int .i64 (if l ∈ K then ((K.idxOf l : Nat) : Int) else 0))
  here : ∀ l, has D (.string l) = decide (l ∈ K)
  size : Go.Maps.size D = K.length
theorem KeyIs.empty : KeyIs (.map []) [] := ⟨tidy_empty, fun z => rfl, fun z => rfl, rfl⟩
theorem idx_snoc (K : List Txt) (x l : Txt) (h : l ∈ K) : (K ++ [x]).idxOf l = K.idxOf l := by rw [List.idxOf_append, if_pos h]
theorem idx_new (K : List Txt) (x : Txt) (h : x ∉ K) : (K ++ [x]).idxOf x = K.length := by rw [List.idxOf_append, if_neg h]; simp
theorem idx_pre (K K' : List Txt) (l : Txt) (hp : K <+: K') (h : l ∈ K) : K'.idxOf l = K.idxOf l := by
  obtain ⟨t, rfl⟩ := hp
  rw [List.idxOf_append, if_pos h]
theorem idx_inj (K : List Txt) (x y : Txt) (hx : x ∈ K) (hy : y ∈ K) (h : ((K.idxOf x : Nat) : Int) = ((K.idxOf y : Nat) : Int)) : x = y := by
  have h1 := List.getElem_idxOf (List.idxOf_lt_length_of_mem hx)
  have h2 := List.getElem_idxOf (List.idxOf_lt_length_of_mem hy)
  have e : K.idxOf x = K.idxOf y := by omega
  rw [← h1, ← h2]
  simp only [e]
theorem KeyIs.put {D : DataW Unit} {K : List Txt} (h : KeyIs D K) (x : Txt) (hx : x ∉ K) : KeyIs (D.put (.string x) (.lit (.int .i64 (K.length : Int)))) (K ++ [x]) := by
  refine ⟨h.tidy.put (keyS x) _, fun z => ?_, fun z => ?_, ?_⟩
  · by_cases e : z = x
    · subst e
      rw [atKey_put_same h.tidy.isMap (keyS z), if_pos (by simp), idx_new K z hx]
    · rw [atKey_put_other (fun e' => e (by injection e')), h.look]
      by_cases hz : z ∈ K
      · rw [if_pos hz, if_pos (by simp [hz]), idx_snoc K x z hz]
      · rw [if_neg hz, if_neg (by simp [hz, e])]
  · by_cases e : z = x
    · subst e
      rw [has_put_same h.tidy.isMap (keyS z)]; simp
    · rw [has_put_other (fun e' => e (by injection e')), h.here]; simp [e]
  · rw [size_put h.tidy, h.here]
    simp [hx, h.size]
theorem key_look {w : World} {b k : Nat} {D : DataW Unit} {K : List Txt} (h : w.ownsMap Try.prog 9 (plainElem Try.prog 3) b k D) (hS : KeyIs D K) (x : ByteArray) (hx : x.size ≤ maxLen) :
    (Instr.lookup 30 (.map (some b)) (.string x) true).run Try.prog w = .ok (.tuple #[.int .i64 (if x.data.toList ∈ K then ((K.idxOf x.data.toList : Nat) : Int) else 0), .bool (decide (x.data.toList ∈ K))]) w := by
  obtain ⟨v, ps, hrun, hv⟩ := h.look_ok (string_keyed Try.underlying9) Try.underlying30 (z := .int .i64 0) (Try.zeroValue3 _) (plainElem_int Try.underlying3 (by decide)) (Go.WideMaps.keyOf_string_mk Try.underlying9 hx)
  obtain ⟨c, rfl, hc, _⟩ := plainElem_int_inv Try.underlying3 hv
  simp only [Prod.mk.injEq] at hc
  rw [hS.look] at hc
  have e : (if x.data.toList ∈ K then ((K.idxOf x.data.toList : Nat) : Int) else 0) = c := by have := hc.1; injection this with h1; injection h1
  rw [hS.here] at hrun
  rw [e]; exact hrun
/-- what the closure makes: numbers, and the map grown -/
def NumOut (B : Nat) (K : List Txt) (kk : Nat) (ts : List Txt) (w : World) (e : Ending) (w' : World) : Prop :=
  ∃ (g : Nat) (K' : List Txt) (D' : DataW Unit), e = .returned (.slice (some ⟨g, 0, none⟩) ts.length ts.length) ∧ TyI w' g ∧ g ≠ B ∧ (∀ (i : Nat) x, ts[i]? = some x → x ∈ K' ∧ w'.cell? ⟨g, i, none⟩ = some (.int .i64 (K'.idxOf x : Nat))) ∧
    w'.ownsMap Try.prog 9 (plainElem Try.prog 3) B (kk + ts.length) D' ∧ KeyIs D' K' ∧ K <+: K' ∧ K'.length ≤ K.length + ts.length ∧ w.grownBy w' (some B)
theorem bytes_at (xs : List ByteArray) (k : Nat) (x : ByteArray) (h : xs[k]? = some x) : (bytesOf xs)[k]? = some x.data.toList := by unfold bytesOf; rw [List.getElem?_map, h]; rfl
theorem bytes_len (xs : List ByteArray) : (bytesOf xs).length = xs.length := by simp [bytesOf]

set_option maxRecDepth 100000 in
set_option maxHeartbeats 2000000 in
theorem numbered1_any (ao : Option Addr) (cap : Nat) (xs : List ByteArray) (Bx B kk : Nat) (K : List Txt) (D : DataW Unit) (w : World) (hn : xs.length ≤ 4096) (hk : kk ≤ 1000000) (hKl : K.length ≤ 1000000) (hs : ∀ c ∈ xs, c.size ≤ maxLen) (hR : StrRow w ao xs)
    (hbox : w.heap[Bx]? = some (.cells #[.map (some B)] 30 (0, 0))) (hBx : Bx ≠ B) (hno : ∀ (i : Nat) x, xs[i]? = some x → ∃ A, ao = some A ∧ A.block ≠ B) (hM : w.ownsMap Try.prog 9 (plainElem Try.prog 3) B kk D) (hK : KeyIs D K) :
    Calls Try.prog 22 #[.slice ao xs.length cap, .pointer (some ⟨Bx, 0, none⟩)] w (NumOut B K kk (bytesOf xs) w) := by
  have hmk : ∀ W : World, (Instr.makeSlice 35 (.int .i64 (xs.length : Int)) (.int .i64 (xs.length : Int))).run Try.prog W = .ok (.slice (some ⟨W.heap.size, 0, none⟩) xs.length xs.length) (W.alloc (.cells (madeCells #[.int .i64 0] xs.length) 3)) := fun W => run_make_row' (P := Try.prog) 35 3 (.int .i64 0) 8 Try.underlying35 (by kernel_rfl) rfl .i64 .i64 xs.length (by omega) (by omega) W
  have HR := Lib.hid hR
  have HS := Lib.hid hs
  have HX := Lib.hid hbox
  have HNo := Lib.hid hno
  have HM := Lib.hid hM
  have HK := Lib.hid hK
  have hlB : B < w.heap.size := hM.lt
  obtain ⟨g, hg⟩ : ∃ g, g = w.heap.size := ⟨_, rfl⟩
  have HGs := Lib.hid hg
  have hgB : g ≠ B := by omega
  clear hR hs hbox hno hM hK
  go_enter Try.func22, Try.ntmps22
  go_upto_region 2 with fail
  obtain ⟨V, HV⟩ : ∃ V, Hid (V = w.alloc (.cells (madeCells #[.int .i64 0] xs.length) 3)) := ⟨_, Lib.hid rfl⟩
  rw [← HV.out, ← hg]
  have HR1 : Hid (V.rowIs g 3 xs.length (fun _ => .int .i64 0)) := Lib.hid (by rw [HV.out, hg]; exact World.rowIs_made _ _ _ _)
  have b1 : Below w.heap.size w V := by rw [HV.out]; exact (Below.refl _ w).alloc (Nat.le_refl _) _
  have HM1 := Lib.hid (HM.out.kept (row := none) ⟨b1.os, b1.tape, b1.output, b1.size, fun k hk _ => b1.block k hk⟩ (by simp))
  have HG1 : Hid (w.grownBy V (some B)) := Lib.hid (grown_of b1)
  clear hg b1 HV hmk
  go_wp2_with fail
  go_loopw [14] (fun i wr => ∃ (k : Nat) (D1 : DataW Unit) (K1 : List Txt) (f : Nat → Value), k ≤ xs.length ∧ i = .int .i64 k ∧ Hid (w.grownBy wr (some B)) ∧ Hid (wr.ownsMap Try.prog 9 (plainElem Try.prog 3) B (kk + k) D1) ∧ Hid (KeyIs D1 K1) ∧ Hid (K <+: K1) ∧ Hid (K1.length ≤ K.length + k) ∧ Hid (wr.rowIs g 3 xs.length f) ∧ Hid (∀ (t : Nat) x, t < k → xs[t]? = some x → x.data.toList ∈ K1 ∧ f t = .int .i64 (K1.idxOf x.data.toList : Nat))) (fun i _ => xs.length - (intOf i).toNat)
  case atStart => exact ⟨0, D, K, _, Nat.zero_le _, rfl, HG1, HM1, HK, Lib.hid (List.prefix_refl _), Lib.hid (Nat.le_refl _), HR1, Lib.hid (fun t x h => by omega)⟩
  case round =>
    obtain ⟨k, D1, K1, f, hk1, rfl, HG, HM, HK, HP, HKl, HRo, HF⟩ := hrel
    clear HG1 HM1 HR1
    by_cases hlt : k < xs.length
    · obtain ⟨x, hx⟩ : ∃ x, xs[k]? = some x := ⟨_, List.getElem?_eq_getElem hlt⟩
      have hsz := HS.out x (List.mem_of_getElem? hx)
      have hlook := key_look HM.out HK.out x hsz
      have hln := HM.out.len Try.underlying30 3
      rw [HK.out.size] at hln
      have hkl : K1.length ≤ 1004096 := by have := HKl.out; omega
      obtain ⟨A, hA, hAB⟩ := HNo.out k x hx
      subst hA
      rcases HR.out with h0 | ⟨A', hA', hAl, hcell⟩
      · rw [h0] at hlt; simp at hlt
      cases hA'
      have hc := cell_grown (hcell k x hx) HG.out (by rw [add_block]; simpa using hAB)
      have hb := (HG.out.block Bx (lt_of_heap HX.out) (by simpa using hBx)).trans HX.out
      obtain ⟨cX, _⟩ := cell_of_box_l hb
      have c1 := HRo.out.cell hlt
      have c2 := HRo.out.frozen k
      have HXk := Lib.hid hx
      by_cases hin : x.data.toList ∈ K1
      · rw [if_pos hin, decide_eq_true hin] at hlook
        obtain ⟨U, HU⟩ : ∃ U, Hid (U = wr.setCell ⟨g, k, none⟩ (.int .i64 (K1.idxOf x.data.toList : Nat))) := ⟨_, Lib.hid rfl⟩
        have HG2 : Hid (w.grownBy U (some B)) := Lib.hid (by
          rw [HU.out]
          exact ⟨HG.out.os, HG.out.tape, HG.out.output, by simp; exact HG.out.size, fun i hi hne => (heap_setCell_other _ _ _ _ (by show i ≠ g; have := HGs.out; omega)).trans (HG.out.block i hi hne)⟩)
        have HM2 := Lib.hid ((HM.out.mono (Nat.le_succ (kk + k))).kept (row := some g) (w' := U) (by rw [HU.out]; exact grown_put _ _ _ _) (by simpa using hgB.symm))
        have HR2 : Hid (U.rowIs g 3 xs.length (fun t => if t = k then .int .i64 (K1.idxOf x.data.toList : Nat) else f t)) := Lib.hid (by rw [HU.out]; exact HRo.out.set _ _)
        have HF2 : Hid (∀ (t : Nat) x', t < k + 1 → xs[t]? = some x' → x'.data.toList ∈ K1 ∧ (if t = k then Value.int .i64 (K1.idxOf x.data.toList : Nat) else f t) = .int .i64 (K1.idxOf x'.data.toList : Nat)) := Lib.hid (fun t x' ht hx' => by
          by_cases e : t = k
          · subst e
            rw [HXk.out] at hx'; cases hx'
            exact ⟨hin, by rw [if_pos rfl]⟩
          · rw [if_neg e]; exact HF.out t x' (by omega) hx')
        have HKl2 : Hid (K1.length ≤ K.length + (k + 1)) := Lib.hid (by have := HKl.out; omega)
        generalize K1.idxOf x.data.toList = ix at hlook HU HR2 HF2
        clear hcell hx hin hln
        go_upto_region 10 with fail
        rw [← HU.out]
        clear c1 c2 cX hc hlook
        go_wp2_with fail
        go_roundw
        case rel => exact ⟨k + 1, D1, K1, _, by omega, by go_num, HG2, HM2, HK, HP, HKl2, HR2, HF2⟩
        case measure => simp [intOf]; omega
      · rw [if_neg hin, decide_eq_false hin] at hlook
        have HKey := Lib.hid (Go.WideMaps.keyOf_string_mk (P := Try.prog) Try.underlying9 hsz)
        have HKp := Lib.hid (HK.out.put x.data.toList hin)
        have HPe := Lib.hid (plainElem_int (H := Unit) (P := Try.prog) (e := 3) (a := (K1.length : Int)) Try.underlying3 (WalkArith.wf_i64 (by omega)))
        have hkm : kk + k < maxLen := by unfold maxLen; omega
        have HKB : Hid (∀ W, wr.grownBy W (some B) → (W.heap[Bx]? = some (.cells #[.map (some B)] 30 (0, 0)) ∧ W.rowIs g 3 xs.length f)) := Lib.hid (fun W hW => ⟨(hW.block Bx (lt_of_heap hb) (by simpa using hBx)).trans hb, HRo.out.of_block (hW.block g HRo.out.lt (by simpa using hgB))⟩)
        have HNx : Hid (x.data.toList ∉ K1) := Lib.hid hin
        clear hcell hx hin c1 c2 hb
        go_upto_region 9 with (at_mapUpdate; refine wpList_mapUpdate_own _ rfl _ _ _ 30 rfl 9 3 (string_keyed Try.underlying9) Try.underlying30 _ B (kk + k) D1 rfl HM.out hkm _ _ (.string x.data.toList) rfl rfl HKey.out (.lit (.int .i64 (K1.length : Int))) [] HPe.out ?_; intro w1 ho hg)
        obtain ⟨hb1, r1⟩ := HKB.out w1 hg
        have c1 := r1.cell hlt
        have c2 := r1.frozen k
        obtain ⟨U, HU⟩ : ∃ U, Hid (U = w1.setCell ⟨g, k, none⟩ (.int .i64 (K1.length : Int))) := ⟨_, Lib.hid rfl⟩
        have hgu : wr.grownBy w1 (some B) := hg
        have HG2 : Hid (w.grownBy U (some B)) := Lib.hid (by
          have h := grown_up HG.out hgu
          rw [HU.out]
          exact ⟨h.os, h.tape, h.output, by simp; exact h.size, fun i hi hne => (heap_setCell_other _ _ _ _ (by show i ≠ g; have := HGs.out; omega)).trans (h.block i hi hne)⟩)
        have HM2 := Lib.hid (ho.kept (row := some g) (w' := U) (by rw [HU.out]; exact grown_put _ _ _ _) (by simpa using hgB.symm))
        have HR2 : Hid (U.rowIs g 3 xs.length (fun t => if t = k then .int .i64 (K1.length : Int) else f t)) := Lib.hid (by rw [HU.out]; exact r1.set _ _)
        have HF2 : Hid (∀ (t : Nat) x', t < k + 1 → xs[t]? = some x' → x'.data.toList ∈ K1 ++ [x.data.toList] ∧ (if t = k then Value.int .i64 (K1.length : Int) else f t) = .int .i64 ((K1 ++ [x.data.toList]).idxOf x'.data.toList : Nat)) := Lib.hid (fun t x' ht hx' => by
          by_cases e : t = k
          · subst e
            rw [HXk.out] at hx'; cases hx'
            exact ⟨by simp, by rw [if_pos rfl, idx_new _ _ HNx.out]⟩
          · obtain ⟨h1, h2⟩ := HF.out t x' (by omega) hx'
            rw [if_neg e]; exact ⟨by simp [h1], by rw [idx_snoc _ _ _ h1]; exact h2⟩)
        have HKl2 : Hid ((K1 ++ [x.data.toList]).length ≤ K.length + (k + 1)) := Lib.hid (by have := HKl.out; simp; omega)
        have HP2 : Hid (K <+: K1 ++ [x.data.toList]) := Lib.hid (HP.out.trans (List.prefix_append _ _))
        clear ho hg hgu hb1 r1 hc cX hlook hln
        go_upto_region 10 with fail
        rw [← HU.out]
        clear c1 c2
        go_wp2_with fail
        go_roundw
        case rel => exact ⟨k + 1, _, _, _, by omega, by go_num, HG2, HM2, HKp, HP2, HKl2, HR2, HF2⟩
        case measure => simp [intOf]; omega
    · obtain rfl : k = xs.length := by omega
      have HE : Hid (NumOut B K kk (bytesOf xs) w (.returned (.slice (some ⟨g, 0, none⟩) xs.length xs.length)) wr) := Lib.hid (by
        refine ⟨g, K1, D1, by rw [bytes_len], rowIs_tyI HRo.out, hgB, fun i x hx => ?_, by rw [bytes_len]; exact HM.out, HK.out, HP.out, by rw [bytes_len]; exact HKl.out, HG.out⟩
        have hi := (List.getElem?_eq_some_iff.1 hx).1
        rw [bytes_len] at hi
        have hx2 : xs[i]? = some xs[i] := List.getElem?_eq_getElem hi
        rw [bytes_at xs i _ hx2] at hx; cases hx
        obtain ⟨h1, h2⟩ := HF.out i _ hi hx2
        exact ⟨h1, by rw [HRo.out.cell hi, h2]⟩)
      go_wp2_with fail
      go_ret
      exact HE.out
end Go.Proofs.Ytcdpadchbphggaa
