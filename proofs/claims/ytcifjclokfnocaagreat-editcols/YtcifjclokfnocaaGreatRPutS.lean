/-
  The document's reference: lists of strings with one more, and with one less.
  Conditions: lists of at most 2^38 elements.
-/
import Derived.WalkKit
import Derived.WalkMore
import Derived.Lib.Hide
import Derived.Laws.AppendOwn
import Derived.Test.YtcifjclokfnocaaGreatProg
import Derived.Test.YtcifjclokfnocaaGreatEMovS
namespace Go.Proofs.YtcifjclokfnocaaGreat
open Go.RowKit Go.Shelf
set_option linter.unusedVariables false

theorem full_atS (vs : List Value) (j : Nat) (x : Value) (hj : j ≤ vs.length) (k : Nat) : (vs.take j ++ x :: vs.drop j)[k]? = if k < j then vs[k]? else if k = j then some x else vs[k - 1]? := by
  have ht : (vs.take j).length = j := by rw [List.length_take]; omega
  by_cases h1 : k < j
  · rw [if_pos h1, List.getElem?_append_left (by omega), List.getElem?_take, if_pos h1]
  · rw [if_neg h1, List.getElem?_append_right (by omega), ht]
    by_cases h2 : k = j
    · rw [if_pos h2, h2, Nat.sub_self]; rfl
    · rw [if_neg h2, show k - j = (k - j - 1) + 1 from by omega, List.getElem?_cons_succ, List.getElem?_drop]
      congr 1; omega
theorem take_moreS (l : List Value) (k : Nat) (x : Value) (h : l[k]? = some x) : l.take k ++ [x] = l.take (k + 1) := by
  obtain ⟨hk, e⟩ := List.getElem?_eq_some_iff.1 h
  rw [List.take_succ_eq_append_getElem hk, e]
theorem lit_cellS (w : World) (v : Value) : ∀ (j : Nat) u, [v][j]? = some u → (w.alloc (.cells #[v] 9)).cell? ((⟨w.heap.size, 0, none⟩ : Addr).add j) = some u := fun j u hj => by
  rw [cell_row (World.alloc_heap_new w _)]
  match j, hj with
  | 0, hj => simp at hj; subst hj; rfl
theorem own_grownS {w w' : World} {base : Nat} {V : World} {e : TypeId} {v : Value} {n : Nat} {xs : List Value} {o : Obj} (hB : Below base V w) (hb : base ≤ w.heap.size) (hO : w.ownsRow base e 1 v n xs) (hg : (w.alloc o).grownBy w' v.ownBlock) : Below base V w' :=
  (hB.alloc hb o).grown hg (by simp; omega) (fun k h => (hO.lt k h).1)

set_option maxRecDepth 100000 in
set_option maxHeartbeats 8000000 in
theorem rputS (ao : Option Addr) (vs : List Value) (cp : Nat) (j : Nat) (xv : ByteArray) (w : World) (hj : j ≤ vs.length) (hn : vs.length ≤ 274877906944) (hc : CellsAt w ao vs) (hv : ∀ u ∈ vs, ∃ yv, u = Value.string yv) :
    Calls Tryz.prog 62 #[.slice ao vs.length cp, .int .i64 j, (.string xv)] w (VOut (.ok (vs.take j ++ (.string xv) :: vs.drop j)) w) := by
  have hinfo : (Tryz.prog.info? 9).map (fun i => (i.zero, i.size, i.bytes)) = some (some (.string ⟨#[]⟩), 1, 16) := by kernel_rfl
  obtain ⟨i0, hi, hz0, hz1, hz2⟩ := info_parts hinfo
  have HI := Lib.hid hi
  have HC := Lib.hid hc
  have HV := Lib.hid hv
  have hfl : (vs.take j ++ (.string xv) :: vs.drop j).length = vs.length + 1 := by simp; omega
  have HFL := Lib.hid hfl
  have HFA := Lib.hid (full_atS vs j (.string xv) hj)
  clear hi hinfo hc hv hfl
  generalize vs.take j ++ (.string xv) :: vs.drop j = F at HFL HFA ⊢
  go_enter Tryz.func62, Tryz.ntmps62
  go_wp2_with fail
  go_loopw [7, 8] (fun v i wr => ∃ (k m cap : Nat) (bo : Option Addr), k ≤ vs.length + 1 ∧ m ≤ k + 1 ∧ v = .slice bo m cap ∧ i = .int .i64 k ∧ Hid (m = (if k ≤ j then k else min (k + 1) (vs.length + 1))) ∧ Hid (Below w.heap.size w wr) ∧ Hid (wr.ownsRow w.heap.size 9 1 (.slice bo m cap) m (F.take m))) (fun _ i _ => vs.length + 1 - (intOf i).toNat)
  case atStart => exact ⟨0, 0, 0, none, Nat.zero_le _, Nat.zero_le _, rfl, rfl, Lib.hid (by rw [if_pos (Nat.zero_le _)]), Lib.hid (Below.refl _ _), Lib.hid (World.ownsRow_nil _ _ _ _)⟩
  case round =>
    obtain ⟨k, m, cap, bo, hk, hm, rfl, rfl, HM, HB, HO⟩ := hrel
    have hws : w.heap.size ≤ wr.heap.size := HB.out.size
    by_cases hle : k ≤ vs.length
    · -- one more at its place
      by_cases hkj : k = j
      · have e1 : ((k : Int) == (j : Int)) = true := by simp [hkj]
        have hmk : m = k := by rw [HM.out, if_pos (by omega)]
        subst hmk
        subst hkj
        have hx := HFA.out m
        rw [if_neg (by omega), if_pos rfl] at hx
        have HO1 := Lib.hid (HO.out.alloc (.cells #[(.string xv)] 9))
        have hbs : w.heap.size ≤ (wr.alloc (.cells #[(.string xv)] 9)).heap.size := by simp; omega
        have HTX := Lib.hid (take_moreS F m _ hx)
        clear hx
        go_wp2_with (at_builtin; refine wpList_append_own _ rfl _ _ 22 rfl w.heap.size 9 i0 (.string ⟨#[]⟩) 1 16 Tryz.underlying22 HI.out hz0 hz1 hz2 rfl (by decide) _ _ _ rfl HO1.out ⟨wr.heap.size, 0, none⟩ 1 1 [(.string xv)] rfl rfl (lit_cellS wr _) (fun u hu => by simp at hu; subst hu; rfl) (by unfold maxLen; omega) (by omega) hbs ?_)
        intro v' w3 hown' hgrow _
        obtain ⟨g, gc, rfl⟩ := ownsRow_succ hown'
        rw [HTX.out] at hown'
        have HB3 := Lib.hid (own_grownS HB.out hws HO.out hgrow)
        have HO3 := Lib.hid hown'
        clear hown' hgrow hbs
        by_cases hlt : m < vs.length
        · obtain ⟨y, hy⟩ : ∃ y, vs[m]? = some y := ⟨_, List.getElem?_eq_getElem hlt⟩
          have hy2 := HFA.out (m + 1)
          rw [if_neg (by omega), if_neg (by omega), Nat.add_sub_cancel, hy] at hy2
          obtain ⟨yv, rfl⟩ := HV.out y (List.mem_of_getElem? hy)
          rcases HC.out.kept HB3.out with h0 | ⟨A, rfl, hA, hcell⟩
          · rw [h0] at hlt; simp at hlt
          have hcy := hcell m _ hy
          have HO4 := Lib.hid (HO3.out.alloc (.cells #[Value.string yv] 9))
          have hbs : w.heap.size ≤ (w3.alloc (.cells #[Value.string yv] 9)).heap.size := by have := HB3.out.size; simp; omega
          have HTY := Lib.hid (take_moreS F (m + 1) _ hy2)
          clear hcell hy hy2
          go_wp2_with (at_builtin; refine wpList_append_own _ rfl _ _ 22 rfl w.heap.size 9 i0 (.string ⟨#[]⟩) 1 16 Tryz.underlying22 HI.out hz0 hz1 hz2 rfl (by decide) _ _ _ rfl HO4.out ⟨w3.heap.size, 0, none⟩ 1 1 [Value.string yv] rfl rfl (lit_cellS w3 _) (fun u hu => by simp at hu; subst hu; rfl) (by unfold maxLen; omega) (by omega) hbs ?_)
          intro v' w5 hown' hgrow _
          obtain ⟨g5, gc5, rfl⟩ := ownsRow_succ hown'
          rw [HTY.out] at hown'
          have HB5 := Lib.hid (own_grownS HB3.out HB3.out.size HO3.out hgrow)
          have HO5 := Lib.hid hown'
          have HM5 : Hid (m + 1 + 1 = (if m + 1 ≤ m then m + 1 else min (m + 1 + 1) (vs.length + 1))) := Lib.hid (by rw [if_neg (by omega)]; omega)
          clear hown' hgrow hbs hcy
          go_wp2_with fail
          go_roundw
          case rel => exact ⟨m + 1, m + 1 + 1, gc5, _, by omega, by omega, rfl, by go_num, HM5, HB5, HO5⟩
          case measure => simp [intOf]; omega
        · have HM5 : Hid (m + 1 = (if m + 1 ≤ m then m + 1 else min (m + 1 + 1) (vs.length + 1))) := Lib.hid (by rw [if_neg (by omega)]; omega)
          go_wp2_with fail
          go_roundw
          case rel => exact ⟨m + 1, m + 1, gc, _, by omega, by omega, rfl, by go_num, HM5, HB3, HO3⟩
          case measure => simp [intOf]; omega
      · have e1 : ((k : Int) == (j : Int)) = false := by rw [beq_eq_false_iff_ne]; omega
        by_cases hlt : k < vs.length
        · obtain ⟨y, hy⟩ : ∃ y, vs[k]? = some y := ⟨_, List.getElem?_eq_getElem hlt⟩
          have hmk : m = (if k ≤ j then k else k + 1) := by rw [HM.out]; split <;> omega
          have hy2 : F[m]? = some y := by
            rw [HFA.out m, hmk]
            by_cases hkk : k ≤ j
            · rw [if_pos hkk, if_pos (by omega)]; exact hy
            · rw [if_neg hkk, if_neg (by omega), if_neg (by omega), Nat.add_sub_cancel]; exact hy
          obtain ⟨yv, rfl⟩ := HV.out y (List.mem_of_getElem? hy)
          rcases HC.out.kept HB.out with h0 | ⟨A, rfl, hA, hcell⟩
          · rw [h0] at hlt; simp at hlt
          have hcy := hcell k _ hy
          have HO4 := Lib.hid (HO.out.alloc (.cells #[Value.string yv] 9))
          have hbs : w.heap.size ≤ (wr.alloc (.cells #[Value.string yv] 9)).heap.size := by simp; omega
          have HTY := Lib.hid (take_moreS F m _ hy2)
          have HM5 : Hid (m + 1 = (if k + 1 ≤ j then k + 1 else min (k + 1 + 1) (vs.length + 1))) := Lib.hid (by rw [hmk]; split <;> split <;> omega)
          clear hcell hy hy2 hmk
          go_wp2_with (at_builtin; refine wpList_append_own _ rfl _ _ 22 rfl w.heap.size 9 i0 (.string ⟨#[]⟩) 1 16 Tryz.underlying22 HI.out hz0 hz1 hz2 rfl (by decide) _ _ _ rfl HO4.out ⟨wr.heap.size, 0, none⟩ 1 1 [Value.string yv] rfl rfl (lit_cellS wr _) (fun u hu => by simp at hu; subst hu; rfl) (by unfold maxLen; omega) (by omega) hbs ?_)
          intro v' w5 hown' hgrow _
          obtain ⟨g5, gc5, rfl⟩ := ownsRow_succ hown'
          rw [HTY.out] at hown'
          have HB5 := Lib.hid (own_grownS HB.out hws HO.out hgrow)
          have HO5 := Lib.hid hown'
          clear hown' hgrow hbs hcy
          go_wp2_with fail
          go_roundw
          case rel => exact ⟨k + 1, m + 1, gc5, _, by omega, by omega, rfl, by go_num, HM5, HB5, HO5⟩
          case measure => simp [intOf]; omega
        · have HM5 : Hid (m = (if k + 1 ≤ j then k + 1 else min (k + 1 + 1) (vs.length + 1))) := Lib.hid (by rw [HM.out, if_neg (by omega), if_neg (by omega)]; omega)
          go_wp2_with fail
          go_roundw
          case rel => exact ⟨k + 1, m, cap, bo, by omega, by omega, rfl, by go_num, HM5, HB, HO⟩
          case measure => simp [intOf]; omega
    · have hmk : m = vs.length + 1 := by rw [HM.out, if_neg (by omega)]; omega
      have hO := HO.out
      rw [List.take_of_length_le (by rw [HFL.out, hmk]; exact Nat.le_refl _)] at hO
      have HO5 := Lib.hid hO
      have hd : decide ((k : Int) ≤ (vs.length : Int)) = false := decide_eq_false (by omega)
      clear hO
      go_wp2_with fail
      go_ret
      obtain ⟨xo', xc', h1, h2, h3⟩ := own_cellsS HO5.out
      exact ⟨xo', xc', by rw [h1]; rfl, ⟨h2, h3⟩, HB.out⟩

set_option maxRecDepth 100000 in
set_option maxHeartbeats 8000000 in
theorem routS (ao : Option Addr) (vs : List Value) (cp : Nat) (j : Nat) (w : World) (hj : j < vs.length) (hn : vs.length ≤ 274877906944) (hc : CellsAt w ao vs) (hv : ∀ u ∈ vs, ∃ yv, u = Value.string yv) :
    Calls Tryz.prog 63 #[.slice ao vs.length cp, .int .i64 j] w (VOut (.ok (vs.take j ++ vs.drop (j + 1))) w) := by
  have hinfo : (Tryz.prog.info? 9).map (fun i => (i.zero, i.size, i.bytes)) = some (some (.string ⟨#[]⟩), 1, 16) := by kernel_rfl
  obtain ⟨i0, hi, hz0, hz1, hz2⟩ := info_parts hinfo
  have HI := Lib.hid hi
  have HC := Lib.hid hc
  have HV := Lib.hid hv
  have ht : (vs.take j).length = j := by rw [List.length_take]; omega
  have HFL := Lib.hid (show (vs.take j ++ vs.drop (j + 1)).length = vs.length - 1 by simp; omega)
  have HFA := Lib.hid (fun k => show (vs.take j ++ vs.drop (j + 1))[k]? = if k < j then vs[k]? else vs[k + 1]? from by
    by_cases h1 : k < j
    · rw [if_pos h1, List.getElem?_append_left (by omega), List.getElem?_take, if_pos h1]
    · rw [if_neg h1, List.getElem?_append_right (by omega), ht, List.getElem?_drop]; congr 1; omega)
  clear hi hinfo hc hv ht
  generalize vs.take j ++ vs.drop (j + 1) = F at HFL HFA ⊢
  go_enter Tryz.func63, Tryz.ntmps63
  go_wp2_with fail
  go_loopw [5, 6] (fun v i wr => ∃ (k m cap : Nat) (bo : Option Addr), k ≤ vs.length ∧ m ≤ k ∧ v = .slice bo m cap ∧ i = .int .i64 k ∧ Hid (m = (if k ≤ j then k else k - 1)) ∧ Hid (Below w.heap.size w wr) ∧ Hid (wr.ownsRow w.heap.size 9 1 (.slice bo m cap) m (F.take m))) (fun _ i _ => vs.length - (intOf i).toNat)
  case atStart => exact ⟨0, 0, 0, none, Nat.zero_le _, Nat.zero_le _, rfl, rfl, Lib.hid (by rw [if_pos (Nat.zero_le _)]), Lib.hid (Below.refl _ _), Lib.hid (World.ownsRow_nil _ _ _ _)⟩
  case round =>
    obtain ⟨k, m, cap, bo, hk, hm, rfl, rfl, HM, HB, HO⟩ := hrel
    have hws : w.heap.size ≤ wr.heap.size := HB.out.size
    by_cases hlt : k < vs.length
    · by_cases hkj : k = j
      · have e1 : ((k : Int) != (j : Int)) = false := by simp [hkj]
        have HM5 : Hid (m = (if k + 1 ≤ j then k + 1 else k + 1 - 1)) := Lib.hid (by rw [HM.out, if_pos (by omega), if_neg (by omega)]; omega)
        go_wp2_with fail
        go_roundw
        case rel => exact ⟨k + 1, m, cap, bo, by omega, by omega, rfl, by go_num, HM5, HB, HO⟩
        case measure => simp [intOf]; omega
      · have e1 : ((k : Int) != (j : Int)) = true := by rw [bne_iff_ne]; omega
        obtain ⟨y, hy⟩ : ∃ y, vs[k]? = some y := ⟨_, List.getElem?_eq_getElem hlt⟩
        have hmk : m = (if k ≤ j then k else k - 1) := HM.out
        have hy2 : F[m]? = some y := by
          rw [HFA.out m, hmk]
          by_cases hkk : k ≤ j
          · rw [if_pos hkk, if_pos (by omega)]; exact hy
          · rw [if_neg hkk, if_neg (by omega), show k - 1 + 1 = k from by omega]; exact hy
        obtain ⟨yv, rfl⟩ := HV.out y (List.mem_of_getElem? hy)
        rcases HC.out.kept HB.out with h0 | ⟨A, rfl, hA, hcell⟩
        · rw [h0] at hlt; simp at hlt
        have hcy := hcell k _ hy
        have HO4 := Lib.hid (HO.out.alloc (.cells #[Value.string yv] 9))
        have hbs : w.heap.size ≤ (wr.alloc (.cells #[Value.string yv] 9)).heap.size := by simp; omega
        have HTY := Lib.hid (take_moreS F m _ hy2)
        have HM5 : Hid (m + 1 = (if k + 1 ≤ j then k + 1 else k + 1 - 1)) := Lib.hid (by rw [hmk]; split <;> split <;> omega)
        clear hcell hy hy2 hmk
        go_wp2_with (at_builtin; refine wpList_append_own _ rfl _ _ 22 rfl w.heap.size 9 i0 (.string ⟨#[]⟩) 1 16 Tryz.underlying22 HI.out hz0 hz1 hz2 rfl (by decide) _ _ _ rfl HO4.out ⟨wr.heap.size, 0, none⟩ 1 1 [Value.string yv] rfl rfl (lit_cellS wr _) (fun u hu => by simp at hu; subst hu; rfl) (by unfold maxLen; omega) (by omega) hbs ?_)
        intro v' w5 hown' hgrow _
        obtain ⟨g5, gc5, rfl⟩ := ownsRow_succ hown'
        rw [HTY.out] at hown'
        have HB5 := Lib.hid (own_grownS HB.out hws HO.out hgrow)
        have HO5 := Lib.hid hown'
        clear hown' hgrow hbs hcy
        go_wp2_with fail
        go_roundw
        case rel => exact ⟨k + 1, m + 1, gc5, _, by omega, by omega, rfl, by go_num, HM5, HB5, HO5⟩
        case measure => simp [intOf]; omega
    · have hmk : m = vs.length - 1 := by rw [HM.out, if_neg (by omega)]; omega
      have hO := HO.out
      rw [List.take_of_length_le (by rw [HFL.out, hmk]; exact Nat.le_refl _)] at hO
      have HO5 := Lib.hid hO
      clear hO
      go_wp2_with fail
      go_ret
      obtain ⟨xo', xc', h1, h2, h3⟩ := own_cellsS HO5.out
      exact ⟨xo', xc', by rw [h1]; rfl, ⟨h2, h3⟩, HB.out⟩
end Go.Proofs.YtcifjclokfnocaaGreat
