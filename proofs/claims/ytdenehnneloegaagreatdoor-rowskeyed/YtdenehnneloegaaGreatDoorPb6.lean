/-
  Texts of these rows' proofs, laid one behind the other: PRest, PThrough, PTurn, PMathB, TFew.
  Conditions: those of each theorem.
-/
import Derived.Maps.Own
import Derived.Maps.OwnOps
import Derived.Maps.OwnSet
import Derived.Maps.Views
import Derived.IntWalk
import Derived.WalkArith
import Derived.OwnWalk
import Derived.Deep.Cut
import Derived.Deep.Onto
import Derived.Test.YtdenehnneloegaaGreatDoorProg
import Derived.Test.YtdenehnneloegaaGreatDoorPb5
import Derived.WalkKit
import Derived.WalkMore
import Derived.OneCell
import Derived.Lib.Hide
import Derived.Test.YtdenehnneloegaaGreatDoorPb1
namespace Go.Proofs.YtdenehnneloegaaGreatDoor
open Go.RowKit Go.Shelf Go.Maps
set_option linter.unusedVariables false
theorem ownsMap_below {H : Type} {P : Program} {k : TypeId} {R : Value → Option (DataW H × List MemPlace)} {b n : Nat} {D : DataW H} {w w' : World} (h : w.ownsMap P k R b n D) (hB : Below w.heap.size w w') : w'.ownsMap P k R b n D :=
  h.kept (row := none) ⟨hB.os, hB.tape, hB.output, hB.size, fun k hk _ => hB.block k hk⟩ (by simp)
/-- one more in a list, if it is not there -/
def addZ (L : List Int) (x : Int) : List Int := if x ∈ L then L else L ++ [x]
theorem addZ_mem (L : List Int) (x z : Int) : z ∈ addZ L x ↔ z ∈ L ∨ z = x := by
  unfold addZ; split
  · rename_i h; exact ⟨.inl, fun h' => h'.elim id (fun e => e ▸ h)⟩
  · simp
/-- a map that is a set of numbers -/
structure SetIs (D : DataW Unit) (L : List Int) : Prop where
  tidy : Tidy D
  look : ∀ z, D.atKey (.int .i64 z) (.lit (.bool false)) = .lit (.bool (decide (z ∈ L)))
  here : ∀ z, has D (.int .i64 z) = decide (z ∈ L)
  size : Go.Maps.size D = L.length
  nodup : L.Nodup
theorem SetIs.empty : SetIs (.map []) [] := ⟨tidy_empty, fun z => rfl, fun z => rfl, rfl, List.nodup_nil⟩
theorem keyI (x : Int) : WideAt.IsKeyLit (.int .i64 x) := by first | exact trivial | constructor | simp [WideAt.IsKeyLit]
theorem SetIs.put {D : DataW Unit} {L : List Int} (h : SetIs D L) (x : Int) : SetIs (D.put (.int .i64 x) (.lit (.bool true))) (addZ L x) := by
  refine ⟨h.tidy.put (keyI x) _, fun z => ?_, fun z => ?_, ?_, ?_⟩
  · by_cases e : z = x
    · subst e
      rw [atKey_put_same h.tidy.isMap (keyI z), decide_eq_true ((addZ_mem L z z).2 (.inr rfl))]
    · rw [atKey_put_other (fun e' => e (by injection e')), h.look]
      have : z ∈ addZ L x ↔ z ∈ L := (addZ_mem L x z).trans ⟨fun h => h.elim id (fun e' => absurd e' e), .inl⟩
      simp only [this]
  · by_cases e : z = x
    · subst e
      rw [has_put_same h.tidy.isMap (keyI z), decide_eq_true ((addZ_mem L z z).2 (.inr rfl))]
    · rw [has_put_other (fun e' => e (by injection e')), h.here]
      have : z ∈ addZ L x ↔ z ∈ L := (addZ_mem L x z).trans ⟨fun h => h.elim id (fun e' => absurd e' e), .inl⟩
      simp only [this]
  · rw [size_put h.tidy, h.here]
    unfold addZ
    by_cases hx : x ∈ L
    · simp [hx, h.size]
    · simp [hx, h.size]
  · unfold addZ; split
    · exact h.nodup
    · rename_i hx
      rw [List.nodup_append]
      exact ⟨h.nodup, by simp, fun a ha b hb e => by simp at hb; subst hb; exact hx (e ▸ ha)⟩
set_option maxRecDepth 100000 in
theorem set_look {w : World} {b k : Nat} {D : DataW Unit} {L : List Int} (h : w.ownsMap Tryz.prog 3 (plainElem Tryz.prog 4) b k D) (hS : SetIs D L) (x : Int) (hx : (Lit.int .i64 x).wf = true) :
    (Instr.lookup 152 (.map (some b)) (.int .i64 x) false).run Tryz.prog w = .ok (.bool (decide (x ∈ L))) w := by
  obtain ⟨c, hrun, hat⟩ := lookup_boolZ h (int_keyed Tryz.underlying3) Tryz.underlying152 Tryz.underlying4 (Tryz.zeroValue4 _) (keyOf_int_mk Tryz.underlying3 hx)
  rw [hS.look] at hat
  have : decide (x ∈ L) = c := by injection hat with h1; injection h1
  rw [this]; exact hrun
theorem sub_len : ∀ (L R : List Int), L.Nodup → (∀ x ∈ L, x ∈ R) → L.length ≤ R.length
  | [], R, _, _ => Nat.zero_le _
  | x :: L, R, hn, hs => by
    have hx := hs x (by simp)
    obtain ⟨h1, h2⟩ := List.nodup_cons.1 hn
    have := sub_len L (R.erase x) h2 (fun y hy => (List.mem_erase_of_ne (show y ≠ x from fun e => h1 (by rw [← e]; exact hy))).2 (hs y (by simp [hy])))
    rw [List.length_erase_of_mem hx] at this
    have hp : 0 < R.length := List.length_pos_of_mem hx
    simp only [List.length_cons]; omega
def upTo (k : Nat) : List Int := (List.range k).map Int.ofNat
theorem upTo_mem (k : Nat) (z : Int) : z ∈ upTo k ↔ 0 ≤ z ∧ z < k := by
  unfold upTo
  rw [List.mem_map]
  constructor
  · rintro ⟨a, ha, rfl⟩; have := List.mem_range.1 ha; exact ⟨by simp, by simpa using this⟩
  · rintro ⟨h1, h2⟩
    exact ⟨z.toNat, List.mem_range.2 (by omega), by simp; omega⟩
theorem upTo_next (k : Nat) : upTo (k + 1) = upTo k ++ [(k : Int)] := by simp [upTo, List.range_succ]
theorem upTo_len (k : Nat) : (upTo k).length = k := by simp [upTo]
/-- those below k that are not in a list -/
def outOf (S : List Int) (k : Nat) : List Int := (upTo k).filter (fun x => decide (x ∉ S))
theorem outOf_next (S : List Int) (k : Nat) : outOf S (k + 1) = if (k : Int) ∈ S then outOf S k else outOf S k ++ [(k : Int)] := by
  unfold outOf
  rw [upTo_next, List.filter_append]
  split
  · rename_i h; simp [h]
  · rename_i h; simp [h]
theorem outOf_le (S : List Int) (k : Nat) : (outOf S k).length ≤ k := by
  have := List.length_filter_le (fun x => decide (x ∉ S)) (upTo k)
  rw [upTo_len] at this; exact this
theorem outOf_none (S L : List Int) (n : Nat) (hL : L.Nodup) (hm : ∀ z, z ∈ L ↔ z ∈ S ∧ 0 ≤ z ∧ z < (n : Int)) (h : n ≤ L.length) : outOf S n = [] := by
  refine List.filter_eq_nil_iff.2 (fun z hz => ?_)
  obtain ⟨h0, h1⟩ := (upTo_mem n z).1 hz
  by_cases hs : z ∈ S
  · simp [hs]
  · exfalso
    have hzL : z ∉ L := fun h' => hs ((hm z).1 h').1
    have := sub_len (z :: L) (upTo n) (List.nodup_cons.2 ⟨hzL, hL⟩) (fun x hx => by
      rcases List.mem_cons.1 hx with rfl | hx
      · exact hz
      · exact (upTo_mem n x).2 ((hm x).1 hx).2)
    rw [upTo_len] at this; simp at this; omega
theorem set_few (S L : List Int) (n : Int) (hL : L.Nodup) (hm : ∀ z, z ∈ L ↔ z ∈ S ∧ 0 ≤ z ∧ z < n) : L.length ≤ n.toNat := by
  have := sub_len L (upTo n.toNat) hL (fun x hx => (upTo_mem _ x).2 (by have := ((hm x).1 hx).2; omega))
  rwa [upTo_len] at this
/-- numbers that come back -/
def IntsOut (l : List Int) (w : World) (e : Ending) (w' : World) : Prop := ∃ ao cap, e = .returned (.slice ao l.length cap) ∧ IntsAt w' ao l ∧ (ao = none → cap = 0) ∧ l.length ≤ cap ∧ Below w.heap.size w w'
/-- a slice of numbers that the code owns -/
def OwnI (w : World) (base : Nat) (v : Value) (l : List Int) : Prop := w.ownsRow base 3 1 v l.length (l.map (Value.int .i64))
theorem OwnI.end_ {w w' : World} {v : Value} {l : List Int} (h : OwnI w' w.heap.size v l) (hB : Below w.heap.size w w') : IntsOut l w (.returned v) w' := by
  rcases h.2 with ⟨rfl, h0⟩ | ⟨g, cap, cur, rfl, h1, h2, h3, h4, h5, h6⟩
  · have hl : l = [] := List.eq_nil_of_length_eq_zero h0
    subst hl
    exact ⟨none, 0, rfl, .inl rfl, fun _ => rfl, Nat.le_refl _, hB⟩
  · refine ⟨_, cap, rfl, .inr ⟨_, rfl, (World.ownsRow.lt h g rfl).2, fun i p hp => ?_⟩, (fun e => by cases e), h3, hB⟩
    exact World.ownsRow.cells h rfl i _ (by rw [List.getElem?_map, hp]; rfl)
theorem lit_cellI (w : World) (v : Value) : ∀ (j : Nat) u, [v][j]? = some u → (w.alloc (.cells #[v] 3)).cell? ((⟨w.heap.size, 0, none⟩ : Addr).add j) = some u := fun j u hj => by
  rw [cell_row (World.alloc_heap_new w _)]
  match j, hj with
  | 0, hj => simp at hj; subst hj; rfl
/-- one side of a pair, as a function tells it -/
def SideFn (G : FuncId) (side : Int × Int → Int) : Prop := ∀ x1 x2 W, Calls Tryz.prog G #[.agg #[.int .i64 x1, .int .i64 x2]] W fun e w' => e = .returned (.int .i64 (side (x1, x2))) ∧ Below W.heap.size W w'
theorem restA1 : SideFn 150 Prod.fst := fun x1 x2 W => by
  go_enter Tryz.func150, Tryz.ntmps150
  go_wp2_with fail
  go_ret
  exact ⟨rfl, (Below.refl _ W).alloc (Nat.le_refl _) _⟩
theorem restB1 : SideFn 151 Prod.snd := fun x1 x2 W => by
  go_enter Tryz.func151, Tryz.ntmps151
  go_wp2_with fail
  go_ret
  exact ⟨rfl, (Below.refl _ W).alloc (Nat.le_refl _) _⟩
set_option maxRecDepth 100000 in
set_option maxHeartbeats 2000000 in
theorem rest_any (G : FuncId) (side : Int × Int → Int) (hG : SideFn G side) (hent : ∀ args w, (callFunc G args).run Tryz.prog w = .ok (.enter G args) w) (ao : Option Addr) (cap : Nat) (xs : PL) (n : Int) (w : World) (hn : xs.length ≤ 274877906944) (hs : ∀ p ∈ xs, (Lit.int .i64 (side p)).wf = true) (hR : PairsAt w ao xs) (hlo : -9223372036854775808 ≤ n) (hhi : n ≤ 2147483647) :
    Calls Tryz.prog 149 #[.slice ao xs.length cap, .int .i64 n, .func (.func G) #[] #[]] w (IntsOut (outOf (xs.map side) n.toNat) w) := by
  have hinfo : (Tryz.prog.info? 3).map (fun i => (i.zero, i.size, i.bytes)) = some (some (.int .i64 0), 1, 8) := by kernel_rfl
  obtain ⟨i0, hi, hz0, hz1, hz2⟩ := info_parts2 hinfo
  have HI := Lib.hid hi
  have HRo := Lib.hid hR
  have HSo := Lib.hid hs
  have HG := Lib.hid hG
  have hmm := @run_makeMap Tryz.prog
  clear hi hinfo hR hs hG
  obtain ⟨O, HQ⟩ : ∃ O, Hid (O = outOf (xs.map side)) := ⟨_, Lib.hid rfl⟩
  rw [← HQ.out]
  go_enter Tryz.func149, Tryz.ntmps149
  go_wp2_with fail
  have HO : Hid ((w.alloc (.map #[] 0)).ownsMap Tryz.prog 3 (plainElem Tryz.prog 4) w.heap.size 0 (.map [] : DataW Unit)) := Lib.hid (World.ownsMap_made w _ _ _)
  have HB : Hid (Below w.heap.size w (w.alloc (.map #[] 0))) := Lib.hid ((Below.refl _ w).alloc (Nat.le_refl _) _)
  go_loopw [17] (fun i wr => ∃ (k : Nat) (D : DataW Unit) (L : List Int), k ≤ xs.length ∧ i = .int .i64 k ∧ Hid (Below w.heap.size w wr) ∧ Hid (wr.ownsMap Tryz.prog 3 (plainElem Tryz.prog 4) w.heap.size k D) ∧ Hid (SetIs D L) ∧ Hid (∀ z, z ∈ L ↔ z ∈ (xs.map side).take k ∧ 0 ≤ z ∧ z < n)) (fun i _ => xs.length - (intOf i).toNat)
  case atStart => exact ⟨0, _, [], Nat.zero_le _, rfl, HB, HO, Lib.hid SetIs.empty, Lib.hid (by simp)⟩
  case round =>
    obtain ⟨k, D, L, hk, rfl, HB, HO, HD, HL⟩ := hrel
    by_cases hlt : k < xs.length
    · obtain ⟨⟨x1, x2⟩, hx⟩ : ∃ x, xs[k]? = some x := ⟨_, List.getElem?_eq_getElem hlt⟩
      rcases (HRo.out.kept HB.out) with h0 | ⟨b, o, rfl, hA, hcell⟩
      · rw [h0] at hlt; simp at hlt
      obtain ⟨hc1, hc2⟩ := hcell k _ hx
      dsimp only at hc1 hc2
      have HW := Lib.hid (HSo.out _ (List.mem_of_getElem? hx))
      obtain ⟨V, HV⟩ : ∃ V, Hid (V = wr.alloc (.cells #[.int .i64 x1, .int .i64 x2] 45)) := ⟨_, Lib.hid rfl⟩
      have hVh : V.heap[wr.heap.size]? = some (.cells #[.int .i64 x1, .int .i64 x2] 45 (0, 0)) := by rw [HV.out]; exact World.alloc_heap_new _ _
      have v0 : V.cell? ⟨wr.heap.size, 0, none⟩ = some (.int .i64 x1) := (Lib.cell_of_heap hVh 0).trans rfl
      have v1 : V.cell? ⟨wr.heap.size, 1, none⟩ = some (.int .i64 x2) := (Lib.cell_of_heap hVh 1).trans rfl
      have hbV : Below wr.heap.size wr V := by rw [HV.out]; exact (Below.refl _ wr).alloc (Nat.le_refl _) _
      have HVO := Lib.hid (ownsMap_below HO.out hbV)
      have HVB := Lib.hid (below_up HB.out hbV)
      have hsx : (xs.map side)[k]? = some (side (x1, x2)) := by rw [List.getElem?_map, hx]; rfl
      have HTk : Hid ((xs.map side).take (k + 1) = (xs.map side).take k ++ [side (x1, x2)]) := Lib.hid (by
        obtain ⟨h1, e⟩ := List.getElem?_eq_some_iff.1 hsx
        rw [List.take_succ_eq_append_getElem h1, e])
      have C := Lib.hid (HG.out x1 x2 V)
      clear hcell hx hbV hVh hsx HO HB
      generalize side (x1, x2) = y at C HW HTk
      go_upto_region 5 with fail
      rw [← HV.out]
      go_wp2_with fail
      refine C.out.mono ?_; rintro e w2 ⟨rfl, b1⟩
      have HO2 := Lib.hid (ownsMap_below HVO.out b1)
      have HB2 := Lib.hid (below_up HVB.out b1)
      clear b1 v0 v1 hc1 hc2 HVO HVB
      by_cases hin : 0 ≤ y ∧ y < n
      · obtain ⟨hy0, hyn⟩ := hin
        have hkm : k < maxLen := by unfold maxLen; omega
        have HK := Lib.hid (keyOf_int_mk (P := Tryz.prog) Tryz.underlying3 HW.out)
        go_wp2_with (at_mapUpdate; refine wpList_mapUpdate_own _ rfl _ _ _ 152 rfl 3 4 (int_keyed Tryz.underlying3) Tryz.underlying152 _ w.heap.size k D rfl HO2.out hkm _ _ (.int .i64 y) rfl rfl HK.out (.lit (.bool true)) [] (plainElem_bool Tryz.underlying4 true) ?_; intro w3 ho hg)
        have HO3 := Lib.hid ho
        have HB3 := Lib.hid (HB2.out.grown hg HB2.out.size (fun k h => by cases h; exact Nat.le_refl _))
        have HD3 := Lib.hid (HD.out.put y)
        have HL3 : Hid (∀ z, z ∈ addZ L y ↔ z ∈ (xs.map side).take (k + 1) ∧ 0 ≤ z ∧ z < n) := Lib.hid (fun z => by
          rw [addZ_mem, HL.out z, HTk.out]
          simp only [List.mem_append, List.mem_singleton]
          constructor
          · rintro (h | rfl)
            · exact ⟨.inl h.1, h.2⟩
            · exact ⟨.inr rfl, hy0, hyn⟩
          · rintro ⟨h | h, h2⟩
            · exact .inl ⟨h, h2⟩
            · exact .inr h)
        clear ho hg
        go_wp2_with fail
        go_roundw
        case rel => exact ⟨k + 1, _, _, by omega, by go_num, HB3, HO3, HD3, HL3⟩
        case measure => simp [intOf]; omega
      · have HL3 : Hid (∀ z, z ∈ L ↔ z ∈ (xs.map side).take (k + 1) ∧ 0 ≤ z ∧ z < n) := Lib.hid (fun z => by
          rw [HL.out z, HTk.out]
          simp only [List.mem_append, List.mem_singleton]
          constructor
          · rintro h; exact ⟨.inl h.1, h.2⟩
          · rintro ⟨h | rfl, h2⟩
            · exact ⟨h, h2⟩
            · exact absurd h2 hin)
        have HO3 := Lib.hid (HO2.out.mono (Nat.le_succ k))
        by_cases hy0 : 0 ≤ y
        · have hyn : ¬ y < n := fun h => hin ⟨hy0, h⟩
          clear hin
          go_wp2_with fail
          go_roundw
          case rel => exact ⟨k + 1, _, _, by omega, by go_num, HB2, HO3, HD, HL3⟩
          case measure => simp [intOf]; omega
        · clear hin
          go_wp2_with fail
          go_roundw
          case rel => exact ⟨k + 1, _, _, by omega, by go_num, HB2, HO3, HD, HL3⟩
          case measure => simp [intOf]; omega
    · obtain rfl : k = xs.length := by omega
      have HL1 : Hid (∀ z, z ∈ L ↔ z ∈ xs.map side ∧ 0 ≤ z ∧ z < n) := Lib.hid (fun z => by rw [HL.out z]; rw [show xs.length = (xs.map side).length from by simp, List.take_length])
      have hfew := set_few _ L n HD.out.nodup HL1.out
      have hsz : Go.Maps.size D = L.length := HD.out.size
      have hwl : IntKind.i64.wrap (n - (L.length : Int)) = n - (L.length : Int) := IntWalk.i64_in _ (by omega)
      have HNone : Hid (n - (L.length : Int) < 1 → outOf (xs.map side) n.toNat = []) := Lib.hid (fun h => by
        rcases Int.le_total n 0 with h0 | h0
        · rw [show n.toNat = 0 from by omega]; rfl
        · refine outOf_none _ L n.toNat HD.out.nodup (fun z => ?_) (by omega)
          rw [HL1.out z, show ((n.toNat : Nat) : Int) = n from by omega])
      have HNx := Lib.hid (outOf_next (xs.map side))
      have HLe := Lib.hid (outOf_le (xs.map side))
      have HZ : Hid (outOf (xs.map side) 0 = []) := Lib.hid rfl
      clear HL hlt
      rw [← HQ.out] at HNone HNx HLe HZ
      have hln := HO.out.len Tryz.underlying152 3
      rw [hsz] at hln
      clear hsz
      by_cases hleft : n - (L.length : Int) < 1
      · have E := Lib.hid (HNone.out hleft)
        go_wp2_with fail
        go_ret
        rw [E.out]
        exact ⟨none, 0, rfl, .inl rfl, fun _ => rfl, Nat.le_refl _, HB.out⟩
      · have hmax : ¬ 2147483647 < n - (L.length : Int) := by omega
        obtain ⟨c, hc⟩ := Int.eq_ofNat_of_zero_le (show 0 ≤ n - (L.length : Int) by omega)
        obtain ⟨m, rfl⟩ := Int.eq_ofNat_of_zero_le (show 0 ≤ n by omega)
        rw [hc] at hwl hleft hmax
        have hcm : c ≤ m := by omega
        have hm31 : m ≤ 2147483647 := by omega
        have hcx : c ≤ maxLen := by unfold maxLen; omega
        have HBs := HB.out.size
        go_wp2_with (at_make; refine wpList_make_own _ rfl _ _ 41 rfl (w.heap.size + 1) 3 i0 (.int .i64 0) 1 Tryz.underlying41 HI.out hz0 hz1 .i64 .i64 (c : Int) c rfl rfl rfl (by rw [hz2]; omega) hcx HO.out.lt ?_; intro w1 ho hg)
        have HO1 := Lib.hid (HO.out.kept hg (by simp))
        have HB1 := Lib.hid (HB.out.grown hg HBs (fun k h => by cases h))
        have HT : Hid (OwnI w1 (w.heap.size + 1) (.slice (some ⟨wr.heap.size, 0, none⟩) 0 c) (O 0)) := Lib.hid (by rw [HZ.out]; exact ho)
        have HLk : Hid (∀ k : Nat, k < m → ((k : Int) ∈ L ↔ (k : Int) ∈ xs.map side)) := Lib.hid (fun k hk => by rw [HL1.out]; exact ⟨fun h => h.1, fun h => ⟨h, by omega, by omega⟩⟩)
        have hL0 : (O 0).length = 0 := by rw [HZ.out]; rfl
        clear ho hg hln hfew hwl hleft hmax HBs hc HO HB HL1 HNone hlo hhi
        obtain ⟨wo, rfl⟩ : ∃ wo : World, wo = wr := ⟨_, rfl⟩
        go_loopw [12, 47] (fun v i wr => ∃ (k q cp : Nat) (bo : Option Addr), k ≤ m ∧ i = .int .i64 k ∧ v = .slice bo q cp ∧ Hid (q = (O k).length) ∧ Hid (Below w.heap.size w wr) ∧ Hid (wr.ownsMap Tryz.prog 3 (plainElem Tryz.prog 4) w.heap.size xs.length D) ∧ Hid (OwnI wr (w.heap.size + 1) (.slice bo q cp) (O k))) (fun _ i _ => m - (intOf i).toNat)
        case atStart => exact ⟨0, 0, c, _, Nat.zero_le _, rfl, rfl, Lib.hid hL0.symm, HB1, HO1, HT⟩
        case round =>
          obtain ⟨k, q, cp, bo, hk, rfl, rfl, HQ2, HB, HO, HT⟩ := hrel
          by_cases hlt : k < m
          · have hlook := set_look HO.out HD.out (k : Int) (WalkArith.wf_i64 (by omega))
            have hstep := HNx.out k
            have hkL := HLk.out k hlt
            by_cases hin : (k : Int) ∈ L
            · rw [decide_eq_true hin] at hlook
              rw [if_pos (hkL.1 hin)] at hstep
              have HT2 : Hid (OwnI wr (w.heap.size + 1) (.slice bo q cp) (O (k + 1))) := Lib.hid (by rw [hstep]; exact HT.out)
              have HQ3 : Hid (q = (O (k + 1)).length) := Lib.hid (by rw [hstep]; exact HQ2.out)
              clear hstep hkL hin
              go_wp2_with fail
              go_roundw
              case rel => exact ⟨k + 1, q, cp, bo, by omega, by go_num, rfl, HQ3, HB, HO, HT2⟩
              case measure => simp [intOf]; omega
            · rw [decide_eq_false hin] at hlook
              rw [if_neg (fun h => hin (hkL.2 h))] at hstep
              have hq : q ≤ k := by rw [HQ2.out]; exact HLe.out k
              have HTO : Hid (wr.ownsRow (w.heap.size + 1) 3 1 (.slice bo q cp) q ((O k).map (Value.int .i64))) := Lib.hid (by have := HT.out; unfold OwnI at this; rw [← HQ2.out] at this; exact this)
              have HT1 := Lib.hid (HTO.out.alloc (.cells #[Value.int .i64 (k : Int)] 3))
              have hws : w.heap.size + 1 ≤ wr.heap.size := HO.out.lt
              have hbs : w.heap.size + 1 ≤ (wr.alloc (.cells #[Value.int .i64 (k : Int)] 3)).heap.size := by simp; omega
              have HST := Lib.hid hstep
              clear hstep hkL hin
              go_wp2_with (at_builtin; refine wpList_append_own _ rfl _ _ 41 rfl (w.heap.size + 1) 3 i0 (.int .i64 0) 1 8 Tryz.underlying41 HI.out hz0 hz1 hz2 rfl (by decide) _ _ _ rfl HT1.out ⟨wr.heap.size, 0, none⟩ 1 1 [Value.int .i64 (k : Int)] rfl rfl (lit_cellI wr _) (fun u hu => by simp at hu; subst hu; rfl) (by unfold maxLen; omega) (by omega) hbs ?_)
              intro v' w3 hown' hgrow _
              obtain ⟨g, gc, rfl⟩ := ownsRow_succ hown'
              have HO3 : Hid (w3.ownsMap Tryz.prog 3 (plainElem Tryz.prog 4) w.heap.size xs.length D) := Lib.hid ((HO.out.alloc (.cells #[Value.int .i64 (k : Int)] 3)).kept hgrow (fun e => by have := (HTO.out.lt _ e.symm).1; omega))
              have HB3 := Lib.hid ((HB.out.alloc HB.out.size (.cells #[Value.int .i64 (k : Int)] 3)).grown hgrow (by simp; omega) (fun j h => by have := (HTO.out.lt j h).1; omega))
              have HQ3 : Hid (q + 1 = (O (k + 1)).length) := Lib.hid (by rw [HST.out, List.length_append, ← HQ2.out]; rfl)
              have HT3 : Hid (OwnI w3 (w.heap.size + 1) (.slice (some ⟨g, 0, none⟩) (q + 1) gc) (O (k + 1))) := Lib.hid (by unfold OwnI; rw [← HQ3.out, HST.out, List.map_append]; exact hown')
              clear hown' hgrow hbs hlook
              go_wp2_with fail
              go_roundw
              case rel => exact ⟨k + 1, q + 1, gc, _, by omega, by go_num, rfl, HQ3, HB3, HO3, HT3⟩
              case measure => simp [intOf]; omega
          · obtain rfl : k = m := by omega
            have HE := Lib.hid (OwnI.end_ (show OwnI wr w.heap.size _ _ from World.ownsRow.mono HT.out (Nat.le_succ _)) HB.out)
            clear HT HO
            go_wp2_with fail
            go_ret
            exact HE.out
end Go.Proofs.YtdenehnneloegaaGreatDoor
namespace Go.Proofs.YtdenehnneloegaaGreatDoor
open Go.RowKit Go.Shelf Go.Maps
set_option linter.unusedVariables false
/-- the A of the first pair that has a B -/
def firstB (l : PL) (z : Int) : Option Int := (l.find? (fun p => p.2 == z)).map Prod.fst
theorem firstB_snoc (l : PL) (p : Int × Int) (z : Int) : firstB (l ++ [p]) z = (firstB l z).or (if p.2 = z then some p.1 else none) := by
  unfold firstB
  rw [List.find?_append]
  cases h : l.find? (fun p => p.2 == z) with
  | some q => rfl
  | none =>
    by_cases e : p.2 = z
    · simp [e]
    · simp [e]
structure FirstIs (D : DataW Unit) (l : PL) : Prop where
  map : IsMap D
  look : ∀ z, D.atKey (.int .i64 z) (.lit (.int .i64 0)) = .lit (.int .i64 ((firstB l z).getD 0))
  here : ∀ z, has D (.int .i64 z) = (firstB l z).isSome
theorem FirstIs.empty : FirstIs (.map []) [] := ⟨isMap_empty, fun z => rfl, fun z => rfl⟩
theorem FirstIs.put {D : DataW Unit} {l : PL} (h : FirstIs D l) (p : Int × Int) (hno : firstB l p.2 = none) : FirstIs (D.put (.int .i64 p.2) (.lit (.int .i64 p.1))) (l ++ [p]) := by
  refine ⟨h.map.put _ _, fun z => ?_, fun z => ?_⟩
  · rw [firstB_snoc]
    by_cases e : p.2 = z
    · subst e
      rw [atKey_put_same h.map (keyI _), hno]; simp
    · rw [atKey_put_other (fun e' => e (by injection e' with _ e2; exact e2.symm)), h.look]; simp [e]
  · rw [firstB_snoc]
    by_cases e : p.2 = z
    · subst e
      rw [has_put_same h.map (keyI _), hno]; simp
    · rw [has_put_other (fun e' => e (by injection e' with _ e2; exact e2.symm)), h.here]; simp [e]
theorem FirstIs.skip {D : DataW Unit} {l : PL} (h : FirstIs D l) (p : Int × Int) (a : Int) (hyes : firstB l p.2 = some a) : FirstIs D (l ++ [p]) := by
  have key : ∀ z, firstB (l ++ [p]) z = firstB l z := fun z => by
    rw [firstB_snoc]
    by_cases e : p.2 = z
    · subst e; rw [hyes]; rfl
    · simp [e]
  exact ⟨h.map, fun z => by rw [key]; exact h.look z, fun z => by rw [key]; exact h.here z⟩
set_option maxRecDepth 100000 in
theorem first_look {w : World} {b k : Nat} {D : DataW Unit} {l : PL} (h : w.ownsMap Tryz.prog 3 (plainElem Tryz.prog 3) b k D) (hS : FirstIs D l) (x : Int) (hx : (Lit.int .i64 x).wf = true) :
    (Instr.lookup 120 (.map (some b)) (.int .i64 x) true).run Tryz.prog w = .ok (.tuple #[.int .i64 ((firstB l x).getD 0), .bool (firstB l x).isSome]) w := by
  obtain ⟨v, ps, hrun, hv⟩ := h.look_ok (int_keyed Tryz.underlying3) Tryz.underlying120 (z := .int .i64 0) (Tryz.zeroValue3 _) (plainElem_int Tryz.underlying3 (by decide)) (keyOf_int_mk Tryz.underlying3 hx)
  obtain ⟨c, rfl, hc, _⟩ := plainElem_int_inv Tryz.underlying3 hv
  simp only [Prod.mk.injEq] at hc
  rw [hS.look] at hc
  have e : (firstB l x).getD 0 = c := by have := hc.1; injection this with h1; injection h1
  rw [hS.here] at hrun
  rw [e]; exact hrun
/-- pairs that come back -/
def PairsOut (l : PL) (w : World) (e : Ending) (w' : World) : Prop := ∃ ao cap, e = .returned (.slice ao l.length cap) ∧ PairsAt w' ao l ∧ (ao = none → cap = 0) ∧ l.length ≤ cap ∧ Below w.heap.size w w'
/-- a slice of pairs that grows -/
def OwnL (w : World) (base : Nat) (v : Value) (l : PL) : Prop := w.ownsRow base 45 2 v l.length (cellsP l)
theorem OwnL.pairsAt {w : World} {base : Nat} {v : Value} {l : PL} (h : OwnL w base v l) : ∃ ao cap, v = .slice ao l.length cap ∧ PairsAt w ao l ∧ (ao = none → cap = 0) ∧ l.length ≤ cap := by
  rcases h.2 with ⟨rfl, h0⟩ | ⟨g, cap, cur, rfl, h1, h2, h3, h4, h5, h6⟩
  · have hl : l = [] := List.eq_nil_of_length_eq_zero h0
    subst hl
    exact ⟨none, 0, rfl, .inl rfl, fun _ => rfl, Nat.le_refl _⟩
  · refine ⟨_, cap, rfl, .inr ⟨g, 0, rfl, (World.ownsRow.lt h g rfl).2, fun i p hp => ?_⟩, (fun e => by cases e), h3⟩
    obtain ⟨c1, c2⟩ := cellsP_at l i p hp
    have k1 := World.ownsRow.cells h rfl (i * 2) _ c1
    have k2 := World.ownsRow.cells h rfl (i * 2 + 1) _ c2
    have e : ∀ j, (⟨g, 0, none⟩ : Addr).add j = ⟨g, 0 + j, none⟩ := fun j => by unfold Addr.add; split <;> simp_all
    rw [e] at k1 k2
    exact ⟨k1, by rw [Nat.add_assoc]; exact k2⟩
theorem OwnL.end_ {w w' : World} {v : Value} {l : PL} (h : OwnL w' w.heap.size v l) (hB : Below w.heap.size w w') : PairsOut l w (.returned v) w' := by
  obtain ⟨ao, cap, rfl, h1, h2, h3⟩ := h.pairsAt
  exact ⟨ao, cap, rfl, h1, h2, h3, hB⟩
theorem lit_cellP (w : World) (a b : Value) (T : TypeId) : ∀ (j : Nat) u, [a, b][j]? = some u → (w.alloc (.cells #[a, b] T)).cell? ((⟨w.heap.size, 0, none⟩ : Addr).add j) = some u := fun j u hj => by
  rw [cell_row (World.alloc_heap_new w _)]
  match j, hj with
  | 0, hj => simp at hj; subst hj; rfl
  | 1, hj => simp at hj; subst hj; rfl
end Go.Proofs.YtdenehnneloegaaGreatDoor
namespace Go.Proofs.YtdenehnneloegaaGreatDoor
open Go.RowKit Go.Shelf
set_option linter.unusedVariables false
def swapP (p : Int × Int) : Int × Int := (p.2, p.1)
/-- pairs, turned -/
def turnL (l : PL) : PL := sortB (l.map swapP)
end Go.Proofs.YtdenehnneloegaaGreatDoor
namespace Go.Proofs.YtdenehnneloegaaGreatDoor
set_option linter.unusedVariables false
/-- pairs that may be -/
structure MayBe (l : PL) (na nb : Int) : Prop where
  a0 : 0 ≤ na
  b0 : 0 ≤ nb
  within : ∀ p ∈ l, 0 ≤ p.1 ∧ p.1 < na ∧ 0 ≤ p.2 ∧ p.2 < nb
  fst : (l.map Prod.fst).Nodup
  snd : (l.map Prod.snd).Nodup
  sorted : Sorted l
theorem rises_sorted (l : PL) : risesB l = true ↔ Sorted l := by
  induction l with
  | nil => simp [risesB, Sorted]
  | cons p l ih =>
    cases l with
    | nil => simp [risesB, Sorted]
    | cons q l =>
      simp only [risesB, Bool.and_eq_true, decide_eq_true_eq, ih]
      unfold Sorted
      rw [List.pairwise_cons (a := p)]
      constructor
      · rintro ⟨h1, h2⟩
        refine ⟨fun r hr => ?_, h2⟩
        rcases List.mem_cons.1 hr with rfl | hr
        · exact h1
        · have := (List.pairwise_cons.1 h2).1 r hr; omega
      · rintro ⟨h1, h2⟩
        exact ⟨h1 q (by simp), h2⟩
theorem may_be (l : PL) (na nb : Int) : checkP l na nb = 0 ↔ MayBe l na nb := by
  unfold checkP
  constructor
  · intro h
    split at h
    · omega
    · rename_i h1
      split at h
      · omega
      · rename_i h2
        split at h
        · omega
        · rename_i h3
          split at h
          · rename_i h4
            simp only [twiceL, Decidable.not_not, decide_eq_true_eq] at h3
            refine ⟨by omega, by omega, fun p hp => ?_, h3.1, h3.2, (rises_sorted l).1 h4⟩
            have : ¬ badP na nb p = true := fun hb => h2 (List.any_eq_true.2 ⟨p, hp, hb⟩)
            simp only [badP, Bool.or_eq_true, decide_eq_true_eq] at this
            omega
          · omega
  · intro h
    have h1 : ¬ (na < 0 ∨ nb < 0) := by have := h.a0; have := h.b0; omega
    have h2 : l.any (badP na nb) = false := List.any_eq_false.2 (fun p hp => by
      have := h.within p hp
      simp only [badP, Bool.or_eq_true, decide_eq_true_eq]; omega)
    have h3 : twiceL l = false := by simp [twiceL, h.fst, h.snd]
    rw [if_neg h1, h2, h3, (rises_sorted l).2 h.sorted]; rfl
theorem count_eq (R L : PL) (h : ∀ v, ofB v R = ofB v L) (p : Int × Int) : R.count p = L.count p := by
  have key : ∀ (M : PL), M.count p = (ofB p.2 M).count p := fun M => by
    unfold ofB; rw [List.count_filter (by simp)]
  rw [key, key L, h]
theorem stab_perm {R L : PL} (h : ∀ v, ofB v R = ofB v L) : R.Perm L := List.perm_iff_count.2 (count_eq R L h)
theorem turn_perm (l : PL) : (turnL l).Perm (l.map swapP) := stab_perm (sortB_stab _).2
theorem map_fst_swap (l : PL) : (l.map swapP).map Prod.fst = l.map Prod.snd := by rw [List.map_map]; rfl
theorem map_snd_swap (l : PL) : (l.map swapP).map Prod.snd = l.map Prod.fst := by rw [List.map_map]; rfl
theorem turn_fst (l : PL) : ((turnL l).map Prod.fst).Perm (l.map Prod.snd) := by have := (turn_perm l).map Prod.fst; rwa [map_fst_swap] at this
theorem turn_snd (l : PL) : ((turnL l).map Prod.snd).Perm (l.map Prod.fst) := by have := (turn_perm l).map Prod.snd; rwa [map_snd_swap] at this
theorem MayBe.turn {l : PL} {na nb : Int} (h : MayBe l na nb) : MayBe (turnL l) nb na := by
  refine ⟨h.b0, h.a0, fun p hp => ?_, (turn_fst l).nodup_iff.2 h.snd, (turn_snd l).nodup_iff.2 h.fst, (sortB_stab _).1⟩
  have := (turn_perm l).mem_iff.1 hp
  obtain ⟨q, hq, rfl⟩ := List.mem_map.1 this
  have := h.within q hq
  simp only [swapP]; omega
/-- with no B twice, what is in order is known by what is in it -/
theorem sorted_perm {R L : PL} (hR : Sorted R) (hL : Sorted L) (hp : R.Perm L) (hn : (L.map Prod.snd).Nodup) : R = L := by
  refine stab_unique R L hR hL (fun v => ?_)
  have one : ∀ (M : PL), (M.map Prod.snd).Nodup → ∀ p ∈ M, p.2 = v → ofB v M = [p] := fun M => by
    induction M with
    | nil => intro _ p hp; cases hp
    | cons q M ih =>
      intro hM p hp hv
      rw [List.map_cons, List.nodup_cons] at hM
      rw [ofB_cons]
      rcases List.mem_cons.1 hp with rfl | hp
      · rw [if_pos hv, ofB_none v M (fun r hr e => hM.1 (List.mem_map.2 ⟨r, hr, by rw [e, hv]⟩))]
      · rw [if_neg (fun e => hM.1 (List.mem_map.2 ⟨p, hp, by rw [hv, e]⟩))]
        exact ih hM.2 p hp hv
  have hn' : (R.map Prod.snd).Nodup := (hp.map Prod.snd).nodup_iff.2 hn
  by_cases hex : ∃ p ∈ L, p.2 = v
  · obtain ⟨p, hpL, hv⟩ := hex
    rw [one L hn p hpL hv, one R hn' p (hp.mem_iff.2 hpL) hv]
  · rw [ofB_none v L (fun p hp' e => hex ⟨p, hp', e⟩), ofB_none v R (fun p hp' e => hex ⟨p, hp.mem_iff.1 hp', e⟩)]
end Go.Proofs.YtdenehnneloegaaGreatDoor
namespace Go.Proofs.YtdenehnneloegaaGreatDoor
open Go.RowKit Go.Shelf
set_option maxRecDepth 100000 in
set_option maxHeartbeats 4000000 in
theorem fewReach_any (ao : Option Addr) (cap : Nat) (rs : List (List ByteArray)) (w : World) (hn : rs.length ≤ maxLen) (hx : ∀ r ∈ rs, r.length ≤ maxLen ∧ ∀ c ∈ r, c.size ≤ 140737488351232) (hR : RowsAt w ao rs) :
    Calls Tryz.prog 72 #[.slice ao rs.length cap] w fun e w' => ∃ b, e = .returned (.bool b) ∧ (b = true → fewP rs) ∧ w = w' := by
  have HX := Lib.hid hx
  have HRo := Lib.hid hR
  unfold maxLen at hn
  clear hx hR
  by_cases h60 : rs.length ≤ 60
  · go_enter Tryz.func72, Tryz.ntmps72
    go_wp2_with fail
    go_loopw [3, 4] (fun p i wr => ∃ (k : Nat) (n : Int), k ≤ rs.length ∧ p = .int .i64 n ∧ i = .int .i64 k ∧ wr = w ∧ Hid (n = (tot (rs.take k) : Int) ∧ n ≤ 8000) ∧ Hid (∀ (j : Nat) r, j < k → rs[j]? = some r → r.length ≤ 60)) (fun _ i _ => rs.length - (intOf i).toNat)
    case atStart => exact ⟨0, 0, Nat.zero_le _, rfl, rfl, rfl, Lib.hid ⟨rfl, by decide⟩, Lib.hid (fun j r h _ => by omega)⟩
    case round =>
      obtain ⟨k, n, hk, rfl, rfl, hww, HT, HA⟩ := hrel
      subst hww
      by_cases hlt : k < rs.length
      · obtain ⟨r, hr⟩ : ∃ r, rs[k]? = some r := ⟨_, List.getElem?_eq_getElem hlt⟩
        have HN := Lib.hid (tot_next rs k r hr)
        have HXr := HX.out r (List.mem_of_getElem? hr)
        have hrl := HXr.1
        unfold maxLen at hrl
        have HC := Lib.hid HXr.2
        have Hr := Lib.hid hr
        rcases HRo.out with h0 | ⟨A, rfl, hA, hcell⟩
        · rw [h0] at hlt; simp at hlt
        obtain ⟨ro, rc, hc, hs⟩ := hcell k r hr
        have HSr := Lib.hid hs
        clear hcell hs hr HXr
        by_cases hr60 : r.length ≤ 60
        · have HA' : Hid (∀ (j : Nat) x, j < k + 1 → rs[j]? = some x → x.length ≤ 60) := Lib.hid (fun j x hj hx' => by
            by_cases e : j = k
            · subst e; rw [Hr.out] at hx'; cases hx'; exact hr60
            · exact HA.out j x (by omega) hx')
          go_wp2_with fail
          obtain ⟨wo, rfl⟩ : ∃ wo : World, wo = wr := ⟨_, rfl⟩
          go_loopw [3, 5] (fun p i wi => ∃ (j : Nat) (m : Int), j ≤ r.length ∧ p = .int .i64 m ∧ i = .int .i64 j ∧ wi = wo ∧ Hid (m = ((tot (rs.take k) + rowTot (r.take j) : Nat) : Int) ∧ m ≤ 8000)) (fun _ i _ => r.length - (intOf i).toNat)
          case atStart => exact ⟨0, n, Nat.zero_le _, rfl, rfl, rfl, Lib.hid ⟨by rw [HT.out.1]; simp [rowTot], HT.out.2⟩⟩
          case round =>
            obtain ⟨j, m, hj, rfl, rfl, hwi, HM⟩ := hrel
            subst hwi
            by_cases hjl : j < r.length
            · obtain ⟨x, hx⟩ : ∃ x, r[j]? = some x := ⟨_, List.getElem?_eq_getElem hjl⟩
              have HJ := Lib.hid (rowTot_next r j x hx)
              have hxs := HC.out x (List.mem_of_getElem? hx)
              rcases HSr.out with h0 | ⟨D, rfl, hD, hcell⟩
              · rw [h0] at hjl; simp at hjl
              have hcx := hcell j x hx
              clear hcell hx
              obtain ⟨m', hm', rfl⟩ : ∃ m' : Nat, m' ≤ 8000 ∧ m = (m' : Int) := ⟨_, by have := HM.out.2; have := HM.out.1; omega, HM.out.1⟩
              by_cases h8 : m' + x.size + 1 ≤ 8000
              · have HM' : Hid (((m' + x.size + 1 : Nat) : Int) = ((tot (rs.take k) + rowTot (r.take (j + 1)) : Nat) : Int) ∧ ((m' + x.size + 1 : Nat) : Int) ≤ 8000) := Lib.hid ⟨by have := HM.out.1; rw [HJ.out]; omega, by omega⟩
                go_wp2_with fail
                go_roundw
                case rel => exact ⟨j + 1, ((m' + x.size + 1 : Nat) : Int), by omega, by go_num, by go_num, by first | rfl | trivial, HM'⟩
                case measure => simp [intOf]; omega
              · go_wp2_with fail
                go_ret
                exact ⟨false, rfl, (fun h => by cases h), rfl⟩
            · obtain rfl : j = r.length := by omega
              have HM' : Hid (m = (tot (rs.take (k + 1)) : Int) ∧ m ≤ 8000) := Lib.hid ⟨by rw [HN.out, HM.out.1, List.take_length], HM.out.2⟩
              go_wp2_with fail
              go_roundw
              case rel => exact ⟨k + 1, m, by omega, rfl, by go_num, by first | rfl | trivial, HM', HA'⟩
              case measure => simp [intOf]; omega
        · go_wp2_with fail
          go_ret
          exact ⟨false, rfl, (fun h => by cases h), rfl⟩
      · obtain rfl : k = rs.length := by omega
        have F : Hid (fewP rs) := Lib.hid ⟨h60, fun r hr => by
          obtain ⟨i, hi, rfl⟩ := List.getElem_of_mem hr
          exact HA.out i _ hi (List.getElem?_eq_getElem hi), by have h1 := HT.out; rw [List.take_length] at h1; omega⟩
        go_wp2_with fail
        go_ret
        exact ⟨true, rfl, fun _ => F.out, rfl⟩
  · go_enter Tryz.func72, Tryz.ntmps72
    go_wp2_with fail
    go_ret
    exact ⟨false, rfl, (fun h => by cases h), rfl⟩
end Go.Proofs.YtdenehnneloegaaGreatDoor
