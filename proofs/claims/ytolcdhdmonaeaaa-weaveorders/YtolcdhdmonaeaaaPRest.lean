/-
  Those that are on one side of no pair: what the program answers.
  Conditions: lists of at most 2^38 pairs of Go integers; numbers up to 2^31 - 1.
-/
import Derived.Maps.Own
import Derived.Maps.OwnOps
import Derived.Maps.OwnSet
import Derived.Maps.Views
import Derived.IntWalk
import Derived.WalkArith
import Derived.OwnWalk
import Derived.Deep.Cut
import Derived.Deep.Onto
import Derived.Test.YtolcdhdmonaeaaaProg
import Derived.Test.YtolcdhdmonaeaaaPCheck
namespace Go.Proofs.Ytolcdhdmonaeaaa
open Go.RowKit Go.Shelf Go.Maps
set_option linter.unusedVariables false

theorem ownsMap_below {H : Type} {P : Program} {k : TypeId} {R : Value → Option (DataW H × List MemPlace)} {b n : Nat} {D : DataW H} {w w' : World} (h : w.ownsMap P k R b n D) (hB : Below w.heap.size w w') : w'.ownsMap P k R b n D :=
  h.kept (row := none) ⟨hB.os, hB.tape, hB.output, hB.size, fun k hk _ => hB.block k hk⟩ (by simp)
/-- one more in a list, if it is not there -/
def addZ (L : List Int) (x : Int) : List Int := if x ∈ L then L else L ++ [x]
theorem addZ_mem (L : List Int) (x z : Int) : z ∈ addZ L x ↔ z ∈ L ∨ z = x := by
  unfold addZ; split
  · rename_i h; exact ⟨.inl, fun h' => h'.elim id (fun e => e ▸ h)⟩
  · simp
/-- a map that is a set of numbers -/
structure SetIs (D : DataW Unit) (L : List Int) : Prop where
  tidy : Tidy D
  look : ∀ z, D.atKey (.int .i64 z) (.lit (.bool false)) = .lit (.bool (decide (z ∈ L)))
  here : ∀ z, has D (.int .i64 z) = decide (z ∈ L)
  size : Go.Maps.size D = L.length
  nodup : L.Nodup
theorem SetIs.empty : SetIs (.map []) [] := ⟨tidy_empty, fun z => rfl, fun z => rfl, rfl, List.nodup_nil⟩
theorem keyI (x : Int) : WideAt.IsKeyLit (.int .i64 x) := by first | exact trivial | constructor | simp [WideAt.IsKeyLit]
theorem SetIs.put {D : DataW Unit} {L : List Int} (h : SetIs D L) (x : Int) : SetIs (D.put (.int .i64 x) (.lit (.bool true))) (addZ L x) := by
  refine ⟨h.tidy.put (keyI x) _, fun z => ?_, fun z => ?_, ?_, ?_⟩
  · by_cases e : z = x
    · subst e
      rw [atKey_put_same h.tidy.isMap (keyI z), decide_eq_true ((addZ_mem L z z).2 (.inr rfl))]
    · rw [atKey_put_other (fun e' => e (by injection e')), h.look]
      have : z ∈ addZ L x ↔ z ∈ L := (addZ_mem L x z).trans ⟨fun h => h.elim id (fun e' => absurd e' e), .inl⟩
      simp only [this]
  · by_cases e : z = x
    · subst e
      rw [has_put_same h.tidy.isMap (keyI z), decide_eq_true ((addZ_mem L z z).2 (.inr rfl))]
    · rw [has_put_other (fun e' => e (by injection e')), h.here]
      have : z ∈ addZ L x ↔ z ∈ L := (addZ_mem L x z).trans ⟨fun h => h.elim id (fun e' => absurd e' e), .inl⟩
      simp only [this]
  · rw [size_put h.tidy, h.here]
    unfold addZ
    by_cases hx : x ∈ L
    · simp [hx, h.size]
    · simp [hx, h.size]
  · unfold addZ; split
    · exact h.nodup
    · rename_i hx
      rw [List.nodup_append]
      exact ⟨h.nodup, by simp, fun a ha b hb e => by simp at hb; subst hb; exact hx (e ▸ ha)⟩
theorem set_look {w : World} {b k : Nat} {D : DataW Unit} {L : List Int} (h : w.ownsMap Try.prog 3 (plainElem Try.prog 4) b k D) (hS : SetIs D L) (x : Int) (hx : (Lit.int .i64 x).wf = true) :
    (Instr.lookup 71 (.map (some b)) (.int .i64 x) false).run Try.prog w = .ok (.bool (decide (x ∈ L))) w := by
  obtain ⟨c, hrun, hat⟩ := lookup_bool h (int_keyed Try.underlying3) Try.underlying71 Try.underlying4 (Try.zeroValue4 _) (keyOf_int_mk Try.underlying3 hx)
  rw [hS.look] at hat
  have : decide (x ∈ L) = c := by injection hat with h1; injection h1
  rw [this]; exact hrun
theorem sub_len : ∀ (L R : List Int), L.Nodup → (∀ x ∈ L, x ∈ R) → L.length ≤ R.length
  | [], R, _, _ => Nat.zero_le _
  | x :: L, R, hn, hs => by
    have hx := hs x (by simp)
    obtain ⟨h1, h2⟩ := List.nodup_cons.1 hn
    have := sub_len L (R.erase x) h2 (fun y hy => (List.mem_erase_of_ne (show y ≠ x from fun e => h1 (by rw [← e]; exact hy))).2 (hs y (by simp [hy])))
    rw [List.length_erase_of_mem hx] at this
    have hp : 0 < R.length := List.length_pos_of_mem hx
    simp only [List.length_cons]; omega
def upTo (k : Nat) : List Int := (List.range k).map Int.ofNat
theorem upTo_mem (k : Nat) (z : Int) : z ∈ upTo k ↔ 0 ≤ z ∧ z < k := by
  unfold upTo
  rw [List.mem_map]
  constructor
  · rintro ⟨a, ha, rfl⟩; have := List.mem_range.1 ha; exact ⟨by simp, by simpa using this⟩
  · rintro ⟨h1, h2⟩
    exact ⟨z.toNat, List.mem_range.2 (by omega), by simp; omega⟩
theorem upTo_next (k : Nat) : upTo (k + 1) = upTo k ++ [(k : Int)] := by simp [upTo, List.range_succ]
theorem upTo_len (k : Nat) : (upTo k).length = k := by simp [upTo]
/-- those below k that are not in a list -/
def outOf (S : List Int) (k : Nat) : List Int := (upTo k).filter (fun x => decide (x ∉ S))
theorem outOf_next (S : List Int) (k : Nat) : outOf S (k + 1) = if (k : Int) ∈ S then outOf S k else outOf S k ++ [(k : Int)] := by
  unfold outOf
  rw [upTo_next, List.filter_append]
  split
  · rename_i h; simp [h]
  · rename_i h; simp [h]
theorem outOf_le (S : List Int) (k : Nat) : (outOf S k).length ≤ k := by
  have := List.length_filter_le (fun x => decide (x ∉ S)) (upTo k)
  rw [upTo_len] at this; exact this
theorem outOf_none (S L : List Int) (n : Nat) (hL : L.Nodup) (hm : ∀ z, z ∈ L ↔ z ∈ S ∧ 0 ≤ z ∧ z < (n : Int)) (h : n ≤ L.length) : outOf S n = [] := by
  refine List.filter_eq_nil_iff.2 (fun z hz => ?_)
  obtain ⟨h0, h1⟩ := (upTo_mem n z).1 hz
  by_cases hs : z ∈ S
  · simp [hs]
  · exfalso
    have hzL : z ∉ L := fun h' => hs ((hm z).1 h').1
    have := sub_len (z :: L) (upTo n) (List.nodup_cons.2 ⟨hzL, hL⟩) (fun x hx => by
      rcases List.mem_cons.1 hx with rfl | hx
      · exact hz
      · exact (upTo_mem n x).2 ((hm x).1 hx).2)
    rw [upTo_len] at this; simp at this; omega
theorem set_few (S L : List Int) (n : Int) (hL : L.Nodup) (hm : ∀ z, z ∈ L ↔ z ∈ S ∧ 0 ≤ z ∧ z < n) : L.length ≤ n.toNat := by
  have := sub_len L (upTo n.toNat) hL (fun x hx => (upTo_mem _ x).2 (by have := ((hm x).1 hx).2; omega))
  rwa [upTo_len] at this
/-- numbers that come back -/
def IntsOut (l : List Int) (w : World) (e : Ending) (w' : World) : Prop := ∃ ao cap, e = .returned (.slice ao l.length cap) ∧ IntsAt w' ao l ∧ (ao = none → cap = 0) ∧ l.length ≤ cap ∧ Below w.heap.size w w'
/-- a slice of numbers that the code owns -/
def OwnI (w : World) (base : Nat) (v : Value) (l : List Int) : Prop := w.ownsRow base 3 1 v l.length (l.map (Value.int .i64))
theorem OwnI.end_ {w w' : World} {v : Value} {l : List Int} (h : OwnI w' w.heap.size v l) (hB : Below w.heap.size w w') : IntsOut l w (.returned v) w' := by
  rcases h.2 with ⟨rfl, h0⟩ | ⟨g, cap, cur, rfl, h1, h2, h3, h4, h5, h6⟩
  · have hl : l = [] := List.eq_nil_of_length_eq_zero h0
    subst hl
    exact ⟨none, 0, rfl, .inl rfl, fun _ => rfl, Nat.le_refl _, hB⟩
  · refine ⟨_, cap, rfl, .inr ⟨_, rfl, (World.ownsRow.lt h g rfl).2, fun i p hp => ?_⟩, (fun e => by cases e), h3, hB⟩
    exact World.ownsRow.cells h rfl i _ (by rw [List.getElem?_map, hp]; rfl)
theorem lit_cellI (w : World) (v : Value) : ∀ (j : Nat) u, [v][j]? = some u → (w.alloc (.cells #[v] 3)).cell? ((⟨w.heap.size, 0, none⟩ : Addr).add j) = some u := fun j u hj => by
  rw [cell_row (World.alloc_heap_new w _)]
  match j, hj with
  | 0, hj => simp at hj; subst hj; rfl
theorem own_grownI {w w' : World} {base : Nat} {V : World} {e : TypeId} {s : Nat} {v : Value} {n : Nat} {xs : List Value} {o : Obj} (hB : Below base V w) (hb : base ≤ w.heap.size) (hO : w.ownsRow base e s v n xs) (hg : (w.alloc o).grownBy w' v.ownBlock) : Below base V w' :=
  (hB.alloc hb o).grown hg (by simp; omega) (fun k h => (hO.lt k h).1)
/-- one side of a pair, as a function tells it -/
def SideFn (G : FuncId) (side : Int × Int → Int) : Prop := ∀ x1 x2 W, Calls Try.prog G #[.agg #[.int .i64 x1, .int .i64 x2]] W fun e w' => e = .returned (.int .i64 (side (x1, x2))) ∧ Below W.heap.size W w'
theorem restA1 : SideFn 32 Prod.fst := fun x1 x2 W => by
  go_enter Try.func32, Try.ntmps32
  go_wp2_with fail
  go_ret
  exact ⟨rfl, (Below.refl _ W).alloc (Nat.le_refl _) _⟩
theorem restB1 : SideFn 31 Prod.snd := fun x1 x2 W => by
  go_enter Try.func31, Try.ntmps31
  go_wp2_with fail
  go_ret
  exact ⟨rfl, (Below.refl _ W).alloc (Nat.le_refl _) _⟩

set_option maxRecDepth 100000 in
set_option maxHeartbeats 2000000 in
theorem rest_any (G : FuncId) (side : Int × Int → Int) (hG : SideFn G side) (hent : ∀ args w, (callFunc G args).run Try.prog w = .ok (.enter G args) w) (ao : Option Addr) (cap : Nat) (xs : PL) (n : Int) (w : World) (hn : xs.length ≤ 274877906944) (hs : ∀ p ∈ xs, (Lit.int .i64 (side p)).wf = true) (hR : PairsAt w ao xs) (hlo : -9223372036854775808 ≤ n) (hhi : n ≤ 2147483647) :
    Calls Try.prog 30 #[.slice ao xs.length cap, .int .i64 n, .func (.func G) #[] #[]] w (IntsOut (outOf (xs.map side) n.toNat) w) := by
  have hinfo : (Try.prog.info? 3).map (fun i => (i.zero, i.size, i.bytes)) = some (some (.int .i64 0), 1, 8) := by kernel_rfl
  obtain ⟨i0, hi, hz0, hz1, hz2⟩ := info_parts2 hinfo
  have HI := Lib.hid hi
  have HRo := Lib.hid hR
  have HSo := Lib.hid hs
  have HG := Lib.hid hG
  have hmm := @run_makeMap Try.prog
  clear hi hinfo hR hs hG
  obtain ⟨O, HQ⟩ : ∃ O, Hid (O = outOf (xs.map side)) := ⟨_, Lib.hid rfl⟩
  rw [← HQ.out]
  go_enter Try.func30, Try.ntmps30
  go_wp2_with fail
  have HO : Hid ((w.alloc (.map #[] 0)).ownsMap Try.prog 3 (plainElem Try.prog 4) w.heap.size 0 (.map [] : DataW Unit)) := Lib.hid (World.ownsMap_made w _ _ _)
  have HB : Hid (Below w.heap.size w (w.alloc (.map #[] 0))) := Lib.hid ((Below.refl _ w).alloc (Nat.le_refl _) _)
  go_loopw [17] (fun i wr => ∃ (k : Nat) (D : DataW Unit) (L : List Int), k ≤ xs.length ∧ i = .int .i64 k ∧ Hid (Below w.heap.size w wr) ∧ Hid (wr.ownsMap Try.prog 3 (plainElem Try.prog 4) w.heap.size k D) ∧ Hid (SetIs D L) ∧ Hid (∀ z, z ∈ L ↔ z ∈ (xs.map side).take k ∧ 0 ≤ z ∧ z < n)) (fun i _ => xs.length - (intOf i).toNat)
  case atStart => exact ⟨0, _, [], Nat.zero_le _, rfl, HB, HO, Lib.hid SetIs.empty, Lib.hid (by simp)⟩
  case round =>
    obtain ⟨k, D, L, hk, rfl, HB, HO, HD, HL⟩ := hrel
    by_cases hlt : k < xs.length
    · obtain ⟨⟨x1, x2⟩, hx⟩ : ∃ x, xs[k]? = some x := ⟨_, List.getElem?_eq_getElem hlt⟩
      rcases (HRo.out.kept HB.out) with h0 | ⟨b, o, rfl, hA, hcell⟩
      · rw [h0] at hlt; simp at hlt
      obtain ⟨hc1, hc2⟩ := hcell k _ hx
      dsimp only at hc1 hc2
      have HW := Lib.hid (HSo.out _ (List.mem_of_getElem? hx))
      obtain ⟨V, HV⟩ : ∃ V, Hid (V = wr.alloc (.cells #[.int .i64 x1, .int .i64 x2] 37)) := ⟨_, Lib.hid rfl⟩
      have hVh : V.heap[wr.heap.size]? = some (.cells #[.int .i64 x1, .int .i64 x2] 37 (0, 0)) := by rw [HV.out]; exact World.alloc_heap_new _ _
      have v0 : V.cell? ⟨wr.heap.size, 0, none⟩ = some (.int .i64 x1) := (Lib.cell_of_heap hVh 0).trans rfl
      have v1 : V.cell? ⟨wr.heap.size, 1, none⟩ = some (.int .i64 x2) := (Lib.cell_of_heap hVh 1).trans rfl
      have hbV : Below wr.heap.size wr V := by rw [HV.out]; exact (Below.refl _ wr).alloc (Nat.le_refl _) _
      have HVO := Lib.hid (ownsMap_below HO.out hbV)
      have HVB := Lib.hid (below_up HB.out hbV)
      have hsx : (xs.map side)[k]? = some (side (x1, x2)) := by rw [List.getElem?_map, hx]; rfl
      have HTk : Hid ((xs.map side).take (k + 1) = (xs.map side).take k ++ [side (x1, x2)]) := Lib.hid (by
        obtain ⟨h1, e⟩ := List.getElem?_eq_some_iff.1 hsx
        rw [List.take_succ_eq_append_getElem h1, e])
      have C := Lib.hid (HG.out x1 x2 V)
      clear hcell hx hbV hVh hsx HO HB
      generalize side (x1, x2) = y at C HW HTk
      go_upto_region 5 with fail
      rw [← HV.out]
      go_wp2_with fail
      refine C.out.mono ?_; rintro e w2 ⟨rfl, b1⟩
      have HO2 := Lib.hid (ownsMap_below HVO.out b1)
      have HB2 := Lib.hid (below_up HVB.out b1)
      clear b1 v0 v1 hc1 hc2 HVO HVB
      by_cases hin : 0 ≤ y ∧ y < n
      · obtain ⟨hy0, hyn⟩ := hin
        have hkm : k < maxLen := by unfold maxLen; omega
        have HK := Lib.hid (keyOf_int_mk (P := Try.prog) Try.underlying3 HW.out)
        go_wp2_with (at_mapUpdate; refine wpList_mapUpdate_own _ rfl _ _ _ 71 rfl 3 4 (int_keyed Try.underlying3) Try.underlying71 _ w.heap.size k D rfl HO2.out hkm _ _ (.int .i64 y) rfl rfl HK.out (.lit (.bool true)) [] (plainElem_bool Try.underlying4 true) ?_; intro w3 ho hg)
        have HO3 := Lib.hid ho
        have HB3 := Lib.hid (HB2.out.grown hg HB2.out.size (fun k h => by cases h; exact Nat.le_refl _))
        have HD3 := Lib.hid (HD.out.put y)
        have HL3 : Hid (∀ z, z ∈ addZ L y ↔ z ∈ (xs.map side).take (k + 1) ∧ 0 ≤ z ∧ z < n) := Lib.hid (fun z => by
          rw [addZ_mem, HL.out z, HTk.out]
          simp only [List.mem_append, List.mem_singleton]
          constructor
          · rintro (h | rfl)
            · exact ⟨.inl h.1, h.2⟩
            · exact ⟨.inr rfl, hy0, hyn⟩
          · rintro ⟨h | h, h2⟩
            · exact .inl ⟨h, h2⟩
            · exact .inr h)
        clear ho hg
        go_wp2_with fail
        go_roundw
        case rel => exact ⟨k + 1, _, _, by omega, by go_num, HB3, HO3, HD3, HL3⟩
        case measure => simp [intOf]; omega
      · have HL3 : Hid (∀ z, z ∈ L ↔ z ∈ (xs.map side).take (k + 1) ∧ 0 ≤ z ∧ z < n) := Lib.hid (fun z => by
          rw [HL.out z, HTk.out]
          simp only [List.mem_append, List.mem_singleton]
          constructor
          · rintro h; exact ⟨.inl h.1, h.2⟩
          · rintro ⟨h | rfl, h2⟩
            · exact ⟨h, h2⟩
            · exact absurd h2 hin)
        have HO3 := Lib.hid (HO2.out.mono (Nat.le_succ k))
        by_cases hy0 : 0 ≤ y
        · have hyn : ¬ y < n := fun h => hin ⟨hy0, h⟩
          clear hin
          go_wp2_with fail
          go_roundw
          case rel => exact ⟨k + 1, _, _, by omega, by go_num, HB2, HO3, HD, HL3⟩
          case measure => simp [intOf]; omega
        · clear hin
          go_wp2_with fail
          go_roundw
          case rel => exact ⟨k + 1, _, _, by omega, by go_num, HB2, HO3, HD, HL3⟩
          case measure => simp [intOf]; omega
    · obtain rfl : k = xs.length := by omega
      have HL1 : Hid (∀ z, z ∈ L ↔ z ∈ xs.map side ∧ 0 ≤ z ∧ z < n) := Lib.hid (fun z => by rw [HL.out z]; rw [show xs.length = (xs.map side).length from by simp, List.take_length])
      have hfew := set_few _ L n HD.out.nodup HL1.out
      have hsz : Go.Maps.size D = L.length := HD.out.size
      have hwl : IntKind.i64.wrap (n - (L.length : Int)) = n - (L.length : Int) := IntWalk.i64_in _ (by omega)
      have HNone : Hid (n - (L.length : Int) < 1 → outOf (xs.map side) n.toNat = []) := Lib.hid (fun h => by
        rcases Int.le_total n 0 with h0 | h0
        · rw [show n.toNat = 0 from by omega]; rfl
        · refine outOf_none _ L n.toNat HD.out.nodup (fun z => ?_) (by omega)
          rw [HL1.out z, show ((n.toNat : Nat) : Int) = n from by omega])
      have HNx := Lib.hid (outOf_next (xs.map side))
      have HLe := Lib.hid (outOf_le (xs.map side))
      have HZ : Hid (outOf (xs.map side) 0 = []) := Lib.hid rfl
      clear HL hlt
      rw [← HQ.out] at HNone HNx HLe HZ
      have hln := HO.out.len Try.underlying71 3
      rw [hsz] at hln
      clear hsz
      by_cases hleft : n - (L.length : Int) < 1
      · have E := Lib.hid (HNone.out hleft)
        go_wp2_with fail
        go_ret
        rw [E.out]
        exact ⟨none, 0, rfl, .inl rfl, fun _ => rfl, Nat.le_refl _, HB.out⟩
      · have hmax : ¬ 2147483647 < n - (L.length : Int) := by omega
        obtain ⟨c, hc⟩ := Int.eq_ofNat_of_zero_le (show 0 ≤ n - (L.length : Int) by omega)
        obtain ⟨m, rfl⟩ := Int.eq_ofNat_of_zero_le (show 0 ≤ n by omega)
        rw [hc] at hwl hleft hmax
        have hcm : c ≤ m := by omega
        have hm31 : m ≤ 2147483647 := by omega
        have hcx : c ≤ maxLen := by unfold maxLen; omega
        have HBs := HB.out.size
        go_wp2_with (at_make; refine wpList_make_own _ rfl _ _ 30 rfl (w.heap.size + 1) 3 i0 (.int .i64 0) 1 Try.underlying30 HI.out hz0 hz1 .i64 .i64 (c : Int) c rfl rfl rfl (by rw [hz2]; omega) hcx HO.out.lt ?_; intro w1 ho hg)
        have HO1 := Lib.hid (HO.out.kept hg (by simp))
        have HB1 := Lib.hid (HB.out.grown hg HBs (fun k h => by cases h))
        have HT : Hid (OwnI w1 (w.heap.size + 1) (.slice (some ⟨wr.heap.size, 0, none⟩) 0 c) (O 0)) := Lib.hid (by rw [HZ.out]; exact ho)
        have HLk : Hid (∀ k : Nat, k < m → ((k : Int) ∈ L ↔ (k : Int) ∈ xs.map side)) := Lib.hid (fun k hk => by rw [HL1.out]; exact ⟨fun h => h.1, fun h => ⟨h, by omega, by omega⟩⟩)
        have hL0 : (O 0).length = 0 := by rw [HZ.out]; rfl
        clear ho hg hln hfew hwl hleft hmax HBs hc HO HB HL1 HNone hlo hhi
        obtain ⟨wo, rfl⟩ : ∃ wo : World, wo = wr := ⟨_, rfl⟩
        go_loopw [12, 47] (fun v i wr => ∃ (k q cp : Nat) (bo : Option Addr), k ≤ m ∧ i = .int .i64 k ∧ v = .slice bo q cp ∧ Hid (q = (O k).length) ∧ Hid (Below w.heap.size w wr) ∧ Hid (wr.ownsMap Try.prog 3 (plainElem Try.prog 4) w.heap.size xs.length D) ∧ Hid (OwnI wr (w.heap.size + 1) (.slice bo q cp) (O k))) (fun _ i _ => m - (intOf i).toNat)
        case atStart => exact ⟨0, 0, c, _, Nat.zero_le _, rfl, rfl, Lib.hid hL0.symm, HB1, HO1, HT⟩
        case round =>
          obtain ⟨k, q, cp, bo, hk, rfl, rfl, HQ2, HB, HO, HT⟩ := hrel
          by_cases hlt : k < m
          · have hlook := set_look HO.out HD.out (k : Int) (WalkArith.wf_i64 (by omega))
            have hstep := HNx.out k
            have hkL := HLk.out k hlt
            by_cases hin : (k : Int) ∈ L
            · rw [decide_eq_true hin] at hlook
              rw [if_pos (hkL.1 hin)] at hstep
              have HT2 : Hid (OwnI wr (w.heap.size + 1) (.slice bo q cp) (O (k + 1))) := Lib.hid (by rw [hstep]; exact HT.out)
              have HQ3 : Hid (q = (O (k + 1)).length) := Lib.hid (by rw [hstep]; exact HQ2.out)
              clear hstep hkL hin
              go_wp2_with fail
              go_roundw
              case rel => exact ⟨k + 1, q, cp, bo, by omega, by go_num, rfl, HQ3, HB, HO, HT2⟩
              case measure => simp [intOf]; omega
            · rw [decide_eq_false hin] at hlook
              rw [if_neg (fun h => hin (hkL.2 h))] at hstep
              have hq : q ≤ k := by rw [HQ2.out]; exact HLe.out k
              have HTO : Hid (wr.ownsRow (w.heap.size + 1) 3 1 (.slice bo q cp) q ((O k).map (Value.int .i64))) := Lib.hid (by have := HT.out; unfold OwnI at this; rw [← HQ2.out] at this; exact this)
              have HT1 := Lib.hid (HTO.out.alloc (.cells #[Value.int .i64 (k : Int)] 3))
              have hws : w.heap.size + 1 ≤ wr.heap.size := HO.out.lt
              have hbs : w.heap.size + 1 ≤ (wr.alloc (.cells #[Value.int .i64 (k : Int)] 3)).heap.size := by simp; omega
              have HST := Lib.hid hstep
              clear hstep hkL hin
              go_wp2_with (at_builtin; refine wpList_append_own _ rfl _ _ 30 rfl (w.heap.size + 1) 3 i0 (.int .i64 0) 1 8 Try.underlying30 HI.out hz0 hz1 hz2 rfl (by decide) _ _ _ rfl HT1.out ⟨wr.heap.size, 0, none⟩ 1 1 [Value.int .i64 (k : Int)] rfl rfl (lit_cellI wr _) (fun u hu => by simp at hu; subst hu; rfl) (by unfold maxLen; omega) (by omega) hbs ?_)
              intro v' w3 hown' hgrow _
              obtain ⟨g, gc, rfl⟩ := ownsRow_succ hown'
              have HO3 : Hid (w3.ownsMap Try.prog 3 (plainElem Try.prog 4) w.heap.size xs.length D) := Lib.hid ((HO.out.alloc (.cells #[Value.int .i64 (k : Int)] 3)).kept hgrow (fun e => by have := (HTO.out.lt _ e.symm).1; omega))
              have HB3 := Lib.hid ((HB.out.alloc HB.out.size (.cells #[Value.int .i64 (k : Int)] 3)).grown hgrow (by simp; omega) (fun j h => by have := (HTO.out.lt j h).1; omega))
              have HQ3 : Hid (q + 1 = (O (k + 1)).length) := Lib.hid (by rw [HST.out, List.length_append, ← HQ2.out]; rfl)
              have HT3 : Hid (OwnI w3 (w.heap.size + 1) (.slice (some ⟨g, 0, none⟩) (q + 1) gc) (O (k + 1))) := Lib.hid (by unfold OwnI; rw [← HQ3.out, HST.out, List.map_append]; exact hown')
              clear hown' hgrow hbs hlook
              go_wp2_with fail
              go_roundw
              case rel => exact ⟨k + 1, q + 1, gc, _, by omega, by go_num, rfl, HQ3, HB3, HO3, HT3⟩
              case measure => simp [intOf]; omega
          · obtain rfl : k = m := by omega
            have HE := Lib.hid (OwnI.end_ (show OwnI wr w.heap.size _ _ from World.ownsRow.mono HT.out (Nat.le_succ _)) HB.out)
            clear HT HO
            go_wp2_with fail
            go_ret
            exact HE.out
end Go.Proofs.Ytolcdhdmonaeaaa
