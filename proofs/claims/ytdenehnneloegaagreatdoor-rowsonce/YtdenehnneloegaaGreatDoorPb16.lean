/-
  Texts of these rows' proofs, laid one behind the other: KSort, KText.
  Conditions: those of each theorem.
-/
import Derived.Deep.OwnRows
import Derived.WalkKit
import Derived.WalkMore
import Derived.IntWalk
import Derived.WalkArith
import Derived.OwnWalkIn
import Derived.TacticsInMore
import Derived.LoopNIn
import Derived.LoopIn
import Derived.Lib.Hide
import Derived.RegionTactic
import Derived.Sort.OwnSortedInts
import Derived.Test.YtdenehnneloegaaGreatDoorProg
import Derived.Test.YtdenehnneloegaaGreatDoorPb3
import Derived.Test.YtdenehnneloegaaGreatDoorPb1
import Derived.Test.YtdenehnneloegaaGreatDoorPb2
import Derived.Test.YtdenehnneloegaaGreatDoorPb15
import Derived.Lib.AppendStr
import Derived.Lib.AppendIntMem
import Derived.Lib.ItoaLen
import Derived.Lib.LaidTab
import Derived.Laws.IdiomStrings
import Derived.OwnWalk
namespace Go.Proofs.YtdenehnneloegaaGreatDoor
open Go.RowKit Go.Shelf Go.Sort
set_option linter.unusedVariables false
attribute [local go_sem] Oper.semAt_some
theorem infoK_parts2 {P : Program} {e : TypeId} {z : Option Value} {s b : Nat} (h : (P.info? e).map (fun i => (i.zero, i.size, i.bytes)) = some (z, s, b)) : ∃ i, P.info? e = some i ∧ i.zero = z ∧ i.size = s ∧ i.bytes = b := by
  obtain ⟨i, hi, e'⟩ := Option.map_eq_some_iff.1 h
  simp only [Prod.mk.injEq] at e'
  exact ⟨i, hi, e'⟩
/-! what comes -/
def sortL (l : List Int) : List Int := l.mergeSort fun x y => decide (x ≤ y)
def ownL (l : List Int) : List Int := Lib.compact (sortL l)
theorem sort_len (l : List Int) : (sortL l).length = l.length := by unfold sortL; simp
theorem sort_mem (l : List Int) (c : Int) : c ∈ sortL l ↔ c ∈ l := by unfold sortL; exact List.mem_mergeSort
theorem sort_rises (l : List Int) : (sortL l).Pairwise (fun a b => a ≤ b) := by
  have := List.pairwise_mergeSort (le := fun x y : Int => decide (x ≤ y)) (by intro a b c h k; simp at h k ⊢; omega) (by intro a b; simp; omega) l
  exact this.imp fun h => of_decide_eq_true h
theorem compact_upto (zs : List Int) (hs : zs.Pairwise (fun a b => a ≤ b)) : ∀ m, m ≤ zs.length → (∀ x, x ∈ Lib.compactUpTo zs.toArray m ↔ x ∈ zs.take m) ∧ (Lib.compactUpTo zs.toArray m).Pairwise (fun a b => a < b) := by
  intro m
  induction m with
  | zero => intro _; exact ⟨fun x => by simp [Lib.compactUpTo], by simp [Lib.compactUpTo]⟩
  | succ m ih =>
    intro hm
    obtain ⟨h1, h2⟩ := ih (by omega)
    have hlt : m < zs.length := by omega
    have e0 : zs.toArray[m]! = zs[m] := by simp [getElem!_pos, hlt]
    rw [Lib.compactUpTo_succ]
    have hle : ∀ x ∈ zs.take m, x ≤ zs[m] := fun x hx => by
      obtain ⟨i, hi, rfl⟩ := List.mem_iff_getElem.1 hx
      rw [List.getElem_take]
      rw [List.length_take] at hi
      exact List.pairwise_iff_getElem.1 hs i m (by omega) hlt (by omega)
    have htk : zs.take (m + 1) = zs.take m ++ [zs[m]] := List.take_succ_eq_append_getElem hlt
    by_cases hk : Lib.keeps zs.toArray m = true
    · rw [if_pos hk, e0, htk]
      refine ⟨fun x => by rw [List.mem_append, List.mem_append, h1], ?_⟩
      rw [List.pairwise_append]
      refine ⟨h2, by simp, fun a ha b hb => ?_⟩
      simp only [List.mem_singleton] at hb; subst hb
      have ha' := (h1 a).1 ha
      have := hle a ha'
      unfold Lib.keeps at hk
      have hk := of_decide_eq_true hk
      rcases hk with rfl | hk
      · simp at ha'
      · by_cases hm0 : m = 0
        · subst hm0; simp at ha'
        · have e1 : zs.toArray[m - 1]! = zs[m - 1] := by simp [getElem!_pos, show m - 1 < zs.length by omega]
          rw [e0, e1] at hk
          have h3 : a ≤ zs[m - 1] := by
            obtain ⟨i, hi, rfl⟩ := List.mem_iff_getElem.1 ha'
            rw [List.getElem_take]
            rw [List.length_take] at hi
            by_cases hi2 : i = m - 1
            · subst hi2; exact Int.le_refl _
            · exact List.pairwise_iff_getElem.1 hs i (m - 1) (by omega) (by omega) (by omega)
          have h4 : zs[m - 1] ≤ zs[m] := List.pairwise_iff_getElem.1 hs (m - 1) m (by omega) hlt (by omega)
          omega
    · have hk : Lib.keeps zs.toArray m = false := by cases h : Lib.keeps zs.toArray m <;> simp_all
      rw [hk, htk]
      refine ⟨fun x => ?_, by simpa using h2⟩
      simp only [Bool.false_eq_true, if_false, List.append_nil, List.mem_append, List.mem_singleton]
      rw [h1]
      refine ⟨.inl, ?_⟩
      rintro (h | rfl)
      · exact h
      · unfold Lib.keeps at hk
        have hk := of_decide_eq_false hk
        have hm0 : m ≠ 0 := fun e => hk (.inl e)
        have e1 : zs.toArray[m - 1]! = zs[m - 1] := by simp [getElem!_pos, show m - 1 < zs.length by omega]
        have : zs[m] = zs[m - 1] := by
          rw [e0, e1] at hk
          exact Classical.not_not.1 fun h => hk (.inr h)
        rw [this]
        exact List.mem_iff_getElem.2 ⟨m - 1, by rw [List.length_take]; omega, by rw [List.getElem_take]⟩
theorem own_mem (l : List Int) (c : Int) : c ∈ ownL l ↔ c ∈ l := by
  unfold ownL Lib.compact
  rw [(compact_upto _ (sort_rises l) _ (Nat.le_refl _)).1, List.take_length, sort_mem]
theorem own_rises (l : List Int) : (ownL l).Pairwise (fun a b => a < b) := (compact_upto _ (sort_rises l) _ (Nat.le_refl _)).2
theorem own_nodup (l : List Int) : (ownL l).Nodup := (own_rises l).imp fun h e => by subst e; omega
theorem own_len (l : List Int) : (ownL l).length ≤ l.length := by
  unfold ownL Lib.compact Lib.compactUpTo
  rw [List.length_map]
  exact Nat.le_trans (List.length_filter_le _ _) (by rw [List.length_range, sort_len]; exact Nat.le_refl _)
/-! the iterator -/
def Keeps0K (n0 : Nat) (W W' : World) : Prop := ∀ k, k < n0 → W'.heap[k]? = W.heap[k]?
theorem keepsK0_trans {n0 : Nat} {A B C : World} (h : Keeps0K n0 A B) (k : Keeps0K n0 B C) : Keeps0K n0 A C := fun i hi => (k i hi).trans (h i hi)
theorem heap_putLK {A : World} {l : Nat} {o o' : Obj} (hl : A.heap[l]? = some o) (ho : o.isCells = false) {b : Nat} {cs : Array Value} {t : TypeId} {fr : Nat × Nat} (h : A.heap[b]? = some (.cells cs t fr)) : (A.putObj l o').heap[b]? = some (.cells cs t fr) := by
  have hne : b ≠ l := by
    rintro rfl
    rw [h] at hl; cases hl; cases ho
  rw [World.putObj_heap_other hne]; exact h
theorem below_putLK {n : Nat} {w A : World} {l : Nat} (o' : Obj) (h : Below n w A) (hl : n ≤ l) : Below n w (A.putObj l o') :=
  ⟨h.os, h.tape, h.output, by simpa using h.size, fun k hk => (World.putObj_heap_other (by omega)).trans (h.block k hk)⟩
/-- a list that is boxed and grows -/
structure GrowingK (w : World) (T E : TypeId) (z : Nat) (cells : List Value) (n : Nat) (W : World) : Prop where
  held : ∃ v, Boxed W w.heap.size T v ∧ W.ownsRow w.heap.size E z v n cells
  below : Below w.heap.size w W
theorem GrowingK.stays {w : World} {T E : TypeId} {z : Nat} {cells : List Value} {n : Nat} {A B : World} (h : GrowingK w T E z cells n A) (k : Below A.heap.size A B) : GrowingK w T E z cells n B := by
  obtain ⟨v, h1, h2⟩ := h.held
  exact ⟨⟨v, below_kept k h1, ownsRow_below h2 k⟩, h.below.trans (k.mono h.below.size)⟩
theorem GrowingK.apart {w : World} {T E : TypeId} {z : Nat} {cells : List Value} {n : Nat} {A : World} {l : Nat} {o : Obj} (o' : Obj) (h : GrowingK w T E z cells n A) (hl : w.heap.size ≤ l) (ho : A.heap[l]? = some o) (hc : o.isCells = false) : GrowingK w T E z cells n (A.putObj l o') := by
  obtain ⟨v, h1, h2⟩ := h.held
  exact ⟨⟨v, heap_putLK ho hc h1, ownsRow_putObj h2 o' ho hc⟩, below_putLK o' h.below hl⟩
set_option maxRecDepth 100000 in
set_option maxHeartbeats 4000000 in
theorem values1_tells (n : Nat) (ao : Option Addr) (cap : Nat) (l : List Int) (Bs n0 : Nat) (w : World) (hN : l.length ≤ 1099511627776) (hI : IntsAt w ao l) (hbs : w.heap[Bs]? = some (.cells #[.slice ao l.length cap] 41 (0, 0))) (h1 : Bs < n0) (h2 : l = [] ∨ ∀ A, ao = some A → A.block < n0) :
    Tells Fence.wide n Tryz.prog 204 #[.pointer (some ⟨Bs, 0, none⟩)] (fun x : Int => #[Value.int .i64 x]) (Keeps0K n0) (fun pre x _ => pre.length < l.length) (fun _ _ => True) (fun ys => ys = l) (fun _ => True) w := by
  intro lp J Jx W hW hJ hJx hRm hY h0
  have HY := Lib.hid hY
  have HBs := Lib.hid ((hW.block Bs (lt_of_heap hbs)).trans hbs)
  have HI := Lib.hid (hI.kept hW)
  have H0 := Lib.hid h0
  have HSt := Lib.hid hJ
  have H2 := Lib.hid h2
  clear hJ hRm hY hJx hW hbs h0 hI h2
  refine callsIn_of_wp Tryz.func204 rfl trivial ?_ rfl
  simp only [Tryz.ntmps204, List.size_toArray, List.length_cons, List.length_nil, Nat.reduceAdd, Nat.reduceSub, Array.replicate_succ, Array.replicate_zero, List.push_toArray, List.append_toArray, List.nil_append, List.cons_append]
  obtain ⟨c0, _⟩ := cell_of_box_l HBs.out
  gi_wp2_with fail
  gi_loopw [7] (fun i wr => ∃ (k : Nat), k ≤ l.length ∧ i = .int .i64 k ∧ Hid (J (l.take k) wr) ∧ Hid (IntsAt wr ao l)) (fun i _ => l.length - (intOf i).toNat)
  case atStart => exact ⟨0, Nat.zero_le _, rfl, H0, HI⟩
  case round =>
    obtain ⟨k, hk, rfl, HJ, HIr⟩ := hrel
    clear HBs H0 HI c0
    by_cases hlt : k < l.length
    · rcases HIr.out with h | ⟨A, rfl, hA, hcell⟩
      · rw [h] at hlt; simp at hlt
      obtain ⟨x, hx⟩ : ∃ x, l[k]? = some x := ⟨_, List.getElem?_eq_getElem hlt⟩
      have c1 := hcell k x hx
      have htk : l.take (k + 1) = l.take k ++ [x] := by rw [List.take_add_one, hx]; rfl
      have HTK := Lib.hid htk
      obtain ⟨fn, tmps, assign, body, hy, hR⟩ := HY.out (l.take k) x wr HJ.out (by rw [List.length_take]; omega)
      have HR := Lib.hid hR
      have e7 : IntKind.i64.wrap ((k : Int) + 1) = (k : Int) + 1 := IntWalk.i64_in _ (by omega)
      have HIK := Lib.hid (show ∀ B, Keeps0K n0 wr B → IntsAt B (some A) l from fun B hB => by
        have hlt2 : A.block < n0 := by
          rcases H2.out with h | h
          · rw [h] at hlt; simp at hlt
          · exact h A rfl
        have hblk := hB _ hlt2
        refine .inr ⟨A, rfl, ?_, fun i p hp => ?_⟩
        · have := Array.getElem?_eq_some_iff.2 ⟨hA, rfl⟩
          rw [← hblk] at this
          exact (Array.getElem?_eq_some_iff.1 this).1
        · have := hcell i p hp
          have hb : (A.add i).block = A.block := add_block A i
          rw [← this]
          unfold World.cell?
          rw [hb, hblk])
      clear hR hcell htk hx
      gi_wp2_with fail
      refine ⟨(fun h => by cases h), HR.out.mono ?_⟩
      rintro ee W3 (⟨rfl, hJ3, hk3⟩ | ⟨rfl, hJx3⟩)
      · have HJ3 := Lib.hid hJ3
        have HI3 := Lib.hid (HIK.out _ hk3)
        clear hJ3 hk3 hy c1
        gi_wp2_with fail
        go_roundw
        case rel => exact ⟨k + 1, by omega, by go_num, by rw [HTK.out]; exact HJ3, HI3⟩
        case measure => simp [intOf]; omega
      · have HX := Lib.hid hJx3
        clear hJx3
        gi_wp2_with fail
        refine bodyPost_ret (results_none rfl _ _ _) rfl ?_
        exact ⟨⟨_, rfl⟩, .inr ⟨_, trivial, HX.out⟩⟩
    · have E := Lib.hid (show l.take k = l from List.take_of_length_le (by omega))
      gi_wp2_with fail
      go_end0
      exact ⟨⟨_, rfl⟩, .inl ⟨_, E.out, HJ.out⟩⟩
def IntsNew (l : List Int) (w : World) (e : Ending) (w' : World) : Prop := ∃ v, e = .returned v ∧ w'.ownsRow w.heap.size 3 1 v l.length (l.map (Value.int .i64)) ∧ Below w.heap.size w w'
set_option maxRecDepth 100000 in
set_option maxHeartbeats 4000000 in
theorem appendSeqK_any (ao : Option Addr) (cap : Nat) (l : List Int) (Bs : Nat) (w : World) (hN : l.length ≤ 1099511627776) (hI : IntsAt w ao l) (hbs : w.heap[Bs]? = some (.cells #[.slice ao l.length cap] 41 (0, 0))) :
    Calls Tryz.prog 197 #[.slice none 0 0, .func (.func 204) #[] #[.pointer (some ⟨Bs, 0, none⟩)]] w (IntsNew l w) := by
  have hinfo : (Tryz.prog.info? 3).map (fun i => (i.zero, i.size, i.bytes)) = some (some (.int .i64 0), 1, 8) := by kernel_rfl
  obtain ⟨i0, hi, hz0, hz1, hz2⟩ := infoK_parts2 hinfo
  have HIN := Lib.hid hi
  refine (callsIn_wide (n := 4)).1 ?_
  obtain ⟨U, HU⟩ : ∃ U, Hid (U = w.alloc (.cells #[.slice none 0 0] 41)) := ⟨_, Lib.hid rfl⟩
  have hbU : Below w.heap.size w U := by rw [HU.out]; exact (Below.refl _ w).alloc (Nat.le_refl _) _
  have hB1 : U.heap[w.heap.size]? = some (.cells #[.slice none 0 0] 41 (0, 0)) := by rw [HU.out]; exact World.alloc_heap_new _ _
  have hsU : w.heap.size + 1 = U.heap.size := by rw [HU.out]; simp
  have hA : l = [] ∨ ∀ A, ao = some A → A.block < w.heap.size := by
    rcases hI with h | ⟨A, h1, h2, h3⟩
    · exact .inl h
    · exact .inr fun A' h => by rw [h1] at h; cases h; exact h2
  have TL := Lib.hid (values1_tells 3 ao cap l Bs w.heap.size U hN (hI.kept hbU) ((hbU.block _ (lt_of_heap hbs)).trans hbs) (lt_of_heap hbs) hA)
  have H0 : Hid (GrowingK w 41 3 1 (([] : List Int).map (Value.int .i64)) ([] : List Int).length U) := Lib.hid ⟨⟨_, hB1, World.ownsRow_nil _ _ _ _⟩, hbU⟩
  have HSU := Lib.hid hsU
  clear hbU hB1 hsU hbs hI hi hinfo hA
  refine callsIn_of_wp_marks Tryz.func197 rfl trivial ?_ rfl
  simp only [Tryz.ntmps197, List.size_toArray, List.length_cons, List.length_nil, Nat.reduceAdd, Nat.reduceSub, Array.replicate_succ, Array.replicate_zero, List.push_toArray, List.append_toArray, List.nil_append, List.cons_append]
  gi_wp2_with fail
  rw [← HU.out]
  refine wpIn_range_tells rfl (by decide) (gf := 204) (lb := #[.pointer (some ⟨Bs, 0, none⟩)]) rfl trivial (enters_of Tryz.func204 (by kernel_rfl) rfl)
    TL.out (Below.refl _ _) (fun _ => rfl) keepsK0_trans (fun A l o o' hl _ _ k hk => World.putObj_heap_other (by have := HSU.out; omega))
    (fun {A B} hA hAB k hk => hAB.block k (by have := HSU.out; omega))
    (fun pre W => GrowingK w 41 3 1 (pre.map (Value.int .i64)) pre.length W) (fun _ _ => False) (fun pre A B h k => h.stays k) (fun pre A B h k => h)
    (fun pre A l o o' h hl ho hc => h.apart o' (by have := HSU.out; omega) ho hc) (fun pre A l o o' h hl ho hc => h) (fun _ _ _ => trivial)
    (fun pre x A B h k => h) (fun pre x A l o o' h hl ho hc => h) H0.out
    (fun x a' A => a' = { tmps := #[.slice none 0 0, .func (.func 204) #[] #[.pointer (some ⟨Bs, 0, none⟩)], .pointer (some ⟨w.heap.size, 0, none⟩), undef, .slice none 0 0, .int .i64 x, .func (.func 204) #[] #[.pointer (some ⟨Bs, 0, none⟩)], .int .i64 x, undef, undef, undef, undef, undef], defers := [] })
    (fun x a' A l o o' h hl ho hc => h) ?assign ?body ?done ?stop
  case assign =>
    intro l x A K hA hK
    gi_wp2_with fail
    exact hK _ _ (Below.refl _ A) rfl
  case body =>
    rintro lp pre x a' A hA hI hok1 rfl
    obtain ⟨v, hv, ho⟩ := hI.held
    obtain ⟨ao, cap, rfl⟩ := own_slice ho
    have hI' := Lib.hid hI
    have HO := Lib.hid ho
    have HV := Lib.hid hv
    have HOA : Hid ((A.alloc (.cells #[.int .i64 x] 3)).ownsRow w.heap.size 3 1 (.slice ao pre.length cap) pre.length (pre.map (Value.int .i64))) := Lib.hid (ho.alloc _)
    have cl := hv.cell
    have hws : w.heap.size ≤ A.heap.size := hI.below.size
    clear hI ho hv
    gi_wp2_with (gi_at_builtin; refine wpListIn_append_own _ rfl _ _ 41 rfl w.heap.size 3 i0 (.int .i64 0) 1 8 Tryz.underlying41 HIN.out hz0 hz1 hz2 rfl (by decide) _ _ _ rfl HOA.out ⟨A.heap.size, 0, none⟩ 1 1 [.int .i64 x] rfl rfl ?c1 ?c2 ?c3 ?c4 ?c5 ?_)
    case c1 =>
      intro j u hj
      rw [cell_row (World.alloc_heap_new A _)]
      match j, hj with
      | 0, hj => simp at hj; subst hj; rfl
    case c2 => intro u hu; simp at hu; subst hu; rfl
    case c3 => unfold maxLen; omega
    case c4 => omega
    case c5 => simp; omega
    intro v' w3 hown' hgrow _
    obtain ⟨q1, q2, q3, q4, q5⟩ := Boxed.appended (n₀ := w.heap.size) (size := 1) HV.out (by decide) HO.out hws (Nat.le_refl _) hown' hgrow
    obtain ⟨g2, cp', rfl⟩ := ownsRow_succ hown'
    have k1 := q1.cell
    have k2 := q1.frozen
    have Q : Hid (KeepsOthers A (w3.setCell ⟨w.heap.size, 0, none⟩ (.slice (some ⟨g2, 0, none⟩) (pre.length + 1) cp')) ∧ Keeps0K w.heap.size A (w3.setCell ⟨w.heap.size, 0, none⟩ (.slice (some ⟨g2, 0, none⟩) (pre.length + 1) cp')) ∧ GrowingK w 41 3 1 ((pre ++ [x]).map (Value.int .i64)) (pre ++ [x]).length (w3.setCell ⟨w.heap.size, 0, none⟩ (.slice (some ⟨g2, 0, none⟩) (pre.length + 1) cp'))) :=
      Lib.hid ⟨q4, fun k hk => q5.block k hk, ⟨⟨_, q2, by rw [List.length_append, List.map_append]; exact q3⟩, hI'.out.below.trans q5⟩⟩
    clear hown' hgrow q1 q2 q3 q4 q5
    gi_wp2_with fail
    exact Q.out
  case done =>
    rintro D ps A hD rfl hI hK
    obtain ⟨v, hv, ho⟩ := hI.held
    have c0 := hv.cell
    have HE : Hid (IntsNew ps w (.returned v) (A.putObj D (.deferred none))) := Lib.hid ⟨_, rfl, ownsRow_putObj ho (.deferred none) hK rfl, below_putLK (.deferred none) hI.below (show w.heap.size ≤ D by have := HSU.out; omega)⟩
    obtain ⟨ao, cap, rfl⟩ := own_slice ho
    clear hI ho hv
    gi_wp2_with fail
    refine ⟨by simp, .inl ⟨_, _, rfl, run_takeDeferred hK, ?_⟩⟩
    refine ⟨_, results_tmp rfl _ _ _, ?_⟩
    exact HE.out
  case stop =>
    rintro D pre W _ _ h _
    exact h.elim
set_option maxRecDepth 100000 in
set_option maxHeartbeats 1000000 in
theorem collectK_any (ao : Option Addr) (cap : Nat) (l : List Int) (Bs : Nat) (w : World) (hN : l.length ≤ 1099511627776) (hI : IntsAt w ao l) (hbs : w.heap[Bs]? = some (.cells #[.slice ao l.length cap] 41 (0, 0))) :
    Calls Tryz.prog 155 #[.func (.func 204) #[] #[.pointer (some ⟨Bs, 0, none⟩)]] w (IntsNew l w) := by
  have C := Lib.hid (appendSeqK_any ao cap l Bs w hN hI hbs)
  clear hI hbs
  go_enter Tryz.func155, Tryz.ntmps155
  go_wp2_with fail
  refine C.out.mono ?_
  rintro e w1 ⟨v, rfl, h2⟩
  have HE : Hid (IntsNew l w (.returned v) w1) := Lib.hid ⟨v, rfl, h2⟩
  obtain ⟨bo, cap, rfl⟩ := own_slice h2.1
  clear h2
  go_wp2_with fail
  go_ret
  exact HE.out
set_option maxRecDepth 100000 in
set_option maxHeartbeats 1000000 in
theorem sorted_any (ao : Option Addr) (cap : Nat) (l : List Int) (Bs : Nat) (w : World) (hN : l.length ≤ 1099511627776) (hI : IntsAt w ao l) (hbs : w.heap[Bs]? = some (.cells #[.slice ao l.length cap] 41 (0, 0))) :
    Calls Tryz.prog 101 #[.func (.func 204) #[] #[.pointer (some ⟨Bs, 0, none⟩)]] w (IntsNew (sortL l) w) := by
  have C := Lib.hid (collectK_any ao cap l Bs w hN hI hbs)
  clear hI hbs
  go_enter Tryz.func101, Tryz.ntmps101
  go_wp2_with fail
  refine C.out.mono ?_
  rintro e w1 ⟨v, rfl, hown, hbel⟩
  rcases hown.2 with ⟨rfl, h0⟩ | ⟨g, cap, cur, rfl, hbase, hgb, r1, r2, r3, r4⟩
  · have hl : l = [] := List.eq_nil_of_length_eq_zero h0
    subst hl
    have HE : Hid (IntsNew (sortL []) w (.returned (.slice none 0 0)) w1) := Lib.hid ⟨_, rfl, by simpa [sortL] using hown, hbel⟩
    have S := Lib.hid (AnyM.slices_Sort_int_none laysO none 0 w1)
    clear hown hbel h0
    go_wp2_with fail
    refine S.out.mono ?_
    rintro e w2 ⟨rfl, rfl⟩
    go_wp2_with fail
    go_ret
    exact HE.out
  · have hH : Holds (Value.int .i64) w1 g 0 l.toArray := holds_of_blockI hgb (by simpa using r4)
    have hgl : g < w1.heap.size := lt_of_heap hgb
    have S := Lib.hid (AnyM.slices_Sort_int laysO g 0 cap l w1 hH hgl (by omega))
    have HE : Hid (∀ n os, IntsNew (sortL l) w (.returned (.slice (some ⟨g, 0, none⟩) l.length cap)) (grow (putRow (Value.int .i64) (Sort.ahead w1 n) g 0 (sortL l).toArray) os)) := Lib.hid fun n os =>
      ⟨_, rfl, by rw [sort_len]; exact ownsRow_sortedI (sort_len l) hbase hgb r1 r2 r3, hbel.grown (grownBy_sortedI _) hbel.size (fun j hj => by cases hj; exact hbase)⟩
    clear hown hbel hgb r1 r2 r3 r4 hH hgl
    go_wp2_with fail
    refine S.out.mono ?_
    rintro e w2 ⟨rfl, n, os, hw2⟩
    have HE2 := Lib.hid (HE.out n os)
    rw [show (grow (putRow (Value.int .i64) (Sort.ahead w1 n) g 0 (sortL l).toArray) os) = w2 from hw2.symm] at HE2
    clear hw2
    go_wp2_with fail
    go_ret
    exact HE2.out
theorem values_any (ao : Option Addr) (n cap : Nat) (w : World) : Calls Tryz.prog 171 #[.slice ao n cap] w fun e w' => e = .returned (.func (.func 204) #[] #[.pointer (some ⟨w.heap.size, 0, none⟩)]) ∧ w' = w.alloc (.cells #[.slice ao n cap] 41) := by
  go_enter Tryz.func171, Tryz.ntmps171
  go_wp2_with fail
  go_ret
  exact ⟨rfl, rfl⟩
/-- the list that is cut: what it holds, and that no other block has turned -/
theorem compact_any (base : Nat) (v : Value) (l : List Int) (w : World) (hb : base ≤ w.heap.size) (hN : l.length ≤ 1099511627776) (hown : w.ownsRow base 3 1 v l.length (l.map (Value.int .i64))) :
    Calls Tryz.prog 170 #[v] w fun e w' => ∃ ao cap, e = .returned (.slice ao (Lib.compact l).length cap) ∧ IntsAt w' ao (Lib.compact l) ∧ (Lib.compact l).length ≤ cap ∧ Below base w w' := by
  rcases hown.2 with ⟨rfl, h0⟩ | ⟨g, cap, cur, rfl, hbase, hgb, r1, r2, r3, r4⟩
  · have hl : l = [] := List.eq_nil_of_length_eq_zero h0
    subst hl
    refine (AnyG.slices_Compact_int_empty laysC none 0 w).mono ?_
    rintro e w' ⟨rfl, rfl⟩
    exact ⟨none, 0, rfl, .inl rfl, Nat.le_refl _, Below.refl _ _⟩
  · have hH : Holds (Value.int .i64) w g 0 l.toArray := holds_of_blockI hgb (by simpa using r4)
    have hgl : g < w.heap.size := lt_of_heap hgb
    refine (AnyG.slices_Compact_int laysC g 0 cap l w hH (by omega) r1).mono ?_
    rintro e w' ⟨rfl, q, rfl⟩
    have hlen : (Lib.compact l).length ≤ l.length := by
      unfold Lib.compact Lib.compactUpTo
      rw [List.length_map]
      exact Nat.le_trans (List.length_filter_le _ _) (by rw [List.length_range]; exact Nat.le_refl _)
    have hsz : (Lib.compact l ++ List.replicate (l.length - (Lib.compact l).length) 0).toArray.size = l.toArray.size := by simp; omega
    refine ⟨_, cap, rfl, .inr ⟨⟨g, 0, none⟩, rfl, by simpa using hgl, fun i p hp => ?_⟩, by omega, ?_⟩
    · have hi : i < (Lib.compact l).length := (List.getElem?_eq_some_iff.1 hp).1
      have e1 : ((⟨g, 0, none⟩ : Addr).add i) = ⟨g, 0 + i, none⟩ := by unfold Addr.add; split <;> simp_all
      have h3 := cell?_putRow (Value.int .i64) (Sort.ahead w q) g 0 l.toArray (Lib.compact l ++ List.replicate (l.length - (Lib.compact l).length) 0).toArray hH hsz i (by simp; omega)
      rw [e1, h3]
      congr 2
      simp [List.getElem!_eq_getElem?_getD, List.getElem?_append_left hi, hp]
    · exact (Below.refl base w).grown (grownBy_sortedI (os := #[]) _) hb (fun j hj => by cases hj; exact hbase)
end Go.Proofs.YtdenehnneloegaaGreatDoor
namespace Go.Proofs.YtdenehnneloegaaGreatDoor
open Go.RowKit Go.Shelf
set_option linter.unusedVariables false
/-- the library's table of powers of ten -/
def Pow (w : World) : Prop := Lib.TabIs Tryz.prog w "internal/strconv.uint64pow10" .u64 Lib.pow10Tab
theorem Pow.kept {w w' : World} (h : Pow w) (hB : Below w.heap.size w w') : Pow w' := Lib.tabBelow_of_tabIs h w' hB
theorem Pow.below {w w' : World} {B : Nat} (h : Pow w) (hB : w.heap.size ≤ B) (hb : Below B w w') : Lib.TabBelow Tryz.prog B w' "internal/strconv.uint64pow10" .u64 Lib.pow10Tab :=
  fun w2 h2 => h.kept ((hb.trans h2).mono hB)
def OwnU (w : World) (base : Nat) (v : Value) (l : List UInt8) : Prop := w.ownsRow base 5 1 v l.length (Lib.byteCells l)
theorem OwnU.kept {w w' : World} {base : Nat} {v : Value} {l : List UInt8} (h : OwnU w base v l) (hB : Below w.heap.size w w') : OwnU w' base v l := ownsRow_below h hB
theorem OwnU.slice {w : World} {base : Nat} {v : Value} {l : List UInt8} (h : OwnU w base v l) : ∃ ao cap, v = .slice ao l.length cap := own_slice h
theorem wf_int {c : Int} (h : (Lit.int .i64 c).wf = true) : -9223372036854775808 ≤ c ∧ c ≤ 9223372036854775807 := by
  have h1 : IntKind.i64.min ≤ c ∧ c ≤ IntKind.i64.max := by simpa [Lit.wf] using h
  exact ⟨Int.le_trans (by decide) h1.1, Int.le_trans h1.2 (by decide)⟩
set_option maxRecDepth 100000 in
/-- bytes, as a text -/
theorem conv_any {w : World} {base : Nat} {ao : Option Addr} {cap : Nat} {l : List UInt8} (h : OwnU w base (.slice ao l.length cap) l) : (convert 144 9 (.slice ao l.length cap)).run Tryz.prog w = .ok (.string ⟨l.toArray⟩) w := by
  rcases h.2 with ⟨h0, h1⟩ | ⟨g, cp, cur, h0, -, -, -, -, -, -⟩
  · have hl : l = [] := List.eq_nil_of_length_eq_zero h1
    subst hl
    simp only [List.length_nil, Value.slice.injEq] at h0
    obtain ⟨rfl, -, rfl⟩ := h0
    rw [run_convert_bytes_string w _ _ 5 none _ 0 Tryz.underlying144 Tryz.underlying5 Tryz.underlying9]
    simp [Conv.bytesToString, go_sem]
    rfl
  · simp only [Value.slice.injEq] at h0
    obtain ⟨rfl, -, rfl⟩ := h0
    exact run_convert_bytes_back (P := Tryz.prog) w _ _ 5 ⟨g, 0, none⟩ cap l Tryz.underlying144 Tryz.underlying5 Tryz.underlying9 (fun j hj => h.cells (g := g) rfl j _ (by simp [Lib.byteCells, hj]))
/-- what stands in the text for the first of the columns -/
theorem text_next (rs : List (List ByteArray)) (i : Nat) (cols : List Int) (k : Nat) (c : Int) (hc : cols[k]? = some c) : textL rs i (cols.take (k + 1)) = textL rs i (cols.take k) ++ partL c (cellL rs i c) := by
  obtain ⟨hk, e⟩ := List.getElem?_eq_some_iff.1 hc
  unfold textL
  rw [List.take_succ_eq_append_getElem hk, e, List.flatMap_append]; simp
theorem text_few (rs : List (List ByteArray)) (i : Nat) (cols : List Int) (hs : ∀ r ∈ rs, ∀ c ∈ r, c.size ≤ 1048576) (hw : ∀ c ∈ cols, (Lit.int .i64 c).wf = true) : (textL rs i cols).length ≤ cols.length * 1048640 := by
  induction cols with
  | nil => simp [textL]
  | cons c cols ih =>
    have h1 := ih (fun c hc => hw c (List.mem_cons_of_mem _ hc))
    unfold textL at h1 ⊢
    rw [List.flatMap_cons, List.length_append, List.length_cons]
    have hcell : (cellL rs i c).size ≤ 1048576 := by
      unfold cellL
      split
      · cases hr : rs[(i : Int).toNat]? with
        | none => simp [ByteArray.size]
        | some r =>
          show ((r[c.toNat]?).getD _).size ≤ _
          cases hx : r[c.toNat]? with
          | none => simp [ByteArray.size]
          | some x => exact hs r (List.mem_of_getElem? hr) x (List.mem_of_getElem? hx)
      · simp [ByteArray.size]
    have hwf := hw c List.mem_cons_self
    have hlo : -9223372036854775808 ≤ c ∧ c ≤ 9223372036854775807 := by
      exact wf_int hwf
    have h2 : (partL c (cellL rs i c)).length ≤ 1048640 := by
      unfold partL
      split
      · simp
      · have e1 := Lib.itoa_length_le c hlo.1 hlo.2
        have e2 := Lib.itoa_length_le ((cellL rs i c).size : Int) (by omega) (by omega)
        rw [List.length_append, List.length_cons, List.length_append, List.length_cons, ba_size]; omega
    omega
/-- behind a row's end nothing is written -/
theorem text_end (rs : List (List ByteArray)) (i : Nat) (r : List ByteArray) (hr : rs[i]? = some r) (cols : List Int) (hp : cols.Pairwise (fun a b => a < b)) (k : Nat) (c : Int) (hc : cols[k]? = some c) (hl : (r.length : Int) ≤ c) : textL rs i cols = textL rs i (cols.take k) := by
  have hdrop : textL rs i (cols.drop k) = [] := by
    unfold textL
    rw [List.flatMap_eq_nil_iff]
    intro d hd
    obtain ⟨hk, e⟩ := List.getElem?_eq_some_iff.1 hc
    have hcd : c ≤ d := by
      obtain ⟨j, hj, rfl⟩ := List.mem_iff_getElem.1 hd
      rw [List.getElem_drop]
      rw [List.length_drop] at hj
      by_cases h0 : j = 0
      · subst h0; simp; omega
      · have := List.pairwise_iff_getElem.1 hp k (k + j) hk (by omega) (by omega); omega
    have : cellL rs i d = ⟨#[]⟩ := cellL_col rs i r d hr (by simp; omega)
    unfold partL; rw [this, if_pos rfl]
  have h2 : textL rs i cols = textL rs i (cols.take k) ++ textL rs i (cols.drop k) := by
    unfold textL; rw [← List.flatMap_append, List.take_append_drop]
  rw [h2, hdrop, List.append_nil]
set_option maxRecDepth 100000 in
set_option maxHeartbeats 8000000 in
theorem written_any (ho : Option Addr) (m hc : Nat) (ro : Option Addr) (rc : Nat) (rs : List (List ByteArray)) (i : Nat) (co : Option Addr) (cc : Nat) (cols : List Int) (w : World) (hi : i < rs.length) (hn2 : rs.length ≤ 1099511627776) (hx : ∀ r ∈ rs, r.length ≤ 1099511627776 ∧ ∀ c ∈ r, c.size ≤ 1048576)
    (hcl : cols.length ≤ 1048576) (hp : cols.Pairwise (fun a b => a < b)) (hw : ∀ c ∈ cols, (Lit.int .i64 c).wf = true) (hR : RowsAt w ro rs) (hI : IntsAt w co cols) (hpow : Pow w) :
    Calls Tryz.prog 205 #[.agg #[.slice ho m hc, .slice ro rs.length rc], .int .i64 i, .slice co cols.length cc] w fun e w' => e = .returned (.string ⟨(textL rs i cols).toArray⟩) ∧ Below w.heap.size w w' := by
  have hinfo : (Tryz.prog.info? 5).map (fun i => (i.zero, i.size, i.bytes)) = some (some (.int .u8 0), 1, 1) := by kernel_rfl
  obtain ⟨i0, hi0, hz0, hz1, hz2⟩ := infoK_parts2 hinfo
  have HIN := Lib.hid hi0
  obtain ⟨V, HV⟩ : ∃ V, Hid (V = w.alloc (TabO ho m hc ro rs.length rc)) := ⟨_, Lib.hid rfl⟩
  have HB := Lib.hid (show Below w.heap.size w V by rw [HV.out]; exact one_below w _)
  have HbV := Lib.hid (show V.heap[w.heap.size]? = some (TabO ho m hc ro rs.length rc) by rw [HV.out]; exact World.alloc_heap_new w _)
  have HP := Lib.hid (hpow.kept HB.out)
  have HR := Lib.hid (hR.kept HB.out)
  have HI := Lib.hid (hI.kept HB.out)
  have HX := Lib.hid hx
  have HPW := Lib.hid hp
  have HW := Lib.hid hw
  have HTF := Lib.hid (fun k => text_few rs i (cols.take k) (fun r hr => (hx r hr).2) (fun c hc => hw c (List.mem_of_mem_take hc)))
  obtain ⟨r, hr⟩ : ∃ r, rs[i]? = some r := ⟨_, List.getElem?_eq_getElem hi⟩
  have HRi := Lib.hid hr
  have hlV : w.heap.size < V.heap.size := lt_of_heap HbV.out
  have HlV := Lib.hid hlV
  clear hi0 hinfo hpow hR hI hx hp hw hr
  go_enter Tryz.func205, Tryz.ntmps205
  go_wp2_with fail
  rw [← HV.out]
  go_loopw [7, 13] (fun v j wr => ∃ (k : Nat), k ≤ cols.length ∧ j = .int .i64 k ∧ Hid (OwnU wr V.heap.size v (textL rs i (cols.take k))) ∧ Hid (Below V.heap.size V wr)) (fun _ j _ => cols.length - (intOf j).toNat)
  case atStart => exact ⟨0, Nat.zero_le _, rfl, Lib.hid (World.ownsRow_nil _ _ _ _), Lib.hid (Below.refl _ _)⟩
  case round =>
    obtain ⟨k, hk, rfl, HO, HBr⟩ := hrel
    have hbox := (HBr.out.block _ HlV.out).trans HbV.out
    have bc0 : wr.cell? ⟨w.heap.size, 0, none⟩ = some (.slice ho m hc) := (Lib.cell_of_heap hbox 0).trans rfl
    have bc1 : wr.cell? ⟨w.heap.size, 1, none⟩ = some (.slice ro rs.length rc) := (Lib.cell_of_heap hbox 1).trans rfl
    clear hbox
    by_cases hlt : k < cols.length
    · obtain ⟨c, hcol⟩ : ∃ c, cols[k]? = some c := ⟨_, List.getElem?_eq_getElem hlt⟩
      have HC := Lib.hid hcol
      have HWc := Lib.hid (HW.out c (List.mem_of_getElem? hcol))
      rcases HI.out.kept HBr.out with h0 | ⟨A, rfl, hA, hcell⟩
      · rw [h0] at hlt; simp at hlt
      have cc1 := hcell k c hcol
      rcases HR.out.kept HBr.out with h0 | ⟨A2, rfl, hA2, hcell2⟩
      · rw [h0] at hi; simp at hi
      obtain ⟨ro1, rc1, hc1, hs1⟩ := hcell2 i r HRi.out
      obtain ⟨ao, cap, rfl⟩ := HO.out.slice
      have CT := Lib.hid (tcell_any ho m hc (some A2) rc rs (i : Int) c wr hn2 (fun r hr => ⟨(HX.out r hr).1, fun c hc => Nat.le_trans ((HX.out r hr).2 c hc) (by omega)⟩) (HR.out.kept HBr.out))
      clear hcell hcell2 hs1 hcol
      by_cases hend : (r.length : Int) ≤ c
      · have E := Lib.hid (text_end rs i r HRi.out cols HPW.out k c HC.out hend)
        have HF : Hid (OwnU wr V.heap.size (.slice ao (textL rs i (cols.take k)).length cap) (textL rs i cols) ∧ Below w.heap.size w wr) := Lib.hid ⟨by have := HO.out; rw [← E.out] at this ⊢; exact this, HB.out.trans (HBr.out.mono (by have := HlV.out; omega))⟩
        rw [← E.out] at HF ⊢
        obtain ⟨l, hl⟩ : ∃ l, l = textL rs i cols := ⟨_, rfl⟩
        rw [← hl] at HF ⊢
        have hcv := conv_any HF.out.1
        have HL := Lib.hid hl
        clear HO CT hl E HTF
        go_wp2_with fail
        go_ret
        exact ⟨by rw [← HL.out]; rfl, HF.out.2⟩
      · have hlt3 : c < (r.length : Int) := by omega
        have HTn := Lib.hid (text_next rs i cols k c HC.out)
        have hxs : (cellL rs i c).size ≤ 1048576 := by
          by_cases h0 : 0 ≤ c
          · obtain ⟨j, rfl⟩ := Int.eq_ofNat_of_zero_le h0
            obtain ⟨y, hy⟩ : ∃ y, r[j]? = some y := ⟨_, List.getElem?_eq_getElem (by omega)⟩
            rw [cellL_at rs i j r y HRi.out hy]
            exact (HX.out r (List.mem_of_getElem? HRi.out)).2 y (List.mem_of_getElem? hy)
          · rw [cellL_col rs i r c HRi.out (by simp; omega)]; simp [ByteArray.size]
        have hnl := HTF.out k
        have htl : (cols.take k).length = k := by rw [List.length_take]; omega
        rw [htl] at hnl
        obtain ⟨x, hx⟩ : ∃ x, x = cellL rs i c := ⟨_, rfl⟩
        rw [← hx] at CT HTn hxs
        obtain ⟨l, hl⟩ : ∃ l, l = textL rs i (cols.take k) := ⟨_, rfl⟩
        rw [← hl] at HO HTn hnl ⊢
        clear hx hl htl HTF
        go_wp2_with fail
        refine CT.out.mono ?_
        rintro e w1 ⟨rfl, b1⟩
        have HO1 := Lib.hid (HO.out.kept b1)
        have HB1 := Lib.hid (HBr.out.trans (b1.mono HBr.out.size))
        have hs1 : V.heap.size ≤ w1.heap.size := HB1.out.size
        clear b1 HO bc0 bc1 cc1 hc1
        by_cases hemp : x.toList = []
        · have hem2 : x.toList.isEmpty = true := by rw [hemp]; rfl
          have HTe : Hid (textL rs i (cols.take (k + 1)) = l) := Lib.hid (by rw [HTn.out]; unfold partL; rw [if_pos (by rw [← ba_toList]; exact hemp), List.append_nil])
          clear hemp
          go_wp2_with fail
          go_roundw
          case rel => exact ⟨k + 1, by omega, by go_num, by rw [HTe.out]; exact HO1, HB1⟩
          case measure => simp [intOf]; omega
        · have hem2 : x.toList.isEmpty = false := by cases h : x.toList with | nil => exact absurd h hemp | cons a l => rfl
          have HTe : Hid (textL rs i (cols.take (k + 1)) = l ++ (Lib.itoa c ++ 32 :: (Lib.itoa (x.size : Int) ++ 32 :: x.data.toList))) := Lib.hid (by rw [HTn.out]; unfold partL; rw [if_neg (by rw [← ba_toList]; exact hemp)])
          obtain ⟨wc0, wc1⟩ := wf_int HWc.out
          have la := Lib.itoa_length_le c wc0 wc1
          have lb := Lib.itoa_length_le (x.size : Int) (by omega) (by omega)
          have CA1 := Lib.hid (Any.strconv_AppendInt_10 laysA V.heap.size l.length c wc0 wc1 (.slice ao l.length cap) (Lib.byteCells l) w1 HO1.out hs1 (by omega) (HP.out.below (Nat.le_refl _) HB1.out))
          clear hemp HO1
          go_wp2_with fail
          refine CA1.out.mono ?_
          rintro e w2 ⟨v2, rfl, ho2, hb2, -⟩
          have HOA2 := Lib.hid ho2
          have HB2 := Lib.hid (HB1.out.trans hb2)
          have hs2 : V.heap.size ≤ w2.heap.size := HB2.out.size
          obtain ⟨ao2, cap2, rfl⟩ := own_slice ho2
          clear ho2 hb2 CA1
          go_wp2_with (at_builtin; refine wpList_append_own _ rfl _ _ 144 rfl V.heap.size 5 i0 (.int .u8 0) 1 1 Tryz.underlying144 HIN.out hz0 hz1 hz2 rfl (by decide) _ _ _ rfl (HOA2.out.alloc _) ⟨w2.heap.size, 0, none⟩ 1 1 [Value.int .u8 32] rfl rfl (by intro j u' hj; match j, hj with | 0, hj => simp at hj; subst hj; exact (cell_row (World.alloc_heap_new w2 _) 0).trans rfl) (by intro u' hu; simp at hu; subst hu; rfl) (by unfold maxLen; omega) (by omega) (by simp; omega) ?_)
          intro v3 w3 ho3 hg3 _
          have HB3 := Lib.hid ((HB2.out.alloc hs2 _).grown hg3 (by simp; omega) (fun k hk => (HOA2.out.lt k hk).1))
          have hs3 : V.heap.size ≤ w3.heap.size := HB3.out.size
          have CA2 := Lib.hid (Any.strconv_AppendInt_10 laysA V.heap.size _ (x.size : Int) (by omega) (by omega) v3 _ w3 ho3 hs3 (by omega) (HP.out.below (Nat.le_refl _) HB3.out))
          obtain ⟨ao3, cap3, rfl⟩ := own_slice ho3
          clear ho3 hg3
          go_wp2_with fail
          refine CA2.out.mono ?_
          rintro e w4 ⟨v4, rfl, ho4, hb4, -⟩
          have HOA4 := Lib.hid ho4
          have HB4 := Lib.hid (HB3.out.trans hb4)
          have hs4 : V.heap.size ≤ w4.heap.size := HB4.out.size
          obtain ⟨ao4, cap4, rfl⟩ := own_slice ho4
          clear ho4 hb4 CA2
          go_wp2_with (at_builtin; refine wpList_append_own _ rfl _ _ 144 rfl V.heap.size 5 i0 (.int .u8 0) 1 1 Tryz.underlying144 HIN.out hz0 hz1 hz2 rfl (by decide) _ _ _ rfl (HOA4.out.alloc _) ⟨w4.heap.size, 0, none⟩ 1 1 [Value.int .u8 32] rfl rfl (by intro j u' hj; match j, hj with | 0, hj => simp at hj; subst hj; exact (cell_row (World.alloc_heap_new w4 _) 0).trans rfl) (by intro u' hu; simp at hu; subst hu; rfl) (by unfold maxLen; omega) (by omega) (by simp; omega) ?_)
          intro v5 w5 ho5 hg5 _
          have HB5 := Lib.hid ((HB4.out.alloc hs4 _).grown hg5 (by simp; omega) (fun k hk => (HOA4.out.lt k hk).1))
          have hs5 : V.heap.size ≤ w5.heap.size := HB5.out.size
          have HO5 := Lib.hid ho5
          obtain ⟨ao5, cap5, rfl⟩ := own_slice ho5
          clear ho5 hg5
          go_wp2_with (at_builtin; refine Lib.wpList_append_own_string _ rfl _ _ 144 9 rfl V.heap.size 5 i0 Tryz.underlying144 Tryz.underlying9 HIN.out hz0 hz1 hz2 _ _ _ rfl HO5.out x rfl (by unfold maxLen; omega) (by omega) hs5 ?_)
          intro v6 w6 ho6 hg6 _
          have HB6 := Lib.hid (HB5.out.grown hg6 hs5 (fun k hk => (HO5.out.lt k hk).1))
          have HO6 : Hid (OwnU w6 V.heap.size v6 (l ++ (Lib.itoa c ++ 32 :: (Lib.itoa (x.size : Int) ++ 32 :: x.data.toList)))) := Lib.hid (by
            have e1 : l.length + (Lib.itoa c).length + 1 + (Lib.itoa (x.size : Int)).length + 1 + x.size = (l ++ (Lib.itoa c ++ 32 :: (Lib.itoa (x.size : Int) ++ 32 :: x.data.toList))).length := by
              rw [List.length_append, List.length_append, List.length_cons, List.length_append, List.length_cons, ba_size]; omega
            have e2 : (Lib.byteCells l ++ (Lib.byteCells (Lib.itoa c) ++ Value.int IntKind.u8 32 :: (Lib.byteCells (Lib.itoa (x.size : Int)) ++ Value.int IntKind.u8 32 :: Lib.strCells x))) = Lib.byteCells (l ++ (Lib.itoa c ++ 32 :: (Lib.itoa (x.size : Int) ++ 32 :: x.data.toList))) := by
              simp [Lib.byteCells, Lib.strCells]
            unfold OwnU
            rw [← e1, ← e2]
            exact ho6)
          clear ho6 hg6
          go_wp2_with fail
          go_roundw
          case rel => exact ⟨k + 1, by omega, by go_num, by rw [HTe.out]; exact HO6, HB6⟩
          case measure => simp [intOf]; omega
    · have hke : k = cols.length := by omega
      have E : cols.take k = cols := List.take_of_length_le (by omega)
      rw [E] at HO
      obtain ⟨ao, cap, rfl⟩ := HO.out.slice
      have HF : Hid (OwnU wr V.heap.size (.slice ao (textL rs i cols).length cap) (textL rs i cols) ∧ Below w.heap.size w wr) := Lib.hid ⟨HO.out, HB.out.trans (HBr.out.mono (by have := HlV.out; omega))⟩
      obtain ⟨l, hl⟩ : ∃ l, l = textL rs i cols := ⟨_, rfl⟩
      rw [← hl] at HF ⊢
      have hcv := conv_any HF.out.1
      have HL := Lib.hid hl
      clear HO hl E HTF
      go_wp2_with fail
      go_ret
      exact ⟨by rw [← HL.out]; rfl, HF.out.2⟩
end Go.Proofs.YtdenehnneloegaaGreatDoor
