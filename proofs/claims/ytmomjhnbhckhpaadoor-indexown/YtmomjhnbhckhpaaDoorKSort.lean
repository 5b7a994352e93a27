/-
  Columns, in order and each once, as the program makes them by the library.
  Conditions: lists of at most 2^40 columns.
-/
import Derived.Deep.OwnRows
import Derived.WalkKit
import Derived.WalkMore
import Derived.IntWalk
import Derived.WalkArith
import Derived.OwnWalkIn
import Derived.TacticsInMore
import Derived.LoopNIn
import Derived.LoopIn
import Derived.Lib.Hide
import Derived.RegionTactic
import Derived.Sort.OwnSortedInts
import Derived.Test.YtmomjhnbhckhpaaDoorProg
import Derived.Test.YtmomjhnbhckhpaaDoorPBase
import Derived.Test.YtmomjhnbhckhpaaDoorCsvRange
import Derived.Test.YtmomjhnbhckhpaaDoorTCopy
import Derived.Test.YtmomjhnbhckhpaaDoorKShelf
namespace Go.Proofs.YtmomjhnbhckhpaaDoor
open Go.RowKit Go.Shelf Go.Sort
set_option linter.unusedVariables false
attribute [local go_sem] Oper.semAt_some

theorem info_parts2 {P : Program} {e : TypeId} {z : Option Value} {s b : Nat} (h : (P.info? e).map (fun i => (i.zero, i.size, i.bytes)) = some (z, s, b)) : ∃ i, P.info? e = some i ∧ i.zero = z ∧ i.size = s ∧ i.bytes = b := by
  obtain ⟨i, hi, e'⟩ := Option.map_eq_some_iff.1 h
  simp only [Prod.mk.injEq] at e'
  exact ⟨i, hi, e'⟩

/-! what comes -/
def sortL (l : List Int) : List Int := l.mergeSort fun x y => decide (x ≤ y)
def ownL (l : List Int) : List Int := Lib.compact (sortL l)
theorem sort_len (l : List Int) : (sortL l).length = l.length := by unfold sortL; simp
theorem sort_mem (l : List Int) (c : Int) : c ∈ sortL l ↔ c ∈ l := by unfold sortL; exact List.mem_mergeSort
theorem sort_rises (l : List Int) : (sortL l).Pairwise (fun a b => a ≤ b) := by
  have := List.pairwise_mergeSort (le := fun x y : Int => decide (x ≤ y)) (by intro a b c h k; simp at h k ⊢; omega) (by intro a b; simp; omega) l
  exact this.imp fun h => of_decide_eq_true h
theorem compact_upto (zs : List Int) (hs : zs.Pairwise (fun a b => a ≤ b)) : ∀ m, m ≤ zs.length → (∀ x, x ∈ Lib.compactUpTo zs.toArray m ↔ x ∈ zs.take m) ∧ (Lib.compactUpTo zs.toArray m).Pairwise (fun a b => a < b) := by
  intro m
  induction m with
  | zero => intro _; exact ⟨fun x => by simp [Lib.compactUpTo], by simp [Lib.compactUpTo]⟩
  | succ m ih =>
    intro hm
    obtain ⟨h1, h2⟩ := ih (by omega)
    have hlt : m < zs.length := by omega
    have e0 : zs.toArray[m]! = zs[m] := by simp [getElem!_pos, hlt]
    rw [Lib.compactUpTo_succ]
    have hle : ∀ x ∈ zs.take m, x ≤ zs[m] := fun x hx => by
      obtain ⟨i, hi, rfl⟩ := List.mem_iff_getElem.1 hx
      rw [List.getElem_take]
      rw [List.length_take] at hi
      exact List.pairwise_iff_getElem.1 hs i m (by omega) hlt (by omega)
    have htk : zs.take (m + 1) = zs.take m ++ [zs[m]] := List.take_succ_eq_append_getElem hlt
    by_cases hk : Lib.keeps zs.toArray m = true
    · rw [if_pos hk, e0, htk]
      refine ⟨fun x => by rw [List.mem_append, List.mem_append, h1], ?_⟩
      rw [List.pairwise_append]
      refine ⟨h2, by simp, fun a ha b hb => ?_⟩
      simp only [List.mem_singleton] at hb; subst hb
      have ha' := (h1 a).1 ha
      have := hle a ha'
      unfold Lib.keeps at hk
      have hk := of_decide_eq_true hk
      rcases hk with rfl | hk
      · simp at ha'
      · by_cases hm0 : m = 0
        · subst hm0; simp at ha'
        · have e1 : zs.toArray[m - 1]! = zs[m - 1] := by simp [getElem!_pos, show m - 1 < zs.length by omega]
          rw [e0, e1] at hk
          have h3 : a ≤ zs[m - 1] := by
            obtain ⟨i, hi, rfl⟩ := List.mem_iff_getElem.1 ha'
            rw [List.getElem_take]
            rw [List.length_take] at hi
            by_cases hi2 : i = m - 1
            · subst hi2; exact Int.le_refl _
            · exact List.pairwise_iff_getElem.1 hs i (m - 1) (by omega) (by omega) (by omega)
          have h4 : zs[m - 1] ≤ zs[m] := List.pairwise_iff_getElem.1 hs (m - 1) m (by omega) hlt (by omega)
          omega
    · have hk : Lib.keeps zs.toArray m = false := by cases h : Lib.keeps zs.toArray m <;> simp_all
      rw [hk, htk]
      refine ⟨fun x => ?_, by simpa using h2⟩
      simp only [Bool.false_eq_true, if_false, List.append_nil, List.mem_append, List.mem_singleton]
      rw [h1]
      refine ⟨.inl, ?_⟩
      rintro (h | rfl)
      · exact h
      · unfold Lib.keeps at hk
        have hk := of_decide_eq_false hk
        have hm0 : m ≠ 0 := fun e => hk (.inl e)
        have e1 : zs.toArray[m - 1]! = zs[m - 1] := by simp [getElem!_pos, show m - 1 < zs.length by omega]
        have : zs[m] = zs[m - 1] := by
          rw [e0, e1] at hk
          exact Classical.not_not.1 fun h => hk (.inr h)
        rw [this]
        exact List.mem_iff_getElem.2 ⟨m - 1, by rw [List.length_take]; omega, by rw [List.getElem_take]⟩
theorem own_mem (l : List Int) (c : Int) : c ∈ ownL l ↔ c ∈ l := by
  unfold ownL Lib.compact
  rw [(compact_upto _ (sort_rises l) _ (Nat.le_refl _)).1, List.take_length, sort_mem]
theorem own_rises (l : List Int) : (ownL l).Pairwise (fun a b => a < b) := (compact_upto _ (sort_rises l) _ (Nat.le_refl _)).2
theorem own_nodup (l : List Int) : (ownL l).Nodup := (own_rises l).imp fun h e => by subst e; omega
theorem own_len (l : List Int) : (ownL l).length ≤ l.length := by
  unfold ownL Lib.compact Lib.compactUpTo
  rw [List.length_map]
  exact Nat.le_trans (List.length_filter_le _ _) (by rw [List.length_range, sort_len]; exact Nat.le_refl _)

/-! the iterator -/
def Keeps0 (n0 : Nat) (W W' : World) : Prop := ∀ k, k < n0 → W'.heap[k]? = W.heap[k]?
theorem keeps0_trans {n0 : Nat} {A B C : World} (h : Keeps0 n0 A B) (k : Keeps0 n0 B C) : Keeps0 n0 A C := fun i hi => (k i hi).trans (h i hi)
theorem heap_putL {A : World} {l : Nat} {o o' : Obj} (hl : A.heap[l]? = some o) (ho : o.isCells = false) {b : Nat} {cs : Array Value} {t : TypeId} {fr : Nat × Nat} (h : A.heap[b]? = some (.cells cs t fr)) : (A.putObj l o').heap[b]? = some (.cells cs t fr) := by
  have hne : b ≠ l := by
    rintro rfl
    rw [h] at hl; cases hl; cases ho
  rw [World.putObj_heap_other hne]; exact h
theorem below_putL {n : Nat} {w A : World} {l : Nat} (o' : Obj) (h : Below n w A) (hl : n ≤ l) : Below n w (A.putObj l o') :=
  ⟨h.os, h.tape, h.output, by simpa using h.size, fun k hk => (World.putObj_heap_other (by omega)).trans (h.block k hk)⟩
/-- a list that is boxed and grows -/
structure Growing (w : World) (T E : TypeId) (z : Nat) (cells : List Value) (n : Nat) (W : World) : Prop where
  held : ∃ v, Boxed W w.heap.size T v ∧ W.ownsRow w.heap.size E z v n cells
  below : Below w.heap.size w W
theorem Growing.stays {w : World} {T E : TypeId} {z : Nat} {cells : List Value} {n : Nat} {A B : World} (h : Growing w T E z cells n A) (k : Below A.heap.size A B) : Growing w T E z cells n B := by
  obtain ⟨v, h1, h2⟩ := h.held
  exact ⟨⟨v, below_kept k h1, ownsRow_below h2 k⟩, h.below.trans (k.mono h.below.size)⟩
theorem Growing.apart {w : World} {T E : TypeId} {z : Nat} {cells : List Value} {n : Nat} {A : World} {l : Nat} {o : Obj} (o' : Obj) (h : Growing w T E z cells n A) (hl : w.heap.size ≤ l) (ho : A.heap[l]? = some o) (hc : o.isCells = false) : Growing w T E z cells n (A.putObj l o') := by
  obtain ⟨v, h1, h2⟩ := h.held
  exact ⟨⟨v, heap_putL ho hc h1, ownsRow_putObj h2 o' ho hc⟩, below_putL o' h.below hl⟩

set_option maxRecDepth 100000 in
set_option maxHeartbeats 4000000 in
theorem values1_tells (n : Nat) (ao : Option Addr) (cap : Nat) (l : List Int) (Bs n0 : Nat) (w : World) (hN : l.length ≤ 1099511627776) (hI : IntsAt w ao l) (hbs : w.heap[Bs]? = some (.cells #[.slice ao l.length cap] 26 (0, 0))) (h1 : Bs < n0) (h2 : l = [] ∨ ∀ A, ao = some A → A.block < n0) :
    Tells Fence.wide n Tryd.prog 62 #[.pointer (some ⟨Bs, 0, none⟩)] (fun x : Int => #[Value.int .i64 x]) (Keeps0 n0) (fun pre x _ => pre.length < l.length) (fun _ _ => True) (fun ys => ys = l) (fun _ => True) w := by
  intro lp J Jx W hW hJ hJx hRm hY h0
  have HY := Lib.hid hY
  have HBs := Lib.hid ((hW.block Bs (lt_of_heap hbs)).trans hbs)
  have HI := Lib.hid (hI.kept hW)
  have H0 := Lib.hid h0
  have HSt := Lib.hid hJ
  have H2 := Lib.hid h2
  clear hJ hRm hY hJx hW hbs h0 hI h2
  refine callsIn_of_wp Tryd.func62 rfl trivial ?_ rfl
  simp only [Tryd.ntmps62, List.size_toArray, List.length_cons, List.length_nil, Nat.reduceAdd, Nat.reduceSub, Array.replicate_succ, Array.replicate_zero, List.push_toArray, List.append_toArray, List.nil_append, List.cons_append]
  obtain ⟨c0, _⟩ := cell_of_box_l HBs.out
  gi_wp2_with fail
  gi_loopw [7] (fun i wr => ∃ (k : Nat), k ≤ l.length ∧ i = .int .i64 k ∧ Hid (J (l.take k) wr) ∧ Hid (IntsAt wr ao l)) (fun i _ => l.length - (intOf i).toNat)
  case atStart => exact ⟨0, Nat.zero_le _, rfl, H0, HI⟩
  case round =>
    obtain ⟨k, hk, rfl, HJ, HIr⟩ := hrel
    clear HBs H0 HI c0
    by_cases hlt : k < l.length
    · rcases HIr.out with h | ⟨A, rfl, hA, hcell⟩
      · rw [h] at hlt; simp at hlt
      obtain ⟨x, hx⟩ : ∃ x, l[k]? = some x := ⟨_, List.getElem?_eq_getElem hlt⟩
      have c1 := hcell k x hx
      have htk : l.take (k + 1) = l.take k ++ [x] := by rw [List.take_add_one, hx]; rfl
      have HTK := Lib.hid htk
      obtain ⟨fn, tmps, assign, body, hy, hR⟩ := HY.out (l.take k) x wr HJ.out (by rw [List.length_take]; omega)
      have HR := Lib.hid hR
      have e7 : IntKind.i64.wrap ((k : Int) + 1) = (k : Int) + 1 := IntWalk.i64_in _ (by omega)
      have HIK := Lib.hid (show ∀ B, Keeps0 n0 wr B → IntsAt B (some A) l from fun B hB => by
        have hlt2 : A.block < n0 := by
          rcases H2.out with h | h
          · rw [h] at hlt; simp at hlt
          · exact h A rfl
        have hblk := hB _ hlt2
        refine .inr ⟨A, rfl, ?_, fun i p hp => ?_⟩
        · have := Array.getElem?_eq_some_iff.2 ⟨hA, rfl⟩
          rw [← hblk] at this
          exact (Array.getElem?_eq_some_iff.1 this).1
        · have := hcell i p hp
          have hb : (A.add i).block = A.block := add_block A i
          rw [← this]
          unfold World.cell?
          rw [hb, hblk])
      clear hR hcell htk hx
      gi_wp2_with fail
      refine ⟨(fun h => by cases h), HR.out.mono ?_⟩
      rintro ee W3 (⟨rfl, hJ3, hk3⟩ | ⟨rfl, hJx3⟩)
      · have HJ3 := Lib.hid hJ3
        have HI3 := Lib.hid (HIK.out _ hk3)
        clear hJ3 hk3 hy c1
        gi_wp2_with fail
        go_roundw
        case rel => exact ⟨k + 1, by omega, by go_num, by rw [HTK.out]; exact HJ3, HI3⟩
        case measure => simp [intOf]; omega
      · have HX := Lib.hid hJx3
        clear hJx3
        gi_wp2_with fail
        refine bodyPost_ret (results_none rfl _ _ _) rfl ?_
        exact ⟨⟨_, rfl⟩, .inr ⟨_, trivial, HX.out⟩⟩
    · have E := Lib.hid (show l.take k = l from List.take_of_length_le (by omega))
      gi_wp2_with fail
      go_end0
      exact ⟨⟨_, rfl⟩, .inl ⟨_, E.out, HJ.out⟩⟩

def IntsNew (l : List Int) (w : World) (e : Ending) (w' : World) : Prop := ∃ v, e = .returned v ∧ w'.ownsRow w.heap.size 3 1 v l.length (l.map (Value.int .i64)) ∧ Below w.heap.size w w'

set_option maxRecDepth 100000 in
set_option maxHeartbeats 4000000 in
theorem appendSeq_any (ao : Option Addr) (cap : Nat) (l : List Int) (Bs : Nat) (w : World) (hN : l.length ≤ 1099511627776) (hI : IntsAt w ao l) (hbs : w.heap[Bs]? = some (.cells #[.slice ao l.length cap] 26 (0, 0))) :
    Calls Tryd.prog 76 #[.slice none 0 0, .func (.func 62) #[] #[.pointer (some ⟨Bs, 0, none⟩)]] w (IntsNew l w) := by
  have hinfo : (Tryd.prog.info? 3).map (fun i => (i.zero, i.size, i.bytes)) = some (some (.int .i64 0), 1, 8) := by kernel_rfl
  obtain ⟨i0, hi, hz0, hz1, hz2⟩ := info_parts2 hinfo
  have HIN := Lib.hid hi
  refine (callsIn_wide (n := 4)).1 ?_
  obtain ⟨U, HU⟩ : ∃ U, Hid (U = w.alloc (.cells #[.slice none 0 0] 26)) := ⟨_, Lib.hid rfl⟩
  have hbU : Below w.heap.size w U := by rw [HU.out]; exact (Below.refl _ w).alloc (Nat.le_refl _) _
  have hB1 : U.heap[w.heap.size]? = some (.cells #[.slice none 0 0] 26 (0, 0)) := by rw [HU.out]; exact World.alloc_heap_new _ _
  have hsU : w.heap.size + 1 = U.heap.size := by rw [HU.out]; simp
  have hA : l = [] ∨ ∀ A, ao = some A → A.block < w.heap.size := by
    rcases hI with h | ⟨A, h1, h2, h3⟩
    · exact .inl h
    · exact .inr fun A' h => by rw [h1] at h; cases h; exact h2
  have TL := Lib.hid (values1_tells 3 ao cap l Bs w.heap.size U hN (hI.kept hbU) ((hbU.block _ (lt_of_heap hbs)).trans hbs) (lt_of_heap hbs) hA)
  have H0 : Hid (Growing w 26 3 1 (([] : List Int).map (Value.int .i64)) ([] : List Int).length U) := Lib.hid ⟨⟨_, hB1, World.ownsRow_nil _ _ _ _⟩, hbU⟩
  have HSU := Lib.hid hsU
  clear hbU hB1 hsU hbs hI hi hinfo hA
  refine callsIn_of_wp_marks Tryd.func76 rfl trivial ?_ rfl
  simp only [Tryd.ntmps76, List.size_toArray, List.length_cons, List.length_nil, Nat.reduceAdd, Nat.reduceSub, Array.replicate_succ, Array.replicate_zero, List.push_toArray, List.append_toArray, List.nil_append, List.cons_append]
  gi_wp2_with fail
  rw [← HU.out]
  refine wpIn_range_tells rfl (by decide) (gf := 62) (lb := #[.pointer (some ⟨Bs, 0, none⟩)]) rfl trivial (enters_of Tryd.func62 (by kernel_rfl) rfl)
    TL.out (Below.refl _ _) (fun _ => rfl) keeps0_trans (fun A l o o' hl _ _ k hk => World.putObj_heap_other (by have := HSU.out; omega))
    (fun {A B} hA hAB k hk => hAB.block k (by have := HSU.out; omega))
    (fun pre W => Growing w 26 3 1 (pre.map (Value.int .i64)) pre.length W) (fun _ _ => False) (fun pre A B h k => h.stays k) (fun pre A B h k => h)
    (fun pre A l o o' h hl ho hc => h.apart o' (by have := HSU.out; omega) ho hc) (fun pre A l o o' h hl ho hc => h) (fun _ _ _ => trivial)
    (fun pre x A B h k => h) (fun pre x A l o o' h hl ho hc => h) H0.out
    (fun x a' A => a' = { tmps := #[.slice none 0 0, .func (.func 62) #[] #[.pointer (some ⟨Bs, 0, none⟩)], .pointer (some ⟨w.heap.size, 0, none⟩), undef, .slice none 0 0, .int .i64 x, .func (.func 62) #[] #[.pointer (some ⟨Bs, 0, none⟩)], .int .i64 x, undef, undef, undef, undef, undef], defers := [] })
    (fun x a' A l o o' h hl ho hc => h) ?assign ?body ?done ?stop
  case assign =>
    intro l x A K hA hK
    gi_wp2_with fail
    exact hK _ _ (Below.refl _ A) rfl
  case body =>
    rintro lp pre x a' A hA hI hok1 rfl
    obtain ⟨v, hv, ho⟩ := hI.held
    obtain ⟨ao, cap, rfl⟩ := own_slice ho
    have hI' := Lib.hid hI
    have HO := Lib.hid ho
    have HV := Lib.hid hv
    have HOA : Hid ((A.alloc (.cells #[.int .i64 x] 3)).ownsRow w.heap.size 3 1 (.slice ao pre.length cap) pre.length (pre.map (Value.int .i64))) := Lib.hid (ho.alloc _)
    have cl := hv.cell
    have hws : w.heap.size ≤ A.heap.size := hI.below.size
    clear hI ho hv
    gi_wp2_with (gi_at_builtin; refine wpListIn_append_own _ rfl _ _ 26 rfl w.heap.size 3 i0 (.int .i64 0) 1 8 Tryd.underlying26 HIN.out hz0 hz1 hz2 rfl (by decide) _ _ _ rfl HOA.out ⟨A.heap.size, 0, none⟩ 1 1 [.int .i64 x] rfl rfl ?c1 ?c2 ?c3 ?c4 ?c5 ?_)
    case c1 =>
      intro j u hj
      rw [cell_row (World.alloc_heap_new A _)]
      match j, hj with
      | 0, hj => simp at hj; subst hj; rfl
    case c2 => intro u hu; simp at hu; subst hu; rfl
    case c3 => unfold maxLen; omega
    case c4 => omega
    case c5 => simp; omega
    intro v' w3 hown' hgrow _
    obtain ⟨q1, q2, q3, q4, q5⟩ := Boxed.appended (n₀ := w.heap.size) (size := 1) HV.out (by decide) HO.out hws (Nat.le_refl _) hown' hgrow
    obtain ⟨g2, cp', rfl⟩ := ownsRow_succ hown'
    have k1 := q1.cell
    have k2 := q1.frozen
    have Q : Hid (KeepsOthers A (w3.setCell ⟨w.heap.size, 0, none⟩ (.slice (some ⟨g2, 0, none⟩) (pre.length + 1) cp')) ∧ Keeps0 w.heap.size A (w3.setCell ⟨w.heap.size, 0, none⟩ (.slice (some ⟨g2, 0, none⟩) (pre.length + 1) cp')) ∧ Growing w 26 3 1 ((pre ++ [x]).map (Value.int .i64)) (pre ++ [x]).length (w3.setCell ⟨w.heap.size, 0, none⟩ (.slice (some ⟨g2, 0, none⟩) (pre.length + 1) cp'))) :=
      Lib.hid ⟨q4, fun k hk => q5.block k hk, ⟨⟨_, q2, by rw [List.length_append, List.map_append]; exact q3⟩, hI'.out.below.trans q5⟩⟩
    clear hown' hgrow q1 q2 q3 q4 q5
    gi_wp2_with fail
    exact Q.out
  case done =>
    rintro D ps A hD rfl hI hK
    obtain ⟨v, hv, ho⟩ := hI.held
    have c0 := hv.cell
    have HE : Hid (IntsNew ps w (.returned v) (A.putObj D (.deferred none))) := Lib.hid ⟨_, rfl, ownsRow_putObj ho (.deferred none) hK rfl, below_putL (.deferred none) hI.below (show w.heap.size ≤ D by have := HSU.out; omega)⟩
    obtain ⟨ao, cap, rfl⟩ := own_slice ho
    clear hI ho hv
    gi_wp2_with fail
    refine ⟨by simp, .inl ⟨_, _, rfl, run_takeDeferred hK, ?_⟩⟩
    refine ⟨_, results_tmp rfl _ _ _, ?_⟩
    exact HE.out
  case stop =>
    rintro D pre W _ _ h _
    exact h.elim

set_option maxRecDepth 100000 in
set_option maxHeartbeats 1000000 in
theorem collect_any (ao : Option Addr) (cap : Nat) (l : List Int) (Bs : Nat) (w : World) (hN : l.length ≤ 1099511627776) (hI : IntsAt w ao l) (hbs : w.heap[Bs]? = some (.cells #[.slice ao l.length cap] 26 (0, 0))) :
    Calls Tryd.prog 60 #[.func (.func 62) #[] #[.pointer (some ⟨Bs, 0, none⟩)]] w (IntsNew l w) := by
  have C := Lib.hid (appendSeq_any ao cap l Bs w hN hI hbs)
  clear hI hbs
  go_enter Tryd.func60, Tryd.ntmps60
  go_wp2_with fail
  refine C.out.mono ?_
  rintro e w1 ⟨v, rfl, h2⟩
  have HE : Hid (IntsNew l w (.returned v) w1) := Lib.hid ⟨v, rfl, h2⟩
  obtain ⟨bo, cap, rfl⟩ := own_slice h2.1
  clear h2
  go_wp2_with fail
  go_ret
  exact HE.out

set_option maxRecDepth 100000 in
set_option maxHeartbeats 1000000 in
theorem sorted_any (ao : Option Addr) (cap : Nat) (l : List Int) (Bs : Nat) (w : World) (hN : l.length ≤ 1099511627776) (hI : IntsAt w ao l) (hbs : w.heap[Bs]? = some (.cells #[.slice ao l.length cap] 26 (0, 0))) :
    Calls Tryd.prog 34 #[.func (.func 62) #[] #[.pointer (some ⟨Bs, 0, none⟩)]] w (IntsNew (sortL l) w) := by
  have C := Lib.hid (collect_any ao cap l Bs w hN hI hbs)
  clear hI hbs
  go_enter Tryd.func34, Tryd.ntmps34
  go_wp2_with fail
  refine C.out.mono ?_
  rintro e w1 ⟨v, rfl, hown, hbel⟩
  rcases hown.2 with ⟨rfl, h0⟩ | ⟨g, cap, cur, rfl, hbase, hgb, r1, r2, r3, r4⟩
  · have hl : l = [] := List.eq_nil_of_length_eq_zero h0
    subst hl
    have HE : Hid (IntsNew (sortL []) w (.returned (.slice none 0 0)) w1) := Lib.hid ⟨_, rfl, by simpa [sortL] using hown, hbel⟩
    have S := Lib.hid (AnyM.slices_Sort_int_none laysO none 0 w1)
    clear hown hbel h0
    go_wp2_with fail
    refine S.out.mono ?_
    rintro e w2 ⟨rfl, rfl⟩
    go_wp2_with fail
    go_ret
    exact HE.out
  · have hH : Holds (Value.int .i64) w1 g 0 l.toArray := holds_of_blockI hgb (by simpa using r4)
    have hgl : g < w1.heap.size := lt_of_heap hgb
    have S := Lib.hid (AnyM.slices_Sort_int laysO g 0 cap l w1 hH hgl (by omega))
    have HE : Hid (∀ n os, IntsNew (sortL l) w (.returned (.slice (some ⟨g, 0, none⟩) l.length cap)) (grow (putRow (Value.int .i64) (Sort.ahead w1 n) g 0 (sortL l).toArray) os)) := Lib.hid fun n os =>
      ⟨_, rfl, by rw [sort_len]; exact ownsRow_sortedI (sort_len l) hbase hgb r1 r2 r3, hbel.grown (grownBy_sortedI _) hbel.size (fun j hj => by cases hj; exact hbase)⟩
    clear hown hbel hgb r1 r2 r3 r4 hH hgl
    go_wp2_with fail
    refine S.out.mono ?_
    rintro e w2 ⟨rfl, n, os, hw2⟩
    have HE2 := Lib.hid (HE.out n os)
    rw [show (grow (putRow (Value.int .i64) (Sort.ahead w1 n) g 0 (sortL l).toArray) os) = w2 from hw2.symm] at HE2
    clear hw2
    go_wp2_with fail
    go_ret
    exact HE2.out

theorem values_any (ao : Option Addr) (n cap : Nat) (w : World) : Calls Tryd.prog 35 #[.slice ao n cap] w fun e w' => e = .returned (.func (.func 62) #[] #[.pointer (some ⟨w.heap.size, 0, none⟩)]) ∧ w' = w.alloc (.cells #[.slice ao n cap] 26) := by
  go_enter Tryd.func35, Tryd.ntmps35
  go_wp2_with fail
  go_ret
  exact ⟨rfl, rfl⟩

/-- the list that is cut: what it holds, and that no other block has turned -/
theorem compact_any (base : Nat) (v : Value) (l : List Int) (w : World) (hb : base ≤ w.heap.size) (hN : l.length ≤ 1099511627776) (hown : w.ownsRow base 3 1 v l.length (l.map (Value.int .i64))) :
    Calls Tryd.prog 33 #[v] w fun e w' => ∃ ao cap, e = .returned (.slice ao (Lib.compact l).length cap) ∧ IntsAt w' ao (Lib.compact l) ∧ (Lib.compact l).length ≤ cap ∧ Below base w w' := by
  rcases hown.2 with ⟨rfl, h0⟩ | ⟨g, cap, cur, rfl, hbase, hgb, r1, r2, r3, r4⟩
  · have hl : l = [] := List.eq_nil_of_length_eq_zero h0
    subst hl
    refine (AnyG.slices_Compact_int_empty laysC none 0 w).mono ?_
    rintro e w' ⟨rfl, rfl⟩
    exact ⟨none, 0, rfl, .inl rfl, Nat.le_refl _, Below.refl _ _⟩
  · have hH : Holds (Value.int .i64) w g 0 l.toArray := holds_of_blockI hgb (by simpa using r4)
    have hgl : g < w.heap.size := lt_of_heap hgb
    refine (AnyG.slices_Compact_int laysC g 0 cap l w hH (by omega) r1).mono ?_
    rintro e w' ⟨rfl, q, rfl⟩
    have hlen : (Lib.compact l).length ≤ l.length := by
      unfold Lib.compact Lib.compactUpTo
      rw [List.length_map]
      exact Nat.le_trans (List.length_filter_le _ _) (by rw [List.length_range]; exact Nat.le_refl _)
    have hsz : (Lib.compact l ++ List.replicate (l.length - (Lib.compact l).length) 0).toArray.size = l.toArray.size := by simp; omega
    refine ⟨_, cap, rfl, .inr ⟨⟨g, 0, none⟩, rfl, by simpa using hgl, fun i p hp => ?_⟩, by omega, ?_⟩
    · have hi : i < (Lib.compact l).length := (List.getElem?_eq_some_iff.1 hp).1
      have e1 : ((⟨g, 0, none⟩ : Addr).add i) = ⟨g, 0 + i, none⟩ := by unfold Addr.add; split <;> simp_all
      have h3 := cell?_putRow (Value.int .i64) (Sort.ahead w q) g 0 l.toArray (Lib.compact l ++ List.replicate (l.length - (Lib.compact l).length) 0).toArray hH hsz i (by simp; omega)
      rw [e1, h3]
      congr 2
      simp [List.getElem!_eq_getElem?_getD, List.getElem?_append_left hi, hp]
    · exact (Below.refl base w).grown (grownBy_sortedI (os := #[]) _) hb (fun j hj => by cases hj; exact hbase)
end Go.Proofs.YtmomjhnbhckhpaaDoor
