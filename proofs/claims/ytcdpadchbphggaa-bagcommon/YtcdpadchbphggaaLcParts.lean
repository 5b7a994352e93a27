/-
  A list in pieces, as the library collects them, and as the program asks for them.
  Conditions: lists of at most 4096 numbers.
-/
import Derived.Deep.OwnRows
import Derived.WalkKit
import Derived.WalkMore
import Derived.IntWalk
import Derived.WalkArith
import Derived.OwnWalkIn
import Derived.TacticsInMore
import Derived.LoopNIn
import Derived.LoopIn
import Derived.Lib.Hide
import Derived.RegionTactic
import Derived.Test.YtcdpadchbphggaaProg
import Derived.Test.YtcdpadchbphggaaLcChunk
namespace Go.Proofs.Ytcdpadchbphggaa
open Go.RowKit Go.Shelf
set_option linter.unusedVariables false
attribute [local go_sem] Oper.semAt_some

theorem heap_putL {A : World} {l : Nat} {o o' : Obj} (hl : A.heap[l]? = some o) (ho : o.isCells = false) {b : Nat} {cs : Array Value} {t : TypeId} {fr : Nat × Nat} (h : A.heap[b]? = some (.cells cs t fr)) : (A.putObj l o').heap[b]? = some (.cells cs t fr) := by
  have hne : b ≠ l := by
    rintro rfl
    rw [h] at hl; cases hl; cases ho
  rw [World.putObj_heap_other hne]; exact h
theorem below_putL {n : Nat} {w A : World} {l : Nat} (o' : Obj) (h : Below n w A) (hl : n ≤ l) : Below n w (A.putObj l o') :=
  ⟨h.os, h.tape, h.output, by simpa using h.size, fun k hk => (World.putObj_heap_other (by omega)).trans (h.block k hk)⟩
theorem own_belowL {w w' : World} {base : Nat} {e : TypeId} {size : Nat} {v : Value} {n : Nat} {xs : List Value} (h : w.ownsRow base e size v n xs) (b : Below w.heap.size w w') : w'.ownsRow base e size v n xs := ownsRow_below h b
theorem keeps0_trans {n0 : Nat} {A B C : World} (h : Keeps0 n0 A B) (k : Keeps0 n0 B C) : Keeps0 n0 A C := fun i hi => (k i hi).trans (h i hi)
/-- a list that is boxed and grows -/
structure Growing (w : World) (T E : TypeId) (z : Nat) (cells : List Value) (n : Nat) (W : World) : Prop where
  held : ∃ v, Boxed W w.heap.size T v ∧ W.ownsRow w.heap.size E z v n cells
  below : Below w.heap.size w W
theorem Growing.stays {w : World} {T E : TypeId} {z : Nat} {cells : List Value} {n : Nat} {A B : World} (h : Growing w T E z cells n A) (k : Below A.heap.size A B) : Growing w T E z cells n B := by
  obtain ⟨v, h1, h2⟩ := h.held
  exact ⟨⟨v, below_kept k h1, ownsRow_below h2 k⟩, h.below.trans (k.mono h.below.size)⟩
theorem Growing.apart {w : World} {T E : TypeId} {z : Nat} {cells : List Value} {n : Nat} {A : World} {l : Nat} {o : Obj} (o' : Obj) (h : Growing w T E z cells n A) (hl : w.heap.size ≤ l) (ho : A.heap[l]? = some o) (hc : o.isCells = false) : Growing w T E z cells n (A.putObj l o') := by
  obtain ⟨v, h1, h2⟩ := h.held
  exact ⟨⟨v, heap_putL ho hc h1, ownsRow_putObj h2 o' ho hc⟩, below_putL o' h.below hl⟩
def cutV (g : Nat) (x : Nat × Nat) : Value := .slice (some ⟨g, x.1, none⟩) x.2 x.2
theorem cut_len (l : List Int) (x : Nat × Nat) (h : x.1 + x.2 ≤ l.length) : (cutOf l x).length = x.2 := by simp [cutOf]; omega
theorem cut_nums {w : World} {g : Nat} {l : List Int} (h : NumsAt w (some ⟨g, 0, none⟩) l) (x : Nat × Nat) (hx : x.1 + x.2 ≤ l.length) : NumsAt w (some ⟨g, x.1, none⟩) (cutOf l x) := by
  rcases h with h | ⟨b, o, h1, h2, h3⟩
  · subst h; exact .inl (by simp [cutOf])
  · cases h1
    refine .inr ⟨g, x.1, rfl, h2, fun i p hp => ?_⟩
    have : l[x.1 + i]? = some p := by
      unfold cutOf at hp
      rw [List.getElem?_take] at hp
      split at hp
      · rw [List.getElem?_drop] at hp; exact hp
      · cases hp
    have := h3 _ _ this
    rwa [Nat.zero_add] at this
theorem cut_grid {w : World} {base g : Nat} {l : List Int} {v : Value} {ps : List (Nat × Nat)} (h : w.ownsRow base 35 1 v ps.length (ps.map (cutV g))) (hl : NumsAt w (some ⟨g, 0, none⟩) l) (hw : ∀ x ∈ ps, x.1 + x.2 ≤ l.length) : ∃ ao cap, v = .slice ao ps.length cap ∧ GridAt w ao (ps.map (cutOf l)) := by
  rcases h.2 with ⟨rfl, h0⟩ | ⟨g', cap, cur, rfl, _, hgb, _⟩
  · have : ps = [] := List.eq_nil_of_length_eq_zero h0
    subst this
    exact ⟨none, 0, rfl, .inl rfl⟩
  · refine ⟨_, cap, rfl, .inr ⟨g', rfl, ⟨_, _, hgb⟩, fun i r hr => ?_⟩⟩
    rw [List.getElem?_map] at hr
    obtain ⟨x, hx, rfl⟩ := Option.map_eq_some_iff.1 hr
    have hxw := hw x (List.mem_of_getElem? hx)
    have hc := h.cells rfl i _ (show (ps.map (cutV g))[i]? = some (cutV g x) by rw [List.getElem?_map, hx]; rfl)
    have e : (⟨g', 0, none⟩ : Addr).add i = ⟨g', i, none⟩ := by unfold Addr.add; split <;> simp_all
    rw [e] at hc
    exact ⟨some ⟨g, x.1, none⟩, x.2, by rw [hc, cut_len l x hxw]; rfl, cut_nums hl x hxw⟩
def PartsOut (l : List Int) (w : World) (e : Ending) (w' : World) : Prop := ∃ (ps : List (Nat × Nat)) (ao : Option Addr) (cap : Nat), Chunks l ps ∧ e = .returned (.slice ao ps.length cap) ∧ GridAt w' ao (ps.map (cutOf l)) ∧ Below w.heap.size w w'

set_option maxRecDepth 100000 in
set_option maxHeartbeats 4000000 in
theorem appendSeq_any (g lg : Nat) (l : List Int) (Bs Bn : Nat) (w : World) (hN : l.length ≤ 4096) (hlg : 1 ≤ lg) (hlg2 : lg ≤ 4096) (hl : NumsAt w (some ⟨g, 0, none⟩) l) (hbs : w.heap[Bs]? = some (.cells #[.slice (some ⟨g, 0, none⟩) l.length l.length] 35 (0, 0))) (hbn : w.heap[Bn]? = some (.cells #[.int .i64 lg] 3 (0, 0))) :
    Calls Try.prog 26 #[.slice none 0 0, .func (.func 27) #[] #[.pointer (some ⟨Bs, 0, none⟩), .pointer (some ⟨Bn, 0, none⟩)]] w (PartsOut l w) := by
  have hinfo : (Try.prog.info? 35).map (fun i => (i.zero, i.size, i.bytes)) = some (some (.slice none 0 0), 1, 24) := by kernel_rfl
  obtain ⟨i0, hi, hz0, hz1, hz2⟩ := info_parts2 hinfo
  have HIN := Lib.hid hi
  refine (callsIn_wide (n := 4)).1 ?_
  obtain ⟨U, HU⟩ : ∃ U, Hid (U = w.alloc (.cells #[.slice none 0 0] 38)) := ⟨_, Lib.hid rfl⟩
  have hbU : Below w.heap.size w U := by rw [HU.out]; exact (Below.refl _ w).alloc (Nat.le_refl _) _
  have hB1 : U.heap[w.heap.size]? = some (.cells #[.slice none 0 0] 38 (0, 0)) := by rw [HU.out]; exact World.alloc_heap_new _ _
  have hsU : w.heap.size + 1 = U.heap.size := by rw [HU.out]; simp
  have TL := Lib.hid (chunk1_tells 3 g lg l Bs Bn w.heap.size U hN hlg hlg2 ((hbU.block _ (lt_of_heap hbs)).trans hbs) ((hbU.block _ (lt_of_heap hbn)).trans hbn) (lt_of_heap hbs) (lt_of_heap hbn))
  have H0 : Hid (Growing w 38 35 1 (([] : List (Nat × Nat)).map (cutV g)) ([] : List (Nat × Nat)).length U) := Lib.hid ⟨⟨_, hB1, World.ownsRow_nil _ _ _ _⟩, hbU⟩
  have HSU := Lib.hid hsU
  have HL := Lib.hid hl
  clear hbU hB1 hsU hbs hbn hl hi hinfo
  refine callsIn_of_wp_marks Try.func26 rfl trivial ?_ rfl
  simp only [Try.ntmps26, List.size_toArray, List.length_cons, List.length_nil, Nat.reduceAdd, Nat.reduceSub, Array.replicate_succ, Array.replicate_zero, List.push_toArray, List.append_toArray, List.nil_append, List.cons_append]
  gi_wp2_with fail
  rw [← HU.out]
  refine wpIn_range_tells rfl (by decide) (gf := 27) (lb := #[.pointer (some ⟨Bs, 0, none⟩), .pointer (some ⟨Bn, 0, none⟩)]) rfl trivial (enters_of Try.func27 (by kernel_rfl) rfl)
    TL.out (Below.refl _ _) (fun _ => rfl) keeps0_trans (fun A l o o' hl _ _ k hk => World.putObj_heap_other (by have := HSU.out; omega))
    (fun {A B} hA hAB k hk => hAB.block k (by have := HSU.out; omega))
    (fun pre W => Growing w 38 35 1 (pre.map (cutV g)) pre.length W) (fun _ _ => False) (fun pre A B h k => h.stays k) (fun pre A B h k => h)
    (fun pre A l o o' h hl ho hc => h.apart o' (by have := HSU.out; omega) ho hc) (fun pre A l o o' h hl ho hc => h) (fun _ _ _ => trivial)
    (fun pre x A B h k => h) (fun pre x A l o o' h hl ho hc => h) H0.out
    (fun x a' A => a' = { tmps := #[.slice none 0 0, .func (.func 27) #[] #[.pointer (some ⟨Bs, 0, none⟩), .pointer (some ⟨Bn, 0, none⟩)], .pointer (some ⟨w.heap.size, 0, none⟩), undef, .slice none 0 0, cutV g x, .func (.func 27) #[] #[.pointer (some ⟨Bs, 0, none⟩), .pointer (some ⟨Bn, 0, none⟩)], cutV g x, undef, undef, undef, undef, undef], defers := [] })
    (fun x a' A l o o' h hl ho hc => h) ?assign ?body ?done ?stop
  case assign =>
    intro l x A K hA hK
    gi_wp2_with fail
    exact hK _ _ (Below.refl _ A) rfl
  case body =>
    rintro lp pre x a' A hA hI ⟨hok1, hok2⟩ rfl
    obtain ⟨v, hv, ho⟩ := hI.held
    obtain ⟨ao, cap, rfl⟩ := own_slice ho
    have hI' := Lib.hid hI
    have HO := Lib.hid ho
    have HV := Lib.hid hv
    have HOA : Hid ((A.alloc (.cells #[.slice (some ⟨g, x.1, none⟩) x.2 x.2] 35)).ownsRow w.heap.size 35 1 (.slice ao pre.length cap) pre.length (pre.map (cutV g))) := Lib.hid (ho.alloc _)
    have cl := hv.cell
    have hws : w.heap.size ≤ A.heap.size := hI.below.size
    clear hI ho hv
    unfold cutV
    gi_wp2_with (gi_at_builtin; refine wpListIn_append_own _ rfl _ _ 38 rfl w.heap.size 35 i0 (.slice none 0 0) 1 24 Try.underlying38 HIN.out hz0 hz1 hz2 rfl (by decide) _ _ _ rfl HOA.out ⟨A.heap.size, 0, none⟩ 1 1 [.slice (some ⟨g, x.1, none⟩) x.2 x.2] rfl rfl ?c1 ?c2 ?c3 ?c4 ?c5 ?_)
    case c1 =>
      intro j u hj
      rw [cell_row (World.alloc_heap_new A _)]
      match j, hj with
      | 0, hj => simp at hj; subst hj; rfl
    case c2 => intro u hu; simp at hu; subst hu; rfl
    case c3 => unfold maxLen; omega
    case c4 => omega
    case c5 => simp; omega
    intro v' w3 hown' hgrow _
    obtain ⟨q1, q2, q3, q4, q5⟩ := Boxed.appended (n₀ := w.heap.size) (size := 1) HV.out (by decide) HO.out hws (Nat.le_refl _) hown' hgrow
    obtain ⟨g2, cp', rfl⟩ := ownsRow_succ hown'
    have k1 := q1.cell
    have k2 := q1.frozen
    have Q : Hid (KeepsOthers A (w3.setCell ⟨w.heap.size, 0, none⟩ (.slice (some ⟨g2, 0, none⟩) (pre.length + 1) cp')) ∧ Keeps0 w.heap.size A (w3.setCell ⟨w.heap.size, 0, none⟩ (.slice (some ⟨g2, 0, none⟩) (pre.length + 1) cp')) ∧ Growing w 38 35 1 ((pre ++ [x]).map (cutV g)) (pre ++ [x]).length (w3.setCell ⟨w.heap.size, 0, none⟩ (.slice (some ⟨g2, 0, none⟩) (pre.length + 1) cp'))) :=
      Lib.hid ⟨q4, fun k hk => q5.block k hk, ⟨⟨_, q2, by rw [List.length_append, List.map_append]; exact q3⟩, hI'.out.below.trans q5⟩⟩
    clear hown' hgrow q1 q2 q3 q4 q5
    gi_wp2_with fail
    exact Q.out
  case done =>
    rintro D ps A hD hS hI hK
    obtain ⟨v, hv, ho⟩ := hI.held
    have c0 := hv.cell
    obtain ⟨ao, cap, rfl, hg⟩ := cut_grid ho (HL.out.kept hI.below) hS.within
    have HE : Hid (PartsOut l w (.returned (.slice ao ps.length cap)) (A.putObj D (.deferred none))) := Lib.hid (by
      have ho2 := ownsRow_putObj ho (.deferred none) hK rfl
      have hb2 := below_putL (.deferred none) hI.below (show w.heap.size ≤ D by have := HSU.out; omega)
      obtain ⟨ao2, cap2, he, hg2⟩ := cut_grid ho2 (HL.out.kept hb2) hS.within
      cases he
      exact ⟨ps, _, _, hS, rfl, hg2, hb2⟩)
    clear hI ho hv hg hS
    gi_wp2_with fail
    refine ⟨by simp, .inl ⟨_, _, rfl, run_takeDeferred hK, ?_⟩⟩
    refine ⟨_, results_tmp rfl _ _ _, ?_⟩
    exact HE.out
  case stop =>
    rintro D pre W _ _ h _
    exact h.elim

set_option maxRecDepth 100000 in
set_option maxHeartbeats 1000000 in
theorem collect_any (g lg : Nat) (l : List Int) (Bs Bn : Nat) (w : World) (hN : l.length ≤ 4096) (hlg : 1 ≤ lg) (hlg2 : lg ≤ 4096) (hl : NumsAt w (some ⟨g, 0, none⟩) l) (hbs : w.heap[Bs]? = some (.cells #[.slice (some ⟨g, 0, none⟩) l.length l.length] 35 (0, 0))) (hbn : w.heap[Bn]? = some (.cells #[.int .i64 lg] 3 (0, 0))) :
    Calls Try.prog 24 #[.func (.func 27) #[] #[.pointer (some ⟨Bs, 0, none⟩), .pointer (some ⟨Bn, 0, none⟩)]] w (PartsOut l w) := by
  have C := Lib.hid (appendSeq_any g lg l Bs Bn w hN hlg hlg2 hl hbs hbn)
  clear hl hbs hbn
  go_enter Try.func24, Try.ntmps24
  go_wp2_with fail
  refine C.out.mono ?_
  rintro e w1 ⟨ps, ao, cap, h1, rfl, h2, h3⟩
  have HE : Hid (PartsOut l w (.returned (.slice ao ps.length cap)) w1) := Lib.hid ⟨ps, ao, cap, h1, rfl, h2, h3⟩
  clear h1 h2 h3
  go_wp2_with fail
  go_ret
  exact HE.out

set_option maxRecDepth 100000 in
set_option maxHeartbeats 1000000 in
theorem chunk_any (vo : Option Addr) (vn vc : Nat) (lg : Nat) (w : World) (hlg : 1 ≤ lg) (hlg2 : lg ≤ 4096) :
    Calls Try.prog 25 #[.slice vo vn vc, .int .i64 lg] w fun e w' => e = .returned (.func (.func 27) #[] #[.pointer (some ⟨w.heap.size, 0, none⟩), .pointer (some ⟨w.heap.size + 1, 0, none⟩)]) ∧ w' = (w.alloc (.cells #[.slice vo vn vc] 35)).alloc (.cells #[.int .i64 lg] 3) := by
  have h1 : ¬ lg < 1 := by omega
  go_enter Try.func25, Try.ntmps25
  go_wp2_with fail
  go_ret
  exact ⟨rfl, rfl⟩

set_option maxRecDepth 100000 in
set_option maxHeartbeats 1000000 in
theorem parts_any (g : Nat) (l : List Int) (w : World) (hN : l.length ≤ 4096) (hl : NumsAt w (some ⟨g, 0, none⟩) l) :
    Calls Try.prog 21 #[.slice (some ⟨g, 0, none⟩) l.length l.length] w (PartsOut l w) := by
  have HL := Lib.hid hl
  clear hl
  go_enter Try.func21, Try.ntmps21
  go_wp2_with fail
  go_loopw [3] (fun i wr => ∃ k : Nat, 1 ≤ k ∧ k ≤ l.length + 1 ∧ k ≤ 4096 ∧ i = .int .i64 k ∧ wr = w) (fun i _ => l.length + 2 - (intOf i).toNat)
  case atStart => exact ⟨1, by omega, by omega, by omega, rfl, rfl⟩
  case round =>
    obtain ⟨k, h1, h2, h3, rfl, rfl⟩ := hrel
    obtain ⟨q, hq⟩ : ∃ q, q = k * k := ⟨_, rfl⟩
    have hq2 : (k : Int) * (k : Int) = (q : Int) := by rw [hq]; rfl
    have hqb : q ≤ 4096 * 4096 := by rw [hq]; exact Nat.mul_le_mul h3 h3
    have hkq : k ≤ q := by rw [hq]; exact Nat.le_mul_of_pos_left k (by omega)
    have hwq : IntKind.i64.wrap (q : Int) = (q : Int) := IntWalk.i64_in _ (by omega)
    clear hq
    by_cases hlt : q < l.length
    · go_wp2_with fail
      go_roundw
      case rel => exact ⟨k + 1, by omega, by omega, by omega, by go_num, by trivial⟩
      case measure => simp [intOf]; omega
    · have C1 := Lib.hid (chunk_any (some ⟨g, 0, none⟩) l.length l.length k wr h1 h3)
      obtain ⟨V, HV⟩ : ∃ V, Hid (V = (wr.alloc (.cells #[.slice (some ⟨g, 0, none⟩) l.length l.length] 35)).alloc (.cells #[.int .i64 k] 3)) := ⟨_, Lib.hid rfl⟩
      rw [← HV.out] at C1
      have b1 : Below wr.heap.size wr V := by rw [HV.out]; exact two_below _ _ _
      have hn := two_new wr (.cells #[.slice (some ⟨g, 0, none⟩) l.length l.length] 35) (.cells #[.int .i64 k] 3)
      rw [← HV.out] at hn
      have C2 := Lib.hid (collect_any g k l wr.heap.size (wr.heap.size + 1) V hN h1 h3 (HL.out.kept b1) hn.2.1 hn.2.2)
      have HB1 := Lib.hid b1
      clear hn b1 HV
      go_wp2_with fail
      refine C1.out.mono ?_
      rintro e w1 ⟨rfl, rfl⟩
      go_wp2_with fail
      refine C2.out.mono ?_
      rintro e w1 ⟨ps, ao, cap, h1, rfl, h2, h3⟩
      have HE : Hid (PartsOut l wr (.returned (.slice ao ps.length cap)) w1) := Lib.hid ⟨ps, ao, cap, h1, rfl, h2, below_up HB1.out h3⟩
      clear h1 h2 h3
      go_wp2_with fail
      go_ret
      exact HE.out
end Go.Proofs.Ytcdpadchbphggaa
