/-
  Texts of these rows' proofs, laid one behind the other: LcChunk, LcParts, LcLen.
  Conditions: those of each theorem.
-/
import Derived.Deep.OwnRows
import Derived.WalkKit
import Derived.WalkMore
import Derived.IntWalk
import Derived.WalkArith
import Derived.OwnWalkIn
import Derived.TacticsInMore
import Derived.LoopNIn
import Derived.LoopIn
import Derived.Lib.Hide
import Derived.RegionTactic
import Derived.Test.YtdenehnneloegaaGreatDoorProg
import Derived.Test.YtdenehnneloegaaGreatDoorPb8
import Derived.Test.YtdenehnneloegaaGreatDoorPb1
import Derived.Deep.Cut
import Derived.BigQuiet
import Derived.Deep.QuietTactic
namespace Go.Proofs.YtdenehnneloegaaGreatDoor
open Go.RowKit Go.Shelf
set_option linter.unusedVariables false
attribute [local go_sem] Oper.semAt_some
def Keeps0 (n0 : Nat) (W W' : World) : Prop := ∀ k, k < n0 → W'.heap[k]? = W.heap[k]?
def cutOf (l : List Int) (x : Nat × Nat) : List Int := (l.drop x.1).take x.2
def ChunkOk (l : List Int) (pre : List (Nat × Nat)) (x : Nat × Nat) : Prop := pre.length < l.length ∧ x.1 + x.2 ≤ l.length
/-- pieces that make up a list -/
structure Chunks (l : List Int) (ps : List (Nat × Nat)) : Prop where
  all : (ps.map (cutOf l)).flatten = l
  few : ps.length ≤ l.length
  within : ∀ x ∈ ps, x.1 + x.2 ≤ l.length
/-- pieces of the first k -/
structure ChunksTo (l : List Int) (ps : List (Nat × Nat)) (k : Nat) : Prop where
  all : (ps.map (cutOf l)).flatten = l.take k
  few : ps.length ≤ k
  few2 : ps.length ≤ l.length
  within : ∀ x ∈ ps, x.1 + x.2 ≤ l.length
theorem ChunksTo.done {l : List Int} {ps : List (Nat × Nat)} {k : Nat} (h : ChunksTo l ps k) (hk : l.length ≤ k) : Chunks l ps := ⟨by rw [h.all, List.take_of_length_le hk], h.few2, h.within⟩
theorem ChunksTo.next {l : List Int} {ps : List (Nat × Nat)} {k lg e : Nat} (h : ChunksTo l ps k) (hk : k < l.length) (h1 : 1 ≤ lg) (he : e = min lg (l.length - k)) : ChunksTo l (ps ++ [(k, e)]) (k + lg) := by
  refine ⟨?_, by simp; have := h.few; omega, by simp; have := h.few; omega, fun x hx => ?_⟩
  · rw [List.map_append, List.flatten_append, h.all]
    simp only [List.map_cons, List.map_nil, List.flatten_cons, List.flatten_nil, List.append_nil, cutOf]
    rw [List.take_add]
    congr 1
    subst he
    by_cases hl : lg ≤ l.length - k
    · rw [Nat.min_eq_left hl]
    · rw [Nat.min_eq_right (by omega), List.take_of_length_le (by simp), List.take_of_length_le (by simp; omega)]
  · rcases List.mem_append.1 hx with hx | hx
    · exact h.within x hx
    · simp at hx; subst hx; simp only; omega
set_option maxRecDepth 100000 in
set_option maxHeartbeats 4000000 in
theorem chunk1_tells (n g lg : Nat) (l : List Int) (Bs Bn n0 : Nat) (w : World) (hN : l.length ≤ 4096) (hlg : 1 ≤ lg) (hlg2 : lg ≤ 4096) (hbs : w.heap[Bs]? = some (.cells #[.slice (some ⟨g, 0, none⟩) l.length l.length] 41 (0, 0))) (hbn : w.heap[Bn]? = some (.cells #[.int .i64 lg] 3 (0, 0))) (h1 : Bs < n0) (h2 : Bn < n0) :
    Tells Fence.wide n Tryz.prog 216 #[.pointer (some ⟨Bs, 0, none⟩), .pointer (some ⟨Bn, 0, none⟩)] (fun x : Nat × Nat => #[Value.slice (some ⟨g, x.1, none⟩) x.2 x.2]) (Keeps0 n0) (fun pre x _ => ChunkOk l pre x) (fun _ _ => True) (Chunks l) (fun _ => True) w := by
  intro lp J Jx W hW hJ hJx hRm hY h0
  have HY := Lib.hid hY
  have HBs := Lib.hid ((hW.block Bs (lt_of_heap hbs)).trans hbs)
  have HBn := Lib.hid ((hW.block Bn (lt_of_heap hbn)).trans hbn)
  have H0 := Lib.hid h0
  have HSt := Lib.hid hJ
  clear hJ hRm hY hJx hW hbs hbn h0
  refine callsIn_of_wp Tryz.func216 rfl trivial ?_ rfl
  simp only [Tryz.ntmps216, List.size_toArray, List.length_cons, List.length_nil, Nat.reduceAdd, Nat.reduceSub, Array.replicate_succ, Array.replicate_zero, List.push_toArray, List.append_toArray, List.nil_append, List.cons_append]
  gi_wp2_with fail
  gi_loopw [4] (fun i wr => ∃ (k : Nat) (pre : List (Nat × Nat)), k ≤ 8192 ∧ i = .int .i64 k ∧ Hid (J pre wr) ∧ Hid (ChunksTo l pre k) ∧ Hid (wr.heap[Bs]? = some (.cells #[.slice (some ⟨g, 0, none⟩) l.length l.length] 41 (0, 0))) ∧ Hid (wr.heap[Bn]? = some (.cells #[.int .i64 lg] 3 (0, 0)))) (fun i _ => l.length - (intOf i).toNat)
  case atStart => exact ⟨0, [], Nat.zero_le _, rfl, H0, Lib.hid ⟨by simp, by simp, by simp, fun x hx => by cases hx⟩, HBs, HBn⟩
  case round =>
    obtain ⟨k, pre, hk, rfl, HJ, HC, HS, HN⟩ := hrel
    obtain ⟨c1, _⟩ := cell_of_box_l HS.out
    obtain ⟨c2, _⟩ := cell_of_box_l HN.out
    clear HBs HBn H0
    by_cases hlt : k < l.length
    · obtain ⟨z, hz⟩ : ∃ z, l.length - k = z := ⟨_, rfl⟩
      have hz1 : 1 ≤ z := by omega
      have hk1 : (0 : Int) ≤ (k : Int) := by omega
      have hk2 : (k : Int) ≤ (l.length : Int) := by omega
      gi_wp2_with fail
      refine wpIn_wide.2 ?_
      go_region
      obtain ⟨e, he, heq⟩ : ∃ e : Nat, (if z < lg then (z : Int) else (lg : Int)) = (e : Int) ∧ e = min lg (l.length - k) := by
        by_cases h : z < lg
        · exact ⟨z, by rw [if_pos h], by omega⟩
        · exact ⟨lg, by rw [if_neg h], by omega⟩
      first | rw [he] | rw [show min (lg : Int) (z : Int) = (e : Int) from by rw [← he]; split <;> omega]
      obtain ⟨U, hU⟩ : ∃ U, U = wr.drew := ⟨_, rfl⟩
      have c3 : U.cell? ⟨Bs, 0, none⟩ = some (.slice (some ⟨g, 0, none⟩) l.length l.length) := by rw [hU]; exact c1
      have c4 : U.cell? ⟨Bn, 0, none⟩ = some (.int .i64 lg) := by rw [hU]; exact c2
      have HU : Hid (U = wr.drew) := Lib.hid hU
      have HJU : Hid (J pre U) := Lib.hid (by rw [hU]; exact HSt.out pre wr wr.drew HJ.out ((Below.refl _ wr).drew))
      have HCn := Lib.hid (HC.out.next hlt hlg heq)
      have hke : k + e ≤ l.length := by omega
      have hpl : pre.length < l.length := by have := HC.out.few; omega
      obtain ⟨fn, tmps, assign, body, hy, hR⟩ := HY.out pre (k, e) U HJU.out ⟨hpl, hke⟩
      have HR := Lib.hid hR
      have e1 : ((k : Int) + (e : Int)).toNat = k + e := by omega
      have e2 : k + e - k = e := by omega
      have e3 : IntKind.i64.wrap ((k : Int) + (e : Int)) = (k : Int) + (e : Int) := IntWalk.i64_in _ (by omega)
      have e4 : (k : Int) + (e : Int) ≤ (l.length : Int) := by omega
      have e5 : (0 : Int) ≤ (e : Int) := by omega
      have e6 : 1 ≤ e := by omega
      rw [← hU]
      clear hU hR c1 c2 he heq hz hz1 hpl
      gi_wp2_with fail
      refine ⟨(fun h => by cases h), HR.out.mono ?_⟩
      rintro ee W3 (⟨rfl, hJ3, hk3⟩ | ⟨rfl, hJx3⟩)
      · have HJ3 := Lib.hid hJ3
        have hs3 : W3.heap[Bs]? = some (.cells #[.slice (some ⟨g, 0, none⟩) l.length l.length] 41 (0, 0)) := (hk3 Bs h1).trans (by rw [HU.out]; exact HS.out)
        have hn3 : W3.heap[Bn]? = some (.cells #[.int .i64 lg] 3 (0, 0)) := (hk3 Bn h2).trans (by rw [HU.out]; exact HN.out)
        obtain ⟨c5, _⟩ := cell_of_box_l hn3
        have HS3 := Lib.hid hs3
        have HN3 := Lib.hid hn3
        have e7 : IntKind.i64.wrap ((k : Int) + (lg : Int)) = (k : Int) + (lg : Int) := IntWalk.i64_in _ (by omega)
        clear hJ3 hk3 hs3 hn3 c3 c4 hy e1 e2 e3 e4 e5
        gi_wp2_with fail
        go_roundw
        case rel => exact ⟨k + lg, pre ++ [(k, e)], by omega, by go_num, HJ3, HCn, HS3, HN3⟩
        case measure => simp [intOf]; omega
      · have HX := Lib.hid hJx3
        clear hJx3
        gi_wp2_with fail
        refine bodyPost_ret (results_none rfl _ _ _) rfl ?_
        exact ⟨⟨_, rfl⟩, .inr ⟨_, trivial, HX.out⟩⟩
    · have E := Lib.hid (HC.out.done (by omega))
      gi_wp2_with fail
      go_end0
      exact ⟨⟨_, rfl⟩, .inl ⟨_, E.out, HJ.out⟩⟩
end Go.Proofs.YtdenehnneloegaaGreatDoor
namespace Go.Proofs.YtdenehnneloegaaGreatDoor
open Go.RowKit Go.Shelf
set_option linter.unusedVariables false
attribute [local go_sem] Oper.semAt_some
theorem heap_putL {A : World} {l : Nat} {o o' : Obj} (hl : A.heap[l]? = some o) (ho : o.isCells = false) {b : Nat} {cs : Array Value} {t : TypeId} {fr : Nat × Nat} (h : A.heap[b]? = some (.cells cs t fr)) : (A.putObj l o').heap[b]? = some (.cells cs t fr) := by
  have hne : b ≠ l := by
    rintro rfl
    rw [h] at hl; cases hl; cases ho
  rw [World.putObj_heap_other hne]; exact h
theorem below_putL {n : Nat} {w A : World} {l : Nat} (o' : Obj) (h : Below n w A) (hl : n ≤ l) : Below n w (A.putObj l o') :=
  ⟨h.os, h.tape, h.output, by simpa using h.size, fun k hk => (World.putObj_heap_other (by omega)).trans (h.block k hk)⟩
theorem keeps0_trans {n0 : Nat} {A B C : World} (h : Keeps0 n0 A B) (k : Keeps0 n0 B C) : Keeps0 n0 A C := fun i hi => (k i hi).trans (h i hi)
/-- a list that is boxed and grows -/
structure Growing (w : World) (T E : TypeId) (z : Nat) (cells : List Value) (n : Nat) (W : World) : Prop where
  held : ∃ v, Boxed W w.heap.size T v ∧ W.ownsRow w.heap.size E z v n cells
  below : Below w.heap.size w W
theorem Growing.stays {w : World} {T E : TypeId} {z : Nat} {cells : List Value} {n : Nat} {A B : World} (h : Growing w T E z cells n A) (k : Below A.heap.size A B) : Growing w T E z cells n B := by
  obtain ⟨v, h1, h2⟩ := h.held
  exact ⟨⟨v, below_kept k h1, ownsRowP_below h2 k⟩, h.below.trans (k.mono h.below.size)⟩
theorem Growing.apart {w : World} {T E : TypeId} {z : Nat} {cells : List Value} {n : Nat} {A : World} {l : Nat} {o : Obj} (o' : Obj) (h : Growing w T E z cells n A) (hl : w.heap.size ≤ l) (ho : A.heap[l]? = some o) (hc : o.isCells = false) : Growing w T E z cells n (A.putObj l o') := by
  obtain ⟨v, h1, h2⟩ := h.held
  exact ⟨⟨v, heap_putL ho hc h1, ownsRow_putObj h2 o' ho hc⟩, below_putL o' h.below hl⟩
def cutV (g : Nat) (x : Nat × Nat) : Value := .slice (some ⟨g, x.1, none⟩) x.2 x.2
theorem cut_len (l : List Int) (x : Nat × Nat) (h : x.1 + x.2 ≤ l.length) : (cutOf l x).length = x.2 := by simp [cutOf]; omega
theorem cut_nums {w : World} {g : Nat} {l : List Int} (h : NumsAt w (some ⟨g, 0, none⟩) l) (x : Nat × Nat) (hx : x.1 + x.2 ≤ l.length) : NumsAt w (some ⟨g, x.1, none⟩) (cutOf l x) := by
  rcases h with h | ⟨b, o, h1, h2, h3⟩
  · subst h; exact .inl (by simp [cutOf])
  · cases h1
    refine .inr ⟨g, x.1, rfl, h2, fun i p hp => ?_⟩
    have : l[x.1 + i]? = some p := by
      unfold cutOf at hp
      rw [List.getElem?_take] at hp
      split at hp
      · rw [List.getElem?_drop] at hp; exact hp
      · cases hp
    have := h3 _ _ this
    rwa [Nat.zero_add] at this
theorem cut_grid {w : World} {base g : Nat} {l : List Int} {v : Value} {ps : List (Nat × Nat)} (h : w.ownsRow base 41 1 v ps.length (ps.map (cutV g))) (hl : NumsAt w (some ⟨g, 0, none⟩) l) (hw : ∀ x ∈ ps, x.1 + x.2 ≤ l.length) : ∃ ao cap, v = .slice ao ps.length cap ∧ GridAt w ao (ps.map (cutOf l)) := by
  rcases h.2 with ⟨rfl, h0⟩ | ⟨g', cap, cur, rfl, _, hgb, _⟩
  · have : ps = [] := List.eq_nil_of_length_eq_zero h0
    subst this
    exact ⟨none, 0, rfl, .inl rfl⟩
  · refine ⟨_, cap, rfl, .inr ⟨g', rfl, ⟨_, _, hgb⟩, fun i r hr => ?_⟩⟩
    rw [List.getElem?_map] at hr
    obtain ⟨x, hx, rfl⟩ := Option.map_eq_some_iff.1 hr
    have hxw := hw x (List.mem_of_getElem? hx)
    have hc := h.cells rfl i _ (show (ps.map (cutV g))[i]? = some (cutV g x) by rw [List.getElem?_map, hx]; rfl)
    have e : (⟨g', 0, none⟩ : Addr).add i = ⟨g', i, none⟩ := by unfold Addr.add; split <;> simp_all
    rw [e] at hc
    exact ⟨some ⟨g, x.1, none⟩, x.2, by rw [hc, cut_len l x hxw]; rfl, cut_nums hl x hxw⟩
def PartsOut (l : List Int) (w : World) (e : Ending) (w' : World) : Prop := ∃ (ps : List (Nat × Nat)) (ao : Option Addr) (cap : Nat), Chunks l ps ∧ e = .returned (.slice ao ps.length cap) ∧ GridAt w' ao (ps.map (cutOf l)) ∧ Below w.heap.size w w'
set_option maxRecDepth 100000 in
set_option maxHeartbeats 4000000 in
theorem appendSeq_any (g lg : Nat) (l : List Int) (Bs Bn : Nat) (w : World) (hN : l.length ≤ 4096) (hlg : 1 ≤ lg) (hlg2 : lg ≤ 4096) (hl : NumsAt w (some ⟨g, 0, none⟩) l) (hbs : w.heap[Bs]? = some (.cells #[.slice (some ⟨g, 0, none⟩) l.length l.length] 41 (0, 0))) (hbn : w.heap[Bn]? = some (.cells #[.int .i64 lg] 3 (0, 0))) :
    Calls Tryz.prog 215 #[.slice none 0 0, .func (.func 216) #[] #[.pointer (some ⟨Bs, 0, none⟩), .pointer (some ⟨Bn, 0, none⟩)]] w (PartsOut l w) := by
  have hinfo : (Tryz.prog.info? 41).map (fun i => (i.zero, i.size, i.bytes)) = some (some (.slice none 0 0), 1, 24) := by kernel_rfl
  obtain ⟨i0, hi, hz0, hz1, hz2⟩ := info_parts2 hinfo
  have HIN := Lib.hid hi
  refine (callsIn_wide (n := 4)).1 ?_
  obtain ⟨U, HU⟩ : ∃ U, Hid (U = w.alloc (.cells #[.slice none 0 0] 145)) := ⟨_, Lib.hid rfl⟩
  have hbU : Below w.heap.size w U := by rw [HU.out]; exact (Below.refl _ w).alloc (Nat.le_refl _) _
  have hB1 : U.heap[w.heap.size]? = some (.cells #[.slice none 0 0] 145 (0, 0)) := by rw [HU.out]; exact World.alloc_heap_new _ _
  have hsU : w.heap.size + 1 = U.heap.size := by rw [HU.out]; simp
  have TL := Lib.hid (chunk1_tells 3 g lg l Bs Bn w.heap.size U hN hlg hlg2 ((hbU.block _ (lt_of_heap hbs)).trans hbs) ((hbU.block _ (lt_of_heap hbn)).trans hbn) (lt_of_heap hbs) (lt_of_heap hbn))
  have H0 : Hid (Growing w 145 41 1 (([] : List (Nat × Nat)).map (cutV g)) ([] : List (Nat × Nat)).length U) := Lib.hid ⟨⟨_, hB1, World.ownsRow_nil _ _ _ _⟩, hbU⟩
  have HSU := Lib.hid hsU
  have HL := Lib.hid hl
  clear hbU hB1 hsU hbs hbn hl hi hinfo
  refine callsIn_of_wp_marks Tryz.func215 rfl trivial ?_ rfl
  simp only [Tryz.ntmps215, List.size_toArray, List.length_cons, List.length_nil, Nat.reduceAdd, Nat.reduceSub, Array.replicate_succ, Array.replicate_zero, List.push_toArray, List.append_toArray, List.nil_append, List.cons_append]
  gi_wp2_with fail
  rw [← HU.out]
  refine wpIn_range_tells rfl (by decide) (gf := 216) (lb := #[.pointer (some ⟨Bs, 0, none⟩), .pointer (some ⟨Bn, 0, none⟩)]) rfl trivial (enters_of Tryz.func216 (by kernel_rfl) rfl)
    TL.out (Below.refl _ _) (fun _ => rfl) keeps0_trans (fun A l o o' hl _ _ k hk => World.putObj_heap_other (by have := HSU.out; omega))
    (fun {A B} hA hAB k hk => hAB.block k (by have := HSU.out; omega))
    (fun pre W => Growing w 145 41 1 (pre.map (cutV g)) pre.length W) (fun _ _ => False) (fun pre A B h k => h.stays k) (fun pre A B h k => h)
    (fun pre A l o o' h hl ho hc => h.apart o' (by have := HSU.out; omega) ho hc) (fun pre A l o o' h hl ho hc => h) (fun _ _ _ => trivial)
    (fun pre x A B h k => h) (fun pre x A l o o' h hl ho hc => h) H0.out
    (fun x a' A => a' = { tmps := #[.slice none 0 0, .func (.func 216) #[] #[.pointer (some ⟨Bs, 0, none⟩), .pointer (some ⟨Bn, 0, none⟩)], .pointer (some ⟨w.heap.size, 0, none⟩), undef, .slice none 0 0, cutV g x, .func (.func 216) #[] #[.pointer (some ⟨Bs, 0, none⟩), .pointer (some ⟨Bn, 0, none⟩)], cutV g x, undef, undef, undef, undef, undef], defers := [] })
    (fun x a' A l o o' h hl ho hc => h) ?assign ?body ?done ?stop
  case assign =>
    intro l x A K hA hK
    gi_wp2_with fail
    exact hK _ _ (Below.refl _ A) rfl
  case body =>
    rintro lp pre x a' A hA hI ⟨hok1, hok2⟩ rfl
    obtain ⟨v, hv, ho⟩ := hI.held
    obtain ⟨ao, cap, rfl⟩ := own_slice ho
    have hI' := Lib.hid hI
    have HO := Lib.hid ho
    have HV := Lib.hid hv
    have HOA : Hid ((A.alloc (.cells #[.slice (some ⟨g, x.1, none⟩) x.2 x.2] 41)).ownsRow w.heap.size 41 1 (.slice ao pre.length cap) pre.length (pre.map (cutV g))) := Lib.hid (ho.alloc _)
    have cl := hv.cell
    have hws : w.heap.size ≤ A.heap.size := hI.below.size
    clear hI ho hv
    unfold cutV
    gi_wp2_with (gi_at_builtin; refine wpListIn_append_own _ rfl _ _ 145 rfl w.heap.size 41 i0 (.slice none 0 0) 1 24 Tryz.underlying145 HIN.out hz0 hz1 hz2 rfl (by decide) _ _ _ rfl HOA.out ⟨A.heap.size, 0, none⟩ 1 1 [.slice (some ⟨g, x.1, none⟩) x.2 x.2] rfl rfl ?c1 ?c2 ?c3 ?c4 ?c5 ?_)
    case c1 =>
      intro j u hj
      rw [cell_row (World.alloc_heap_new A _)]
      match j, hj with
      | 0, hj => simp at hj; subst hj; rfl
    case c2 => intro u hu; simp at hu; subst hu; rfl
    case c3 => unfold maxLen; omega
    case c4 => omega
    case c5 => simp; omega
    intro v' w3 hown' hgrow _
    obtain ⟨q1, q2, q3, q4, q5⟩ := Boxed.appended (n₀ := w.heap.size) (size := 1) HV.out (by decide) HO.out hws (Nat.le_refl _) hown' hgrow
    obtain ⟨g2, cp', rfl⟩ := ownsRow_succ hown'
    have k1 := q1.cell
    have k2 := q1.frozen
    have Q : Hid (KeepsOthers A (w3.setCell ⟨w.heap.size, 0, none⟩ (.slice (some ⟨g2, 0, none⟩) (pre.length + 1) cp')) ∧ Keeps0 w.heap.size A (w3.setCell ⟨w.heap.size, 0, none⟩ (.slice (some ⟨g2, 0, none⟩) (pre.length + 1) cp')) ∧ Growing w 145 41 1 ((pre ++ [x]).map (cutV g)) (pre ++ [x]).length (w3.setCell ⟨w.heap.size, 0, none⟩ (.slice (some ⟨g2, 0, none⟩) (pre.length + 1) cp'))) :=
      Lib.hid ⟨q4, fun k hk => q5.block k hk, ⟨⟨_, q2, by rw [List.length_append, List.map_append]; exact q3⟩, hI'.out.below.trans q5⟩⟩
    clear hown' hgrow q1 q2 q3 q4 q5
    gi_wp2_with fail
    exact Q.out
  case done =>
    rintro D ps A hD hS hI hK
    obtain ⟨v, hv, ho⟩ := hI.held
    have c0 := hv.cell
    obtain ⟨ao, cap, rfl, hg⟩ := cut_grid ho (HL.out.kept hI.below) hS.within
    have HE : Hid (PartsOut l w (.returned (.slice ao ps.length cap)) (A.putObj D (.deferred none))) := Lib.hid (by
      have ho2 := ownsRow_putObj ho (.deferred none) hK rfl
      have hb2 := below_putL (.deferred none) hI.below (show w.heap.size ≤ D by have := HSU.out; omega)
      obtain ⟨ao2, cap2, he, hg2⟩ := cut_grid ho2 (HL.out.kept hb2) hS.within
      cases he
      exact ⟨ps, _, _, hS, rfl, hg2, hb2⟩)
    clear hI ho hv hg hS
    gi_wp2_with fail
    refine ⟨by simp, .inl ⟨_, _, rfl, run_takeDeferred hK, ?_⟩⟩
    refine ⟨_, results_tmp rfl _ _ _, ?_⟩
    exact HE.out
  case stop =>
    rintro D pre W _ _ h _
    exact h.elim
set_option maxRecDepth 100000 in
set_option maxHeartbeats 1000000 in
theorem collect_any (g lg : Nat) (l : List Int) (Bs Bn : Nat) (w : World) (hN : l.length ≤ 4096) (hlg : 1 ≤ lg) (hlg2 : lg ≤ 4096) (hl : NumsAt w (some ⟨g, 0, none⟩) l) (hbs : w.heap[Bs]? = some (.cells #[.slice (some ⟨g, 0, none⟩) l.length l.length] 41 (0, 0))) (hbn : w.heap[Bn]? = some (.cells #[.int .i64 lg] 3 (0, 0))) :
    Calls Tryz.prog 190 #[.func (.func 216) #[] #[.pointer (some ⟨Bs, 0, none⟩), .pointer (some ⟨Bn, 0, none⟩)]] w (PartsOut l w) := by
  have C := Lib.hid (appendSeq_any g lg l Bs Bn w hN hlg hlg2 hl hbs hbn)
  clear hl hbs hbn
  go_enter Tryz.func190, Tryz.ntmps190
  go_wp2_with fail
  refine C.out.mono ?_
  rintro e w1 ⟨ps, ao, cap, h1, rfl, h2, h3⟩
  have HE : Hid (PartsOut l w (.returned (.slice ao ps.length cap)) w1) := Lib.hid ⟨ps, ao, cap, h1, rfl, h2, h3⟩
  clear h1 h2 h3
  go_wp2_with fail
  go_ret
  exact HE.out
set_option maxRecDepth 100000 in
set_option maxHeartbeats 1000000 in
theorem chunk_any (vo : Option Addr) (vn vc : Nat) (lg : Nat) (w : World) (hlg : 1 ≤ lg) (hlg2 : lg ≤ 4096) :
    Calls Tryz.prog 191 #[.slice vo vn vc, .int .i64 lg] w fun e w' => e = .returned (.func (.func 216) #[] #[.pointer (some ⟨w.heap.size, 0, none⟩), .pointer (some ⟨w.heap.size + 1, 0, none⟩)]) ∧ w' = (w.alloc (.cells #[.slice vo vn vc] 41)).alloc (.cells #[.int .i64 lg] 3) := by
  have h1 : ¬ lg < 1 := by omega
  go_enter Tryz.func191, Tryz.ntmps191
  go_wp2_with fail
  go_ret
  exact ⟨rfl, rfl⟩
set_option maxRecDepth 100000 in
set_option maxHeartbeats 1000000 in
theorem parts_any (g : Nat) (l : List Int) (w : World) (hN : l.length ≤ 4096) (hl : NumsAt w (some ⟨g, 0, none⟩) l) :
    Calls Tryz.prog 140 #[.slice (some ⟨g, 0, none⟩) l.length l.length] w (PartsOut l w) := by
  have HL := Lib.hid hl
  clear hl
  go_enter Tryz.func140, Tryz.ntmps140
  go_wp2_with fail
  go_loopw [3] (fun i wr => ∃ k : Nat, 1 ≤ k ∧ k ≤ l.length + 1 ∧ k ≤ 4096 ∧ i = .int .i64 k ∧ wr = w) (fun i _ => l.length + 2 - (intOf i).toNat)
  case atStart => exact ⟨1, by omega, by omega, by omega, rfl, rfl⟩
  case round =>
    obtain ⟨k, h1, h2, h3, rfl, rfl⟩ := hrel
    obtain ⟨q, hq⟩ : ∃ q, q = k * k := ⟨_, rfl⟩
    have hq2 : (k : Int) * (k : Int) = (q : Int) := by rw [hq]; rfl
    have hqb : q ≤ 4096 * 4096 := by rw [hq]; exact Nat.mul_le_mul h3 h3
    have hkq : k ≤ q := by rw [hq]; exact Nat.le_mul_of_pos_left k (by omega)
    have hwq : IntKind.i64.wrap (q : Int) = (q : Int) := IntWalk.i64_in _ (by omega)
    clear hq
    by_cases hlt : q < l.length
    · go_wp2_with fail
      go_roundw
      case rel => exact ⟨k + 1, by omega, by omega, by omega, by go_num, by trivial⟩
      case measure => simp [intOf]; omega
    · have C1 := Lib.hid (chunk_any (some ⟨g, 0, none⟩) l.length l.length k wr h1 h3)
      obtain ⟨V, HV⟩ : ∃ V, Hid (V = (wr.alloc (.cells #[.slice (some ⟨g, 0, none⟩) l.length l.length] 41)).alloc (.cells #[.int .i64 k] 3)) := ⟨_, Lib.hid rfl⟩
      rw [← HV.out] at C1
      have b1 : Below wr.heap.size wr V := by rw [HV.out]; exact two_below _ _ _
      have hn := two_new wr (.cells #[.slice (some ⟨g, 0, none⟩) l.length l.length] 41) (.cells #[.int .i64 k] 3)
      rw [← HV.out] at hn
      have C2 := Lib.hid (collect_any g k l wr.heap.size (wr.heap.size + 1) V hN h1 h3 (HL.out.kept b1) hn.2.1 hn.2.2)
      have HB1 := Lib.hid b1
      clear hn b1 HV
      go_wp2_with fail
      refine C1.out.mono ?_
      rintro e w1 ⟨rfl, rfl⟩
      go_wp2_with fail
      refine C2.out.mono ?_
      rintro e w1 ⟨ps, ao, cap, h1, rfl, h2, h3⟩
      have HE : Hid (PartsOut l wr (.returned (.slice ao ps.length cap)) w1) := Lib.hid ⟨ps, ao, cap, h1, rfl, h2, below_up HB1.out h3⟩
      clear h1 h2 h3
      go_wp2_with fail
      go_ret
      exact HE.out
end Go.Proofs.YtdenehnneloegaaGreatDoor
namespace Go.Proofs.YtdenehnneloegaaGreatDoor
open Go.RowKit Go.Shelf
set_option linter.unusedVariables false
set_option maxRecDepth 100000 in
theorem make_grid (n : Nat) (hn : n ≤ 4096) (W : World) : (Instr.makeSlice 145 (.int .i64 ((n : Int) + 1)) (.int .i64 ((n : Int) + 1))).run Tryz.prog W = .ok (.slice (some ⟨W.heap.size, 0, none⟩) (n + 1) (n + 1)) (W.alloc (.cells (madeCells #[.slice none 0 0] (n + 1)) 41)) := by
  have := run_make_row' (P := Tryz.prog) 145 41 (.slice none 0 0) 24 Tryz.underlying145 (by kernel_rfl) rfl .i64 .i64 (n + 1) (by omega) (by omega) W
  push_cast at this; exact this
set_option maxRecDepth 100000 in
theorem make_nums (n : Nat) (hn : n ≤ 4096) (W : World) : (Instr.makeSlice 41 (.int .i64 ((n : Int) + 1)) (.int .i64 ((n : Int) + 1))).run Tryz.prog W = .ok (.slice (some ⟨W.heap.size, 0, none⟩) (n + 1) (n + 1)) (W.alloc (.cells (madeCells #[.int .i64 0] (n + 1)) 3)) := by
  have := run_make_row' (P := Tryz.prog) 41 3 (.int .i64 0) 8 Tryz.underlying41 (by kernel_rfl) rfl .i64 .i64 (n + 1) (by omega) (by omega) W
  push_cast at this; exact this
/-- a row that is filled from place j on -/
def fillF (X bs : List Int) (j : Nat) : Nat → Value := fun t => .int .i64 (if t < j then 0 else ((lcsN X (bs.drop t) : Nat) : Int))
theorem fill_start (X bs : List Int) (t : Nat) (h : t < bs.length + 1) : Value.int .i64 0 = fillF X bs bs.length t := by
  unfold fillF
  split
  · rfl
  · rw [List.drop_eq_nil_of_le (by omega), lcs_nil2]; rfl
theorem fill_next (X bs : List Int) (j t : Nat) (v : Int) (hv : v = ((lcsN X (bs.drop j) : Nat) : Int)) : (if t = j then Value.int .i64 v else fillF X bs (j + 1) t) = fillF X bs j t := by
  unfold fillF
  by_cases h : t = j
  · subst h; simp [hv]
  · rw [if_neg h]
    by_cases h2 : t < j
    · rw [if_pos h2, if_pos (by omega)]
    · rw [if_neg h2, if_neg (by omega)]
set_option maxRecDepth 100000 in
set_option maxHeartbeats 2000000 in
theorem lcLengths_any (po bo lo : Option Addr) (pc bc lc : Nat) (xs bs rest : List Int) (w : World) (hn : xs.length ≤ 4096) (hm : bs.length ≤ 4096) (hP : NumsAt w po xs) (hB : NumsAt w bo bs) (hL : NumsAt w lo (rowOf rest bs)) :
    Calls Tryz.prog 142 #[.slice po xs.length pc, .slice bo bs.length bc, .slice lo (bs.length + 1) lc] w (GridOut (gridOf xs rest bs) w) := by
  have hmk1 := make_grid xs.length hn
  have hmk2 := make_nums bs.length hm
  have HP := Lib.hid hP
  have HB := Lib.hid hB
  have HL := Lib.hid hL
  have hwx : IntKind.i64.wrap ((xs.length : Int) - 1) = (xs.length : Int) - 1 := IntWalk.i64_in _ (by omega)
  have hwb : IntKind.i64.wrap ((bs.length : Int) - 1) = (bs.length : Int) - 1 := IntWalk.i64_in _ (by omega)
  obtain ⟨G, hG⟩ : ∃ G, G = w.heap.size := ⟨_, rfl⟩
  have HG := Lib.hid hG
  clear hP hB hL
  go_enter Tryz.func142, Tryz.ntmps142
  go_upto_region 2 with fail
  obtain ⟨V, HV⟩ : ∃ V, Hid (V = w.alloc (.cells (madeCells #[.slice none 0 0] (xs.length + 1)) 41)) := ⟨_, Lib.hid rfl⟩
  rw [← HV.out, ← hG]
  have r1 : V.rowIs G 41 (xs.length + 1) (fun _ => .slice none 0 0) := by rw [HV.out, hG]; exact World.rowIs_made _ _ _ _
  have b1 : Below G w V := by rw [HV.out, hG]; exact (Below.refl _ w).alloc (Nat.le_refl _) _
  have c1 := r1.cell (show xs.length < xs.length + 1 by omega)
  have c2 := r1.frozen xs.length
  have HR1 := Lib.hid r1
  have HB1 := Lib.hid b1
  clear r1 b1 hG HV
  go_upto_region 3 with fail
  obtain ⟨V2, HV2⟩ : ∃ V2, Hid (V2 = V.setCell ⟨G, xs.length, none⟩ (.slice lo (bs.length + 1) lc)) := ⟨_, Lib.hid rfl⟩
  rw [← HV2.out]
  have HB2 : Hid (Below w.heap.size w V2) := Lib.hid (by rw [HV2.out, ← HG.out]; exact HB1.out.setCell (p := ⟨G, xs.length, none⟩) (Nat.le_refl _) _)
  have HR2 : Hid (V2.rowIs G 41 (xs.length + 1) (fun t => if t = xs.length then .slice lo (bs.length + 1) lc else .slice none 0 0)) := Lib.hid (by rw [HV2.out]; exact HR1.out.set _ _)
  have HF2 : Hid (∀ t, xs.length ≤ t → t ≤ xs.length → FarAt V2 G (if t = xs.length then .slice lo (bs.length + 1) lc else .slice none 0 0) (rowOf (xs.drop t ++ rest) bs)) := Lib.hid (fun t h1 h2 => by
    obtain rfl : t = xs.length := by omega
    rw [if_pos rfl, List.drop_length, List.nil_append, ← rowOf_len rest bs]
    have h := far_of (w := w) (G := G) (c := lc) HL.out (by rw [rowOf_len]; omega) (by rw [HG.out]; exact Nat.le_refl _)
    exact h.kept (grown_of HB2.out))
  clear c1 c2 HB1 HR1 HV2
  have H4 := Lib.hid hmk2
  clear hmk1 hmk2
  go_wp2_with fail
  clear hwx
  go_loopw [8] (fun i wr => ∃ (s : Nat) (f : Nat → Value), s ≤ xs.length ∧ i = .int .i64 ((s : Int) - 1) ∧ Hid (Below w.heap.size w wr) ∧ Hid (wr.rowIs G 41 (xs.length + 1) f) ∧ Hid (∀ t, s ≤ t → t ≤ xs.length → FarAt wr G (f t) (rowOf (xs.drop t ++ rest) bs))) (fun i _ => ((intOf i) + 1).toNat)
  case atStart => exact ⟨xs.length, _, Nat.le_refl _, rfl, HB2, HR2, HF2⟩
  case round =>
    obtain ⟨s, f, hs, rfl, HBr, HRr, HFr⟩ := hrel
    clear HB2 HR2 HF2
    by_cases h0 : s = 0
    · subst h0
      have HE : Hid (GridOut (gridOf xs rest bs) w (.returned (.slice (some ⟨G, 0, none⟩) (xs.length + 1) (xs.length + 1))) wr) := Lib.hid (by
        refine ⟨_, _, by rw [gridOf_len], grid_of HRr.out (gridOf_len _ _ _) (fun i r hr => ?_), HBr.out⟩
        have hi := (List.getElem?_eq_some_iff.1 hr).1
        rw [gridOf_len] at hi
        rw [gridOf_at _ _ _ _ (by omega)] at hr; cases hr
        exact HFr.out i (Nat.zero_le _) (by omega))
      go_wp2_with fail
      go_ret
      exact HE.out
    · obtain ⟨m, hms⟩ : ∃ m, s = m + 1 := ⟨s - 1, by omega⟩
      have hsub : (s : Int) - 1 = (m : Int) := by omega
      rw [hsub]
      have hml : m < xs.length := by omega
      obtain ⟨b, o, c, hfe, hbG, hblt, hcell⟩ := HFr.out s (Nat.le_refl _) hs
      have hbl := hblt.lt
      clear hblt
      rw [rowOf_len] at hfe
      have cR := HRr.out.cell (show m + 1 < xs.length + 1 by omega)
      rw [← hms, hfe, hms] at cR
      obtain ⟨x, hx⟩ : ∃ x, xs[m]? = some x := ⟨_, List.getElem?_eq_getElem hml⟩
      have HDr : Hid (xs.drop m ++ rest = x :: (xs.drop s ++ rest)) := Lib.hid (by rw [hms, drop_at xs m x hx]; rfl)
      obtain ⟨X', HX'⟩ : ∃ X', Hid (X' = xs.drop s ++ rest) := ⟨_, Lib.hid rfl⟩
      rw [← HX'.out] at hcell HDr
      have HC : Hid (∀ j, j ≤ bs.length → wr.cell? ⟨b, o + j, none⟩ = some (.int .i64 (lcsN X' (bs.drop j)))) := Lib.hid (fun j hj => hcell j _ (rowOf_at _ _ j hj))
      have HX := Lib.hid hx
      have hmk2 := H4.out
      have hlt2 : G < wr.heap.size := HRr.out.lt
      have HMS := Lib.hid hms
      clear hcell hx hfe h0 hms
      go_upto_region 6 with fail
      go_region
      obtain ⟨g, hg⟩ : ∃ g, g = wr.heap.size := ⟨_, rfl⟩
      obtain ⟨U, HU⟩ : ∃ U, Hid (U = (wr.alloc (.cells (madeCells #[.int .i64 0] (bs.length + 1)) 3)).drew) := ⟨_, Lib.hid rfl⟩
      rw [← HU.out, ← hg]
      have HBU : Hid (Below wr.heap.size wr U) := Lib.hid (by rw [HU.out]; exact bdn (n := 1) ((Below.refl _ wr).alloc (Nat.le_refl _) _))
      have HRU : Hid (U.rowIs g 3 (bs.length + 1) (fillF (x :: X') bs bs.length)) := Lib.hid (by rw [HU.out, hg]; exact (World.rowIs_made wr _ _ _).drew.congr (fun i hi => fill_start _ _ i hi))
      have HGg := Lib.hid hg
      have hgG : G < g := by rw [hg]; exact hlt2
      clear cR HU hg hmk2 hsub
      go_wp2_with fail
      obtain ⟨wo, rfl⟩ : ∃ wo : World, wo = wr := ⟨_, rfl⟩
      go_loopw [11] (fun i wr => ∃ (j : Nat), j ≤ bs.length ∧ i = .int .i64 ((j : Int) - 1) ∧ Hid (Below wo.heap.size wo wr) ∧ Hid (wr.rowIs g 3 (bs.length + 1) (fillF (x :: X') bs j))) (fun i _ => ((intOf i) + 1).toNat)
      case atStart => exact ⟨bs.length, Nat.le_refl _, rfl, HBU, HRU⟩
      case round =>
        obtain ⟨j, hj, rfl, HBi, HRi⟩ := hrel
        clear HBU HRU
        have HBw := Lib.hid (below_up HBr.out HBi.out)
        have HRG := Lib.hid (rowIs_below HRr.out HBi.out)
        by_cases h0 : j = 0
        · subst h0
          have c1 := HRG.out.cell (show m < xs.length + 1 by omega)
          have c2 := HRG.out.frozen m
          obtain ⟨U3, HU3⟩ : ∃ U3, Hid (U3 = wr.setCell ⟨G, m, none⟩ (.slice (some ⟨g, 0, none⟩) (bs.length + 1) (bs.length + 1))) := ⟨_, Lib.hid rfl⟩
          have HB3 : Hid (Below w.heap.size w U3) := Lib.hid (by rw [HU3.out]; exact HBw.out.setCell (p := ⟨G, m, none⟩) (by rw [← HG.out]; exact Nat.le_refl _) _)
          have HR3 : Hid (U3.rowIs G 41 (xs.length + 1) (fun t => if t = m then .slice (some ⟨g, 0, none⟩) (bs.length + 1) (bs.length + 1) else f t)) := Lib.hid (by rw [HU3.out]; exact HRG.out.set _ _)
          have HF3 : Hid (∀ t, m ≤ t → t ≤ xs.length → FarAt U3 G (if t = m then .slice (some ⟨g, 0, none⟩) (bs.length + 1) (bs.length + 1) else f t) (rowOf (xs.drop t ++ rest) bs)) := Lib.hid (fun t h1 h2 => by
            have hgr : wr.grownBy U3 (some G) := by rw [HU3.out]; exact grown_put _ _ _ _
            by_cases e : t = m
            · subst e
              rw [if_pos rfl, HDr.out]
              exact (rowIs_far (G := G) HRi.out (rowOf_len _ _) (fun i p hp => by
                have hi := (List.getElem?_eq_some_iff.1 hp).1
                rw [rowOf_len] at hi
                rw [rowOf_at _ _ _ (by omega)] at hp; cases hp
                simp [fillF]) (by omega)).kept hgr
            · rw [if_neg e]
              exact ((HFr.out t (by have := HMS.out; omega) h2).kept (grown_of HBi.out)).kept hgr)
          have hwm : IntKind.i64.wrap ((m : Int) - 1) = (m : Int) - 1 := IntWalk.i64_in _ (by omega)
          go_upto_region 5 with fail
          rw [← HU3.out]
          clear c1 c2
          go_wp2_with fail
          go_roundw
          case rel => exact ⟨m, _, by omega, rfl, HB3, HR3, HF3⟩
          case measure => first | (simp [intOf]; done) | (simp [intOf]; omega)
        · obtain ⟨q, hq⟩ : ∃ q, j = q + 1 := ⟨j - 1, by omega⟩
          have hsub : (j : Int) - 1 = (q : Int) := by omega
          rw [hsub]
          have hql : q < bs.length := by omega
          obtain ⟨y, hy⟩ : ∃ y, bs[q]? = some y := ⟨_, List.getElem?_eq_getElem hql⟩
          rcases HP.out.kept HBw.out with h1 | ⟨pb, p0, rfl, hpl, hpc⟩
          · rw [h1] at hml; simp at hml
          rcases HB.out.kept HBw.out with h1 | ⟨bb, b0, rfl, hbl2, hbc⟩
          · rw [h1] at hql; simp at hql
          have k1 := hpc m x HX.out
          have k2 := hbc q y hy
          have k3 := (HBi.out.cell (p := ⟨b, o + (q + 1), none⟩) hbl).trans (HC.out (q + 1) (by omega))
          have k4 := (HBi.out.cell (p := ⟨b, o + q, none⟩) hbl).trans (HC.out q (by omega))
          have k5 := HRi.out.cell (show q + 1 < bs.length + 1 by omega)
          have k6 := HRi.out.cell (show q < bs.length + 1 by omega)
          have k7 := HRi.out.frozen q
          have e5 : fillF (x :: X') bs j (q + 1) = .int .i64 ((lcsN (x :: X') (bs.drop (q + 1)) : Nat) : Int) := by simp [fillF, hq]
          rw [e5] at k5
          obtain ⟨z6, hz6⟩ : ∃ z, z = fillF (x :: X') bs j q := ⟨_, rfl⟩
          rw [← hz6] at k6
          have HH := Lib.hid (fun h : x = y => lcs_hit x X' bs q (by rw [h]; exact hy))
          have HM := Lib.hid (fun h : x ≠ y => lcs_miss x y X' bs q hy h)
          have l3 := (lcs_le X' (bs.drop (q + 1))).2
          have l4 := (lcs_le X' (bs.drop q)).2
          have l5 := (lcs_le (x :: X') (bs.drop (q + 1))).2
          rw [List.length_drop] at l3 l4 l5
          obtain ⟨n3, hn3⟩ : ∃ n, n = lcsN X' (bs.drop (q + 1)) := ⟨_, rfl⟩
          obtain ⟨n4, hn4⟩ : ∃ n, n = lcsN X' (bs.drop q) := ⟨_, rfl⟩
          obtain ⟨n5, hn5⟩ : ∃ n, n = lcsN (x :: X') (bs.drop (q + 1)) := ⟨_, rfl⟩
          rw [← hn3] at k3 l3 HH
          rw [← hn4] at k4 l4 HM
          rw [← hn5] at k5 l5 HM
          have HFN : Hid (∀ v : Int, v = ((lcsN (x :: X') (bs.drop q) : Nat) : Int) → (wr.setCell ⟨g, q, none⟩ (.int .i64 v)).rowIs g 3 (bs.length + 1) (fillF (x :: X') bs q)) := Lib.hid (fun v hv => (HRi.out.set q (.int .i64 v)).congr (fun i hi => by rw [hq]; exact fill_next _ _ _ _ _ hv))
          have HBN : Hid (∀ v : Int, Below wo.heap.size wo (wr.setCell ⟨g, q, none⟩ (.int .i64 v))) := Lib.hid (fun v => HBi.out.setCell (p := ⟨g, q, none⟩) (by rw [← HGg.out]; exact Nat.le_refl _) _)
          have hwq : IntKind.i64.wrap ((q : Int) - 1) = (q : Int) - 1 := IntWalk.i64_in _ (by omega)
          clear hpc hbc hy e5 hz6 hn3 hn4 hn5 h0 hq
          by_cases hxy : x = y
          · have HV3 : Hid (((n3 : Int) + 1) = ((lcsN (x :: X') (bs.drop q) : Nat) : Int)) := Lib.hid (by rw [HH.out hxy]; rfl)
            have HR4 := Lib.hid (HFN.out _ HV3.out)
            have HB4 := Lib.hid (HBN.out ((n3 : Int) + 1))
            subst hxy
            have hb : ((x == x) = true) := by simp
            have HB5 : Hid (Below wo.heap.size wo (wr.setCell ⟨g, q, none⟩ (.int .i64 ((n3 : Int) + 1))).drew) := Lib.hid (bdn (n := 1) HB4.out)
            have HR5 : Hid ((wr.setCell ⟨g, q, none⟩ (.int .i64 ((n3 : Int) + 1))).drew.rowIs g 3 (bs.length + 1) (fillF (x :: X') bs q)) := Lib.hid HR4.out.drew
            go_upto_region 10 with fail
            go_region
            go_wp2_with fail
            go_roundw
            case rel => exact ⟨q, by omega, rfl, HB5, HR5⟩
            case measure => first | (simp [intOf]; done) | (simp [intOf]; omega)
          · have HV3 : Hid ((if n4 < n5 then (n5 : Int) else (n4 : Int)) = ((lcsN (x :: X') (bs.drop q) : Nat) : Int)) := Lib.hid (by rw [HM.out hxy]; split <;> omega)
            have HR5 : Hid ((wr.setCell ⟨g, q, none⟩ (.int .i64 (if n4 < n5 then (n5 : Int) else (n4 : Int)))).drew.drew.rowIs g 3 (bs.length + 1) (fillF (x :: X') bs q)) := Lib.hid (HFN.out _ HV3.out).drew.drew
            have HB5 : Hid (Below wo.heap.size wo (wr.setCell ⟨g, q, none⟩ (.int .i64 (if n4 < n5 then (n5 : Int) else (n4 : Int)))).drew.drew) := Lib.hid (bdn (n := 2) (HBN.out _))
            have hb : ((x == y) = false) := by simp [hxy]
            go_upto_region 10 with fail
            go_region
            go_upto_region 12 with fail
            go_region
            try rw [show max (n4 : Int) (n5 : Int) = (if n4 < n5 then (n5 : Int) else (n4 : Int)) from by split <;> omega]
            obtain ⟨U5, HU5⟩ : ∃ U5, Hid (U5 = (wr.setCell ⟨g, q, none⟩ (.int .i64 (if n4 < n5 then (n5 : Int) else (n4 : Int)))).drew.drew) := ⟨_, Lib.hid rfl⟩
            rw [← HU5.out] at HR5 HB5 ⊢
            generalize (if n4 < n5 then (n5 : Int) else (n4 : Int)) = zz
            go_wp2_with fail
            go_roundw
            case rel => exact ⟨q, by omega, rfl, HB5, HR5⟩
            case measure => first | (simp [intOf]; done) | (simp [intOf]; omega)
end Go.Proofs.YtdenehnneloegaaGreatDoor
