/-
  The pieces of a list, told one by one by the library's Chunk.
  Conditions: lists of at most 4096 numbers.
-/
import Derived.Deep.OwnRows
import Derived.WalkKit
import Derived.WalkMore
import Derived.IntWalk
import Derived.WalkArith
import Derived.OwnWalkIn
import Derived.TacticsInMore
import Derived.LoopNIn
import Derived.LoopIn
import Derived.Lib.Hide
import Derived.RegionTactic
import Derived.Test.YtcdpadchbphggaaProg
import Derived.Test.YtcdpadchbphggaaLcBase
import Derived.Test.YtcdpadchbphggaaCsvRange
namespace Go.Proofs.Ytcdpadchbphggaa
open Go.RowKit Go.Shelf
set_option linter.unusedVariables false
attribute [local go_sem] Oper.semAt_some

def Keeps0 (n0 : Nat) (W W' : World) : Prop := ∀ k, k < n0 → W'.heap[k]? = W.heap[k]?
def cutOf (l : List Int) (x : Nat × Nat) : List Int := (l.drop x.1).take x.2
def ChunkOk (l : List Int) (pre : List (Nat × Nat)) (x : Nat × Nat) : Prop := pre.length < l.length ∧ x.1 + x.2 ≤ l.length
/-- pieces that make up a list -/
structure Chunks (l : List Int) (ps : List (Nat × Nat)) : Prop where
  all : (ps.map (cutOf l)).flatten = l
  few : ps.length ≤ l.length
  within : ∀ x ∈ ps, x.1 + x.2 ≤ l.length
/-- pieces of the first k -/
structure ChunksTo (l : List Int) (ps : List (Nat × Nat)) (k : Nat) : Prop where
  all : (ps.map (cutOf l)).flatten = l.take k
  few : ps.length ≤ k
  few2 : ps.length ≤ l.length
  within : ∀ x ∈ ps, x.1 + x.2 ≤ l.length
theorem ChunksTo.done {l : List Int} {ps : List (Nat × Nat)} {k : Nat} (h : ChunksTo l ps k) (hk : l.length ≤ k) : Chunks l ps := ⟨by rw [h.all, List.take_of_length_le hk], h.few2, h.within⟩
theorem ChunksTo.next {l : List Int} {ps : List (Nat × Nat)} {k lg e : Nat} (h : ChunksTo l ps k) (hk : k < l.length) (h1 : 1 ≤ lg) (he : e = min lg (l.length - k)) : ChunksTo l (ps ++ [(k, e)]) (k + lg) := by
  refine ⟨?_, by simp; have := h.few; omega, by simp; have := h.few; omega, fun x hx => ?_⟩
  · rw [List.map_append, List.flatten_append, h.all]
    simp only [List.map_cons, List.map_nil, List.flatten_cons, List.flatten_nil, List.append_nil, cutOf]
    rw [List.take_add]
    congr 1
    subst he
    by_cases hl : lg ≤ l.length - k
    · rw [Nat.min_eq_left hl]
    · rw [Nat.min_eq_right (by omega), List.take_of_length_le (by simp), List.take_of_length_le (by simp; omega)]
  · rcases List.mem_append.1 hx with hx | hx
    · exact h.within x hx
    · simp at hx; subst hx; simp only; omega

set_option maxRecDepth 100000 in
set_option maxHeartbeats 4000000 in
theorem chunk1_tells (n g lg : Nat) (l : List Int) (Bs Bn n0 : Nat) (w : World) (hN : l.length ≤ 4096) (hlg : 1 ≤ lg) (hlg2 : lg ≤ 4096) (hbs : w.heap[Bs]? = some (.cells #[.slice (some ⟨g, 0, none⟩) l.length l.length] 35 (0, 0))) (hbn : w.heap[Bn]? = some (.cells #[.int .i64 lg] 3 (0, 0))) (h1 : Bs < n0) (h2 : Bn < n0) :
    Tells Fence.wide n Try.prog 27 #[.pointer (some ⟨Bs, 0, none⟩), .pointer (some ⟨Bn, 0, none⟩)] (fun x : Nat × Nat => #[Value.slice (some ⟨g, x.1, none⟩) x.2 x.2]) (Keeps0 n0) (fun pre x _ => ChunkOk l pre x) (fun _ _ => True) (Chunks l) (fun _ => True) w := by
  intro lp J Jx W hW hJ hJx hRm hY h0
  have HY := Lib.hid hY
  have HBs := Lib.hid ((hW.block Bs (lt_of_heap hbs)).trans hbs)
  have HBn := Lib.hid ((hW.block Bn (lt_of_heap hbn)).trans hbn)
  have H0 := Lib.hid h0
  have HSt := Lib.hid hJ
  clear hJ hRm hY hJx hW hbs hbn h0
  refine callsIn_of_wp Try.func27 rfl trivial ?_ rfl
  simp only [Try.ntmps27, List.size_toArray, List.length_cons, List.length_nil, Nat.reduceAdd, Nat.reduceSub, Array.replicate_succ, Array.replicate_zero, List.push_toArray, List.append_toArray, List.nil_append, List.cons_append]
  gi_wp2_with fail
  gi_loopw [4] (fun i wr => ∃ (k : Nat) (pre : List (Nat × Nat)), k ≤ 8192 ∧ i = .int .i64 k ∧ Hid (J pre wr) ∧ Hid (ChunksTo l pre k) ∧ Hid (wr.heap[Bs]? = some (.cells #[.slice (some ⟨g, 0, none⟩) l.length l.length] 35 (0, 0))) ∧ Hid (wr.heap[Bn]? = some (.cells #[.int .i64 lg] 3 (0, 0)))) (fun i _ => l.length - (intOf i).toNat)
  case atStart => exact ⟨0, [], Nat.zero_le _, rfl, H0, Lib.hid ⟨by simp, by simp, by simp, fun x hx => by cases hx⟩, HBs, HBn⟩
  case round =>
    obtain ⟨k, pre, hk, rfl, HJ, HC, HS, HN⟩ := hrel
    obtain ⟨c1, _⟩ := cell_of_box_l HS.out
    obtain ⟨c2, _⟩ := cell_of_box_l HN.out
    clear HBs HBn H0
    by_cases hlt : k < l.length
    · obtain ⟨z, hz⟩ : ∃ z, l.length - k = z := ⟨_, rfl⟩
      have hz1 : 1 ≤ z := by omega
      have hk1 : (0 : Int) ≤ (k : Int) := by omega
      have hk2 : (k : Int) ≤ (l.length : Int) := by omega
      gi_wp2_with fail
      refine wpIn_wide.2 ?_
      go_region
      obtain ⟨e, he, heq⟩ : ∃ e : Nat, (if z < lg then (z : Int) else (lg : Int)) = (e : Int) ∧ e = min lg (l.length - k) := by
        by_cases h : z < lg
        · exact ⟨z, by rw [if_pos h], by omega⟩
        · exact ⟨lg, by rw [if_neg h], by omega⟩
      rw [he]
      obtain ⟨U, hU⟩ : ∃ U, U = wr.drew := ⟨_, rfl⟩
      have c3 : U.cell? ⟨Bs, 0, none⟩ = some (.slice (some ⟨g, 0, none⟩) l.length l.length) := by rw [hU]; exact c1
      have c4 : U.cell? ⟨Bn, 0, none⟩ = some (.int .i64 lg) := by rw [hU]; exact c2
      have HU : Hid (U = wr.drew) := Lib.hid hU
      have HJU : Hid (J pre U) := Lib.hid (by rw [hU]; exact HSt.out pre wr wr.drew HJ.out ((Below.refl _ wr).drew))
      have HCn := Lib.hid (HC.out.next hlt hlg heq)
      have hke : k + e ≤ l.length := by omega
      have hpl : pre.length < l.length := by have := HC.out.few; omega
      obtain ⟨fn, tmps, assign, body, hy, hR⟩ := HY.out pre (k, e) U HJU.out ⟨hpl, hke⟩
      have HR := Lib.hid hR
      have e1 : ((k : Int) + (e : Int)).toNat = k + e := by omega
      have e2 : k + e - k = e := by omega
      have e3 : IntKind.i64.wrap ((k : Int) + (e : Int)) = (k : Int) + (e : Int) := IntWalk.i64_in _ (by omega)
      have e4 : (k : Int) + (e : Int) ≤ (l.length : Int) := by omega
      have e5 : (0 : Int) ≤ (e : Int) := by omega
      have e6 : 1 ≤ e := by omega
      rw [← hU]
      clear hU hR c1 c2 he heq hz hz1 hpl
      gi_wp2_with fail
      refine ⟨(fun h => by cases h), HR.out.mono ?_⟩
      rintro ee W3 (⟨rfl, hJ3, hk3⟩ | ⟨rfl, hJx3⟩)
      · have HJ3 := Lib.hid hJ3
        have hs3 : W3.heap[Bs]? = some (.cells #[.slice (some ⟨g, 0, none⟩) l.length l.length] 35 (0, 0)) := (hk3 Bs h1).trans (by rw [HU.out]; exact HS.out)
        have hn3 : W3.heap[Bn]? = some (.cells #[.int .i64 lg] 3 (0, 0)) := (hk3 Bn h2).trans (by rw [HU.out]; exact HN.out)
        obtain ⟨c5, _⟩ := cell_of_box_l hn3
        have HS3 := Lib.hid hs3
        have HN3 := Lib.hid hn3
        have e7 : IntKind.i64.wrap ((k : Int) + (lg : Int)) = (k : Int) + (lg : Int) := IntWalk.i64_in _ (by omega)
        clear hJ3 hk3 hs3 hn3 c3 c4 hy e1 e2 e3 e4 e5
        gi_wp2_with fail
        go_roundw
        case rel => exact ⟨k + lg, pre ++ [(k, e)], by omega, by go_num, HJ3, HCn, HS3, HN3⟩
        case measure => simp [intOf]; omega
      · have HX := Lib.hid hJx3
        clear hJx3
        gi_wp2_with fail
        refine bodyPost_ret (results_none rfl _ _ _) rfl ?_
        exact ⟨⟨_, rfl⟩, .inr ⟨_, trivial, HX.out⟩⟩
    · have E := Lib.hid (HC.out.done (by omega))
      gi_wp2_with fail
      go_end0
      exact ⟨⟨_, rfl⟩, .inl ⟨_, E.out, HJ.out⟩⟩
end Go.Proofs.Ytcdpadchbphggaa
