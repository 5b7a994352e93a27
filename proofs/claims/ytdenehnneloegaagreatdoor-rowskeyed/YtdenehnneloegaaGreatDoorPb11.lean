/-
  Texts of these rows' proofs, laid one behind the other: LcPairs.
  Conditions: those of each theorem.
-/
import Derived.WalkKit
import Derived.WalkMore
import Derived.OwnWalkIn
import Derived.TacticsInMore
import Derived.Lib.Hide
import Derived.Test.YtdenehnneloegaaGreatDoorProg
import Derived.Test.YtdenehnneloegaaGreatDoorPb10
namespace Go.Proofs.YtdenehnneloegaaGreatDoor
open Go.RowKit Go.Shelf
set_option linter.unusedVariables false
attribute [local go_sem] Oper.semAt_some
set_option maxRecDepth 100000 in
set_option maxHeartbeats 1000000 in
theorem common_any (ao bo : Option Addr) (n m ca cb : Nat) (w : World) :
    Calls Tryz.prog 91 #[.slice ao n ca, .slice bo m cb] w fun e w' => e = .returned (.func (.func 139) #[] #[.pointer (some ⟨w.heap.size, 0, none⟩), .pointer (some ⟨w.heap.size + 1, 0, none⟩)]) ∧ w' = (w.alloc (.cells #[.slice ao n ca] 41)).alloc (.cells #[.slice bo m cb] 41) := by
  go_enter Tryz.func91, Tryz.ntmps91
  go_wp2_with fail
  go_ret
  exact ⟨rfl, rfl⟩
theorem keepsTy_put {A : World} {l : Nat} {o : Obj} (o' : Obj) (ho : A.heap[l]? = some o) (hc : o.isCells = false) : KeepsTy A (A.putObj l o') := fun k cs T fr h _ _ => heap_putL ho hc h
/-- what an append to a boxed slice of pairs leaves as it was -/
theorem keepsTy_append {A w3 : World} {X : Nat} {v v' : Value} {tmp : Obj} {base n : Nat} {xs : List Value} (hv : Boxed A X 26 v) (ho : A.ownsRow base 45 2 v n xs) (hg : (A.alloc tmp).grownBy w3 v.ownBlock) : KeepsTy A (w3.setCell ⟨X, 0, none⟩ v') := fun k cs T fr h h1 h2 => by
  have hkX : k ≠ X := by
    rintro rfl
    have := h.symm.trans hv; cases this; exact h2 rfl
  have hkv : some k ≠ v.ownBlock := by
    rcases ho.2 with ⟨rfl, _⟩ | ⟨g, cap, cur, rfl, _, hgb, _⟩
    · simp [Value.ownBlock]
    · intro e
      obtain rfl : k = g := by simpa [Value.ownBlock] using e
      have := h.symm.trans hgb; cases this; exact h1 rfl
  have hlt := lt_of_heap h
  rw [heap_setCell_other _ _ _ _ (by show k ≠ X; exact hkX), hg.block k (by simp; omega) hkv, Below.heap_alloc _ _ _ hlt]
  exact h
set_option maxRecDepth 100000 in
set_option maxHeartbeats 4000000 in
theorem lcPairs_any (ao bo : Option Addr) (ca cb : Nat) (xs ys : List ByteArray) (w : World) (hn : xs.length ≤ 4096) (hm : ys.length ≤ 4096) (hs : ∀ c ∈ xs, c.size ≤ maxLen) (ht : ∀ c ∈ ys, c.size ≤ maxLen) (hR : StrRow w ao xs) (hS : StrRow w bo ys) :
    Calls Tryz.prog 40 #[.slice ao xs.length ca, .slice bo ys.length cb] w (PairsOut (wayC 0 0 (bytesOf xs) (bytesOf ys)) w) := by
  have hinfo : (Tryz.prog.info? 45).map (fun i => (i.zero, i.size, i.bytes)) = some (some (.agg #[.int .i64 0, .int .i64 0]), 2, 16) := by kernel_rfl
  obtain ⟨i0, hi, hz0, hz1, hz2⟩ := info_parts2 hinfo
  have HIN := Lib.hid hi
  obtain ⟨V, HV⟩ : ∃ V, Hid (V = w.alloc (.cells #[.slice none 0 0] 26)) := ⟨_, Lib.hid rfl⟩
  have hbV : Below w.heap.size w V := by rw [HV.out]; exact (Below.refl _ w).alloc (Nat.le_refl _) _
  have hBV : V.heap[w.heap.size]? = some (.cells #[.slice none 0 0] 26 (0, 0)) := by rw [HV.out]; exact World.alloc_heap_new _ _
  have C := Lib.hid (numbered_any ao bo ca cb xs ys V hn hm hs ht (hR.kept hbV) (hS.kept hbV))
  have HG0 : Hid (Growing w 26 45 2 (cellsP (prP [])) ([] : List (Nat × Nat)).length V) := Lib.hid ⟨⟨_, hBV, World.ownsRow_nil _ _ _ _⟩, hbV⟩
  have HVs : Hid (w.heap.size < V.heap.size) := Lib.hid (lt_of_heap hBV)
  clear hR hS hs ht hi hinfo hbV hBV
  refine (callsIn_wide (n := 5)).1 ?_
  refine callsIn_of_wp_marks Tryz.func40 rfl trivial ?_ rfl
  simp only [Tryz.ntmps40, List.size_toArray, List.length_cons, List.length_nil, Nat.reduceAdd, Nat.reduceSub, Array.replicate_succ, Array.replicate_zero, List.push_toArray, List.append_toArray, List.nil_append, List.cons_append]
  gi_wp2_with fail
  rw [← HV.out]
  refine ⟨trivial, (callsIn_wide.2 C.out).mono ?_⟩
  intro e w1 h
  obtain ⟨l, m, g1, g2, e1, e2, hst, rfl, h1, h2, hb1⟩ := both_lists h
  rw [bytes_len] at e1 e2
  have hln : l.length ≤ 4096 := by omega
  have hmn : m.length ≤ 4096 := by omega
  have HG1 := Lib.hid (HG0.out.stays hb1)
  have HW1 : Hid (w.heap.size < w1.heap.size) := Lib.hid (Nat.lt_of_lt_of_le HVs.out hb1.size)
  have HN1 := Lib.hid h1
  have HN2 := Lib.hid h2
  have HST := Lib.hid hst
  clear h h1 h2 hb1 hst e1 e2 C HG0 HVs HV
  gi_wp2_with fail
  refine ⟨trivial, (callsIn_wide.2 (common_any (some ⟨g1, 0, none⟩) (some ⟨g2, 0, none⟩) l.length m.length l.length m.length w1)).mono ?_⟩
  rintro e U ⟨rfl, hU⟩
  have hb2 : Below w1.heap.size w1 U := by rw [hU]; exact two_below _ _ _
  have hnw := two_new w1 (.cells #[.slice (some ⟨g1, 0, none⟩) l.length l.length] 41) (.cells #[.slice (some ⟨g2, 0, none⟩) m.length m.length] 41)
  rw [← hU] at hnw
  have TL := Lib.hid (common1_tells 4 g1 g2 l m w1.heap.size (w1.heap.size + 1) U hln hmn hnw.2.1 hnw.2.2 (HN1.out.kept hb2) (HN2.out.kept hb2))
  have H0 := Lib.hid (HG1.out.stays hb2)
  have HUs : Hid (w.heap.size < U.heap.size) := Lib.hid (Nat.lt_of_lt_of_le HW1.out hb2.size)
  clear hU hb2 hnw HG1 HN1 HN2
  gi_wp2_with fail
  refine wpIn_range_tells rfl (by decide) (gf := 139) (lb := #[.pointer (some ⟨w1.heap.size, 0, none⟩), .pointer (some ⟨w1.heap.size + 1, 0, none⟩)]) rfl trivial (enters_of Tryz.func139 (by kernel_rfl) rfl)
    TL.out (Below.refl _ _) (fun _ => rfl) KeepsTy.trans (fun A l o o' hl ho hc => keepsTy_put o' ho hc)
    (fun {A B} hA hAB => KeepsTy.of_below hAB)
    (fun pre W => Growing w 26 45 2 (cellsP (prP pre)) pre.length W) (fun _ _ => False) (fun pre A B h k => h.stays k) (fun pre A B h k => h)
    (fun pre A l o o' h hl ho hc => h.apart o' (by have := HUs.out; omega) ho hc) (fun pre A l o o' h hl ho hc => h) (fun _ _ _ => trivial)
    (fun pre x A B h k => h) (fun pre x A l o o' h hl ho hc => h) H0.out
    (fun x a' A => a' = { tmps := #[.slice ao xs.length ca, .slice bo ys.length cb, undef, undef, .slice none 0 0, .pointer (some ⟨w.heap.size, 0, none⟩), .int .i64 (x.1 : Int), .int .i64 (x.2 : Int), .slice ao xs.length ca, .slice bo ys.length cb, .tuple #[.slice (some ⟨g1, 0, none⟩) l.length l.length, .slice (some ⟨g2, 0, none⟩) m.length m.length], .slice (some ⟨g1, 0, none⟩) l.length l.length, .slice (some ⟨g2, 0, none⟩) m.length m.length, .func (.func 139) #[] #[.pointer (some ⟨w1.heap.size, 0, none⟩), .pointer (some ⟨w1.heap.size + 1, 0, none⟩)], .int .i64 (x.1 : Int), .int .i64 (x.2 : Int), undef, undef, undef, undef, undef, undef, undef], defers := [] })
    (fun x a' A l o o' h hl ho hc => h) ?assign ?body ?done ?stop
  case assign =>
    intro l x A K hA hK
    gi_wp2_with fail
    exact hK _ _ (Below.refl _ A) rfl
  case body =>
    rintro lp pre ⟨i, j⟩ a' A hA hI hok rfl
    dsimp only
    obtain ⟨v, hv, ho⟩ := hI.held
    obtain ⟨ro, rcap, rfl⟩ := own_slice ho
    have hI' := Lib.hid hI
    have HO := Lib.hid ho
    have HVv := Lib.hid hv
    have HOA : Hid ((A.alloc (.cells #[.int .i64 (i : Int), .int .i64 (j : Int)] 45)).ownsRow w.heap.size 45 2 (.slice ro pre.length rcap) pre.length (cellsP (prP pre))) := Lib.hid (ho.alloc _)
    have cl := hv.cell
    have hws : w.heap.size ≤ A.heap.size := hI.below.size
    clear hI ho hv
    gi_wp2_with (gi_at_builtin; refine wpListIn_append_own _ rfl _ _ 26 rfl w.heap.size 45 i0 (.agg #[.int .i64 0, .int .i64 0]) 2 16 Tryz.underlying26 HIN.out hz0 hz1 hz2 rfl (by decide) _ _ _ rfl HOA.out ⟨A.heap.size, 0, none⟩ 1 1 [.int .i64 (i : Int), .int .i64 (j : Int)] rfl rfl ?c1 ?c2 ?c3 ?c4 ?c5 ?_)
    case c1 => exact lit_cellP A (.int .i64 (i : Int)) (.int .i64 (j : Int)) 45
    case c2 => intro u hu; simp at hu; rcases hu with rfl | rfl <;> rfl
    case c3 => unfold maxLen; omega
    case c4 => omega
    case c5 => simp; omega
    intro v' w3 hown' hgrow _
    obtain ⟨q1, q2, q3, q4, q5⟩ := Boxed.appended (n₀ := w.heap.size) (size := 2) HVv.out (by decide) HO.out hws (Nat.le_refl _) hown' hgrow
    have q6 := keepsTy_append (v' := v') HVv.out HO.out hgrow
    obtain ⟨g3, cp', rfl⟩ := ownsRow_succ hown'
    have k1 := q1.cell
    have k2 := q1.frozen
    have Q : Hid (KeepsOthers A (w3.setCell ⟨w.heap.size, 0, none⟩ (.slice (some ⟨g3, 0, none⟩) (pre.length + 1) cp')) ∧ KeepsTy A (w3.setCell ⟨w.heap.size, 0, none⟩ (.slice (some ⟨g3, 0, none⟩) (pre.length + 1) cp')) ∧ Growing w 26 45 2 (cellsP (prP (pre ++ [(i, j)]))) (pre ++ [(i, j)]).length (w3.setCell ⟨w.heap.size, 0, none⟩ (.slice (some ⟨g3, 0, none⟩) (pre.length + 1) cp'))) :=
      Lib.hid ⟨q4, q6, ⟨⟨_, q2, by rw [List.length_append, prP_snoc, cellsP_app]; exact q3⟩, hI'.out.below.trans q5⟩⟩
    clear hown' hgrow q1 q2 q3 q4 q5 q6
    gi_wp2_with fail
    exact Q.out
  case done =>
    rintro D ps A hD hS hI hK
    obtain ⟨v, hv, ho⟩ := hI.held
    have c0 := hv.cell
    have HE : Hid (PairsOut (wayC 0 0 (bytesOf xs) (bytesOf ys)) w (.returned v) (A.putObj D (.deferred none))) := Lib.hid (by
      have ho2 := ownsRow_putObj ho (.deferred none) hK rfl
      have hb2 := below_putL (.deferred none) hI.below (show w.heap.size ≤ D by have := HUs.out; omega)
      rw [← HST.out.way, ← hS]
      refine OwnL.end_ ?_ hb2
      unfold OwnL
      rw [show (prP ps).length = ps.length from by simp [prP]]
      exact ho2)
    obtain ⟨ro, rcap, rfl⟩ := own_slice ho
    clear hI ho hv hS
    gi_wp2_with fail
    refine ⟨by simp, .inl ⟨_, _, rfl, run_takeDeferred hK, ?_⟩⟩
    refine ⟨_, results_tmp rfl _ _ _, ?_⟩
    exact HE.out
  case stop =>
    rintro D pre W _ _ h _
    exact h.elim
end Go.Proofs.YtdenehnneloegaaGreatDoor
