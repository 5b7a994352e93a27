/-
  Texts of these rows' proofs, laid one behind the other: CPick, CAlign, CMath4.
  Conditions: those of each theorem.
-/
import Derived.WalkKit
import Derived.WalkMore
import Derived.OwnWalkIn
import Derived.TacticsInMore
import Derived.Lib.Hide
import Derived.RangeFuncCalls
import Derived.Deep.AppendLies
import Derived.Deep.WholeRow
import Derived.Laws.EntriesVeiled
import Derived.Sort.CutIn
import Derived.Test.YtdenehnneloegaaGreatDoorProg
import Derived.Test.YtdenehnneloegaaGreatDoorPb8
import Derived.Test.YtdenehnneloegaaGreatDoorPb24
import Derived.Test.YtdenehnneloegaaGreatDoorPb23
import Derived.Test.YtdenehnneloegaaGreatDoorPb28
import Derived.IntWalk
import Derived.Deep.RegionHeld3
import Derived.Test.YtdenehnneloegaaGreatDoorPb25
import Derived.Test.YtdenehnneloegaaGreatDoorPb26
import Derived.Test.YtdenehnneloegaaGreatDoorPb27
import Derived.WalkArith
namespace Go.Proofs.YtdenehnneloegaaGreatDoor
open Go.RowKit Go.Shelf
set_option linter.unusedVariables false
attribute [local go_sem] Oper.semAt_some
theorem cchoices_any (ho : Option Addr) (hn hc : Nat) (ro : Option Addr) (rn rc : Nat) (bo : Option Addr) (bn bc : Nat) (so : Option Addr) (sn sc : Nat) (lo : Option Addr) (ln lc : Nat) (w : World) :
    Calls Tryz.prog 126 #[.agg #[.slice ho hn hc, .slice ro rn rc], .agg #[.slice bo bn bc, .slice so sn sc], .slice lo ln lc] w fun e w' => e = .returned (.func (.func 178) #[] #[.pointer (some ⟨w.heap.size + 1 + 1, 0, none⟩), .pointer (some ⟨w.heap.size, 0, none⟩), .pointer (some ⟨w.heap.size + 1, 0, none⟩)]) ∧
      w' = ((w.alloc (TabO ho hn hc ro rn rc)).alloc (TabO bo bn bc so sn sc)).alloc (.cells #[.slice lo ln lc] 26) := by
  go_enter Tryz.func126, Tryz.ntmps126
  go_wp2_with fail
  go_ret
  exact ⟨rfl, rfl⟩
theorem cmay_any (c : T3) (Bm : Nat) (m : Int) (w : World) (hb : w.heap[Bm]? = some (.cells #[.int .i64 m] 3 (0, 0))) (h0 : 0 ≤ c.2.2) (h1 : c.2.2 ≤ 1048576) :
    Calls Tryz.prog 125 #[.agg #[.int .i64 c.1, .int .i64 c.2.1, .int .i64 c.2.2], .pointer (some ⟨Bm, 0, none⟩)] w fun e w' => e = .returned (.bool (mayT m c)) ∧ Below w.heap.size w w' := by
  obtain ⟨p, q, s⟩ := c
  dsimp only at h0 h1 ⊢
  have hB := one_below w (.cells #[.int .i64 p, .int .i64 q, .int .i64 s] 73)
  obtain ⟨c0, _⟩ := cell_of_box_l ((hB.block Bm (lt_of_heap hb)).trans hb)
  have HB := Lib.hid hB
  have hm : IntKind.i64.wrap (2 * s) = 2 * s := IntWalk.i64_in _ (by omega)
  clear hB hb
  unfold mayT
  dsimp only
  go_enter Tryz.func125, Tryz.ntmps125
  go_wp2_with fail
  go_ret
  exact ⟨by first | rfl | simp, HB.out⟩
theorem wpListIn_append_lies {F : Fence} {n : Nat} {P : Program} (w : World) {ops : Array Oper} {rest : List Oper} {o : Oper} {a : Act} {Q : Exit → Act → World → Prop}
    (hg : o.guard = none) (s x : Operand) (t : TypeId) (hop : o.op = Op.call { callee := Callee.builtin Builtin.append, args := #[s, x], argTypes := #[t, t] })
    (base : Nat) (e : TypeId) (i : TypeInfo) (z : Value) (size bytes : Nat) (h1 : P.underlying t = some (.slice e)) (h2 : P.info? e = some i) (h3 : i.zero = some z) (h4 : i.size = size) (h5 : i.bytes = bytes) (h6 : z.cells.size = size) (h7 : 0 < size)
    (v : Value) (k : Nat) (xs : List Value) (hs : a.eval s = v) (hown : w.ownsRow base e size v k xs) (ad : Addr) (m c : Nat) (news : List Value) (hx : a.eval x = .slice (some ad) m c) (hn : news.length = m * size)
    (hc : ∀ j u, news[j]? = some u → w.cell? (ad.add j) = some u) (h1c : ∀ u ∈ news, u.oneCell' = true) (hm : 0 < m) (b1 : k + m ≤ maxLen) (b2 : (k + m) * bytes ≤ 140737488355328) (b3 : base ≤ w.heap.size) (H : Nat) (hH : w.heap.size = H)
    (hK : ∀ g cap w', w'.ownsRow base e size (.slice (some ⟨g, 0, none⟩) (k + m) cap) (k + m) (xs ++ news) → w.grownBy w' v.ownBlock → (v.ownBlock = some g ∨ g = H) → wpListIn F n P ops Q rest (a.put o.dst (.slice (some ⟨g, 0, none⟩) (k + m) cap)) w') :
    wpListIn F n P ops Q (o :: rest) a w := by
  refine wpListIn_plain hg fun K hK' => ?_
  obtain ⟨g, cap, w', hrun, r1, r2, r3, _⟩ := run_append_lies (P := P) w t o.type base e i z size bytes h1 h2 h3 h4 h5 h6 h7 v k xs hown ad m c news hn hc h1c hm b1 b2 b3 H hH
  unfold Oper.wpIn
  refine ⟨?_, ?_⟩
  · simp [Oper.about, hop, resolve, Target.leads, Sem.run_pure]
  · rw [Oper.semAt_plain F _ _ (by rw [hop]; intro c hc'; cases hc')]
    simp [execOp, hop, resolve, invoke, builtin, hs, hx, hrun, Result.andThen]
    exact hK' _ _ (hK g cap w' r1 r2 r3)
/-- what stands while choices come -/
structure RenI (w : World) (X Bm Bf : Nat) (m : Int) (pre : TL) (W : World) : Prop where
  held : ∃ v, Boxed W X 68 v ∧ W.ownsRow w.heap.size 73 3 v pre.length (cellsT pre) ∧ (pre = [] → v = .slice none 0 0)
  rows : Boxed W Bm 3 (.int .i64 m)
  may : Boxed W Bf 158 (.func (.func 125) #[] #[.pointer (some ⟨Bm, 0, none⟩)])
  below : Below w.heap.size w W
theorem RenI.stays {w : World} {X Bm Bf : Nat} {m : Int} {pre : TL} {A B : World} (h : RenI w X Bm Bf m pre A) (k : Below A.heap.size A B) : RenI w X Bm Bf m pre B := by
  obtain ⟨v, h1, h2, h3⟩ := h.held
  exact ⟨⟨v, below_kept k h1, ownsRow_below h2 k, h3⟩, below_kept k h.rows, below_kept k h.may, below_up h.below k⟩
theorem RenI.apart {w : World} {X Bm Bf : Nat} {m : Int} {pre : TL} {A : World} {l : Nat} {o : Obj} (o' : Obj) (h : RenI w X Bm Bf m pre A) (hl : w.heap.size ≤ l) (ho : A.heap[l]? = some o) (hc : o.isCells = false) : RenI w X Bm Bf m pre (A.putObj l o') := by
  obtain ⟨v, h1, h2, h3⟩ := h.held
  exact ⟨⟨v, heap_put ho hc h1, ownsRow_putObj h2 o' ho hc, h3⟩, heap_put ho hc h.rows, heap_put ho hc h.may, below_put o' h.below hl⟩
section
variable (ra rb : List (List ByteArray)) (ha hb : List ByteArray)
theorem allOf_score (ps qs : List Int) : ∀ x ∈ allOf ra rb ha hb ps qs, 0 ≤ x.2.2 ∧ x.2.2 ≤ (ra.length : Int) := by
  intro x hx
  unfold allOf rowAll at hx
  obtain ⟨p, _, hx⟩ := List.mem_flatMap.1 hx
  obtain ⟨q, _, rfl⟩ := List.mem_map.1 hx
  have h1 := over_le1 (bytesOf (columnT ha ra p)) (bytesOf (columnT hb rb q))
  rw [bytes_len] at h1
  have h2 := column_few ha ra p
  have e : scoreC ra rb ha hb p q = overL (bytesOf (columnT ha ra p)) (bytesOf (columnT hb rb q)) := rfl
  dsimp only
  rw [e]
  omega
end
theorem own_neC {A : World} {base z n b : Nat} {E T : TypeId} {v : Value} {xs : List Value} {cs : Array Value} {fr : Nat × Nat} (ho : A.ownsRow base E z v n xs) (hb : A.heap[b]? = some (.cells cs T fr)) (hT : T ≠ E) : v.ownBlock ≠ some b := fun e => by
  rcases ho.2 with ⟨rfl, _⟩ | ⟨g, cap, cur, rfl, _, hg, _⟩
  · cases e
  · simp [Value.ownBlock] at e
    subst e
    rw [hg] at hb; cases hb; exact hT rfl
theorem PairsAt.put {A : World} {D : Nat} {o : Obj} (o' : Obj) {ao : Option Addr} {l : PL} (h : PairsAt A ao l) (hD : A.heap[D]? = some o) (hc : o.isCells = false) : PairsAt (A.putObj D o') ao l := by
  rcases h with h | ⟨b, k, h1, h2, h3⟩
  · exact .inl h
  · have key : ∀ (P : Addr) u, A.cell? P = some u → (A.putObj D o').cell? P = some u := fun P u hu => by
      obtain ⟨cs, T, fr, hb⟩ := cell_block hu
      have hne : P.block ≠ D := by rintro e; rw [e, hD] at hb; cases hb; cases hc
      exact (World.cell?_of_block (a := P) (World.putObj_heap_other hne)).trans hu
    exact .inr ⟨b, k, h1, by simpa using h2, fun i p hp => ⟨key _ _ (h3 i p hp).1, key _ _ (h3 i p hp).2⟩⟩
theorem RenI.skip {w : World} {X Bm Bf : Nat} {m : Int} {pre : TL} {x : T3} {A : World} (h : RenI w X Bm Bf m (pre.filter (mayT m)) A) (hx : mayT m x = false) : RenI w X Bm Bf m ((pre ++ [x]).filter (mayT m)) A := by
  rw [List.filter_append]; simpa [hx] using h
theorem filter_snoc (pre : TL) (x : T3) (m : Int) (hx : mayT m x = true) : (pre ++ [x]).filter (mayT m) = pre.filter (mayT m) ++ [x] := by rw [List.filter_append]; simp [hx]
set_option maxRecDepth 100000 in
set_option maxHeartbeats 4000000 in
theorem renamed_any (ho : Option Addr) (hc : Nat) (ha : List ByteArray) (ro : Option Addr) (rc : Nat) (ra : List (List ByteArray)) (bo : Option Addr) (bc : Nat) (hb : List ByteArray) (so : Option Addr) (sc : Nat) (rb : List (List ByteArray)) (lo : Option Addr) (lc : Nat) (l : PL) (w : World)
    (hA : TabIn w ho hc ha ro rc ra) (hB : TabIn w bo bc hb so sc rb) (hP : PairsAt w lo l) (hok : okP l) (hll : l.length ≤ 1024) :
    Calls Tryz.prog 71 #[.agg #[.slice ho ha.length hc, .slice ro ra.length rc], .agg #[.slice bo hb.length bc, .slice so rb.length sc], .slice lo l.length lc] w (PairsOut (pickL (choicesOf ra rb ha hb (freeA ha l) (freeB hb l))) w) := by
  have hinfo : (Tryz.prog.info? 73).map (fun i => (i.zero, i.size, i.bytes)) = some (some (.agg #[.int .i64 0, .int .i64 0, .int .i64 0]), 3, 24) := by kernel_rfl
  obtain ⟨i0, hi, hz0, hz1, hz2⟩ := info_parts3 hinfo
  have HIN := Lib.hid hi
  obtain ⟨CL, HCL⟩ : ∃ CL, Hid (CL = choicesOf ra rb ha hb (freeA ha l) (freeB hb l)) := ⟨_, Lib.hid rfl⟩
  obtain ⟨AL, HAL⟩ : ∃ AL, Hid (AL = allOf ra rb ha hb (freeA ha l) (freeB hb l)) := ⟨_, Lib.hid rfl⟩
  obtain ⟨m, Hm⟩ : ∃ m, Hid (m = max (ra.length : Int) rb.length) := ⟨_, Lib.hid rfl⟩
  have HPl : Hid ((freeA ha l).length ≤ 60) := Lib.hid (Nat.le_trans (outOf_le _ _) hA.hl)
  have HQl : Hid ((freeB hb l).length ≤ 60) := Lib.hid (Nat.le_trans (outOf_le _ _) hB.hl)
  have HAl : Hid (AL.length ≤ 3600) := Lib.hid (by rw [HAL.out, allOf_len]; exact Nat.mul_le_mul HPl.out HQl.out)
  have HAs : Hid (∀ x ∈ AL, 0 ≤ x.2.2 ∧ x.2.2 ≤ 1048576) := Lib.hid (fun x hx => by rw [HAL.out] at hx; have := allOf_score ra rb ha hb _ _ x hx; have := hA.rl; omega)
  have HMay : Hid (AL.filter (mayT m) = CL) := Lib.hid (by rw [HAL.out, HCL.out, Hm.out]; exact all_may ra rb ha hb _ _)
  have HOkT : Hid (okT3 CL) := Lib.hid (fun c hc => by
    have hm := HAs.out c (by rw [← HMay.out] at hc; exact (List.mem_filter.1 hc).1)
    rw [HCL.out] at hc
    obtain ⟨h1, h2, -, h4⟩ := (choices_mem ra rb ha hb _ _ c).1 hc
    obtain ⟨⟨k1, k2⟩, -⟩ := (out_mem _ _ _).1 h1
    obtain ⟨⟨k3, k4⟩, -⟩ := (out_mem _ _ _).1 h2
    have := hA.hl
    have := hB.hl
    exact ⟨Go.WalkArith.wf_i64 (by omega), Go.WalkArith.wf_i64 (by omega), Go.WalkArith.wf_i64 (by omega)⟩)
  rw [← HCL.out]
  obtain ⟨W, HW⟩ : ∃ W, Hid (W = (w.alloc (TabO ho ha.length hc ro ra.length rc)).alloc (TabO bo hb.length bc so rb.length sc)) := ⟨_, Lib.hid rfl⟩
  have hBW : Below w.heap.size w W := by rw [HW.out]; exact two_below _ _ _
  have HBW := Lib.hid hBW
  have hN := two_new w (TabO ho ha.length hc ro ra.length rc) (TabO bo hb.length bc so rb.length sc)
  rw [← HW.out] at hN
  obtain ⟨a0, a1⟩ := tabs hN.2.1
  obtain ⟨b0, b1⟩ := tabs hN.2.2
  have HNa := Lib.hid hN.2.1
  have HNb := Lib.hid hN.2.2
  obtain ⟨V1, HV1⟩ : ∃ V1, Hid (V1 = W.alloc (.cells #[.int .i64 (max (ra.length : Int) rb.length)] 3)) := ⟨_, Lib.hid rfl⟩
  obtain ⟨V2, HV2⟩ : ∃ V2, Hid (V2 = V1.alloc (.cells #[.func (.func 125) #[] #[.pointer (some ⟨W.heap.size, 0, none⟩)]] 158)) := ⟨_, Lib.hid rfl⟩
  obtain ⟨V3, HV3⟩ : ∃ V3, Hid (V3 = V2.alloc (.cells #[.slice none 0 0] 68)) := ⟨_, Lib.hid rfl⟩
  have g1 : Below W.heap.size W V1 := by rw [HV1.out]; exact one_below _ _
  have g2 : Below V1.heap.size V1 V2 := by rw [HV2.out]; exact one_below _ _
  have g3 : Below V2.heap.size V2 V3 := by rw [HV3.out]; exact one_below _ _
  have x1 : V1.heap[W.heap.size]? = some (.cells #[.int .i64 (max (ra.length : Int) rb.length)] 3 (0, 0)) := by rw [HV1.out]; exact World.alloc_heap_new _ _
  have x2 : V2.heap[V1.heap.size]? = some (.cells #[.func (.func 125) #[] #[.pointer (some ⟨W.heap.size, 0, none⟩)]] 158 (0, 0)) := by rw [HV2.out]; exact World.alloc_heap_new _ _
  have x3 : V3.heap[V2.heap.size]? = some (.cells #[.slice none 0 0] 68 (0, 0)) := by rw [HV3.out]; exact World.alloc_heap_new _ _
  have g13 := below_up (below_up g1 g2) g3
  have HI3 : Hid (RenI w V2.heap.size W.heap.size V1.heap.size (max (ra.length : Int) rb.length) [] V3) := Lib.hid ⟨⟨_, x3, World.ownsRow_nil _ _ _ _, fun _ => rfl⟩, (g3.block _ (Nat.lt_of_lt_of_le (lt_of_heap x1) g2.size)).trans ((g2.block _ (lt_of_heap x1)).trans x1), (g3.block _ (lt_of_heap x2)).trans x2, below_up hBW g13⟩
  have HXs : Hid (W.heap.size < V2.heap.size ∧ V1.heap.size < V2.heap.size ∧ V2.heap.size < V3.heap.size ∧ w.heap.size ≤ V2.heap.size) := Lib.hid ⟨Nat.lt_of_lt_of_le (lt_of_heap x1) g2.size, lt_of_heap x2, lt_of_heap x3, Nat.le_trans hBW.size (below_up g1 g2).size⟩
  have HG13 := Lib.hid g13
  obtain ⟨⟨d0, d1⟩, e0, e1⟩ : (V3.cell? ⟨w.heap.size, 0, none⟩ = some (.slice ho ha.length hc) ∧ V3.cell? ⟨w.heap.size, 1, none⟩ = some (.slice ro ra.length rc)) ∧ V3.cell? ⟨w.heap.size + 1, 0, none⟩ = some (.slice bo hb.length bc) ∧ V3.cell? ⟨w.heap.size + 1, 1, none⟩ = some (.slice so rb.length sc) :=
    ⟨tabs ((g13.block _ (lt_of_heap hN.2.1)).trans hN.2.1), tabs ((g13.block _ (lt_of_heap hN.2.2)).trans hN.2.2)⟩
  have CC := Lib.hid (cchoices_any ho ha.length hc ro ra.length rc bo hb.length bc so rb.length sc lo l.length lc V3)
  have HA3 := Lib.hid ((hA.kept hBW).kept g13)
  have HB3 := Lib.hid ((hB.kept hBW).kept g13)
  have HP3 := Lib.hid ((hP.kept hBW).kept g13)
  have HOk := Lib.hid hok
  clear hN hBW hi hinfo g1 g2 g3 x1 x2 x3 g13 hA hB hP hok
  refine (callsIn_wide (n := 5)).1 ?_
  refine callsIn_of_wp_marks Tryz.func71 rfl trivial ?_ rfl
  simp only [Tryz.ntmps71, List.size_toArray, List.length_cons, List.length_nil, Nat.reduceAdd, Nat.reduceSub, Array.replicate_succ, Array.replicate_zero, List.push_toArray, List.append_toArray, List.nil_append, List.cons_append]
  gi_upto_region 1 with fail
  rw [show (w.alloc (Obj.cells #[Value.slice ho ha.length hc, Value.slice ro ra.length rc] 25)).alloc (Obj.cells #[Value.slice bo hb.length bc, Value.slice so rb.length sc] 25) = W from HW.out.symm]
  gi_upto_region 2 with fail
  rw [← HV1.out]
  gi_upto_region 3 with fail
  rw [← HV2.out]
  clear a0 a1 b0 b1
  gi_upto_region 4 with fail
  rw [← HV3.out]
  gi_wp2_with fail
  refine ⟨trivial, (callsIn_wide.2 CC.out).mono ?_⟩
  rintro e U ⟨rfl, hU⟩
  have b2 : Below V3.heap.size V3 U := by rw [hU]; exact (two_below _ _ _).alloc (two_below _ _ _).size _
  have y1 : U.heap[V3.heap.size]? = some (TabO ho ha.length hc ro ra.length rc) := by rw [hU, Below.heap_alloc _ _ _ (by simp; omega)]; exact (two_new _ _ _).2.1
  have y2 : U.heap[V3.heap.size + 1]? = some (TabO bo hb.length bc so rb.length sc) := by rw [hU, Below.heap_alloc _ _ _ (by simp)]; exact (two_new _ _ _).2.2
  have y3 : U.heap[V3.heap.size + 1 + 1]? = some (.cells #[.slice lo l.length lc] 26 (0, 0)) := by
    rw [hU]
    have := World.alloc_heap_new ((V3.alloc (TabO ho ha.length hc ro ra.length rc)).alloc (TabO bo hb.length bc so rb.length sc)) (.cells #[.slice lo l.length lc] 26)
    simpa using this
  have TL := Lib.hid (choices1_tells 4 V2.heap.size (V3.heap.size + 1 + 1) V3.heap.size (V3.heap.size + 1) ho hc ha ro rc ra bo bc hb so sc rb lo lc l U (HA3.out.kept b2) (HB3.out.kept b2) (HP3.out.kept b2) HOk.out hll y3 y1 y2 (Nat.lt_of_lt_of_le HXs.out.2.2.1 b2.size))
  have H0 := Lib.hid (HI3.out.stays b2)
  have HXU : Hid (w.heap.size ≤ V2.heap.size ∧ V2.heap.size < U.heap.size ∧ W.heap.size ≠ V2.heap.size ∧ V1.heap.size ≠ V2.heap.size) := Lib.hid ⟨HXs.out.2.2.2, Nat.lt_of_lt_of_le HXs.out.2.2.1 b2.size, Nat.ne_of_lt HXs.out.1, Nat.ne_of_lt HXs.out.2.1⟩
  rw [← HAL.out] at TL
  rw [← Hm.out] at H0
  clear hU b2 y1 y2 y3 d0 d1 e0 e1 CC HI3 HXs HA3 HB3 HP3
  gi_wp2_with fail
  refine wpIn_range_tells rfl (by decide) (gf := 178) (lb := #[.pointer (some ⟨V3.heap.size + 1 + 1, 0, none⟩), .pointer (some ⟨V3.heap.size, 0, none⟩), .pointer (some ⟨V3.heap.size + 1, 0, none⟩)]) rfl trivial (enters_of Tryz.func178 (by kernel_rfl) rfl)
    TL.out (Below.refl _ _) (fun _ => rfl) KeepsY.trans (fun A lp o o' hl ho hc => KeepsY.put o' (by have := HXU.out; omega) ho hc)
    (fun {A B} hA hAB => KeepsY.of_below (by have := HXU.out; omega) hAB)
    (fun pre A => RenI w V2.heap.size W.heap.size V1.heap.size m (pre.filter (mayT m)) A) (fun _ _ => False) (fun pre A B h k => h.stays k) (fun pre A B h k => h)
    (fun pre A lp o o' h hl ho hc => h.apart o' (by have := HXU.out; omega) ho hc) (fun pre A lp o o' h hl ho hc => h) (fun pre A h e => by
      subst e
      obtain ⟨v, h1, h2, h3⟩ := h.held
      rw [h3 rfl] at h1; exact h1)
    (fun pre x A B h k => h) (fun pre x A lp o o' h hl ho hc => h) H0.out
    (fun x a' A => ∃ b, a' = { tmps := #[.agg #[.slice ho ha.length hc, .slice ro ra.length rc], .agg #[.slice bo hb.length bc, .slice so rb.length sc], .slice lo l.length lc, .pointer (some ⟨w.heap.size, 0, none⟩), .pointer (some ⟨w.heap.size + 1, 0, none⟩), undef, .slice none 0 0, .pointer (some ⟨W.heap.size, 0, none⟩), .pointer (some ⟨V1.heap.size, 0, none⟩), .pointer (some ⟨V2.heap.size, 0, none⟩), .pointer (some ⟨b, 0, none⟩), .pointer (some ⟨w.heap.size, 1, none⟩), .slice ro ra.length rc, .int .i64 (ra.length : Int), .pointer (some ⟨w.heap.size + 1, 1, none⟩), .slice so rb.length sc, .int .i64 (rb.length : Int), .int .i64 (max (ra.length : Int) rb.length), .func (.func 125) #[] #[.pointer (some ⟨W.heap.size, 0, none⟩)], .agg #[.slice ho ha.length hc, .slice ro ra.length rc], .agg #[.slice bo hb.length bc, .slice so rb.length sc], .slice lo l.length lc, .func (.func 178) #[] #[.pointer (some ⟨V3.heap.size + 1 + 1, 0, none⟩), .pointer (some ⟨V3.heap.size, 0, none⟩), .pointer (some ⟨V3.heap.size + 1, 0, none⟩)], .agg #[.int .i64 x.1, .int .i64 x.2.1, .int .i64 x.2.2], undef, undef, undef, undef, undef, undef, undef, undef, undef], defers := [] } ∧ A.heap[b]? = some (.cells #[.int .i64 x.1, .int .i64 x.2.1, .int .i64 x.2.2] 73 (0, 0)))
    (fun x a' A lp o o' h hl ho hc => by obtain ⟨b, h1, h2⟩ := h; exact ⟨b, h1, heap_put ho hc h2⟩) ?assign ?body ?done ?stop
  case assign =>
    rintro lp ⟨p, q, s⟩ A K hA hK
    dsimp only [encT3] at hK ⊢
    gi_wp2_with fail
    exact hK _ _ (one_below A _) ⟨A.heap.size, rfl, World.alloc_heap_new _ _⟩
  case body =>
    rintro lp pre ⟨p, q, s⟩ a' A hA hI hok ⟨b, rfl, hbx⟩
    dsimp only at hbx ⊢
    have hmem : (p, q, s) ∈ AL := hok.subset (by simp)
    have hsc := HAs.out _ hmem
    have hpl : (pre.filter (mayT m)).length ≤ 3600 := by
      have h1 := List.length_filter_le (mayT m) pre
      have h2 := hok.length_le
      have h3 := HAl.out
      rw [List.length_append] at h2
      omega
    obtain ⟨k0, _⟩ := cell_of_box_l hI.may
    have z0 : A.cell? ⟨b, 0, none⟩ = some (.int .i64 p) := (Lib.cell_of_heap hbx 0).trans rfl
    have z1 : A.cell? ⟨b, 1, none⟩ = some (.int .i64 q) := (Lib.cell_of_heap hbx 1).trans rfl
    have z2 : A.cell? ⟨b, 2, none⟩ = some (.int .i64 s) := (Lib.cell_of_heap hbx 2).trans rfl
    have C1 := Lib.hid (cmay_any (p, q, s) W.heap.size m A hI.rows hsc.1 hsc.2)
    have HI := Lib.hid hI
    have HBx := Lib.hid hbx
    dsimp only at C1
    clear hI hok hmem hsc hbx
    gi_wp2_with fail
    refine ⟨?_, (CallsIn.inRound lp (callsIn_wide.2 C1.out)).mono ?_⟩
    · first | trivial | (intro h; cases h) | skip
    rintro e A1 ⟨rfl, b1⟩
    have HK1 : Hid (KeepsY V2.heap.size A A1) := Lib.hid (KeepsY.of_below (by have := HXU.out; omega) b1)
    have HO1 : Hid (KeepsOthers A A1) := Lib.hid ⟨b1.size, fun k o hk _ => below_kept b1 hk⟩
    have HI1 := Lib.hid (HI.out.stays b1)
    have hbx1 := below_kept b1 HBx.out
    clear k0 z0 z1 z2 b1 C1 HI HBx
    cases hr : mayT m (p, q, s) with
    | false =>
      have Q : Hid (KeepsOthers A A1 ∧ KeepsY V2.heap.size A A1 ∧ RenI w V2.heap.size W.heap.size V1.heap.size m ((pre ++ [(p, q, s)]).filter (mayT m)) A1) := Lib.hid ⟨HO1.out, HK1.out, HI1.out.skip hr⟩
      clear hbx1 HK1 HO1 HI1
      gi_wp2_with fail
      exact Q.out
    | true =>
      have z0 : A1.cell? ⟨b, 0, none⟩ = some (.int .i64 p) := (Lib.cell_of_heap hbx1 0).trans rfl
      have z1 : A1.cell? ⟨b, 1, none⟩ = some (.int .i64 q) := (Lib.cell_of_heap hbx1 1).trans rfl
      have z2 : A1.cell? ⟨b, 2, none⟩ = some (.int .i64 s) := (Lib.cell_of_heap hbx1 2).trans rfl
      obtain ⟨v, hv, ho, hn⟩ := HI1.out.held
      obtain ⟨F, hF⟩ : ∃ F, F = pre.filter (mayT m) := ⟨_, rfl⟩
      rw [← hF] at ho hpl
      obtain ⟨vo, vc, rfl⟩ := own_slice ho
      obtain ⟨fn, hfn⟩ : ∃ fn, fn = F.length := ⟨_, rfl⟩
      rw [← hfn] at ho hpl
      have HF := Lib.hid hF
      have HFn := Lib.hid hfn
      have HO := Lib.hid ho
      rw [← hfn] at hv
      have HVv := Lib.hid hv
      have HOA : Hid ((A1.alloc (.cells #[.int .i64 p, .int .i64 q, .int .i64 s] 73)).ownsRow w.heap.size 73 3 (.slice vo fn vc) fn (cellsT F)) := Lib.hid (ho.alloc _)
      have cl := hv.cell
      have hws : w.heap.size ≤ A1.heap.size := HI1.out.below.size
      clear ho hv hn hbx1 hF hfn
      gi_wp2_with (gi_at_builtin; refine wpListIn_append_lies _ rfl _ _ 68 rfl w.heap.size 73 i0 (.agg #[.int .i64 0, .int .i64 0, .int .i64 0]) 3 24 Tryz.underlying68 HIN.out hz0 hz1 hz2 rfl (by decide) _ _ _ rfl HOA.out ⟨A1.heap.size, 0, none⟩ 1 1 [.int .i64 p, .int .i64 q, .int .i64 s] rfl rfl ?c1 ?c2 (by decide) ?c3 ?c4 ?c5 (A1.heap.size + 1) (by simp) ?_)
      case c1 => exact lit_cell3 A1 _ _ _ 73
      case c2 => intro u hu; simp at hu; rcases hu with rfl | rfl | rfl <;> rfl
      case c3 => unfold maxLen; omega
      case c4 => omega
      case c5 => simp; omega
      intro g cap w3 hown' hgrow hl
      obtain ⟨q1, q2, q3, q4, q5⟩ := Boxed.appended (n₀ := w.heap.size) (size := 3) HVv.out (by decide) HO.out hws HXU.out.1 hown' hgrow
      have q6 := KeepsY.append HVv.out hgrow hl q2
      have k1 := q1.cell
      have k2 := q1.frozen
      have r1 := q6.same _ _ _ _ HI1.out.rows HXU.out.2.2.1 (by rw [ownOf_boxed HVv.out]; exact own_neC HO.out HI1.out.rows (by decide))
      have r2 := q6.same _ _ _ _ HI1.out.may HXU.out.2.2.2 (by rw [ownOf_boxed HVv.out]; exact own_neC HO.out HI1.out.may (by decide))
      have Q : Hid (KeepsOthers A (w3.setCell ⟨V2.heap.size, 0, none⟩ (.slice (some ⟨g, 0, none⟩) (fn + 1) cap)) ∧ KeepsY V2.heap.size A (w3.setCell ⟨V2.heap.size, 0, none⟩ (.slice (some ⟨g, 0, none⟩) (fn + 1) cap)) ∧ RenI w V2.heap.size W.heap.size V1.heap.size m ((pre ++ [(p, q, s)]).filter (mayT m)) (w3.setCell ⟨V2.heap.size, 0, none⟩ (.slice (some ⟨g, 0, none⟩) (fn + 1) cap))) :=
        Lib.hid ⟨HO1.out.trans q4, HK1.out.trans q6, ⟨⟨_, q2, by rw [filter_snoc _ _ _ hr, ← HF.out, List.length_append, cellsT_app, ← HFn.out]; exact q3, fun e => by rw [filter_snoc _ _ _ hr] at e; simp at e⟩, r1, r2, HI1.out.below.trans q5⟩⟩
      clear hown' hgrow q1 q2 q3 q4 q5 q6 r1 r2 HO1 HK1 HI1 HVv HO HOA HF HFn
      gi_wp2_with fail
      exact Q.out
  case done =>
    rintro D xs A hD hS hI hK
    subst hS
    rw [HMay.out] at hI
    obtain ⟨v, hv, ho, -⟩ := hI.held
    have c0 := hv.cell
    obtain ⟨xo, xc, rfl, ht, -, -⟩ := OwnTL.tripAt (w := A) (l := CL) ho
    have hn : CL.length ≤ 1073741824 := by rw [← HMay.out]; have := List.length_filter_le (mayT m) xs; have := HAl.out; omega
    have C5 := Lib.hid (pick_any xo xc CL A hn HOkT.out ht)
    have HBA := Lib.hid hI.below
    have HKd := Lib.hid hK
    have HDw : Hid (w.heap.size ≤ D) := Lib.hid (by have := HXU.out; omega)
    clear hI hv ho ht hn hK
    gi_wp2_with fail
    refine ⟨trivial, (callsIn_wide.2 C5.out).mono ?_⟩
    rintro e A5 ⟨mo, mc, rfl, hm, k1, k2, b5⟩
    have hK5 := below_kept b5 HKd.out
    have HE : Hid (PairsOut (pickL CL) w (.returned (.slice mo (pickL CL).length mc)) (A5.putObj D (.deferred none))) := Lib.hid ⟨mo, mc, rfl, hm.put _ hK5 rfl, k1, k2, below_put (.deferred none) (below_up HBA.out b5) HDw.out⟩
    clear hm k1 k2 b5 C5 c0 HKd
    gi_wp2_with fail
    refine ⟨by simp, .inl ⟨_, _, rfl, run_takeDeferred hK5, ?_⟩⟩
    refine ⟨_, results_tmp rfl _ _ _, ?_⟩
    exact HE.out
  case stop =>
    rintro D pre A _ _ h _
    exact h.elim
end Go.Proofs.YtdenehnneloegaaGreatDoor
namespace Go.Proofs.YtdenehnneloegaaGreatDoor
open Go.RowKit Go.Shelf
set_option linter.unusedVariables false
set_option maxRecDepth 100000 in
set_option maxHeartbeats 1000000 in
theorem orE_any (ao : Option Addr) (cap : Nat) (xs : List Int) (w : World) (hn : xs.length ≤ 274877906944) (hR : IntsAt w ao xs) :
    Calls Tryz.prog 28 #[.slice ao xs.length cap] w fun e w' => e = .returned (.int .i64 (orL xs)) ∧ w' = w := by
  have HRo := Lib.hid hR
  have HH := Lib.hid (or_hit xs)
  have HNo := Lib.hid (or_none xs)
  clear hR
  generalize orL xs = F at HH HNo ⊢
  go_enter Tryz.func28, Tryz.ntmps28
  go_wp2_with fail
  go_loopw [8] (fun i wr => ∃ (k : Nat), k ≤ xs.length ∧ i = .int .i64 k ∧ Hid (wr = w) ∧ Hid (∀ (j : Nat) y, j < k → xs[j]? = some y → y = 0)) (fun i _ => xs.length - (intOf i).toNat)
  case atStart => exact ⟨0, Nat.zero_le _, rfl, Lib.hid rfl, Lib.hid (fun j y hj _ => by omega)⟩
  case round =>
    obtain ⟨k, hk, rfl, HW, HZ⟩ := hrel
    by_cases hlt : k < xs.length
    · obtain ⟨x, hx⟩ : ∃ x, xs[k]? = some x := ⟨_, List.getElem?_eq_getElem hlt⟩
      have hR := HRo.out
      rw [← HW.out] at hR
      rcases hR with h0 | ⟨A, rfl, hA, hcell⟩
      · rw [h0] at hlt; simp at hlt
      have hc := hcell k _ hx
      have HX := Lib.hid hx
      clear hcell hx
      by_cases h0 : x = 0
      · have HZ2 : Hid (∀ (j : Nat) y, j < k + 1 → xs[j]? = some y → y = 0) := Lib.hid (fun j y hj hy => by
          by_cases e : j = k
          · subst e; rw [HX.out] at hy; cases hy; exact h0
          · exact HZ.out j y (by omega) hy)
        subst h0
        go_wp2_with fail
        go_roundw
        case rel => exact ⟨k + 1, by omega, by go_num, HW, HZ2⟩
        case measure => simp [intOf]; omega
      · have E := Lib.hid (HH.out k x HX.out HZ.out h0)
        go_wp2_with fail
        go_ret
        exact ⟨by rw [E.out]; rfl, HW.out⟩
    · obtain rfl : k = xs.length := by omega
      have E := Lib.hid (HNo.out HZ.out)
      go_wp2_with fail
      go_ret
      exact ⟨by rw [E.out]; rfl, HW.out⟩
theorem ints2_at (w : World) (a b : Int) (T : TypeId) : IntsAt (w.alloc (.cells #[.int .i64 a, .int .i64 b] T)) (some ⟨w.heap.size, 0, none⟩) [a, b] := by
  refine .inr ⟨_, rfl, by simp, fun i p hp => ?_⟩
  have h := World.alloc_heap_new w (.cells #[.int .i64 a, .int .i64 b] T)
  have e : (⟨w.heap.size, 0, none⟩ : Addr).add i = ⟨w.heap.size, i, none⟩ := by unfold Addr.add; split <;> simp_all
  rw [e, Lib.cell_of_heap h]
  match i, hp with
  | 0, hp => simp at hp; subst hp; rfl
  | 1, hp => simp at hp; subst hp; rfl
  | i + 2, hp => simp at hp
/-- the first error of two -/
theorem or2_any (a b : Int) (w : World) : Calls Tryz.prog 28 #[.slice (some ⟨w.heap.size, 0, none⟩) 2 2] (w.alloc (.cells #[.int .i64 a, .int .i64 b] 29)) fun e w' => e = .returned (.int .i64 (if a ≠ 0 then a else b)) ∧ Below w.heap.size w w' := by
  refine (orE_any (some ⟨w.heap.size, 0, none⟩) 2 [a, b] _ (by simp) (ints2_at w a b 29)).mono ?_
  rintro e w' ⟨rfl, rfl⟩
  refine ⟨?_, one_below _ _⟩
  simp only [orL]
  by_cases h : a = 0
  · subst h
    by_cases h2 : b = 0
    · subst h2; rfl
    · simp [h2]
  · simp [h]
theorem named_ok2 (ha hb : List ByteArray) (h1 : ha.length ≤ 60) (h2 : hb.length ≤ 60) : okP (namedL ha hb) := fun p hp => by
  obtain ⟨k, s, e1, h3, h4, h5⟩ := (named_mem ha hb p.1 p.2).1 hp
  obtain ⟨j, e2, h6⟩ := find_there ha s (by omega)
  have := (List.getElem?_eq_some_iff.1 h3).1
  have := (List.getElem?_eq_some_iff.1 h6).1
  exact ⟨Go.WalkArith.wf_i64 (by omega), Go.WalkArith.wf_i64 (by omega)⟩
set_option maxRecDepth 100000 in
set_option maxHeartbeats 8000000 in
theorem align_ok : AlignOK := by
  intro ho hc ha ro rc ra bo bc hb so sc rb rename w hA hB
  obtain ⟨W, HW⟩ : ∃ W, Hid (W = (w.alloc (TabO ho ha.length hc ro ra.length rc)).alloc (TabO bo hb.length bc so rb.length sc)) := ⟨_, Lib.hid rfl⟩
  have hBW : Below w.heap.size w W := by rw [HW.out]; exact two_below _ _ _
  have HB0 := Lib.hid hBW
  have hN := two_new w (TabO ho ha.length hc ro ra.length rc) (TabO bo hb.length bc so rb.length sc)
  rw [← HW.out] at hN
  have box : Hid (∀ V, Below W.heap.size W V → (V.cell? ⟨w.heap.size, 0, none⟩ = some (.slice ho ha.length hc) ∧ V.cell? ⟨w.heap.size, 1, none⟩ = some (.slice ro ra.length rc)) ∧ V.cell? ⟨w.heap.size + 1, 0, none⟩ = some (.slice bo hb.length bc) ∧ V.cell? ⟨w.heap.size + 1, 1, none⟩ = some (.slice so rb.length sc)) := Lib.hid (fun V hV => ⟨tabs ((hV.block _ (lt_of_heap hN.2.1)).trans hN.2.1), tabs ((hV.block _ (lt_of_heap hN.2.2)).trans hN.2.2)⟩)
  have HA1 := Lib.hid (fun V (h : Below W.heap.size W V) => (hA.kept hBW).kept h)
  have HB1 := Lib.hid (fun V (h : Below W.heap.size W V) => (hB.kept hBW).kept h)
  have C1 := Lib.hid (fun V (h : Below W.heap.size W V) => tcheck_in (HA1.out V h))
  have C2 := Lib.hid (fun V (h : Below W.heap.size W V) => tcheck_in (HB1.out V h))
  have CN := Lib.hid (fun V (h : Below W.heap.size W V) => named_ok ho hc ha ro rc ra bo bc hb so sc rb V (HA1.out V h) (HB1.out V h))
  have HNl : Hid ((namedL ha hb).length ≤ 60) := Lib.hid (Nat.le_trans (named_le ha hb hb.length) hB.hl)
  have HNo := Lib.hid (named_ok2 ha hb hA.hl hB.hl)
  have CR := Lib.hid (fun lo lc V (h : Below W.heap.size W V) hP => renamed_any ho hc ha ro rc ra bo bc hb so sc rb lo lc (namedL ha hb) V (HA1.out V h) (HB1.out V h) hP HNo.out (by have := HNl.out; omega))
  have HPi : Hid ((pickL (choicesA ra rb ha hb)).length ≤ 1048576) := Lib.hid (Nat.le_trans (pick_len _) (choicesA_le ra rb ha hb (by have := hA.hl; omega) (by have := hB.hl; omega)))
  have HE0 : Hid ((if checkI ha ra ≠ 0 then checkI ha ra else checkI hb rb) = alignE ha ra hb rb) := Lib.hid rfl
  have HR0 : Hid (alignE ha ra hb rb ≠ 0 → alignR ha ra hb rb rename = []) := Lib.hid (fun h => by unfold alignR; rw [if_neg h])
  have HR1 : Hid (alignE ha ra hb rb = 0 → rename = false → alignR ha ra hb rb rename = namedL ha hb) := Lib.hid (fun h e => by unfold alignR; rw [if_pos h, e]; rfl)
  have HR2 : Hid (alignE ha ra hb rb = 0 → rename = true → alignR ha ra hb rb rename = (pickL (choicesA ra rb ha hb)).foldl putB (namedL ha hb)) := Lib.hid (fun h e => by unfold alignR; rw [if_pos h, e]; rfl)
  have HPm : Hid (((pickL (choicesA ra rb ha hb)).foldl putB (namedL ha hb)).Perm (namedL ha hb ++ pickL (choicesA ra rb ha hb))) := Lib.hid (puts_perm _ _)
  have HRs : Hid (RiseB ((pickL (choicesA ra rb ha hb)).foldl putB (namedL ha hb))) := Lib.hid (by have := align_rise ra rb ha hb true; unfold alignL at this; rwa [if_pos rfl] at this)
  have HCh : Hid (choicesOf ra rb ha hb (freeA ha (namedL ha hb)) (freeB hb (namedL ha hb)) = choicesA ra rb ha hb) := Lib.hid rfl
  obtain ⟨⟨a0, a1⟩, b0, b1⟩ := box.out W (Below.refl _ _)
  rw [HCh.out] at CR
  clear hN hBW hA hB HA1 HB1 HNo HCh
  generalize alignR ha ra hb rb rename = R at HR0 HR1 HR2 ⊢
  generalize alignE ha ra hb rb = E at HE0 HR0 HR1 HR2 ⊢
  generalize (pickL (choicesA ra rb ha hb)).foldl putB (namedL ha hb) = RP at HR2 HPm HRs
  generalize pickL (choicesA ra rb ha hb) = PL0 at CR HPi HPm
  generalize namedL ha hb = NL at CN CR HNl HR1 HPm
  generalize checkI ha ra = E1 at C1 HE0
  generalize checkI hb rb = E2 at C2 HE0
  have HBel : Hid (Below W.heap.size W W.drew) := Lib.hid ((Below.refl _ W).drew)
  go_enter Tryz.func26, Tryz.ntmps26
  go_upto_region 1 with fail
  rw [show (w.alloc (Obj.cells #[Value.slice ho ha.length hc, Value.slice ro ra.length rc] 25)).alloc (Obj.cells #[Value.slice bo hb.length bc, Value.slice so rb.length sc] 25) = W from HW.out.symm]
  go_region_held3 (fun V => (V.cell? ⟨w.heap.size, 0, none⟩ = some (.slice ho ha.length hc) ∧ V.cell? ⟨w.heap.size, 1, none⟩ = some (.slice ro ra.length rc)) ∧ V.cell? ⟨w.heap.size + 1, 0, none⟩ = some (.slice bo hb.length bc) ∧ V.cell? ⟨w.heap.size + 1, 1, none⟩ = some (.slice so rb.length sc)) ((refine ⟨⟨?_, ?_⟩, ?_, ?_⟩ <;> first | assumption | go_keep))
    (first
      | (go_at_call 21; refine (C1.out _ HBel.out).mono ?_; rintro e w2 ⟨rfl, b2⟩; have HBel := Lib.hid (below_up HBel.out b2); obtain ⟨⟨a0, a1⟩, b0, b1⟩ := box.out w2 HBel.out; clear b2 C1)
      | (go_at_call 21; refine (C2.out _ HBel.out).mono ?_; rintro e w3 ⟨rfl, b2⟩; have HBel := Lib.hid (below_up HBel.out b2); obtain ⟨⟨a0, a1⟩, b0, b1⟩ := box.out w3 HBel.out; clear b2 C2)
      | (go_at_call 28; refine (or2_any E1 E2 w3).mono ?_; rintro e w4 ⟨rfl, b2⟩; rw [HE0.out]; have HBel := Lib.hid (below_up HBel.out b2); obtain ⟨⟨a0, a1⟩, b0, b1⟩ := box.out w4 HBel.out; clear b2))
  rename_i hHeld
  clear hHeld HE0 box
  have HBc := Lib.hid (fun V (h : Below w4.heap.size w4 V) => below_up HBel.out h)
  have D3 := Lib.hid (CN.out w4 HBel.out)
  by_cases hE : E = 0
  · subst hE
    have HR1' := Lib.hid (HR1.out rfl)
    have HR2' := Lib.hid (HR2.out rfl)
    have hW4 : Hid (∀ V, Below w4.heap.size w4 V → (V.cell? ⟨w.heap.size, 0, none⟩ = some (.slice ho ha.length hc) ∧ V.cell? ⟨w.heap.size, 1, none⟩ = some (.slice ro ra.length rc)) ∧ V.cell? ⟨w.heap.size + 1, 0, none⟩ = some (.slice bo hb.length bc) ∧ V.cell? ⟨w.heap.size + 1, 1, none⟩ = some (.slice so rb.length sc)) :=
      Lib.hid (fun V h => ⟨⟨(h.cell (p := ⟨_, _, none⟩) (block_lt_of_cell a0)).trans a0, (h.cell (p := ⟨_, _, none⟩) (block_lt_of_cell a1)).trans a1⟩, (h.cell (p := ⟨_, _, none⟩) (block_lt_of_cell b0)).trans b0, (h.cell (p := ⟨_, _, none⟩) (block_lt_of_cell b1)).trans b1⟩)
    clear HR0 HR1 HR2 CN
    go_wp2_with fail
    refine D3.out.mono ?_; rintro e w5 ⟨lo, lc, rfl, p5, k1, k2, b5⟩
    have HP := Lib.hid p5
    have HK1 := Lib.hid k1
    have HK2 := Lib.hid k2
    have HB5 := Lib.hid (below_up HBel.out b5)
    have D4 := Lib.hid (CR.out lo lc w5 HB5.out p5)
    clear a0 a1 b0 b1 D3 CR HBc
    obtain ⟨⟨a0, a1⟩, b0, b1⟩ := hW4.out w5 b5
    clear p5 k1 k2 b5 hW4
    cases rename with
    | false =>
      have HE : Hid (AlignOut 0 R w (.returned (.tuple #[.slice lo NL.length lc, .int .i64 0])) w5) := Lib.hid (by rw [HR1'.out rfl]; exact ⟨lo, lc, rfl, HP.out, HK1.out, HK2.out, below_up HB0.out HB5.out⟩)
      clear D4 HP HK1 HK2 HR1' HR2'
      go_wp2_with fail
      refine bodyPost_ret (v := .tuple #[.slice lo NL.length lc, .int .i64 0]) (by simp [results, Tryz.results26, go_sem]) rfl ?_
      exact HE.out
    | true =>
      have HRe := Lib.hid (HR2'.out rfl)
      clear HR1' HR2'
      go_upto_region 7 with fail
      go_wp2_with fail
      refine D4.out.mono ?_; rintro e w6 ⟨mo, mc, rfl, m6, k3, k4, b6⟩
      have b7 := one_below w6 (.cells #[.slice lo NL.length lc, .slice mo PL0.length mc] 26)
      have C5 := Lib.hid (together_any lo mo lc mc NL PL0 RP (w6.alloc (.cells #[.slice lo NL.length lc, .slice mo PL0.length mc] 26)) (by have := HNl.out; have := HPi.out; omega) ((HP.out.kept b6).kept b7) (m6.kept b7) HK1.out k3 HK2.out k4 w6.heap.size (World.alloc_heap_new _ _) HPm.out HRs.out)
      have HB7 := Lib.hid (below_up (below_up HB5.out b6) b7)
      clear D4 m6 k3 k4 b6 b7 HP HK1 HK2 a0 a1 b0 b1 HPm HRs
      go_wp2_with fail
      refine C5.out.mono ?_; rintro e w7 ⟨xo, xc, rfl, x7, j1, j2, b8⟩
      have HE : Hid (AlignOut 0 R w (.returned (.tuple #[.slice xo RP.length xc, .int .i64 0])) w7) := Lib.hid (by rw [HRe.out]; exact ⟨xo, xc, rfl, x7, j1, j2, below_up HB0.out (below_up HB7.out b8)⟩)
      clear x7 j1 j2 b8 C5 HRe
      go_wp2_with fail
      refine bodyPost_ret (v := .tuple #[.slice xo RP.length xc, .int .i64 0]) (by simp [results, Tryz.results26, go_sem]) rfl ?_
      exact HE.out
  · have hbE : (E != 0) = true := by simp [hE]
    have HE : Hid (AlignOut E R w (.returned (.tuple #[.slice none 0 0, .int .i64 E])) w4) := Lib.hid (by rw [HR0.out hE]; exact ⟨none, 0, rfl, .inl rfl, fun _ => rfl, Nat.le_refl _, below_up HB0.out HBel.out⟩)
    clear HR0 HR1 HR2 CN CR D3
    go_wp2_with fail
    refine bodyPost_ret (v := .tuple #[.slice none 0 0, .int .i64 E]) (by simp [results, Tryz.results26, go_sem]) rfl ?_
    exact HE.out
end Go.Proofs.YtdenehnneloegaaGreatDoor
namespace Go.Proofs.YtdenehnneloegaaGreatDoor
set_option linter.unusedVariables false
theorem alignE_zero {ha : List ByteArray} {ra : List (List ByteArray)} {hb : List ByteArray} {rb : List (List ByteArray)} (h : alignE ha ra hb rb = 0) : checkI ha ra = 0 ∧ checkI hb rb = 0 := by
  by_cases h1 : checkI ha ra = 0
  · refine ⟨h1, ?_⟩
    unfold alignE at h
    rw [if_neg (by simp [h1])] at h
    exact h
  · unfold alignE at h
    rw [if_pos h1] at h
    exact absurd h h1
theorem rises_of (l : PL) (h : RiseB l) : risesB l = true := by
  rw [risesB_iff]
  intro j p q h1 h2
  obtain ⟨a1, e1⟩ := List.getElem?_eq_some_iff.1 h1
  obtain ⟨a2, e2⟩ := List.getElem?_eq_some_iff.1 h2
  have := List.pairwise_iff_getElem.1 h j (j + 1) a1 a2 (by omega)
  rw [e1, e2] at this
  omega
theorem wf_small (n : Nat) (h : n ≤ 60) : (Lit.int .i64 (n : Int)).wf = true := Go.WalkArith.wf_i64 (n := (n : Int)) (by omega)
theorem once_facts {ha : List ByteArray} {ra : List (List ByteArray)} {hb : List ByteArray} {rb : List (List ByteArray)} {rename : Bool} (h : alignE ha ra hb rb = 0) (h60 : ha.length ≤ 60) (h61 : hb.length ≤ 60) :
    (∀ (k : Nat) p, (alignR ha ra hb rb rename)[k]? = some p → ∃ (i j : Nat) (s t : ByteArray), p = ((i : Int), (j : Int)) ∧ ha[i]? = some s ∧ hb[j]? = some t ∧ (s = t ∨ (rename = true ∧ findL hb s < 0 ∧ findL ha t < 0))) ∧
    okP (alignR ha ra hb rb rename) ∧ checkP (alignR ha ra hb rb rename) ha.length hb.length = 0 ∧
    (namedL ha hb).length ≤ (alignR ha ra hb rb rename).length ∧ (rename = false → (alignR ha ra hb rb rename).length = (namedL ha hb).length) := by
  obtain ⟨h1, h2⟩ := alignE_zero h
  have na := nodup_of_dup ha (check_dup h1)
  have nb := nodup_of_dup hb (check_dup h2)
  rw [(align_good ha ra hb rb rename h1 h2).2]
  have hp : ∀ p ∈ alignL ra rb ha hb rename, ∃ (i j : Nat) (s t : ByteArray), p = ((i : Int), (j : Int)) ∧ ha[i]? = some s ∧ hb[j]? = some t ∧ (s = t ∨ (rename = true ∧ findL hb s < 0 ∧ findL ha t < 0)) := fun p hp => by
    obtain ⟨i, j, s, t, e1, e2, e3⟩ := align_pair ra rb ha hb na rename p.1 p.2 hp
    exact ⟨i, j, s, t, by rw [← e1, ← e2], e3⟩
  refine ⟨fun k p hk => hp p (List.mem_of_getElem? hk), fun p hm => ?_, ?_, ?_, ?_⟩
  · obtain ⟨i, j, s, t, rfl, h3, h4, -⟩ := hp p hm
    have h5 := (List.getElem?_eq_some_iff.1 h3).1
    have h6 := (List.getElem?_eq_some_iff.1 h4).1
    exact ⟨wf_small i (by omega), wf_small j (by omega)⟩
  · refine checkP5 (by omega) ?_ ?_ (rises_of _ (align_rise _ _ _ _ _))
    · rw [List.any_eq_false]
      intro p hm
      obtain ⟨i, j, s, t, rfl, h3, h4, -⟩ := hp p hm
      have h5 := (List.getElem?_eq_some_iff.1 h3).1
      have h6 := (List.getElem?_eq_some_iff.1 h4).1
      simp only [badP, Bool.or_eq_true, decide_eq_true_eq]
      omega
    · refine twice_no _ ?_ ?_
      · rw [List.take_length]; exact align_fst ra rb ha hb nb rename
      · rw [List.take_length, List.Nodup, List.pairwise_map]
        exact (align_rise ra rb ha hb rename).imp fun h e => by omega
  · rw [align_len]; omega
  · intro hr; subst hr; rw [align_len]; simp
end Go.Proofs.YtdenehnneloegaaGreatDoor
