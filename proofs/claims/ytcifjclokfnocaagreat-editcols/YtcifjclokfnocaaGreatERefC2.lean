/-
  The document's reference: a table with one column less.
  Conditions: tables as small as the statements ask about.
-/
import Derived.WalkKit
import Derived.WalkMore
import Derived.OwnWalk
import Derived.OneCell
import Derived.Lib.Hide
import Derived.Deep.RegionWith
import Derived.Deep.RegionHeld3
import Derived.Deep.RegionLaw
import Derived.Deep.AppendLies
import Derived.Deep.Cut
import Derived.Test.YtcifjclokfnocaaGreatProg
import Derived.Test.YtcifjclokfnocaaGreatERefL
namespace Go.Proofs.YtcifjclokfnocaaGreat
open Go.RowKit Go.Shelf
set_option linter.unusedVariables false

theorem Grows.rows {wr : World} {B : Nat} {ao : Option Addr} {k cp : Nat} {L : List RowL} {out : List (List ByteArray)} (h : Grows wr B (.slice ao k cp) k L out) : RowsAt wr ao out ∧ out.length = k ∧ k ≤ cp ∧ (ao = none → cp = 0) ∧ ∀ A, ao = some A → B + 1 ≤ A.block := by
  have hk : out.length = k := by rw [← h.is, List.length_map]; have := h.own.1; simpa using this
  rcases h.own.2 with ⟨e, h0⟩ | ⟨g, cap, cur, e, h1, h2, h3, h4, h5, h6⟩
  · cases e
    exact ⟨.inl (List.eq_nil_of_length_eq_zero (by omega)), hk, Nat.le_refl _, fun _ => rfl, fun A hA => by cases hA⟩
  · cases e
    refine ⟨?_, hk, h3, (fun e => by cases e), fun A hA => by cases hA; exact h1⟩
    rw [← h.is]
    exact RowsL.rows ⟨.inr ⟨_, rfl, (h.own.lt g rfl).2, fun i u hu => h.own.cells rfl i u hu⟩, fun z hz => (h.each z hz).1⟩
theorem box2 {W : World} {B : Nat} {x y : Value} {T : TypeId} (h : W.heap[B]? = some (.cells #[x, y] T (0, 0))) : W.cell? ⟨B, 0, none⟩ = some x ∧ W.cell? ⟨B, 1, none⟩ = some y ∧ W.frozen? ⟨B, 0, none⟩ = false ∧ W.frozen? ⟨B, 1, none⟩ = false :=
  ⟨(Lib.cell_of_heap h 0).trans rfl, (Lib.cell_of_heap h 1).trans rfl, Lib.frozen_of_heap h 0, Lib.frozen_of_heap h 1⟩

theorem tab_end {n : Nat} {w V : World} {m : Nat} {ho ro : Option Addr} {h : List ByteArray} {r : List (List ByteArray)} (hc : Cap ho h.length) (rc : Cap ro r.length) (hm : w.heap.size ≤ m) (hB : Below w.heap.size w V) (hX : V.heap[m]? = some (.cells #[.slice none 0 0, .slice none 0 0] 25 (0, 0))) (hH : StrRow V ho h) (hR : RowsAt V ro r) (hf : r ≠ [] → ∀ A, ro = some A → A.block ≠ m ∧ (A.block < n ∨ w.heap.size ≤ A.block)) :
    TabL n (h, r) w (.returned (.agg #[.slice ho h.length hc.1, .slice ro r.length rc.1])) ((V.setCell ⟨m, 0, none⟩ (.slice ho h.length hc.1)).setCell ⟨m, 1, none⟩ (.slice ro r.length rc.1)) := by
  have hk : ∀ k, k ≠ m → ((V.setCell ⟨m, 0, none⟩ (.slice ho h.length hc.1)).setCell ⟨m, 1, none⟩ (.slice ro r.length rc.1)).heap[k]? = V.heap[k]? := fun k hk => (heap_setCell_other _ ⟨m, 1, none⟩ k _ hk).trans (heap_setCell_other _ ⟨m, 0, none⟩ k _ hk)
  have hs : V.heap.size ≤ ((V.setCell ⟨m, 0, none⟩ (.slice ho h.length hc.1)).setCell ⟨m, 1, none⟩ (.slice ro r.length rc.1)).heap.size := by simp
  have hn : ∀ (j : Nat) s, (#[Value.slice none 0 0, Value.slice none 0 0] : Array Value)[j]? ≠ some (.string s) := fun j s e => by
    match j, e with
    | 0, e => simp at e
    | 1, e => simp at e
  have hR2 : RowsAt ((V.setCell ⟨m, 0, none⟩ (.slice ho h.length hc.1)).setCell ⟨m, 1, none⟩ (.slice ro r.length rc.1)) ro r := by
    by_cases h0 : r = []
    · exact .inl h0
    · rcases hR with h | ⟨A, rfl, hA⟩
      · exact absurd h h0
      · exact rows_turn hX hn hs hk (hf h0 A rfl).1 (.inr ⟨A, rfl, hA⟩)
  exact ⟨ho, hc, ro, rc, rfl, str_turn hX hn hs hk hH, hR2, (hB.setCell (p := ⟨m, 0, none⟩) hm _).setCell (p := ⟨m, 1, none⟩) hm _, fun h0 A hA => (hf h0 A hA).2⟩
theorem Grows.low {wr wO w3 : World} {B : Nat} {v : Value} {k : Nat} {L : List RowL} {out : List (List ByteArray)} (h : Grows wr B v k L out) (hBl : B < wr.heap.size) (hB : Below wr.heap.size wr wO) {o : Obj} (hg : (wO.alloc o).grownBy w3 v.ownBlock) (b : Nat) (hb : b ≤ B) : w3.heap[b]? = wr.heap[b]? := by
  have := hB.size
  rw [hg.block b (by simp; omega) (fun e => by have := (h.own.lt b e.symm).1; omega), Below.heap_alloc _ _ _ (by omega), hB.block b (by omega)]
theorem cell_low {w w' : World} {p : Addr} {v : Value} (h : w.cell? p = some v) (hb : w'.heap[p.block]? = w.heap[p.block]?) : w'.cell? p = some v := by
  rw [← h]; exact World.cell?_of_block hb
theorem keep_one {V : World} {v1 x : Value} {m i : Nat} {p : Addr} (h : V.cell? p = some x) (hne : p.block ≠ m) : (V.setCell ⟨m, i, none⟩ v1).cell? p = some x :=
  cell_low h (heap_setCell_other _ ⟨m, i, none⟩ _ _ hne)
theorem Grows.under {wr wO w3 w1 : World} {B : Nat} {v u : Value} {k : Nat} {L : List RowL} {out : List (List ByteArray)} (h : Grows wr B v k L out) (hw : w1.heap.size = B) (hB1 : Below w1.heap.size w1 wr) (hB : Below wr.heap.size wr wO) {o : Obj} (hg : (wO.alloc o).grownBy w3 v.ownBlock) : Below w1.heap.size w1 (w3.setCell ⟨B, 1, none⟩ u) := by
  have h1 : Below w1.heap.size w1 wO := hB1.trans (hB.mono hB1.size)
  have h2 : Below w1.heap.size w1 w3 := ⟨hg.os.trans h1.os, hg.tape.trans h1.tape, hg.output.trans h1.output, Nat.le_trans h1.size (Nat.le_trans (by simp) hg.size), fun k hk => by
    have := h1.size
    rw [hg.block k (by simp; omega) (fun e => by have := (h.own.lt k e.symm).1; omega), Below.heap_alloc _ _ _ (by omega)]
    exact h1.block k hk⟩
  exact h2.setCell (p := ⟨B, 1, none⟩) (by show w1.heap.size ≤ B; omega) _
theorem lit_row (w : World) (v : Value) (i : Nat) (u : Value) (h : [v][i]? = some u) : (w.alloc (.cells #[v] 22)).cell? ((⟨w.heap.size, 0, none⟩ : Addr).add i) = some u := by
  rw [cell_row (World.alloc_heap_new w _)]
  match i, h with
  | 0, h => simp at h; subst h; rfl
set_option maxRecDepth 100000 in
set_option maxHeartbeats 2000000 in
theorem rdelCol (ho ro : Option Addr) (hd : List ByteArray) (rs : List (List ByteArray)) (hc : Cap ho hd.length) (rc : Cap ro rs.length) (j n : Nat) (w : World) (hn : hd.length ≤ 1000) (hn2 : rs.length ≤ 1000) (hj : j < hd.length) (hrow : ∀ r ∈ rs, j < r.length ∧ r.length ≤ 1000) (hH : StrRow w ho hd) (hR : RowsAt w ro rs) :
    Calls Tryz.prog 61 #[.agg #[.slice ho hd.length hc.1, .slice ro rs.length rc.1], .int .i64 j] w (TabL n (lessC j hd, rs.map (lessC j)) w) := by
  have hinfo : (Tryz.prog.info? 22).map (fun i => (i.zero, i.size, i.bytes)) = some (some (.slice none 0 0), 1, 24) := by kernel_rfl
  obtain ⟨i0, hi, hz0, hz1, hz2⟩ := info_parts hinfo
  have HI := Lib.hid hi
  obtain ⟨W, HW⟩ : ∃ W, Hid (W = (w.alloc (TabO ho hd.length hc.1 ro rs.length rc.1)).alloc (.cells #[.slice none 0 0, .slice none 0 0] 25)) := ⟨_, Lib.hid rfl⟩
  have HW2 : Hid (W = (w.alloc (Obj.cells #[Value.slice ho hd.length hc.1, Value.slice ro rs.length rc.1] 25)).alloc (Obj.cells #[Value.slice none 0 0, Value.slice none 0 0] 25)) := Lib.hid HW.out
  have hN := two_new w (TabO ho hd.length hc.1 ro rs.length rc.1) (.cells #[.slice none 0 0, .slice none 0 0] 25)
  have g0 : Hid (W.heap[w.heap.size]? = some (TabO ho hd.length hc.1 ro rs.length rc.1)) := Lib.hid (by rw [HW.out]; exact hN.2.1)
  have g1 : Hid (W.heap[w.heap.size + 1]? = some (.cells #[.slice none 0 0, .slice none 0 0] 25 (0, 0))) := Lib.hid (by rw [HW.out]; exact hN.2.2)
  have HB0 : Hid (Below w.heap.size w W) := Lib.hid (by rw [HW.out]; exact two_below _ _ _)
  have K1 := Lib.hid (fun V (h : Below w.heap.size w V) => rout_s ho hd hc.1 j V hj (by omega) (hH.kept h))
  have K2 := Lib.hid (fun V xo (x : List ByteArray) (xc : Cap xo x.length) (h1 : j < x.length) (h2 : x.length ≤ 1000) (h3 : StrRow V xo x) => rout_s xo x xc.1 j V h1 (by omega) h3)
  have HRo := Lib.hid hR
  have HRw := Lib.hid hrow
  obtain ⟨p0, p1⟩ := tabs g0.out
  clear hi hinfo hH hR hrow hN HW
  rw [show lessC j hd = hd.take j ++ hd.drop (j + 1) from rfl]
  generalize hd.take j ++ hd.drop (j + 1) = F at K1 ⊢
  go_enter Tryz.func61, Tryz.ntmps61
  go_upto_region 1 with fail
  rw [← HW2.out]
  go_wp2_with fail
  refine (K1.out _ HB0.out).mono ?_; rintro e w1 ⟨so, sc, rfl, ⟨h1, h1f⟩, h2⟩
  have HF1 := Lib.hid h1
  have HB1 := Lib.hid h2
  clear h1 h2 h1f
  obtain ⟨V, HV⟩ : ∃ V, Hid (V = w1.alloc (.cells #[.slice so F.length sc.1, .slice none 0 0] 25)) := ⟨_, Lib.hid rfl⟩
  obtain ⟨B, HBB⟩ : ∃ B, Hid (B = w1.heap.size) := ⟨_, Lib.hid rfl⟩
  have gB : Hid (V.heap[B]? = some (.cells #[.slice so F.length sc.1, .slice none 0 0] 25 (0, 0))) := Lib.hid (by rw [HV.out, HBB.out]; exact World.alloc_heap_new _ _)
  have HBV : Hid (Below w1.heap.size w1 V) := Lib.hid (by rw [HV.out]; exact (Below.refl _ w1).alloc (Nat.le_refl _) _)
  go_upto_region 2 with fail
  rw [← HV.out, ← HBB.out]
  go_wp2_with fail
  clear p0 p1
  have HwB : Hid (w.heap.size + 1 < B) := Lib.hid (by rw [HBB.out]; exact Nat.lt_of_lt_of_le (lt_of_heap g1.out) HB1.out.size)
  have HG0 : Hid (Grows V B (.slice none 0 0) 0 [] ((rs.take 0).map (lessC j))) := Lib.hid (Grows.nil V B)
  have HTb : Hid (∀ U, Below w1.heap.size w1 U → U.cell? ⟨w.heap.size, 0, none⟩ = some (.slice ho hd.length hc.1) ∧ U.cell? ⟨w.heap.size, 1, none⟩ = some (.slice ro rs.length rc.1)) := Lib.hid (fun U h => tabs (((below_up HB1.out h).block _ (lt_of_heap g0.out)).trans g0.out))
  have HRs : Hid (∀ U, Below w1.heap.size w1 U → RowsAt U ro rs) := Lib.hid (fun U h => HRo.out.kept (below_up HB0.out (below_up HB1.out h)))
  have HRes : Hid (∀ U, Below w1.heap.size w1 U → U.heap[w.heap.size + 1]? = some (.cells #[.slice none 0 0, .slice none 0 0] 25 (0, 0))) := Lib.hid (fun U h => ((below_up HB1.out h).block _ (lt_of_heap g1.out)).trans g1.out)
  go_loopw [6] (fun i wr => ∃ (k cp : Nat) (ao : Option Addr) (L : List RowL), k ≤ rs.length ∧ i = .int .i64 k ∧ Hid (Below w1.heap.size w1 wr) ∧ Hid (wr.heap[B]? = some (.cells #[.slice so F.length sc.1, .slice ao k cp] 25 (0, 0))) ∧ Hid (Grows wr B (.slice ao k cp) k L ((rs.take k).map (lessC j)))) (fun i _ => rs.length - (intOf i).toNat)
  case atStart => exact ⟨0, 0, none, [], Nat.zero_le _, rfl, HBV, gB, HG0⟩
  case round =>
    obtain ⟨k, cp, ao, L, hk, rfl, HB, HX, HG⟩ := hrel
    obtain ⟨t0, t1⟩ := HTb.out wr HB.out
    by_cases hlt : k < rs.length
    · obtain ⟨x, hx⟩ : ∃ x, rs[k]? = some x := ⟨_, List.getElem?_eq_getElem hlt⟩
      rcases HRs.out wr HB.out with h0 | ⟨A, rfl, hA, hcell⟩
      · rw [h0] at hlt; simp at hlt
      obtain ⟨xo, xc, hcx, hsx⟩ := hcell k x hx
      have hrx := HRw.out x (List.mem_of_getElem? hx)
      obtain ⟨b0, b1, bf0, bf1⟩ := box2 HX.out
      have hBl : B < wr.heap.size := lt_of_heap HX.out
      have KO := Lib.hid (fun U (h : Below wr.heap.size wr U) => K2.out U xo x xc hrx.1 hrx.2 (hsx.kept h))
      have HTk : Hid ((rs.take (k + 1)).map (lessC j) = (rs.take k).map (lessC j) ++ [x.take j ++ x.drop (j + 1)]) := Lib.hid (by
        obtain ⟨h1, e⟩ := List.getElem?_eq_some_iff.1 hx
        rw [List.take_succ_eq_append_getElem h1, e, List.map_append]; rfl)
      generalize x.take j ++ x.drop (j + 1) = F2 at KO HTk
      have HCl : Hid (∀ U, Below wr.heap.size wr U → U.cell? ⟨w.heap.size, 1, none⟩ = some (.slice (some A) rs.length rc.1) ∧ U.cell? (A.add k) = some (.slice xo x.length xc.1) ∧ U.cell? ⟨B, 1, none⟩ = some (.slice ao k cp) ∧ U.frozen? ⟨B, 1, none⟩ = false) := Lib.hid (fun U h => ⟨(h.cell (p := ⟨w.heap.size, 1, none⟩) (by have := HwB.out; show w.heap.size < _; omega)).trans t1, (h.cell (p := A.add k) (by rw [add_block]; exact hA)).trans hcx, (box2 ((h.block _ hBl).trans HX.out)).2.1, (box2 ((h.block _ hBl).trans HX.out)).2.2.2⟩)
      have hAB : A.block < B := by
        rcases HRs.out w1 (Below.refl _ _) with h0 | ⟨A', e, h3, _⟩
        · rw [h0] at hlt; simp at hlt
        · cases e; rw [HBB.out]; exact h3
      have hne1 : (⟨w.heap.size, 1, none⟩ : Addr).block ≠ B := by have := HwB.out; show w.heap.size ≠ B; omega
      have hne2 : (A.add k).block ≠ B := by rw [add_block]; omega
      have HLo : Hid (∀ wO w3 o, Below wr.heap.size wr wO → (wO.alloc o).grownBy w3 (Value.slice ao k cp).ownBlock → w3.cell? ⟨w.heap.size, 1, none⟩ = some (.slice (some A) rs.length rc.1) ∧ w3.cell? (A.add k) = some (.slice xo x.length xc.1) ∧ w3.heap[B]? = some (.cells #[.slice so F.length sc.1, .slice ao k cp] 25 (0, 0))) := Lib.hid (fun wO w3 o h1 h2 => ⟨cell_low t1 (HG.out.low hBl h1 h2 _ (by have := HwB.out; show w.heap.size ≤ B; omega)), cell_low hcx (HG.out.low hBl h1 h2 _ (by rw [add_block]; omega)), (HG.out.low hBl h1 h2 _ (Nat.le_refl _)).trans HX.out⟩)
      have B1 : Hid (Below wr.heap.size wr wr.drew) := Lib.hid (Below.refl _ _).drew
      have hk1 : k + 1 ≤ rs.length := hlt
      clear hcell hx hsx hrx
      go_upto_region 5 with fail
      go_region_law
        (first | (go_simp; go_at_call 63; refine (KO.out _ B1.out).mono ?_; rintro e wO ⟨sO, cO, rfl, ⟨h1, h1f⟩, h2⟩; have BO := Lib.hid (below_up B1.out h2); have FO := Lib.hid h1; have FOf : Hid (∀ A, sO = some A → wr.heap.size ≤ A.block) := Lib.hid (fun A hA => h1f A hA); obtain ⟨q1, q2, q3, q4⟩ := HCl.out wO BO.out; have OW := Lib.hid ((ownsRow_below HG.out.own BO.out).alloc (.cells #[Value.slice sO F2.length cO.1] 22)); have NW : Hid (∀ (i : Nat) u, [Value.slice sO F2.length cO.1][i]? = some u → (wO.alloc (.cells #[Value.slice sO F2.length cO.1] 22)).cell? ((⟨wO.heap.size, 0, none⟩ : Addr).add i) = some u) := Lib.hid (lit_row wO _); have hbO : B + 1 ≤ (wO.alloc (.cells #[Value.slice sO F2.length cO.1] 22)).heap.size := (by have := BO.out.size; simp; omega); obtain ⟨r1, r2, r3, r4⟩ := HCl.out _ (below_up BO.out ((Below.refl _ wO).alloc (Nat.le_refl _) (.cells #[Value.slice sO F2.length cO.1] 22))); clear h1 h2 h1f)
                | (refine step_append_lies _ (by rfl) _ _ 23 (by rfl) (B + 1) 22 i0 (.slice none 0 0) 1 24 Tryz.underlying23 HI.out hz0 hz1 hz2 rfl (by decide) (.slice ao k cp) k (L.map RowL.val) (by rfl) OW.out ⟨wO.heap.size, 0, none⟩ 1 1 [.slice sO F2.length cO.1] (by rfl) rfl NW.out (fun u hu => by simp at hu; subst hu; rfl) (by decide) (by unfold maxLen; omega) (by omega) hbO _ rfl ?_; intro g3 gc w3 ho3 hg3 hl3 hs3; have NX := Lib.hid (HG.out.next hBl BO.out cO FO.out FOf.out ho3 hg3 hl3); have UN := Lib.hid (HG.out.under (u := .slice (some ⟨g3, 0, none⟩) (k + 1) gc) HBB.out.symm HB.out BO.out hg3); obtain ⟨s1, s2, s3⟩ := HLo.out _ _ _ BO.out hg3; obtain ⟨s4, s5, s6, s7⟩ := box2 s3; have HX3 := Lib.hid (heap_setCell_same w3 B 1 _ _ (.slice (some ⟨g3, 0, none⟩) (k + 1) gc) s3); clear ho3 hg3 hl3 hs3 s3))
      all_goals
        go_wp2_with fail
        go_roundw
        case rel => exact ⟨k + 1, gc, some ⟨g3, 0, none⟩, _, hk1, by go_num, UN, HX3, Lib.hid (HTk.out ▸ NX.out)⟩
        case measure => simp [intOf]; omega
    · obtain rfl : k = rs.length := by omega
      obtain ⟨b0, b1, bf0, bf1⟩ := box2 HX.out
      obtain ⟨z0, z1, f0, f1⟩ := box2 (HRes.out wr HB.out)
      obtain ⟨hr1, hr2, hr3, hr4, hr5⟩ := HG.out.rows
      rw [List.take_length] at hr1 hr2
      obtain ⟨cq, Hcq⟩ : ∃ cq : Cap ao (rs.map (lessC j)).length, Hid (cq.1 = cp) := ⟨⟨cp, by rw [hr2]; exact ⟨hr3, hr4⟩⟩, Lib.hid rfl⟩
      have Q := Lib.hid (tab_end (n := n) (h := F) (r := rs.map (lessC j)) (w := w) (m := w.heap.size + 1) sc cq (by omega) (below_up HB0.out (below_up HB1.out HB.out)) (HRes.out wr HB.out) (HF1.out.kept HB.out) hr1 (fun _ A hA => by have := hr5 A hA; have := HwB.out; omega))
      clear HG HX hr1 hr3 hr4 hr5
      rw [Hcq.out, hr2] at Q
      go_wp2_with fail
      exact bodyPost_ret (v := .agg #[.slice so F.length sc.1, .slice ao rs.length cp]) (by simp [results, Tryz.results61, go_sem, z0, z1]) rfl Q.out
end Go.Proofs.YtcifjclokfnocaaGreat
