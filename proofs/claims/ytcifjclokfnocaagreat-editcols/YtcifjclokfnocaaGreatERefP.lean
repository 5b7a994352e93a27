/-
  The document's reference: a table of some of its columns.
  Conditions: tables and edits as small as the statements ask about.
-/
import Derived.WalkKit
import Derived.WalkMore
import Derived.OwnWalk
import Derived.OneCell
import Derived.Lib.Hide
import Derived.Deep.RegionWith
import Derived.Deep.RegionHeld3
import Derived.Deep.RegionLaw
import Derived.Deep.AppendLies
import Derived.Deep.Cut
import Derived.Test.YtcifjclokfnocaaGreatProg
import Derived.Test.YtcifjclokfnocaaGreatERefC2
import Derived.Test.YtcifjclokfnocaaGreatRPutS
namespace Go.Proofs.YtcifjclokfnocaaGreat
open Go.RowKit Go.Shelf
set_option linter.unusedVariables false

/-- some cells of a row, by their places -/
def pickN (ps : List Int) (r : List ByteArray) : List ByteArray := ps.filterMap (fun p => r[p.toNat]?)
theorem pickN_next (ps : List Int) (r : List ByteArray) (k c : Nat) (x : ByteArray) (hp : ps[k]? = some (c : Int)) (hx : r[c]? = some x) : pickN (ps.take (k + 1)) r = pickN (ps.take k) r ++ [x] := by
  obtain ⟨hk, e⟩ := List.getElem?_eq_some_iff.1 hp
  unfold pickN
  rw [List.take_succ_eq_append_getElem hk, e, List.filterMap_append]
  simp [hx]
theorem pickN_len (ps : List Int) (r : List ByteArray) (h : ∀ p ∈ ps, 0 ≤ p ∧ p < (r.length : Int)) : (pickN ps r).length = ps.length := by
  induction ps with
  | nil => rfl
  | cons p ps ih =>
    have h1 := h p (by simp)
    have h2 := ih (fun q hq => h q (by simp [hq]))
    unfold pickN at h2 ⊢
    rw [List.filterMap_cons, List.getElem?_eq_getElem (by omega : p.toNat < r.length)]
    simp only [List.length_cons, h2]
theorem drew_alloc_size (V : World) (o : Obj) : (V.drew.alloc o).heap.size = V.heap.size + 1 := by unfold World.drew; simp
theorem head_next {w1 wr w3 : World} {B : Nat} {ao : Option Addr} {k cp : Nat} {xs cs : List Value} {o : Obj} {g gc : Nat} (hw : w1.heap.size = B) (hU : Below w1.heap.size w1 wr) (hX : wr.heap[B]? = some (.cells #[.slice ao k cp, .slice none 0 0] 25 (0, 0))) (hO : wr.ownsRow (B + 1) 9 1 (.slice ao k cp) k xs)
    (ho : w3.ownsRow (B + 1) 9 1 (.slice (some ⟨g, 0, none⟩) (k + 1) gc) (k + 1) cs) (hg : (wr.drew.alloc o).grownBy w3 (Value.slice ao k cp).ownBlock) :
    w3.cell? ⟨B, 0, none⟩ = some (.slice ao k cp) ∧ w3.frozen? ⟨B, 0, none⟩ = false ∧ (w3.setCell ⟨B, 0, none⟩ (.slice (some ⟨g, 0, none⟩) (k + 1) gc)).heap[B]? = some (.cells #[.slice (some ⟨g, 0, none⟩) (k + 1) gc, .slice none 0 0] 25 (0, 0)) ∧ (w3.setCell ⟨B, 0, none⟩ (.slice (some ⟨g, 0, none⟩) (k + 1) gc)).ownsRow (B + 1) 9 1 (.slice (some ⟨g, 0, none⟩) (k + 1) gc) (k + 1) cs ∧ Below w1.heap.size w1 (w3.setCell ⟨B, 0, none⟩ (.slice (some ⟨g, 0, none⟩) (k + 1) gc)) := by
  have hBl : B < wr.heap.size := lt_of_heap hX
  have hgs := (ho.lt g rfl).1
  have old : ∀ b, b ≤ B → w3.heap[b]? = wr.heap[b]? := fun b hb => by
    rw [hg.block b (by rw [drew_alloc_size]; omega) (fun e => by have := (hO.lt b e.symm).1; omega), Below.heap_alloc _ _ _ (show b < wr.drew.heap.size from Nat.lt_of_le_of_lt hb hBl)]
    rfl
  have h3 := (old B (Nat.le_refl _)).trans hX
  obtain ⟨c0, _, f0, _⟩ := box2 h3
  refine ⟨c0, f0, heap_setCell_same w3 B 0 _ _ _ h3, ownsRow_setCell_other ho (by simp [Value.ownBlock]; omega) _, ?_⟩
  have hsz : wr.heap.size ≤ w3.heap.size := Nat.le_trans (by rw [drew_alloc_size]; omega) hg.size
  have h2 : Below w1.heap.size w1 w3 := ⟨hg.os.trans hU.os, hg.tape.trans hU.tape, hg.output.trans hU.output, Nat.le_trans hU.size hsz, fun k hk => (old k (by omega)).trans (hU.block k hk)⟩
  exact h2.setCell (p := ⟨B, 0, none⟩) (by show w1.heap.size ≤ B; omega) _
theorem Grows.guest {wr wO w3 : World} {B : Nat} {v u : Value} {k : Nat} {L : List RowL} {out : List (List ByteArray)} (h : Grows wr B v k L out) (hB : Below wr.heap.size wr wO) {o : Obj} {g cap m : Nat} (hg : (wO.alloc o).grownBy w3 v.ownBlock) (hl : v.ownBlock = some g ∨ g = (wO.alloc o).heap.size)
    {so : Option Addr} {F : List ByteArray} (hF : StrRow wr so F) (hs : F ≠ [] → ∀ A, so = some A → A.block ≠ B ∧ some A.block ≠ v.ownBlock) :
    StrRow (w3.setCell ⟨B, 1, none⟩ u) so F ∧ (F ≠ [] → ∀ A, so = some A → A.block ≠ B ∧ some A.block ≠ (Value.slice (some ⟨g, 0, none⟩) m cap).ownBlock) := by
  have hs3 : (wO.alloc o).heap.size ≤ w3.heap.size := hg.size
  have hss : wO.heap.size ≤ (w3.setCell ⟨B, 1, none⟩ u).heap.size := by simp at hs3 ⊢; omega
  have hlt : F ≠ [] → ∀ A, so = some A → A.block < wr.heap.size := fun h0 A hA => by
    rcases hF with h | ⟨A', e, h3, _⟩
    · exact absurd h h0
    · rw [e] at hA; cases hA; exact h3
  refine ⟨strRow_off (hF.kept hB) hss (fun h0 A hA => ?_), fun h0 A hA => ⟨(hs h0 A hA).1, fun e => ?_⟩⟩
  · have h4 := hlt h0 A hA
    have := hB.size
    rw [heap_setCell_other _ ⟨B, 1, none⟩ _ _ (hs h0 A hA).1, hg.block A.block (by simp; omega) (hs h0 A hA).2, Below.heap_alloc _ _ _ (by omega)]
  · have e' : A.block = g := by simpa [Value.ownBlock] using e
    rcases hl with hl | hl
    · exact (hs h0 A hA).2 (by rw [hl, e'])
    · have := hlt h0 A hA; have := hB.size; simp at hl; omega

theorem strRow_own {wr : World} {base : Nat} {ao : Option Addr} {k cp : Nat} {F : List ByteArray} (h : wr.ownsRow base 9 1 (.slice ao k cp) k (F.map Value.string)) : StrRow wr ao F ∧ F.length = k ∧ k ≤ cp ∧ (ao = none → cp = 0) ∧ ∀ A, ao = some A → base ≤ A.block ∧ A.block < wr.heap.size := by
  have hk : F.length = k := by have := h.1; simpa using this
  rcases h.2 with ⟨e, h0⟩ | ⟨g, cap, cur, e, h1, h2, h3, h4, h5, h6⟩
  · cases e
    exact ⟨.inl (List.eq_nil_of_length_eq_zero (by omega)), hk, Nat.le_refl _, fun _ => rfl, fun A hA => by cases hA⟩
  · cases e
    refine ⟨.inr ⟨_, rfl, (h.lt g rfl).2, fun i c hc => h.cells rfl i _ (by rw [List.getElem?_map, hc]; rfl)⟩, hk, h3, (fun e => by cases e), fun A hA => by cases hA; exact ⟨h1, (h.lt g rfl).2⟩⟩

set_option maxRecDepth 100000 in
set_option maxHeartbeats 2000000 in
theorem rproject (ho ro : Option Addr) (hd : List ByteArray) (rs : List (List ByteArray)) (hc : Cap ho hd.length) (rc : Cap ro rs.length) (po : Option Addr) (ps : List Int) (pc n : Nat) (w : World) (hn : hd.length ≤ 1000) (hn2 : rs.length ≤ 1000) (hn3 : ps.length ≤ 1000) (hps : ∀ p ∈ ps, 0 ≤ p ∧ p < (hd.length : Int)) (hrow : ∀ r ∈ rs, r.length = hd.length) (hH : StrRow w ho hd) (hR : RowsAt w ro rs) (hP : IntsAt w po ps) :
    Calls Tryz.prog 67 #[.agg #[.slice ho hd.length hc.1, .slice ro rs.length rc.1], .slice po ps.length pc] w (TabL n (pickN ps hd, rs.map (pickN ps)) w) := by
  have hinfo : (Tryz.prog.info? 22).map (fun i => (i.zero, i.size, i.bytes)) = some (some (.slice none 0 0), 1, 24) := by kernel_rfl
  obtain ⟨i0, hi, hz0, hz1, hz2⟩ := info_parts hinfo
  have hinfoS : (Tryz.prog.info? 9).map (fun i => (i.zero, i.size, i.bytes)) = some (some (.string ⟨#[]⟩), 1, 16) := by kernel_rfl
  obtain ⟨j0, hj, hy0, hy1, hy2⟩ := info_parts hinfoS
  have HI := Lib.hid hi
  have HJ := Lib.hid hj
  obtain ⟨w1, Hw1⟩ : ∃ w1, Hid (w1 = (w.alloc (TabO ho hd.length hc.1 ro rs.length rc.1)).alloc (.cells #[.slice none 0 0, .slice none 0 0] 25)) := ⟨_, Lib.hid rfl⟩
  have hN := two_new w (TabO ho hd.length hc.1 ro rs.length rc.1) (.cells #[.slice none 0 0, .slice none 0 0] 25)
  have g0 : Hid (w1.heap[w.heap.size]? = some (TabO ho hd.length hc.1 ro rs.length rc.1)) := Lib.hid (by rw [Hw1.out]; exact hN.2.1)
  have g1 : Hid (w1.heap[w.heap.size + 1]? = some (.cells #[.slice none 0 0, .slice none 0 0] 25 (0, 0))) := Lib.hid (by rw [Hw1.out]; exact hN.2.2)
  have HB0 : Hid (Below w.heap.size w w1) := Lib.hid (by rw [Hw1.out]; exact two_below _ _ _)
  obtain ⟨B, HBB⟩ : ∃ B, Hid (B = w1.heap.size) := ⟨_, Lib.hid rfl⟩
  have HBs : Hid (w.heap.size + 1 + 1 = B) := Lib.hid (by rw [HBB.out, Hw1.out]; simp)
  obtain ⟨V, HV⟩ : ∃ V, Hid (V = w1.alloc (.cells #[.slice none 0 0, .slice none 0 0] 25)) := ⟨_, Lib.hid rfl⟩
  have gB : Hid (V.heap[B]? = some (.cells #[.slice none 0 0, .slice none 0 0] 25 (0, 0))) := Lib.hid (by rw [HV.out, HBB.out]; exact World.alloc_heap_new _ _)
  have HBV : Hid (Below w1.heap.size w1 V) := Lib.hid (by rw [HV.out]; exact (Below.refl _ w1).alloc (Nat.le_refl _) _)
  have HV2 : Hid (V = ((w.alloc (Obj.cells #[Value.slice ho hd.length hc.1, Value.slice ro rs.length rc.1] 25)).alloc (Obj.cells #[Value.slice none 0 0, Value.slice none 0 0] 25)).alloc (Obj.cells #[Value.slice none 0 0, Value.slice none 0 0] 25)) := Lib.hid (by rw [HV.out, Hw1.out])
  have HTb : Hid (∀ U, Below w1.heap.size w1 U → U.cell? ⟨w.heap.size, 0, none⟩ = some (.slice ho hd.length hc.1) ∧ U.cell? ⟨w.heap.size, 1, none⟩ = some (.slice ro rs.length rc.1)) := Lib.hid (fun U h => tabs ((h.block _ (lt_of_heap g0.out)).trans g0.out))
  have HRes : Hid (∀ U, Below w1.heap.size w1 U → U.heap[w.heap.size + 1]? = some (.cells #[.slice none 0 0, .slice none 0 0] 25 (0, 0))) := Lib.hid (fun U h => (h.block _ (lt_of_heap g1.out)).trans g1.out)
  have HHs : Hid (∀ U, Below w1.heap.size w1 U → StrRow U ho hd) := Lib.hid (fun U h => hH.kept (below_up HB0.out h))
  have HRs : Hid (∀ U, Below w1.heap.size w1 U → RowsAt U ro rs) := Lib.hid (fun U h => hR.kept (below_up HB0.out h))
  have HPs : Hid (∀ U, Below w1.heap.size w1 U → IntsAt U po ps) := Lib.hid (fun U h => hP.kept (below_up HB0.out h))
  have HPi : Hid (∀ (k : Nat) p, ps[k]? = some p → ∃ c : Nat, p = (c : Int) ∧ c < hd.length) := Lib.hid (fun k p h => by have := hps p (List.mem_of_getElem? h); exact ⟨p.toNat, by omega, by omega⟩)
  have HRw := Lib.hid hrow
  have HLn := Lib.hid (pickN_len ps hd hps)
  have HO0 : Hid (V.ownsRow (B + 1) 9 1 (.slice none 0 0) 0 ((pickN (ps.take 0) hd).map Value.string)) := Lib.hid (World.ownsRow_nil _ _ _ _)
  clear hi hinfo hj hinfoS hH hR hP hN hps hrow HV Hw1
  go_enter Tryz.func67, Tryz.ntmps67
  go_upto_region 2 with fail
  rw [← HV2.out, HBs.out]
  go_wp2_with fail
  go_loopw [6] (fun i wr => ∃ (k cp : Nat) (ao : Option Addr), k ≤ ps.length ∧ i = .int .i64 k ∧ Hid (Below w1.heap.size w1 wr) ∧ Hid (wr.heap[B]? = some (.cells #[.slice ao k cp, .slice none 0 0] 25 (0, 0))) ∧ Hid (wr.ownsRow (B + 1) 9 1 (.slice ao k cp) k ((pickN (ps.take k) hd).map Value.string))) (fun i _ => ps.length - (intOf i).toNat)
  case atStart => exact ⟨0, 0, none, Nat.zero_le _, rfl, HBV, gB, HO0⟩
  case round =>
    clear HBV gB HO0
    obtain ⟨k, cp, ao, hk, rfl, HB, HX, HO⟩ := hrel
    obtain ⟨t0, t1⟩ := HTb.out wr HB.out
    obtain ⟨b0, b1, bf0, bf1⟩ := box2 HX.out
    by_cases hlt : k < ps.length
    · obtain ⟨p, hp⟩ : ∃ p, ps[k]? = some p := ⟨_, List.getElem?_eq_getElem hlt⟩
      obtain ⟨c, rfl, hcl⟩ := HPi.out k p hp
      obtain ⟨x, hx⟩ : ∃ x, hd[c]? = some x := ⟨_, List.getElem?_eq_getElem hcl⟩
      have HNx := Lib.hid (pickN_next ps hd k c x hp hx)
      rcases HPs.out wr HB.out with h0 | ⟨A, rfl, hA, hcell⟩
      · rw [h0] at hlt; simp at hlt
      have pk := hcell k _ hp
      rcases HHs.out wr HB.out with h0 | ⟨D, rfl, hD, hcell2⟩
      · rw [h0] at hcl; simp at hcl
      have dk := hcell2 c _ hx
      have HXO := Lib.hid (fun w3 g gc cs ho hg => head_next (o := .cells #[.string x] 9) (w3 := w3) (g := g) (gc := gc) (cs := cs) HBB.out.symm HB.out HX.out HO.out ho hg)
      have OW := Lib.hid (HO.out.drew.alloc (.cells #[Value.string x] 9))
      have NW := Lib.hid (lit_cellS wr.drew (.string x))
      have hbl : B < wr.heap.size := lt_of_heap HX.out
      have hbs : B + 1 ≤ (wr.drew.alloc (.cells #[Value.string x] 9)).heap.size := by rw [drew_alloc_size]; omega
      have d0 : (wr.alloc (.cells #[Value.string x] 9)).cell? ⟨B, 0, none⟩ = some (.slice ao k cp) := cell_low b0 (Below.heap_alloc _ _ _ hbl)
      clear hcell hcell2 hp hx hA hD
      go_upto_region 5 with fail
      go_region_law
        (first | (refine step_append_lies _ (by rfl) _ _ 22 (by rfl) (B + 1) 9 j0 (.string ⟨#[]⟩) 1 16 Tryz.underlying22 HJ.out hy0 hy1 hy2 rfl (by decide) (.slice ao k cp) k _ (by rfl) OW.out ⟨wr.heap.size, 0, none⟩ 1 1 [.string x] (by rfl) rfl NW.out (fun u hu => by simp at hu; subst hu; rfl) (by decide) (by unfold maxLen; omega) (by omega) hbs _ rfl ?_; intro g3 gc w3 ho3 hg3 hl3 hs3; obtain ⟨q1, q2, q3, q4, q5⟩ := HXO.out w3 g3 gc _ ho3 hg3; have HX3 := Lib.hid q3; have HO3 := Lib.hid q4; have HB3 := Lib.hid q5; clear ho3 hg3 hl3 hs3 q3 q4 q5))
      all_goals
        have HO4 : Hid ((w3.setCell ⟨B, 0, none⟩ (.slice (some ⟨g3, 0, none⟩) (k + 1) gc)).ownsRow (B + 1) 9 1 (.slice (some ⟨g3, 0, none⟩) (k + 1) gc) (k + 1) ((pickN (ps.take (k + 1)) hd).map Value.string)) := Lib.hid (by rw [HNx.out, List.map_append]; exact HO3.out)
        go_wp2_with fail
        go_roundw
        case rel => exact ⟨k + 1, gc, some ⟨g3, 0, none⟩, by omega, by go_num, HB3, HX3, HO4⟩
        case measure => simp [intOf]; omega
    · obtain rfl : k = ps.length := by omega
      have hfin := HO.out
      rw [List.take_length] at hfin
      obtain ⟨hF1, hF2, hF3, hF4, hF5⟩ := strRow_own hfin
      obtain ⟨F, HFe⟩ : ∃ F, Hid (F = pickN ps hd) := ⟨_, Lib.hid rfl⟩
      rw [← HFe.out] at hF1 hF2 HLn
      have HF := Lib.hid hF1
      have HFs : Hid (F ≠ [] → ∀ A, ao = some A → A.block ≠ B ∧ some A.block ≠ (Value.slice none 0 0).ownBlock) := Lib.hid (fun _ A hA => ⟨by have := (hF5 A hA).1; omega, by simp [Value.ownBlock]⟩)
      obtain ⟨sc, Hsc⟩ : ∃ sc : Cap ao F.length, Hid (sc.1 = cp) := ⟨⟨cp, by rw [hF2]; exact ⟨hF3, hF4⟩⟩, Lib.hid rfl⟩
      have HG0 : Hid (Grows wr B (.slice none 0 0) 0 [] ((rs.take 0).map (pickN ps))) := Lib.hid (Grows.nil wr B)
      clear hfin HO hF1 hF2 hF3 hF4 hF5 b0 b1 bf0 bf1 hk hlt
      go_wp2_with fail
      go_loopw [7] (fun i wr => ∃ (k cq : Nat) (qo : Option Addr) (L : List RowL), k ≤ rs.length ∧ i = .int .i64 k ∧ Hid (Below w1.heap.size w1 wr) ∧ Hid (wr.heap[B]? = some (.cells #[.slice ao ps.length cp, .slice qo k cq] 25 (0, 0))) ∧ Hid (Grows wr B (.slice qo k cq) k L ((rs.take k).map (pickN ps))) ∧ Hid (StrRow wr ao F) ∧ Hid (F ≠ [] → ∀ A, ao = some A → A.block ≠ B ∧ some A.block ≠ (Value.slice qo k cq).ownBlock)) (fun i _ => rs.length - (intOf i).toNat)
      case atStart => exact ⟨0, 0, none, [], Nat.zero_le _, rfl, HB, HX, HG0, HF, HFs⟩
      case round =>
        clear HB HX HG0 HF HFs t0 t1
        obtain ⟨k, cq, qo, L, hk, rfl, HB, HX, HG, HF, HFs⟩ := hrel
        obtain ⟨t0, t1⟩ := HTb.out wr HB.out
        by_cases hlt : k < rs.length
        · obtain ⟨x, hx⟩ : ∃ x, rs[k]? = some x := ⟨_, List.getElem?_eq_getElem hlt⟩
          rcases HRs.out wr HB.out with h0 | ⟨A, rfl, hA, hcell⟩
          · rw [h0] at hlt; simp at hlt
          obtain ⟨xo, xc, hcx, hsx⟩ := hcell k x hx
          have hxl := HRw.out x (List.mem_of_getElem? hx)
          have hBl : B < wr.heap.size := lt_of_heap HX.out
          have HTk : Hid ((rs.take (k + 1)).map (pickN ps) = (rs.take k).map (pickN ps) ++ [pickN ps x]) := Lib.hid (by
            obtain ⟨h1, e⟩ := List.getElem?_eq_some_iff.1 hx
            rw [List.take_succ_eq_append_getElem h1, e, List.map_append]; rfl)
          have hwB : w.heap.size < wr.heap.size := by have := HBs.out; omega
          have HCl : Hid (∀ U, Below wr.heap.size wr U → U.cell? ⟨w.heap.size, 1, none⟩ = some (.slice (some A) rs.length rc.1) ∧ U.cell? (A.add k) = some (.slice xo x.length xc.1) ∧ StrRow U xo x ∧ IntsAt U po ps) := Lib.hid (fun U h => ⟨(h.cell (p := ⟨w.heap.size, 1, none⟩) hwB).trans t1, (h.cell (p := A.add k) (by rw [add_block]; exact hA)).trans hcx, hsx.kept h, HPs.out U (below_up HB.out h)⟩)
          have hk1 : k + 1 ≤ rs.length := hlt
          clear hcell hx hsx hcx
          obtain ⟨wo, rfl⟩ : ∃ wo : World, wo = wr := ⟨_, rfl⟩
          have HO0 : Hid (wo.ownsRow wo.heap.size 9 1 (.slice none 0 0) 0 ((pickN (ps.take 0) x).map Value.string)) := Lib.hid (World.ownsRow_nil _ _ _ _)
          go_wp2_with fail
          go_loopw [8, 9] (fun v i wr => ∃ (j cj : Nat) (vo : Option Addr), j ≤ ps.length ∧ i = .int .i64 j ∧ v = .slice vo j cj ∧ Hid (Below wo.heap.size wo wr) ∧ Hid (wr.ownsRow wo.heap.size 9 1 (.slice vo j cj) j ((pickN (ps.take j) x).map Value.string))) (fun _ i _ => ps.length - (intOf i).toNat)
          case atStart => exact ⟨0, 0, none, Nat.zero_le _, rfl, rfl, Lib.hid (Below.refl _ _), HO0⟩
          case round =>
            clear HO0 t0 t1
            obtain ⟨j, cj, vo, hj, rfl, rfl, HBi, HOi⟩ := hrel
            obtain ⟨t1, hcx, hsx, hP⟩ := HCl.out wr HBi.out
            by_cases hjl : j < ps.length
            · obtain ⟨p, hp⟩ : ∃ p, ps[j]? = some p := ⟨_, List.getElem?_eq_getElem hjl⟩
              obtain ⟨c, rfl, hcl⟩ := HPi.out j p hp
              obtain ⟨y, hy⟩ : ∃ y, x[c]? = some y := ⟨_, List.getElem?_eq_getElem (by omega)⟩
              have HNx := Lib.hid (pickN_next ps x j c y hp hy)
              rcases hP with h0 | ⟨A2, rfl, hA2, hcell⟩
              · rw [h0] at hjl; simp at hjl
              have pk := hcell j _ hp
              have hcx2 : c < x.length := by omega
              rcases hsx with h0 | ⟨D, rfl, hD, hcell2⟩
              · rw [h0] at hcx2; simp at hcx2
              have dk := hcell2 c _ hy
              have OW := Lib.hid (HOi.out.drew.alloc (.cells #[Value.string y] 9))
              have NW := Lib.hid (lit_cellS wr.drew (.string y))
              have hbs : wo.heap.size ≤ (wr.drew.alloc (.cells #[Value.string y] 9)).heap.size := by rw [drew_alloc_size]; have := HBi.out.size; omega
              have HGB : Hid (∀ w3, (wr.drew.alloc (.cells #[Value.string y] 9)).grownBy w3 (Value.slice vo j cj).ownBlock → Below wo.heap.size wo w3) := Lib.hid (fun w3 hg => own_grownS (w := wr.drew) HBi.out.drew (show wo.heap.size ≤ wr.heap.size from HBi.out.size) HOi.out.drew hg)
              clear hcell hcell2 hp hy hA2 hD
              go_upto_region 13 with fail
              go_region_law
                (first | (refine step_append_lies _ (by rfl) _ _ 22 (by rfl) wo.heap.size 9 j0 (.string ⟨#[]⟩) 1 16 Tryz.underlying22 HJ.out hy0 hy1 hy2 rfl (by decide) (.slice vo j cj) j _ (by rfl) OW.out ⟨wr.heap.size, 0, none⟩ 1 1 [.string y] (by rfl) rfl NW.out (fun u hu => by simp at hu; subst hu; rfl) (by decide) (by unfold maxLen; omega) (by omega) hbs _ rfl ?_; intro g3 gc w3 ho3 hg3 hl3 hs3; have HB3 := Lib.hid (HGB.out w3 hg3); have HO3 := Lib.hid ho3; clear ho3 hg3 hl3 hs3))
              all_goals
                have HO4 : Hid (w3.ownsRow wo.heap.size 9 1 (.slice (some ⟨g3, 0, none⟩) (j + 1) gc) (j + 1) ((pickN (ps.take (j + 1)) x).map Value.string)) := Lib.hid (by rw [HNx.out, List.map_append]; exact HO3.out)
                go_wp2_with fail
                go_roundw
                case rel => exact ⟨j + 1, gc, _, by omega, by go_num, rfl, HB3, HO4⟩
                case measure => simp [intOf]; omega
            · obtain rfl : j = ps.length := by omega
              have hfin := HOi.out
              rw [List.take_length] at hfin
              obtain ⟨hF1, hF2, hF3, hF4, hF5⟩ := strRow_own hfin
              have HR1 := Lib.hid hF1
              have HR5 : Hid (∀ A, vo = some A → wo.heap.size ≤ A.block) := Lib.hid (fun A hA => (hF5 A hA).1)
              have HXi : Hid (wr.heap[B]? = some (.cells #[.slice ao ps.length cp, .slice qo k cq] 25 (0, 0))) := Lib.hid ((HBi.out.block _ hBl).trans HX.out)
              obtain ⟨b0, b1, bf0, bf1⟩ := box2 HXi.out
              have OW := Lib.hid ((ownsRow_below HG.out.own HBi.out).alloc (.cells #[Value.slice vo ps.length cj] 22))
              have NW : Hid (∀ (i : Nat) u, [Value.slice vo ps.length cj][i]? = some u → (wr.alloc (.cells #[Value.slice vo ps.length cj] 22)).cell? ((⟨wr.heap.size, 0, none⟩ : Addr).add i) = some u) := Lib.hid (lit_row wr _)
              have hbO : B + 1 ≤ (wr.alloc (.cells #[Value.slice vo ps.length cj] 22)).heap.size := by have := HBi.out.size; simp; omega
              have HFin : Hid (∀ g gc w3, w3.ownsRow (B + 1) 22 1 (.slice (some ⟨g, 0, none⟩) (k + 1) gc) (k + 1) (L.map RowL.val ++ [.slice vo ps.length cj]) → (wr.alloc (.cells #[Value.slice vo ps.length cj] 22)).grownBy w3 (Value.slice qo k cq).ownBlock → ((Value.slice qo k cq).ownBlock = some g ∨ g = (wr.alloc (.cells #[Value.slice vo ps.length cj] 22)).heap.size) → (w3.cell? ⟨B, 1, none⟩ = some (.slice qo k cq) ∧ w3.frozen? ⟨B, 1, none⟩ = false) ∧ Hid (Below w1.heap.size w1 (w3.setCell ⟨B, 1, none⟩ (.slice (some ⟨g, 0, none⟩) (k + 1) gc))) ∧ Hid ((w3.setCell ⟨B, 1, none⟩ (.slice (some ⟨g, 0, none⟩) (k + 1) gc)).heap[B]? = some (.cells #[.slice ao ps.length cp, .slice (some ⟨g, 0, none⟩) (k + 1) gc] 25 (0, 0))) ∧ (∃ L', Hid (Grows (w3.setCell ⟨B, 1, none⟩ (.slice (some ⟨g, 0, none⟩) (k + 1) gc)) B (.slice (some ⟨g, 0, none⟩) (k + 1) gc) (k + 1) L' ((rs.take (k + 1)).map (pickN ps)))) ∧ Hid (StrRow (w3.setCell ⟨B, 1, none⟩ (.slice (some ⟨g, 0, none⟩) (k + 1) gc)) ao F) ∧ Hid (F ≠ [] → ∀ A, ao = some A → A.block ≠ B ∧ some A.block ≠ (Value.slice (some ⟨g, 0, none⟩) (k + 1) gc).ownBlock)) := Lib.hid (fun g gc w3 ho hg hl => by
                have s3 := (HG.out.low hBl HBi.out hg _ (Nat.le_refl _)).trans HX.out
                obtain ⟨_, s5, _, s7⟩ := box2 s3
                obtain ⟨u1, u2⟩ := HG.out.guest (u := .slice (some ⟨g, 0, none⟩) (k + 1) gc) (m := k + 1) (cap := gc) HBi.out hg hl HF.out HFs.out
                have NX := HG.out.next hBl HBi.out (⟨cj, by rw [hF2]; exact ⟨hF3, hF4⟩⟩ : Cap vo (pickN ps x).length) HR1.out HR5.out (by show w3.ownsRow _ _ _ _ _ (L.map RowL.val ++ [Value.slice vo (pickN ps x).length cj]); rw [show Value.slice vo (pickN ps x).length cj = Value.slice vo ps.length cj by rw [hF2]]; exact ho) hg hl
                rw [← HTk.out] at NX
                exact ⟨⟨s5, s7⟩, Lib.hid (HG.out.under HBB.out.symm HB.out HBi.out hg), Lib.hid (heap_setCell_same w3 B 1 _ _ _ s3), ⟨_, Lib.hid NX⟩, Lib.hid u1, Lib.hid u2⟩)
              clear hfin hF1 hF2 hF3 hF4 hF5 HOi HG HF HFs HTk hcx hsx hP HR1
              go_wp2_with (at_builtin; refine wpList_append_lies _ rfl _ _ 23 rfl (B + 1) 22 i0 (.slice none 0 0) 1 24 Tryz.underlying23 HI.out hz0 hz1 hz2 rfl (by decide) (.slice qo k cq) k (L.map RowL.val) rfl OW.out ⟨wr.heap.size, 0, none⟩ 1 1 [.slice vo ps.length cj] rfl rfl NW.out (fun u hu => by simp at hu; subst hu; rfl) (by decide) (by unfold maxLen; omega) (by omega) hbO _ rfl ?_; intro g3 gc w3 ho3 hg3 hl3 hs3; obtain ⟨⟨q1, q2⟩, R1, R2, ⟨L', R3⟩, R4, R5⟩ := HFin.out g3 gc w3 ho3 hg3 hl3; clear ho3 hg3 hl3 hs3)
              go_roundw
              case rel => exact ⟨k + 1, gc, _, L', hk1, by go_num, R1, R2, R3, R4, R5⟩
              case measure => simp [intOf]; omega
        · obtain rfl : k = rs.length := by omega
          obtain ⟨b0, b1, bf0, bf1⟩ := box2 HX.out
          obtain ⟨z0, z1, f0, f1⟩ := box2 (HRes.out wr HB.out)
          obtain ⟨hr1, hr2, hr3, hr4, hr5⟩ := HG.out.rows
          rw [List.take_length] at hr1 hr2
          obtain ⟨cQ, Hcq⟩ : ∃ cQ : Cap qo (rs.map (pickN ps)).length, Hid (cQ.1 = cq) := ⟨⟨cq, by rw [hr2]; exact ⟨hr3, hr4⟩⟩, Lib.hid rfl⟩
          have Q := Lib.hid (tab_end (n := n) (h := F) (r := rs.map (pickN ps)) (w := w) (m := w.heap.size + 1) sc cQ (by omega) (below_up HB0.out HB.out) (HRes.out wr HB.out) HF.out hr1 (fun _ A hA => by have := hr5 A hA; have := HBs.out; omega))
          clear HG HX hr1 hr3 hr4 hr5
          rw [Hcq.out, hr2, Hsc.out, HLn.out, HFe.out] at Q
          go_wp2_with fail
          exact bodyPost_ret (v := .agg #[.slice ao ps.length cp, .slice qo rs.length cq]) (by simp [results, Tryz.results67, go_sem, z0, z1]) rfl Q.out
end Go.Proofs.YtcifjclokfnocaaGreat
