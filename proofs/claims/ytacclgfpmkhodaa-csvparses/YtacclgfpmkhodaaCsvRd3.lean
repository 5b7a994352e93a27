/-
  The document's reference: a record ends.
  Conditions: slices of at most 2^32 elements (the statements ask about far fewer).
-/
import Derived.WalkKit
import Derived.WalkMore
import Derived.Lib.Hide
import Derived.Deep.RegionLaw
import Derived.Test.YtacclgfpmkhodaaProg
import Derived.Test.YtacclgfpmkhodaaCsvRd2
namespace Go.Proofs.Ytacclgfpmkhodaa
open Go.RowKit Go.Shelf

/-- a row that lies elsewhere than in the two boxes stands -/
theorem row_other {A X : World} {B : Nat} {g : Nat} {xs : List ByteArray} (h : StrRow A (some ⟨g, 0, none⟩) xs) (hs : A.heap.size ≤ X.heap.size) (hX : ∀ k, k < A.heap.size → k ≠ B → k ≠ B + 1 → X.heap[k]? = A.heap[k]?) (h1 : g ≠ B) (h2 : g ≠ B + 1) : StrRow X (some ⟨g, 0, none⟩) xs := by
  rcases h with h | ⟨P, hP, hlt, hcell⟩
  · exact .inl h
  · cases hP
    refine .inr ⟨_, rfl, Nat.lt_of_lt_of_le hlt hs, fun i c hc => ?_⟩
    rw [World.cell?_of_block (w := A) (by rw [add_block]; exact hX g hlt h1 h2)]
    exact hcell i c hc
/-- behind the appends: what is stored, and what is handed back -/
theorem record_end {w V w2 : World} {T S : TypeId} (hsz : w.heap.size + 2 ≤ V.heap.size) (g2 : V.heap[w.heap.size + 1]? = some (.cells (rdA (.slice none 0 0) (.slice none 0 0) ⟨#[]⟩ 0 0 0 0) T (0, 0))) (hB : Below w.heap.size w V) (b2 : Below V.heap.size V w2)
    {ao dao : Option Addr} {cap c' n : Nat} {rs : List (List ByteArray)} {row : List ByteArray} {hs : List Value} {g : Nat} (hR : RowsAt w dao rs) (hH : Heads w dao rs hs) (hrow : StrRow V (some ⟨g, 0, none⟩) row) (hg : w.heap.size + 2 ≤ g) (hn : n = row.length)
    (o2 : w2.ownsRow V.heap.size S 1 (.slice ao (rs.length + 1) cap) (rs.length + 1) (hs ++ [.slice (some ⟨g, 0, none⟩) n c'])) (beg err at' : Int) (X : World)
    (hX : X = (((((((((w2.setCell ⟨w.heap.size, 0, none⟩ (.slice ao (rs.length + 1) cap)).setCell ⟨w.heap.size, 1, none⟩ (.slice none 0 0)).setCell ⟨w.heap.size + 1, 0, none⟩ (.slice ao (rs.length + 1) cap)).setCell ⟨w.heap.size + 1, 1, none⟩ (.slice none 0 0)).setCell ⟨w.heap.size + 1, 2, none⟩ (.string ⟨#[]⟩)).setCell ⟨w.heap.size + 1, 3, none⟩ (.int .i64 0)).setCell ⟨w.heap.size + 1, 4, none⟩ (.int .i64 beg)).setCell ⟨w.heap.size + 1, 5, none⟩ (.int .i64 err)).setCell ⟨w.heap.size + 1, 6, none⟩ (.int .i64 at'))) :
    X.heap[w.heap.size + 1]? = some (.cells (rdA (.slice ao (rs.length + 1) cap) (.slice none 0 0) ⟨#[]⟩ 0 beg err at') T (0, 0)) ∧ RowsAt X ao (rs ++ [row]) ∧ Below w.heap.size w X ∧ X.ownsRow (w.heap.size + 2) S 1 (.slice ao (rs.length + 1) cap) (rs.length + 1) (hs ++ [.slice (some ⟨g, 0, none⟩) row.length c']) ∧ StrRow X (some ⟨g, 0, none⟩) row := by
  subst hn
  obtain ⟨X3, hX3⟩ : ∃ X3, X3 = (w2.setCell ⟨w.heap.size, 0, none⟩ (.slice ao (rs.length + 1) cap)).setCell ⟨w.heap.size, 1, none⟩ (.slice none 0 0) := ⟨_, rfl⟩
  rw [← hX3] at hX
  have hoth : ∀ k, k ≠ w.heap.size → X3.heap[k]? = w2.heap[k]? := fun k hk => by rw [hX3, Below.heap_setCell _ _ _ _ hk, Below.heap_setCell _ _ _ _ hk]
  have g3 : X3.heap[w.heap.size + 1]? = some (.cells (rdA (.slice none 0 0) (.slice none 0 0) ⟨#[]⟩ 0 0 0 0) T (0, 0)) := (hoth _ (by omega)).trans (below_kept b2 g2)
  obtain ⟨q1, q2, q3⟩ := set7 (.slice ao (rs.length + 1) cap) (.slice none 0 0) ⟨#[]⟩ 0 beg err at' g3 X hX
  have b3 : Below w.heap.size w2 X3 := by
    rw [hX3]
    exact ((Below.refl _ w2).setCell (p := ⟨w.heap.size, 0, none⟩) (Nat.le_refl _) _).setCell (p := ⟨w.heap.size, 1, none⟩) (Nat.le_refl _) _
  have hBX : Below w.heap.size w X := ((hB.trans (b2.mono (by omega))).trans b3).trans (q2.mono (by omega))
  have hall : ∀ k, k < V.heap.size → k ≠ w.heap.size → k ≠ w.heap.size + 1 → X.heap[k]? = V.heap[k]? := fun k hk h1 h2 => by
    rw [q3 k h2, hoth k h1]; exact b2.block k hk
  have hown : X.ownsRow V.heap.size S 1 (.slice ao (rs.length + 1) cap) (rs.length + 1) (hs ++ [.slice (some ⟨g, 0, none⟩) row.length c']) := by
    refine ⟨o2.1, ?_⟩
    rcases o2.2 with ⟨_, h0⟩ | ⟨g', cap', cur, h1, h2, h3, h4⟩
    · omega
    · exact .inr ⟨g', cap', cur, h1, h2, by rw [q3 g' (by omega), hoth g' (by omega)]; exact h3, h4⟩
  have hsX : V.heap.size ≤ X.heap.size := by
    have h1 := b2.size
    have h2 := b3.size
    have h3 := q2.size
    omega
  have hrX := row_other hrow hsX hall (by omega) (by omega)
  refine ⟨q1, ?_, hBX, ⟨hown.1, by rcases hown.2 with h0 | ⟨g1, c1, cur, h1, h2, h3⟩; exact .inl h0; exact .inr ⟨g1, c1, cur, h1, by omega, h3⟩⟩, hrX⟩
  obtain ⟨co, cc, e, hrows⟩ := heads_join (rs := rs) (ss := [row]) (bo := none) (hH.kept hR hBX) (ks := [.slice (some ⟨g, 0, none⟩) row.length c']) ⟨rfl, (fun A hA => by cases hA), fun j r hr => by
    match j, hr with
    | 0, hr => simp at hr; subst hr; exact ⟨_, _, rfl, hrX⟩⟩ hown
  simp only [Value.slice.injEq] at e
  obtain ⟨rfl, _, _⟩ := e
  exact hrows

theorem heads_cells {W w' : World} {ao : Option Addr} {rs : List (List ByteArray)} {hs : List Value} (h : Heads W ao rs hs) (hR : RowsAt W ao rs) (hb : Below W.heap.size W w') : ∀ ad, ao = some ad → ∀ (j : Nat) u, hs[j]? = some u → w'.cell? (ad.add j) = some u := (h.kept hR hb).2.1

set_option maxRecDepth 100000 in
set_option maxHeartbeats 8000000 in
theorem record_any (dao : Option Addr) (dcap : Nat) (rs : List (List ByteArray)) (ro : Option Addr) (cap : Nat) (xs : List ByteArray) (cell : ByteArray) (st beg at' : Int) (w : World) (hrn : rs.length ≤ 4294967296) (hn : xs.length ≤ 4294967296) (hc : cell.size ≤ 1099511627776) (hD : RowsAt w dao rs) (hdz : dao = none → rs.length = 0 ∧ dcap = 0) (hR : StrRow w ro xs) (hz : ro = none → xs.length = 0 ∧ cap = 0) :
    Calls Try.prog 17 #[rdV (.slice dao rs.length dcap) (.slice ro xs.length cap) cell st beg 0 at'] w fun e w' =>
      (4096 < cell.size ∧ e = .returned (rdV (.slice none 0 0) (.slice none 0 0) ⟨#[]⟩ 0 0 7 beg) ∧ Below w.heap.size w w') ∨
      (cell.size ≤ 4096 ∧ ∃ dao' dcap', e = .returned (rdV (.slice dao' (rs.length + 1) dcap') (.slice none 0 0) ⟨#[]⟩ 0 beg 0 at') ∧ RowsAt w' dao' (rs ++ [xs ++ [cell]]) ∧ Below w.heap.size w w' ∧ ∃ hs g c', Heads w dao rs hs ∧ w.heap.size + 2 ≤ g ∧ w'.ownsRow (w.heap.size + 2) 31 1 (.slice dao' (rs.length + 1) dcap') (rs.length + 1) (hs ++ [.slice (some ⟨g, 0, none⟩) (xs ++ [cell]).length c']) ∧ StrRow w' (some ⟨g, 0, none⟩) (xs ++ [cell])) := by
  have hinfo : (Try.prog.info? 31).map (fun i => (i.zero, i.size, i.bytes)) = some (some (.slice none 0 0), 1, 24) := by kernel_rfl
  obtain ⟨i0, hi, hz0, hz1, hz2⟩ := info_parts hinfo
  have HIN := Lib.hid hi
  clear hi hinfo
  obtain ⟨W, HW⟩ : ∃ W, Hid (W = (w.alloc (.cells (rdA (.slice dao rs.length dcap) (.slice ro xs.length cap) cell st beg 0 at') 41)).alloc (.cells (rdA (.slice none 0 0) (.slice none 0 0) ⟨#[]⟩ 0 0 0 0) 41)) := ⟨_, Lib.hid rfl⟩
  obtain ⟨hsz, g1, g2⟩ := two_new w (.cells (rdA (.slice dao rs.length dcap) (.slice ro xs.length cap) cell st beg 0 at') 41) (.cells (rdA (.slice none 0 0) (.slice none 0 0) ⟨#[]⟩ 0 0 0 0) 41)
  have hB := two_below w (.cells (rdA (.slice dao rs.length dcap) (.slice ro xs.length cap) cell st beg 0 at') 41) (.cells (rdA (.slice none 0 0) (.slice none 0 0) ⟨#[]⟩ 0 0 0 0) 41)
  rw [← HW.out] at hsz g1 g2 hB
  obtain ⟨⟨c0, c1, c2, c3, c4, c5, c6⟩, fz, hlt⟩ := rd_cells g1
  have HSZ := Lib.hid hsz; have G1 := Lib.hid g1; have G2 := Lib.hid g2; have HB := Lib.hid hB
  have CL := Lib.hid (closed_any dao rs.length dcap ro cap xs cell st beg 0 at' W hn hc (hR.kept hB) hz)
  have HD := Lib.hid hD
  obtain ⟨hs, hH⟩ := heads_of w dao rs hD
  have HH := Lib.hid hH
  have HZ := Lib.hid hdz
  clear hsz g1 g2 hB hR hz hD hH hdz
  unfold rdV at CL ⊢
  unfold rdA at CL ⊢
  go_enter Try.func17, Try.ntmps17
  go_wp2_with fail
  rw [show ((w.alloc (.cells #[.slice dao rs.length dcap, .slice ro xs.length cap, .string cell, .int .i64 st, .int .i64 beg, .int .i64 0, .int .i64 at'] 41)).alloc (.cells #[.slice none 0 0, .slice none 0 0, .string ⟨#[]⟩, .int .i64 0, .int .i64 0, .int .i64 0, .int .i64 0] 41)) = W from HW.out.symm]
  refine CL.out.mono ?_
  rintro e w1 (⟨hbig, rfl, b1⟩ | ⟨hsm, ro', cap', rfl, hs', ⟨g, rfl, hg⟩, b1⟩)
  · have g1' := below_kept b1 G1.out
    have g2' := below_kept b1 G2.out
    obtain ⟨⟨k0, k1, k2, k3, k4, k5, k6⟩, fk, hk⟩ := rd_cells g1'
    obtain ⟨⟨m0, m1, m2, m3, m4, m5, m6⟩, fm, hm⟩ := rd_cells g2'
    have y0 := fk 0; have y1 := fk 1; have y2 := fk 2; have y3 := fk 3; have y4 := fk 4; have y5 := fk 5; have y6 := fk 6
    have n0 := fm 0; have n1 := fm 1; have n2 := fm 2; have n3 := fm 3; have n4 := fm 4; have n5 := fm 5; have n6 := fm 6
    have S7 := Lib.hid (set7 (.slice none 0 0) (.slice none 0 0) ⟨#[]⟩ 0 0 7 beg g1')
    have B1 := Lib.hid (below_up HB.out b1)
    have G2w := Lib.hid g2'
    clear c0 c1 c2 c3 c4 c5 c6 fz hlt fk fm g1' g2' b1 CL
    go_wp2_with fail
    obtain ⟨q1, q2, q3⟩ := S7.out _ rfl
    obtain ⟨p1, p2, _⟩ := set7 (.slice none 0 0) (.slice none 0 0) ⟨#[]⟩ 0 0 7 beg ((q3 (w.heap.size + 1) (by omega)).trans G2w.out) _ rfl
    obtain ⟨⟨r0, r1, r2, r3, r4, r5, r6⟩, _, _⟩ := rd_cells p1
    refine bodyPost_ret (v := .agg #[.slice none 0 0, .slice none 0 0, .string ⟨#[]⟩, .int .i64 0, .int .i64 0, .int .i64 7, .int .i64 beg]) (by simp [results, Try.results17, go_sem, r0, r1, r2, r3, r4, r5, r6]) rfl ?_
    exact .inl ⟨hbig, rfl, (B1.out.trans (q2.mono (by omega))).trans (p2.mono (by omega))⟩
  · have g1' := below_kept b1 G1.out
    have g2' := below_kept b1 G2.out
    obtain ⟨⟨k0, k1, k2, k3, k4, k5, k6⟩, fk, hk⟩ := rd_cells g1'
    have y0 := fk 0; have y1 := fk 1; have y2 := fk 2; have y3 := fk 3; have y4 := fk 4; have y5 := fk 5; have y6 := fk 6
    obtain ⟨V, HV⟩ : ∃ V, Hid (V = ((((((w1.setCell ⟨w.heap.size, 0, none⟩ (.slice dao rs.length dcap)).setCell ⟨w.heap.size, 1, none⟩ (.slice (some ⟨g, 0, none⟩) (xs.length + 1) cap')).setCell ⟨w.heap.size, 2, none⟩ (.string ⟨#[]⟩)).setCell ⟨w.heap.size, 3, none⟩ (.int .i64 0)).setCell ⟨w.heap.size, 4, none⟩ (.int .i64 beg)).setCell ⟨w.heap.size, 5, none⟩ (.int .i64 0)).setCell ⟨w.heap.size, 6, none⟩ (.int .i64 at')) := ⟨_, Lib.hid rfl⟩
    obtain ⟨q1, q2, q3⟩ := set7 (.slice dao rs.length dcap) (.slice (some ⟨g, 0, none⟩) (xs.length + 1) cap') ⟨#[]⟩ 0 beg 0 at' g1' V HV.out
    have hVs : w1.heap.size ≤ V.heap.size := q2.size
    have h1s : W.heap.size ≤ w1.heap.size := b1.size
    have hWs := HSZ.out
    have GV2 := Lib.hid ((q3 (w.heap.size + 1) (by omega)).trans g2')
    have GV1 := Lib.hid q1
    have BV := Lib.hid ((below_up HB.out b1).trans (q2.mono (by omega)))
    have HRowV := Lib.hid (row_other (B := w.heap.size) hs' hVs (fun k _ h1 _ => q3 k h1) (by omega) (by omega))
    have HsV : w.heap.size + 2 ≤ V.heap.size := by omega
    have HGg : w.heap.size + 2 ≤ g := by omega
    obtain ⟨⟨v0, v1, v2, v3, v4, v5, v6⟩, fv, hlv⟩ := rd_cells q1
    have HN := Lib.hid (fun (w' : World) (hb : Below V.heap.size V w') => heads_cells HH.out HD.out (BV.out.trans (hb.mono (by omega))))
    have HN1 : Hid (hs.length = rs.length * 1) := Lib.hid (by rw [HH.out.1]; simp)
    have HO1 := Lib.hid HH.out.one
    have RE := Lib.hid (fun (w4 : World) (b3 : Below V.heap.size V w4) (ao : Option Addr) (cp : Nat) o2 => record_end (T := 41) (S := 31) (ao := ao) (cap := cp) (c' := cap') (n := xs.length + 1) (row := xs ++ [cell]) HsV GV2.out BV.out b3 HD.out HH.out HRowV.out HGg (by simp) o2 beg 0 at')
    have c0' := v0; have c1' := v1
    have HLt := Lib.hid hlv
    have HFz := Lib.hid (fv 0)
    clear c0 c1 c2 c3 c4 c5 c6 fz hlt fk g1' g2' b1 CL hs' q1 q2 q3
    go_wp2_with fail
    rw [← HV.out]
    clear k0 k1 k2 k3 k4 k5 k6 y0 y1 y2 y3 y4 y5 y6
    go_wp2_with fail
    go_region_law
      (first
        | ((refine step_append_any (by rfl) _ _ 23 (by rfl) V.heap.size 31 i0 (.slice none 0 0) 1 24 Try.underlying23 HIN.out hz0 hz1 hz2 rfl (by decide) (.slice (some ⟨V.heap.size, 0, none⟩) 0 0) 0 [] (by rfl) (by first | exact own_new' _ _ _ _ (by (try simp) <;> omega) (by (try simp) <;> omega) | exact (own_new' _ _ _ _ (by (try simp) <;> omega) (by (try simp) <;> omega)).alloc _) dao rs.length dcap hs (by rfl) HZ.out HN1.out (HN.out _ (by first | exact ((Below.refl _ V).alloc (Nat.le_refl _) _).drew | exact (((Below.refl _ V).alloc (Nat.le_refl _) _).alloc (by simp) _).drew)) HO1.out (by unfold maxLen; omega) (by omega) (by (try simp) <;> omega) rs.length (Nat.zero_add _) hs rfl ?_; intro ao1 cap1 w3 o1 g1 t1; have b2 : Below V.heap.size V w3 := (by first | exact ((Below.refl _ V).alloc (Nat.le_refl _) _).drew.trans t1 | exact (((Below.refl _ V).alloc (Nat.le_refl _) _).alloc (by simp) _).drew.trans t1); have e0 : w3.cell? ⟨w.heap.size, 0, none⟩ = some (.slice dao rs.length dcap) := ((b2.cell (p := ⟨w.heap.size, 0, none⟩) HLt.out).trans c0'); have e1 : w3.cell? ⟨w.heap.size, 1, none⟩ = some (.slice (some ⟨g, 0, none⟩) (xs.length + 1) cap') := ((b2.cell (p := ⟨w.heap.size, 1, none⟩) HLt.out).trans c1')))
        | ((refine step_append_any (by rfl) _ _ 23 (by rfl) V.heap.size 31 i0 (.slice none 0 0) 1 24 Try.underlying23 HIN.out hz0 hz1 hz2 rfl (by decide) (.slice (some ⟨V.heap.size + 1, 0, none⟩) 0 0) 0 [] (by rfl) (by first | exact own_new' _ _ _ _ (by (try simp) <;> omega) (by (try simp) <;> omega) | exact (own_new' _ _ _ _ (by (try simp) <;> omega) (by (try simp) <;> omega)).alloc _) dao rs.length dcap hs (by rfl) HZ.out HN1.out (HN.out _ (by first | exact ((Below.refl _ V).alloc (Nat.le_refl _) _).drew | exact (((Below.refl _ V).alloc (Nat.le_refl _) _).alloc (by simp) _).drew)) HO1.out (by unfold maxLen; omega) (by omega) (by (try simp) <;> omega) rs.length (Nat.zero_add _) hs rfl ?_; intro ao1 cap1 w3 o1 g1 t1; have b2 : Below V.heap.size V w3 := (by first | exact ((Below.refl _ V).alloc (Nat.le_refl _) _).drew.trans t1 | exact (((Below.refl _ V).alloc (Nat.le_refl _) _).alloc (by simp) _).drew.trans t1); have e0 : w3.cell? ⟨w.heap.size, 0, none⟩ = some (.slice dao rs.length dcap) := ((b2.cell (p := ⟨w.heap.size, 0, none⟩) HLt.out).trans c0'); have e1 : w3.cell? ⟨w.heap.size, 1, none⟩ = some (.slice (some ⟨g, 0, none⟩) (xs.length + 1) cap') := ((b2.cell (p := ⟨w.heap.size, 1, none⟩) HLt.out).trans c1')))
        | ((refine step_append_any (by rfl) _ _ 23 (by rfl) V.heap.size 31 i0 (.slice none 0 0) 1 24 Try.underlying23 HIN.out hz0 hz1 hz2 rfl (by decide) (.slice ao1 rs.length cap1) rs.length hs (by rfl) (by first | exact o1 | exact o1.alloc _) _ 1 1 [.slice (some ⟨g, 0, none⟩) (xs.length + 1) cap'] (by rfl) (fun h => by cases h) rfl (lit_news (by first | exact World.alloc_heap_new _ _ | exact (g1.block _ (by (try simp) <;> omega) (by simp [Value.ownBlock])).trans (two_new V _ _).2.2 | exact (g1.block _ (by (try simp) <;> omega) (by simp [Value.ownBlock])).trans (two_new V _ _).2.1)) (fun u hu => by simp at hu; subst hu; rfl) (by unfold maxLen; omega) (by omega) (by first | exact b2.size | exact Nat.le_trans b2.size (by simp)) (rs.length + 1) rfl (hs ++ [.slice (some ⟨g, 0, none⟩) (xs.length + 1) cap']) rfl ?_; intro ao2 cap2 w4 o2 g2 t2; have b3 : Below V.heap.size V w4 := (by first | exact b2.trans t2 | exact (b2.alloc b2.size _).trans t2); have z1 : w4.frozen? ⟨w.heap.size, 0, none⟩ = false := ((b3.frozen (p := ⟨w.heap.size, 0, none⟩) HLt.out).trans HFz.out); have e2 : w4.cell? ⟨w.heap.size, 0, none⟩ = some (.slice dao rs.length dcap) := ((b3.cell (p := ⟨w.heap.size, 0, none⟩) HLt.out).trans c0'))))
    all_goals (
      have G1' := below_kept b3 GV1.out
      have G2' := below_kept b3 GV2.out
      obtain ⟨⟨k0, k1, k2, k3, k4, k5, k6⟩, fk, hk⟩ := rd_cells G1'
      obtain ⟨⟨m0, m1, m2, m3, m4, m5, m6⟩, fm, hm⟩ := rd_cells G2'
      have CE := Lib.hid (RE.out w4 b3 ao2 cap2 o2)
      have x0 := fk 0; have x1 := fk 1
      have n0 := fm 0; have n1 := fm 1; have n2 := fm 2; have n3 := fm 3; have n4 := fm 4; have n5 := fm 5; have n6 := fm 6
      clear G1' G2' fk fm b2 b3 o1 o2 t1 t2 c0' c1' v0 v1 v2 v3 v4 v5 v6 fv e0 e1 e2 z1
      go_wp2_with fail
      obtain ⟨q1, q2, q3, q4, q5⟩ := CE.out _ rfl
      obtain ⟨⟨r0, r1, r2, r3, r4, r5, r6⟩, _, _⟩ := rd_cells q1
      refine bodyPost_ret (v := .agg #[.slice ao2 (rs.length + 1) cap2, .slice none 0 0, .string ⟨#[]⟩, .int .i64 0, .int .i64 beg, .int .i64 0, .int .i64 at']) (by simp [results, Try.results17, go_sem, r0, r1, r2, r3, r4, r5, r6]) rfl ?_
      exact .inr ⟨hsm, ao2, cap2, rfl, q2, q3, hs, g, cap', HH.out, HGg, q4, q5⟩)
end Go.Proofs.Ytacclgfpmkhodaa
